import PyProof.Rows.All
import Wide.All
import OpenK.AllK
import Wide.FinOn
import KE.SortKeyHeap
import KE.KLam
import HandS.ForMost
import HandS.Conv
import HandS.Lambda
import HandS.EndTab
import HandS.HeadWalk
import HandS.HeadHook4
import KE.KStateDown
import Lean
import HandS.More
import HandS.WordsExc
import HandS.Defaults
import HandS.IsInst
import HandS.Zip
import HandS.Walk
import HandS.Wide
import HandS.Flow
import HandS.Evl
import HandS.Head0
import HandS.Head1
import HandS.Head2
import HandS.HeadEnd
import HandS.HeadHook1
import HandS.HeadHook2
import PySem.Challenge.RW_throughlines_k02_ahead_of_all
set_option Elab.async false
set_option linter.all false
set_option maxRecDepth 100000
set_option maxHeartbeats 4000000
namespace Pm
/-! the order of the rests -/
def byRest (rs : List Int) : Nat → Nat → Bool := fun p q => decide (-(rs.getD p 0) < -(rs.getD q 0) ∨ (-(rs.getD p 0) = -(rs.getD q 0) ∧ (p : Int) ≤ (q : Int)))
/-- k is ahead of j -/
def isAhead (rs : List Int) (k j : Nat) : Bool := decide (rs.getD j 0 < rs.getD k 0 ∨ (rs.getD k 0 = rs.getD j 0 ∧ k < j))
def aheadOf (rs : List Int) (j : Nat) : Nat := ((List.range rs.length).filter fun k => isAhead rs k j).length
theorem byRest_trans (rs : List Int) (a b c : Nat) (h1 : byRest rs a b = true) (h2 : byRest rs b c = true) : byRest rs a c = true := by
  unfold byRest at *
  rw [decide_eq_true_eq] at *
  omega
theorem byRest_total (rs : List Int) (a b : Nat) : (byRest rs a b || byRest rs b a) = true := by
  unfold byRest
  rw [Bool.or_eq_true, decide_eq_true_eq, decide_eq_true_eq]
  omega
theorem ahead_of_le {rs : List Int} {k j : Nat} (h : byRest rs k j = true) (n : k ≠ j) : isAhead rs k j = true := by
  unfold byRest at h
  unfold isAhead
  rw [decide_eq_true_eq] at *
  omega
theorem not_ahead {rs : List Int} {k j : Nat} (h : byRest rs j k = true) : isAhead rs k j = false := by
  unfold byRest at h
  unfold isAhead
  rw [decide_eq_true_eq] at h
  rw [decide_eq_false_iff_not]
  omega
theorem pos_count {rs : List Int} : ∀ {S : List Nat} {i j : Nat}, S.Pairwise (fun a b => byRest rs a b = true) → S.Nodup → S[i]? = some j → (S.filter fun k => isAhead rs k j).length = i
  | [], i, j, _, _, h => by simp at h
  | x :: S, 0, j, hp, hn, h => by
    have e : x = j := Option.some.inj h
    subst e
    rw [List.pairwise_cons] at hp
    have h1 : isAhead rs x x = false := by
      unfold isAhead
      rw [decide_eq_false_iff_not]
      omega
    rw [List.filter_cons_of_neg (by rw [h1]; simp), List.length_eq_zero_iff, List.filter_eq_nil_iff]
    intro a ha
    rw [not_ahead (hp.1 a ha)]
    simp
  | x :: S, i + 1, j, hp, hn, h => by
    rw [List.pairwise_cons] at hp
    rw [List.nodup_cons] at hn
    have h' : S[i]? = some j := h
    have hm : j ∈ S := List.mem_of_getElem? h'
    have hx : isAhead rs x j = true := ahead_of_le (hp.1 j hm) (fun e => hn.1 (e ▸ hm))
    rw [List.filter_cons_of_pos (p := fun k => isAhead rs k j) hx, List.length_cons, pos_count hp.2 hn.2 h']
/-- who gets a penny more -/
theorem mem_take {rs : List Int} {S : List Nat} (hp : S.Pairwise (fun a b => byRest rs a b = true)) (hn : S.Nodup) (hS : S.Perm (List.range rs.length)) {j m : Nat} (hj : j < rs.length) : j ∈ S.take m ↔ aheadOf rs j < m := by
  have hm : j ∈ S := hS.mem_iff.mpr (List.mem_range.mpr hj)
  obtain ⟨i, hi⟩ := List.getElem?_of_mem hm
  have e : aheadOf rs j = i := by
    unfold aheadOf
    rw [← (hS.filter _).length_eq]
    exact pos_count hp hn hi
  rw [e]
  constructor
  · intro h
    obtain ⟨i', h'⟩ := List.getElem?_of_mem h
    have lt : i' < m := by
      have := (List.getElem?_eq_some_iff.mp h').1
      rw [List.length_take] at this
      omega
    rw [List.getElem?_take_of_lt lt] at h'
    have := pos_count hp hn h'
    have := pos_count hp hn hi
    omega
  · intro h
    have : (S.take m)[i]? = some j := by rw [List.getElem?_take_of_lt h]; exact hi
    exact List.mem_of_getElem? this
/-! a penny more at each of js -/
def bump (t : List Int) (js : List Nat) : List Int := js.foldl (fun t j => t.set j (t.getD j 0 + 1)) t
theorem bump_snoc (t : List Int) (js : List Nat) (j : Nat) : bump t (js ++ [j]) = (bump t js).set j ((bump t js).getD j 0 + 1) := by
  unfold bump
  rw [List.foldl_append]
  rfl
theorem bump_len : ∀ (js : List Nat) (t : List Int), (bump t js).length = t.length
  | [], t => rfl
  | j :: js, t => by
    show (bump (t.set j _) js).length = t.length
    rw [bump_len js, List.length_set]
theorem bump_get : ∀ (js : List Nat) (t : List Int) (i : Nat), js.Nodup → i < t.length → (bump t js).getD i 0 = t.getD i 0 + (if i ∈ js then 1 else 0)
  | [], t, i, _, _ => by simp [bump]
  | j :: js, t, i, hn, hi => by
    rw [List.nodup_cons] at hn
    show (bump (t.set j (t.getD j 0 + 1)) js).getD i 0 = _
    rw [bump_get js _ i hn.2 (by rw [List.length_set]; exact hi)]
    by_cases e : i = j
    · subst e
      rw [if_neg hn.1, if_pos (List.mem_cons_self ..)]
      rw [List.getD_eq_getElem?_getD, List.getElem?_set_self hi]
      show t.getD i 0 + 1 + 0 = _
      omega
    · have hm : (i ∈ j :: js) ↔ i ∈ js := by
        rw [List.mem_cons]
        exact ⟨fun h => h.resolve_left e, .inr⟩
      rw [List.getD_eq_getElem?_getD, List.getElem?_set_ne (fun h => e h.symm), ← List.getD_eq_getElem?_getD]
      by_cases h : i ∈ js
      · rw [if_pos h, if_pos (hm.mpr h)]
      · rw [if_neg h, if_neg (fun z => h (hm.mp z))]
theorem set_sum : ∀ (t : List Int) (j : Nat), j < t.length → (t.set j (t.getD j 0 + 1)).sum = t.sum + 1
  | [], j, h => by simp at h
  | x :: t, 0, _ => by
    show ((x + 1) :: t).sum = (x :: t).sum + 1
    rw [List.sum_cons, List.sum_cons]
    omega
  | x :: t, j + 1, h => by
    show (x :: t.set j (t.getD j 0 + 1)).sum = (x :: t).sum + 1
    rw [List.sum_cons, List.sum_cons, set_sum t j (by simpa using h)]
    omega
theorem bump_sum : ∀ (js : List Nat) (t : List Int), (∀ j ∈ js, j < t.length) → (bump t js).sum = t.sum + js.length
  | [], t, _ => by simp [bump]
  | j :: js, t, h => by
    show (bump (t.set j (t.getD j 0 + 1)) js).sum = _
    rw [bump_sum js _ (fun i hi => by rw [List.length_set]; exact h i (List.mem_cons_of_mem _ hi)), set_sum t j (h j (List.mem_cons_self ..)), List.length_cons]
    omega
/-! the parts -/
def told (p : Int) (ws : List Int) : List Int := ws.map fun w => p * w / ws.sum
def rests (p : Int) (ws : List Int) : List Int := ws.map fun w => p * w % ws.sum
def left (p : Int) (ws : List Int) : Int := p - (told p ws).sum
def order (p : Int) (ws : List Int) : List Nat := (List.range ws.length).mergeSort (byRest (rests p ws))
def partsM (p : Int) (ws : List Int) : List Int := if ws.sum = 0 then List.replicate ws.length 0 else bump (told p ws) ((order p ws).take (left p ws).toNat)
def lawParts (p : Int) (ws : List Int) : List Int := (List.range ws.length).map fun j => (told p ws).getD j 0 + (if (aheadOf (rests p ws) j : Int) < left p ws then 1 else 0)
theorem told_rests (p W : Int) : ∀ ws : List Int, (ws.map fun w => p * w / W).sum * W + (ws.map fun w => p * w % W).sum = p * ws.sum
  | [] => by simp
  | w :: ws => by
    have ih := told_rests p W ws
    rw [List.map_cons, List.map_cons, List.sum_cons, List.sum_cons, List.sum_cons, Int.add_mul, Int.mul_add]
    have e := Int.mul_ediv_add_emod (p * w) W
    rw [Int.mul_comm W] at e
    omega
theorem rests_nonneg {p W : Int} (hW : 0 < W) : ∀ ws : List Int, 0 ≤ (ws.map fun w => p * w % W).sum
  | [] => by simp
  | w :: ws => by
    have ih := rests_nonneg (p := p) hW ws
    have := Int.emod_nonneg (p * w) (show W ≠ 0 by omega)
    rw [List.map_cons, List.sum_cons]
    omega
theorem rests_lt {p W : Int} (hW : 0 < W) : ∀ ws : List Int, (ws.map fun w => p * w % W).sum ≤ ws.length * (W - 1)
  | [] => by simp
  | w :: ws => by
    have ih := rests_lt (p := p) hW ws
    have := Int.emod_lt_of_pos (p * w) hW
    rw [List.map_cons, List.sum_cons, List.length_cons]
    have e : ((ws.length + 1 : Nat) : Int) * (W - 1) = ws.length * (W - 1) + (W - 1) := by
      rw [Int.natCast_add, Int.add_mul]
      omega
    rw [e]
    omega
theorem left_eq (p : Int) {ws : List Int} : left p ws * ws.sum = (rests p ws).sum := by
  have h := told_rests p ws.sum ws
  unfold left
  rw [Int.sub_mul]
  unfold told rests
  omega
theorem left_nonneg (p : Int) {ws : List Int} (hW : 0 < ws.sum) : 0 ≤ left p ws := by
  have h1 := left_eq p (ws := ws)
  have h2 : 0 ≤ (rests p ws).sum := rests_nonneg hW ws
  rw [← h1] at h2
  exact Int.nonneg_of_mul_nonneg_left h2 hW
theorem left_le (p : Int) {ws : List Int} (hW : 0 < ws.sum) : left p ws ≤ ws.length := by
  have h1 := left_eq p (ws := ws)
  have h2 : (rests p ws).sum ≤ ws.length * (ws.sum - 1) := rests_lt hW ws
  rw [← h1] at h2
  have h3 : (ws.length : Int) * (ws.sum - 1) ≤ ws.length * ws.sum := Int.mul_le_mul_of_nonneg_left (by omega) (by omega)
  exact Int.le_of_mul_le_mul_right (Int.le_trans h2 h3) hW
theorem order_perm (p : Int) (ws : List Int) : (order p ws).Perm (List.range ws.length) := List.mergeSort_perm _ _
theorem order_nodup (p : Int) (ws : List Int) : (order p ws).Nodup := (order_perm p ws).nodup_iff.mpr List.nodup_range
theorem order_len (p : Int) (ws : List Int) : (order p ws).length = ws.length := by rw [(order_perm p ws).length_eq, List.length_range]
theorem order_sorted (p : Int) (ws : List Int) : (order p ws).Pairwise (fun a b => byRest (rests p ws) a b = true) := List.pairwise_mergeSort (byRest_trans _) (byRest_total _) _
theorem rests_len (p : Int) (ws : List Int) : (rests p ws).length = ws.length := by unfold rests; rw [List.length_map]
theorem told_len (p : Int) (ws : List Int) : (told p ws).length = ws.length := by unfold told; rw [List.length_map]
theorem order_lt {p : Int} {ws : List Int} {j : Nat} (h : j ∈ order p ws) : j < ws.length := List.mem_range.mp ((order_perm p ws).mem_iff.mp h)
theorem partsM_len (p : Int) (ws : List Int) : (partsM p ws).length = ws.length := by
  unfold partsM
  split
  · rw [List.length_replicate]
  · rw [bump_len, told_len]
theorem lawParts_len (p : Int) (ws : List Int) : (lawParts p ws).length = ws.length := by unfold lawParts; rw [List.length_map, List.length_range]
theorem ext_getD {a b : List Int} (hl : a.length = b.length) (h : ∀ i, i < a.length → a.getD i 0 = b.getD i 0) : a = b := by
  apply List.ext_getElem hl
  intro i h1 h2
  have := h i h1
  rw [List.getD_eq_getElem?_getD, List.getD_eq_getElem?_getD, List.getElem?_eq_getElem h1, List.getElem?_eq_getElem h2] at this
  exact this
theorem parts_eq (p : Int) {ws : List Int} (hW : 0 < ws.sum) : partsM p ws = lawParts p ws := by
  refine ext_getD (by rw [partsM_len, lawParts_len]) fun i hi => ?_
  rw [partsM_len] at hi
  have hn : ((order p ws).take (left p ws).toNat).Nodup := (order_nodup p ws).sublist (List.take_sublist _ _)
  have e1 : partsM p ws = bump (told p ws) ((order p ws).take (left p ws).toNat) := by
    unfold partsM
    rw [if_neg (by omega)]
  rw [e1, bump_get _ _ _ hn (by rw [told_len]; exact hi)]
  have e2 : (lawParts p ws).getD i 0 = (told p ws).getD i 0 + (if (aheadOf (rests p ws) i : Int) < left p ws then 1 else 0) := by
    unfold lawParts
    rw [List.getD_eq_getElem?_getD, List.getElem?_map, List.getElem?_range hi]
    rfl
  rw [e2]
  have hm := mem_take (order_sorted p ws) (order_nodup p ws) (by rw [rests_len]; exact order_perm p ws) (j := i) (m := (left p ws).toNat) (by rw [rests_len]; exact hi)
  have h0 := left_nonneg p hW
  by_cases h : i ∈ (order p ws).take (left p ws).toNat
  · rw [if_pos h, if_pos (by have := hm.mp h; omega)]
  · rw [if_neg h, if_neg (fun z => h (hm.mpr (by omega)))]
theorem parts_sum (p : Int) {ws : List Int} (hW : 0 < ws.sum) : (partsM p ws).sum = p := by
  have e1 : partsM p ws = bump (told p ws) ((order p ws).take (left p ws).toNat) := by
    unfold partsM
    rw [if_neg (by omega)]
  have h0 := left_nonneg p hW
  have h1 := left_le p hW
  rw [e1, bump_sum _ _ (fun j hj => by rw [told_len]; exact order_lt (List.mem_of_mem_take hj)), List.length_take, order_len]
  have : min (left p ws).toNat ws.length = (left p ws).toNat := by omega
  rw [this]
  unfold left at *
  omega
theorem sum_zeros : ∀ n : Nat, (List.replicate n (0 : Int)).sum = 0
  | 0 => rfl
  | n + 1 => by rw [List.replicate_succ, List.sum_cons, sum_zeros n]; rfl
theorem parts_zero {ws : List Int} : partsM 0 ws = List.replicate ws.length 0 := by
  unfold partsM
  split
  · rfl
  · rename_i h
    have ht : told 0 ws = List.replicate ws.length 0 := by
      unfold told
      rw [List.eq_replicate_iff]
      refine ⟨List.length_map _, fun b hb => ?_⟩
      obtain ⟨w, _, rfl⟩ := List.mem_map.mp hb
      rw [Int.zero_mul, Int.zero_ediv]
    have hl : left 0 ws = 0 := by
      unfold left
      rw [ht, sum_zeros]
      rfl
    rw [hl, ht]
    rfl
theorem told_nonneg {p : Int} {ws : List Int} (hp : 0 ≤ p) (hw : ∀ w ∈ ws, 0 ≤ w) (hW : 0 < ws.sum) : ∀ x ∈ told p ws, 0 ≤ x := fun x hx => by
  obtain ⟨w, hm, rfl⟩ := List.mem_map.mp hx
  exact Int.ediv_nonneg (Int.mul_nonneg hp (hw w hm)) (by omega)
end Pm
namespace Lk
open PySem PySem.W PySem.Calls PyProof.Rows
section
variable {prog : Program} {w : World} {A : Around} {E : Value → Shared → Prop} {s : Shared}
theorem each_of {α β : Type} {R : α → β → Prop} : ∀ {as : List α} {bs : List β}, as.length = bs.length → (∀ (i : Nat) a b, as[i]? = some a → bs[i]? = some b → R a b) → EachIs R as bs
  | [], [], _, _ => .nil
  | [], _ :: _, h, _ => by simp at h
  | _ :: _, [], h, _ => by simp at h
  | a :: as, b :: bs, h, r => .cons (r 0 a b rfl rfl) (each_of (by simpa using h) fun i x y hx hy => r (i + 1) x y hx hy)
theorem each_range (R : Nat → Value → Prop) {vs : List Value} {n : Nat} (hl : vs.length = n) (h : ∀ j v, vs[j]? = some v → R j v) : EachIs (fun v x => R x v) vs (List.range n) := by
  refine each_of (by rw [hl, List.length_range]) fun i a b ha hb => ?_
  have hi : i < n := by
    rw [← hl]
    exact (List.getElem?_eq_some_iff.mp ha).1
  rw [List.getElem?_range hi] at hb
  have e := Option.some.inj hb
  subst e
  exact h _ _ ha
/-- a range's items, gathered: the gathering list stays, so the heap has grown -/
theorem gather_range {r : Addr} {n : Nat} {t u v : Tok} {G : List Value → Shared → Prop} (nh : A.handled = none) (ir : IsRange s.heap r 0 n 1 t u v) (nn : n ≤ 5000)
    (cont : ∀ (g : Heap) (k : Nat) (xs : Array Value), (∀ b o, s.heap.get? b = some o → g.get? b = some o) → s.heap.objs.size < g.objs.size →
      ItemsOf (fun i v => ∃ t, v = Value.int (0 + i * 1) t) xs n → G xs.toList { s with heap := g, toks := k }) : wpAny (model prog w) A (collect (.ref r)) G E s := by
  have sm : Builtin.Range.small 0 n 1 = true := small_one (by omega) (by omega) (by omega) (by omega)
  have sz : Builtin.Range.rangeSize 0 n 1 = n := by
    have z := rangeSize_nat 0 (n : Int)
    rw [z]
    omega
  have fits : n ≤ 2 ^ 24 := Nat.le_trans nn (by decide)
  let o0 : Obj := { cls := .type "list", data := .seq ([] : List Value).toArray }
  have at0 : (s.heap.push o0).get? s.heap.objs.size = some { cls := .type "list", data := .seq #[] 0 } := Heap.get?_push_size _ rfl
  let Good : Result → Shared → Prop := fun rr z => rr = .ok (.ret (.ref s.heap.objs.size)) ∧ ∃ g k xs c, z = { s with heap := g, toks := k } ∧ (∀ b o, s.heap.get? b = some o → g.get? b = some o) ∧
    g.get? s.heap.objs.size = some { cls := .type "list", dict := none, data := .seq xs c, slots := #[] } ∧ ItemsOf (fun i v => ∃ t, v = Value.int (0 + i * 1) t) xs n
  have ext := wpAny_extend_range (prog := prog) (w := w) (A := A) (R := Good) (s := { s with heap := s.heap.push o0 }) nh (Heap.get?_push_of_some _ ir) sm sz fits s.heap.objs.size (.ref s.heap.objs.size) 0 at0
    (fun g k xs c kk ee ii => ⟨rfl, g, k, xs, c, rfl, fun b o q => kk b o (Nat.ne_of_lt (Heap.lt_size q)) (Heap.get?_push_of_some _ q), ee, ii⟩)
  have fin : ∀ z, Good (.ok (.ret (.ref s.heap.objs.size))) z → ∃ g k xs c, z = { s with heap := g, toks := k } ∧ g.get? s.heap.objs.size = some { cls := .type "list", dict := none, data := .seq xs c, slots := #[] } ∧ G xs.toList z := by
    rintro z ⟨_, g, k, xs, c, rfl, kk, ee, ii⟩
    exact ⟨g, k, xs, c, rfl, ee, cont g k xs kk (Heap.lt_size ee) ii⟩
  unfold collect
  refine wpAny_bind (wpAny_runValue (codeAny_builtin F.entry_proto_collect ?_))
  rw [Around.under_plainId F.plain_proto_collect _]
  refine wpAny_bind (wpAny_newObj_type ?_)
  refine wpAny_pure ⟨plainId_quiet F.plain_list_iadd _, codeAny_builtin F.entry_list_iadd ?_⟩
  rw [Around.under_plainId F.plain_list_iadd _]
  refine wpAny_mono ext (fun f z hz => ?_) (fun e z hz => absurd hz.1 (by simp))
  have last : ∀ z', Good (.ok (.ret (.ref s.heap.objs.size))) z' → wpAny (model prog w) A (load s.heap.objs.size >>= fun o => match o.data with | .seq xs _ => pure xs.toList | _ => unsupported "internal:collect") G E z' := fun z' q => by
    obtain ⟨g, k, xs, c, rfl, ee, gg⟩ := fin z' q
    exact wpAny_bind (wpAny_load ee (wpAny_pure gg))
  cases f with
  | done f =>
    have e1 : f = .ret (.ref s.heap.objs.size) := by
      obtain ⟨e, _⟩ := hz
      cases e
      rfl
    subst e1
    exact last z hz
  | again c' =>
    refine ⟨hz.1, codeAny_mono hz.2 fun rr z' hr' => ?_⟩
    have e1 : rr = .ok (.ret (.ref s.heap.objs.size)) := hr'.1
    subst e1
    exact last z' hr'
/-- sorted(range(n), key=f), f's calls keeping all that stood -/
theorem sorted_range_key {r q : Addr} {n : Nat} {t u v : Tok} {Q : Value → Shared → Prop} (k : Nat → PyData) (hh : A.handled = none) (hr : IsRange s.heap r 0 n 1 t u v) (hn : n ≤ 5000) (hal : AllAlike ((List.range n).map k)) (hk : Sortable ((List.range n).map k))
    (hu : ∀ x, A.units + 2 + (k x).depth < cLine)
    (turn : ∀ (v : Value) (x : Nat), (∃ t, v = .int x t) → x < n → ∀ (h : Heap) (tk : Nat), (∀ b o, s.heap.get? b = some o → h.get? b = some o) →
      wpAny (model prog w) A.in1.in1 (call (.ref q) [v]) (KeyPure (k x) { s with heap := h, toks := tk }) (fun _ _ => False) { s with heap := h, toks := tk })
    (h : ∀ (out : List Value) (p : Addr) (c : Nat) (h' : Heap) (tk : Nat), (∀ b o, s.heap.get? b = some o → h'.get? b = some o) → s.heap.objs.size ≤ p → h'.get? p = some (seqObj "list" out.toArray c) →
      EachIs (fun v x => ∃ t, v = .int ((x : Nat) : Int) t) out ((List.range n).mergeSort (dataLe false k)) → Q (.ref p) { s with heap := h', toks := tk }) :
    wpAny (model prog w) A (call (.builtin "sorted") [.ref r] [(Str.ofString "key", .ref q)]) Q E s := by
  have hL : ∀ {m : Nat}, m ≤ 5000 → m ≤ sizeLine := fun hm => Nat.le_trans hm (by decide)
  refine call_function_entry_kw kind_sorted plain_sorted entry_sorted (ksk_s1 _ _) ?_
  unfold Builtin.«sorted»
  refine wpAny_bind (m := checkCount "sorted" 1 1 _) (wpAny_pure ?_)
  refine wpAny_bind (gather_range (A := A.in1) hh hr hn fun h1 tk1 acc hk1 hgrow hacc => ?_)
  obtain ⟨hsz, hget⟩ := hacc
  have hlen : acc.toList.length = n := by rw [Array.length_toList]; exact hsz
  have each : EachIs (fun v x => ∃ t, v = Value.int ((x : Nat) : Int) t) acc.toList (List.range n) := by
    refine each_range (fun i v => ∃ t, v = Value.int ((i : Nat) : Int) t) hlen fun j v hj => ?_
    obtain ⟨t, e⟩ := hget j v (by rw [← hj, Array.getElem?_toList])
    exact ⟨t, by rw [e]; congr 1; omega⟩
  refine wpAny_bind (wpAny_newList ?_ (by rw [hlen]; exact hL hn))
  have ha : (h1.push (seqObj "list" acc.toList.toArray 0)).get? h1.objs.size = some (seqObj "list" acc.toList.toArray 0) := Heap.get?_push_size _ rfl
  have up : ∀ {g : Heap}, KeepsBut h1.objs.size (h1.push (seqObj "list" acc.toList.toArray 0)) g → ∀ b o, s.heap.get? b = some o → g.get? b = some o := fun {g} kp b o q =>
    kp b o (Nat.ne_of_lt (Heap.lt_size (hk1 b o q))) (Heap.get?_push_of_some _ (hk1 b o q))
  refine wpAny_bind (wpAny_holding (wpAny_call_entry_kw slot_list_sort ⟨_, ha, rfl⟩ entry_list_sort ?body (ksk_l1 _ _)))
  case body =>
    show wpAny (model prog w) A.in1.in1 (Builtin.«list.sort» ⟨[.ref h1.objs.size], [(Str.ofString "key", .ref q)]⟩) _ _ _
    rw [ksk_t1]
    refine keyH_tree (kz := (List.range n).map k) (s := { s with heap := h1.push (seqObj "list" acc.toList.toArray 0), toks := tk1 }) ha (by rw [List.length_map, List.length_range, hlen]) (by rw [hlen]; exact hL hn) hal hk (bound_map (A := A.in1.in1) fun x _ => hu x)
      (keyH_turns (s := { s with heap := h1.push (seqObj "list" acc.toList.toArray 0), toks := tk1 }) each fun v x hR hx h tk kp => turn v x hR (List.mem_range.mp hx) h tk (up kp)) fun h' tk out c kp hD ko => ?_
    exact ⟨_, rfl, wpAny_pure ⟨_, rfl, h out h1.objs.size c h' tk (up kp) (Nat.le_of_lt hgrow) hD (keyedOut_each k ko each)⟩⟩
end
end Lk
namespace Lk
open PySem PySem.W PySem.Calls PyProof.Rows
section
variable {prog : Program} {w : World} {A : Around} {E : Value → Shared → Prop} {s : Shared}
/-- (-y[z], z), z the parameter, y captured: the state but for a new tuple and a token is as it was -/
theorem key_eval {env : Env} {m : Str → Option Value} {y z : Str} {c l : Addr} {its : Array Value} {x kk : Nat} {t tr : Tok} {ri : Int} {p1 p2 p3 p4 p5 p6 : Pos} (hk : env.scope.kind = .function) (hz : env.kindOf z = some .local)
    (hn : s.heap.Ns env.locals m) (hm : m z = some (.int x t)) (hy : env.kindOf y = some .free) (hc : env.cells.lookup y = some c) (hcell : s.heap.IsCell c (some (.ref l))) (hl : s.heap.IsList l its) (hx : its[x]? = some (.int ri tr)) (hfit : x < 5000)
    (dz : (z == ("__debug__" : Str)) = false) (dy : (y == ("__debug__" : Str)) = false) (cy : (y == ("__classdict__" : Str)) = false) :
    wpAny (model prog w) A (eval (.Tuple [.UnaryOp .USub (.Subscript (.Name y p1) (.Name z p2) p3) p4, .Name z p5] kk p6) env) (KeyPure (.tuple [.int (-ri), .int x]) s) E s := by
  refine wpAny_Tuple_spliced ?_
  show wpAny _ _ (spliced ((false, eval (.UnaryOp .USub (.Subscript (.Name y p1) (.Name z p2) p3) p4) env) :: backTo p6 (starEach [.Name z p5] env))) _ _ s
  refine Calls.spliced_cons (UnaryOp_ (Subscript_ (wpAny_Name (wpAny_loadName_free hk hy hc hcell (wpAny_Name (wpAny_loadName_local hk hz hn hm ?_) dz) cy) dy)))
  refine item_listR hl (by omega) (by omega) (by simpa using hx) (neg_int ?_) (by intros; rfl)
  show wpAny _ _ (spliced ((false, eval (.Name z p5) env) :: backTo p6 (starEach [] env))) _ _ _
  refine Calls.spliced_cons (wpAny_Name (wpAny_loadName_local hk hz (show Heap.Ns s.heap env.locals m from hn) hm ?_) dz)
  refine Calls.spliced_nil ⟨by show 2 ≤ sizeLine; decide, ?_⟩
  exact ⟨_, _, rfl, fun b o e => Heap.get?_push_of_some _ e, .tuple (as := []) (Heap.get?_push_size _ rfl) rfl rfl (.cons (as := []) (bs := []) (.int _ _) (.cons (as := []) (bs := []) (.int _ _) .nil))⟩
end
end Lk
namespace Lk
open PySem PySem.Spec PyProof.Rows L2 LamX
/-- the lambda's names: its parameter z, the captured y -/
structure Lam1 (sc scope : Scope) (z y : Str) : Prop where
  kind : scope.kind = .function
  co : scope.isCoroutine = false
  gen : scope.isGenerator = false
  nc : ∀ q ∈ scope.names, q.2 ≠ .cell
  z : scope.names.lookup z = some .local
  y : scope.names.lookup y = some .free
  free : ∀ q ∈ scope.names, q.2 = .free → sc.names.lookup q.1 = some .cell
theorem lam1_by {sc scope : Scope} {z y : Str} (h1 : scope.kind = .function) (h2 : scope.isCoroutine = false) (h3 : scope.isGenerator = false) (h4 : (scope.names.all fun q => !decide (q.2 = .cell)) = true) (h5 : scope.names.lookup z = some .local) (h6 : scope.names.lookup y = some .free)
    (h7 : (scope.names.all fun q => !decide (q.2 = .free) || decide (sc.names.lookup q.1 = some .cell)) = true) : Lam1 sc scope z y := by
  refine ⟨h1, h2, h3, fun q hq e => ?_, h5, h6, fun q hq e => ?_⟩
  · have := List.all_eq_true.mp h4 q hq
    rw [e] at this
    simp at this
  · have := List.all_eq_true.mp h7 q hq
    rw [e] at this
    simpa using this
def keyOf (rs : List Int) (p : Nat) : PyData := .tuple [.int (-(rs.getD p 0)), .int ((p : Nat) : Int)]
def tSortLam (ta : TE) (iy : Nat) (P : Addr) (q : Str) : TE := fun σ H Q => ta σ H fun x H1 => ∃ (n : Nat) (l : Addr) (rs : List Int), x = .int n ∧ n ≤ 5000 ∧ rs.length = n ∧ σ[iy]? = some (some (.ref l)) ∧ H1 l = some (.lst (rs.map V.int)) ∧ TabS H1 P q ∧
  ∀ H2 p, ExtN H1 H2 → TabS H2 P q → H2 p = none → Q (.ref p) (upd H2 p (.lst (((List.range n).mergeSort (Pm.byRest rs)).map fun j => V.int ((j : Nat) : Int))))
section
variable {X : Cx}
theorem pe_sortedLam {c P : Addr} {k iy kk : Nat} {a : Expr} {ta : TE} {params : Arguments} {scope : Scope} {z y : Str} {p pr pr2 p1 p2 p3 p4 p5 p6 lpos kpos pos : Pos} (hcalm : X.calm = true) (hg : Gl X "sorted") (hm : X.mg "sorted" = none) (hgr : Gl X "range") (hmr : X.mg "range" = none) (ha : PE X a ta)
    (TB : TabB X.base X.mg c P) (hcode : X.env.code = .ref c) (L : Lam1 X.env.scope scope z y) (hN : X.N[iy]? = some y) (hdef : defaultsOf params X.env = ([], []))
    (hbind : ∀ (q : Str) (b : Expr) (cl : List (Str × Addr)) (pm cv ctv v : Value), bindArgs (PySem.W.kla_fn "<lambda>" q params b scope cl pm cv ctv) ⟨[v], []⟩ = pure [(z, v)]) (hr : Room (k + 3) X.A)
    (dz : (z == ("__debug__" : Str)) = false) (dy : (y == ("__debug__" : Str)) = false) (cy : (y == ("__classdict__" : Str)) = false)
    (na : starEach [a] X.env = (false, eval a X.env) :: starEach [] X.env := by rfl) :
    PE X (.Call (.Name "sorted" p) [.Call (.Name "range" pr) [a] [] pr2] [⟨some "key", .Lambda params (.Tuple [.UnaryOp .USub (.Subscript (.Name y p1) (.Name z p2) p3) p4, .Name z p5] kk p6) scope lpos, kpos⟩] pos)
      (tSortLam ta iy P (X.env.qual ++ "<lambda>")) := by
  refine ⟨fun pins s σ H Q I h => ?_⟩
  refine wpAny_Call_Name_kw (ld_blt I hg hm boot_sorted ?_)
  refine PyProof.Rows.callWith_kw ?_
  refine Calls.spliced_cons (Call_ (ld_blt I hgr hmr boot_range (PyProof.Rows.callWith_type1 (one_arg ha I h (fun v s2 x H2 I2 rv q => ?_) na) na)))
  obtain ⟨n, l, rs, rfl, hn, hlen, hsl, hl, hT, q⟩ := q
  obtain ⟨tn, rfl⟩ := rv
  refine call_range_1 (Calls.spliced_nil ?_)
  -- the range object is pinned, the lambda made
  let ro : Obj := { cls := .type "range", data := .fields #[.int 0 s2.toks, .int n tn, .int 1 (s2.toks + 1)] }
  have I3 : Inv X pins σ H2 { s2 with heap := s2.heap.push ro, toks := s2.toks + 1 + 1 } := I2.kept fun b u e => Heap.get?_push_of_some _ e
  have fr : H2 s2.heap.objs.size = none := I2.hok.fresh (Nat.le_refl _)
  have I4 : Inv X ((s2.heap.objs.size, ro) :: pins) σ H2 { s2 with heap := s2.heap.push ro, toks := s2.toks + 1 + 1 } := I3.pins_of fun pp hp => by
    rcases List.mem_cons.mp hp with e | e
    · rw [e]
      exact ⟨Heap.get?_push_size _ rfl, fr, Nat.ne_of_gt I2.lt, I2.nofs (Nat.le_refl _), fun v e => nomatch e⟩
    · exact I3.pin pp (List.mem_append_right _ e)
  show wpAny _ _ (evalAll ((do let v ← eval (.Lambda params (.Tuple [.UnaryOp .USub (.Subscript (.Name y p1) (.Name z p2) p3) p4, .Name z p5] kk p6) scope lpos) X.env; standAt pos; pure v) :: [])) _ _ _
  have hfree : ∀ q ∈ scope.names, q.2 = .free → ∃ c, X.env.cells.lookup q.1 = some c := fun q hq e => I2.ok.has _ (.inl (L.free q hq e))
  refine wpAny_evalAll_cons (wpAny_bind (lam_make2 (T := [(P, X.env.qual ++ "<lambda>")]) I4 TB hcode (by simp) (fun pp hp _ => by simp at hp; rw [hp]) (fun pp hp => by simp at hp; rw [hp]; exact hT) hdef hfree
    fun f c' pm ctv H3 s4 I5 eN T5 hf hfn hfr hco => wpAny_bind (wpAny_standAt (wpAny_pure (wpAny_evalAll_nil ?_)))))
  have hro : s4.heap.get? s2.heap.objs.size = some ro := (I5.pin (s2.heap.objs.size, ro) (by simp)).1
  have I6 : Inv X pins σ H3 s4 := I5.pins_of fun pp hp => I5.pin pp (List.mem_append_right _ (List.mem_cons_of_mem _ hp))
  have hT3 : TabS H3 P (X.env.qual ++ "<lambda>") := T5 _ (List.mem_singleton.mpr rfl)
  have hl3 : H3 l = some (.lst (rs.map V.int)) := eN _ _ hl fun ps e => nomatch e
  -- the captured list
  obtain ⟨hz5, its, m5, vits, gl⟩ := (show ObjOk X.prog X.w H3 s4.heap l (.lst (rs.map V.int)) from I6.hok l _ hl3)
  obtain ⟨m, hns, hloc⟩ := I6.loc
  have ysc : X.env.scope.names.lookup y = some .cell := L.free (y, .free) (PySem.mem_of_lookup L.y) rfl
  obtain ⟨u, ru, lk⟩ := hloc iy y (.ref l) hN hsl (.inr (.inl ysc))
  cases (show u = Value.ref l from ru)
  obtain ⟨cc, hcc, hcell⟩ : ∃ c, X.env.cells.lookup y = some c ∧ s4.heap.IsCell c (some (.ref l)) := by
    rcases lk with ⟨k1, _⟩ | ⟨_, c1, e1, e2⟩
    · rw [show X.env.scope.names.lookup y = some .local from k1] at ysc
      cases ysc
    · exact ⟨c1, e1, e2⟩
  have clk : (cloFrom X.env.cells scope.names []).lookup y = some cc := by
    obtain ⟨c2, h2⟩ := mem_lookup (cloFrom_has (cells := X.env.cells) (acc := []) (PySem.mem_of_lookup L.y))
    rcases cloFrom_mem (PySem.mem_of_lookup h2) with hm | ⟨_, h4⟩
    · cases hm
    · rw [h2, h4, hcc]
      rfl
  obtain ⟨⟨oc, vs, t, hoc, hdc, hvc⟩, _, _⟩ := I6.hok c' _ hco
  refine sorted_range_key (n := n) (t := s2.toks) (u := tn) (v := s2.toks + 1) (keyOf rs) (I6.ok.hd hcalm) hro hn ?_ ?_ ?_ ?_ ?_
  · intro d hd d' hd'
    obtain ⟨i, _, rfl⟩ := List.mem_map.mp hd
    obtain ⟨j, _, rfl⟩ := List.mem_map.mp hd'
    rfl
  · exact PySem.W.Sortable.tuples fun b => ⟨_, _, rfl⟩
  · intro i
    have := hr.units
    show X.A.units + 2 + 1 < cLine
    omega
  · -- a call of the lambda
    rintro v i ⟨tv, rfl⟩ hi g tk kp
    have hi2 : i < rs.length := by omega
    have gi : (rs.map V.int)[i]? = some (.int rs[i]) := by
      rw [List.getElem?_map, List.getElem?_eq_getElem hi2]
      rfl
    obtain ⟨w0, ew, tr, rfl⟩ := vits.get gi
    have eg : rs.getD i 0 = rs[i] := by
      rw [List.getD_eq_getElem?_getD, List.getElem?_eq_getElem hi2]
      rfl
    have dp := (hr.in1.in1 : Room (k + 1) X.A.in1.in1).depth
    refine wpAny_call (codeAny_mono (R := fun r s' => ∃ v, r = .ok (.ret v) ∧ PySem.W.KeyPure (keyOf rs i) { s4 with heap := g, toks := tk } v s') ?_ fun r s' hq => ?_)
    · refine PySem.W.kla_callFunE dp (kp _ _ hf) rfl L.co L.gen rfl ⟨c', oc, vs, t, rfl, kp _ _ hoc, hdc, hvc⟩ ?_
      rw [hbind]
      refine wpAny_pure (wpAny_newFunctionEnv L.nc (fun q hq => ?_) (fun h1 hn1 hsb => ⟨((I6.kept (t' := tk) kp).nolimit).fresh _ hsb, ?_⟩) L.kind)
      · rw [List.mem_singleton.mp hq]
        exact L.z
      · have k1 : ∀ b o, g.get? b = some o → h1.get? b = some o := fun b o e => hsb.extBut b o (Nat.ne_of_lt (Heap.lt_size e)) (Heap.get?_push_of_some _ e)
        refine PySem.W.kla_codeExpr (wpAny_mono (key_eval (c := cc) (l := l) (its := its.toArray) (x := i) (t := tv) (ri := rs[i]) (tr := tr) L.kind L.z hn1 (by simp) L.y clk ?_ ?_ (by simpa using ew) (by omega) dz dy cy) (fun v s' hq => ?_) fun e s' hq => hq)
        · obtain ⟨o, ho, hd⟩ := hcell
          exact ⟨o, k1 _ _ (kp _ _ ho), hd⟩
        · exact ⟨_, k1 _ _ (kp _ _ gl), rfl, _, rfl⟩
        · obtain ⟨h', tk', e, kk', rd⟩ := hq
          refine ⟨v, rfl, h', tk', by rw [e], fun b o q => kk' b o (k1 b o q), ?_⟩
          unfold keyOf
          rw [eg]
          exact rd
    · obtain ⟨v, rfl, hq⟩ := hq
      exact hq
  · -- the new list
    intro out p' c1 h' tk kp hp hD each
    have hv : Vals (((List.range n).mergeSort (Pm.byRest rs)).map fun j => V.int ((j : Nat) : Int)) out := by
      have eo : PySem.W.dataLe false (keyOf rs) = Pm.byRest rs := PySem.W.dataLe_ii (fun p => -(rs.getD p 0)) (fun p => ((p : Nat) : Int))
      rw [eo] at each
      clear hD
      revert each
      generalize (List.range n).mergeSort (Pm.byRest rs) = js
      intro each
      induction each with
      | nil => exact .nil
      | cons r _ ih => exact .cons r ih
    have hlen2 : (((List.range n).mergeSort (Pm.byRest rs)).map fun j => V.int ((j : Nat) : Int)).length ≤ sizeLine := by
      rw [List.length_map, (List.mergeSort_perm _ _).length_eq, List.length_range]
      exact Nat.le_trans hn (by decide)
    exact ⟨.ref p', _, I6.laid kp hp (show ObjOk X.prog X.w _ h' p' (.lst _) from ⟨hlen2, out, c1, hv, hD⟩), rfl, q _ _ eN hT3 (I6.hok.fresh hp)⟩
end
end Lk
namespace Th
open PySem PySem.Spec PyProof.Rows L2
/-! heaps -/
theorem same_upd {H : Hp} {p : Addr} {o : HO} (h : H p = none) : Same H (upd H p o) := fun b x e => by
  rw [upd_ne (ne_of_none e h)]
  exact e
/-- all but p stays -/
def Keep (p : Addr) (H H' : Hp) : Prop := ∀ b o, b ≠ p → H b = some o → H' b = some o
theorem Keep.refl (p : Addr) (H : Hp) : Keep p H H := fun _ _ _ h => h
theorem Keep.trans {p : Addr} {H H1 H2 : Hp} (a : Keep p H H1) (b : Keep p H1 H2) : Keep p H H2 := fun c o n h => b c o n (a c o n h)
theorem Keep.of {p : Addr} {H H1 : Hp} (a : Same H H1) : Keep p H H1 := fun c o _ h => a c o h
theorem Keep.upd {p : Addr} {H : Hp} {o : HO} : Keep p H (upd H p o) := fun c o n h => by rw [upd_ne n]; exact h
/-- the bag of draws at p -/
def Bag (H : Hp) (p : Addr) : Prop := ∃ g r : Int, H p = some (.lst [.int g, .int r]) ∧ 0 ≤ g ∧ 0 ≤ r ∧ r < 2147483648
theorem Bag.keep {H H' : Hp} {p : Addr} (b : Bag H p) (s : Same H H') : Bag H' p := by
  obtain ⟨g, r, e, h⟩ := b
  exact ⟨g, r, s _ _ e, h⟩
theorem Bag.some {H : Hp} {p : Addr} (b : Bag H p) : ∃ o, H p = Option.some o := by
  obtain ⟨g, r, e, _⟩ := b
  exact ⟨_, e⟩
theorem Bag.ne {H : Hp} {p q : Addr} (b : Bag H p) (h : H q = none) : q ≠ p := by
  obtain ⟨g, r, e, _⟩ := b
  exact (ne_of_none e h).symm
theorem p8 : (0 : Int) < 8 := by decide
theorem pA : (0 : Int) < 2147483647 := by decide
theorem pB : (0 : Int) < 2147483629 := by decide
theorem primes_at (i : Nat) : ∃ pr : Int, atI [V.int 2147483629, .int 2147483587, .int 2147483579, .int 2147483563, .int 2147483549, .int 2147483543, .int 2147483497, .int 2147483489] ((i : Int) % 8) = some (.int pr) ∧ 0 < pr ∧ pr < 2147483648 := by
  have e : ((i : Int) % 8) = ((i % 8 : Nat) : Int) := by omega
  rw [e]
  have h : i % 8 < 8 := Nat.mod_lt _ (by decide)
  generalize i % 8 = j at h
  have c : j = 0 ∨ j = 1 ∨ j = 2 ∨ j = 3 ∨ j = 4 ∨ j = 5 ∨ j = 6 ∨ j = 7 := by omega
  rcases c with rfl | rfl | rfl | rfl | rfl | rfl | rfl | rfl
  all_goals exact ⟨_, atI_nat rfl, by decide, by decide⟩
def sp_bag (K : PySem.W.Frag) : Sp := fun vs H Q _ => ∃ (a : Addr) (ns : List Int) (i : Nat), vs = [.ref a, .int i] ∧ SqL K H a (ns.map V.int) ∧ i < 1000000 ∧ ∀ H' p, Same H H' → H p = none → Bag H' p → Q (.ref p) H'
def sp_take : Sp := fun vs H Q _ => ∃ (p : Addr) (m : Int), vs = [.ref p, .int m] ∧ Bag H p ∧ 0 < m ∧ m < 1073741824 ∧ ∀ H' d, Keep p H H' → Bag H' p → 0 ≤ d → d < m → Q (.int d) H'
/-! data that is tracked, at addresses of which S holds -/
mutual
inductive Dt (S : Addr → Prop) (H : Hp) : V → PyData → Prop
  | non : Dt S H .non .none
  | bl (b : Bool) : Dt S H (.bl b) (.bool b)
  | int (i : Int) : Dt S H (.int i) (.int i)
  | str (x : Str) : Dt S H (.str x) (.str x)
  | lst {a : Addr} {xs : List V} {ds : List PyData} : S a → H a = some (.lst xs) → xs.length ≤ 5000 → DtAll S H xs ds → Dt S H (.ref a) (.list ds)
  | tup {a : Addr} {xs : List V} {ds : List PyData} : S a → H a = some (.tup xs) → xs.length ≤ 5000 → DtAll S H xs ds → Dt S H (.ref a) (.tuple ds)
inductive DtAll (S : Addr → Prop) (H : Hp) : List V → List PyData → Prop
  | nil : DtAll S H [] []
  | cons {v : V} {vs : List V} {d : PyData} {ds : List PyData} : Dt S H v d → DtAll S H vs ds → DtAll S H (v :: vs) (d :: ds)
end
mutual
theorem Dt.mono {S S' : Addr → Prop} {H H' : Hp} (hS : ∀ a, S a → S' a) (hh : ∀ a o, S a → H a = some o → H' a = some o) : ∀ {v : V} {d : PyData}, Dt S H v d → Dt S' H' v d
  | _, _, .non => .non
  | _, _, .bl b => .bl b
  | _, _, .int b => .int b
  | _, _, .str b => .str b
  | _, _, .lst s e l r => .lst (hS _ s) (hh _ _ s e) l (DtAll.mono hS hh r)
  | _, _, .tup s e l r => .tup (hS _ s) (hh _ _ s e) l (DtAll.mono hS hh r)
theorem DtAll.mono {S S' : Addr → Prop} {H H' : Hp} (hS : ∀ a, S a → S' a) (hh : ∀ a o, S a → H a = some o → H' a = some o) : ∀ {v : List V} {d : List PyData}, DtAll S H v d → DtAll S' H' v d
  | _, _, .nil => .nil
  | _, _, .cons a r => .cons (Dt.mono hS hh a) (DtAll.mono hS hh r)
end
mutual
theorem Dt.dp {K : PySem.W.Frag} {S : Addr → Prop} {H : Hp} : ∀ {v : V} {d : PyData}, Dt S H v d → Dp K H v d
  | _, _, .non => .non
  | _, _, .bl b => .bl b
  | _, _, .int b => .int b
  | _, _, .str b => .str b
  | _, _, .lst s e l r => .lst (SqL.of e) (DtAll.dp r)
  | _, _, .tup s e l r => .tup (SqT.of e) (DtAll.dp r)
theorem DtAll.dp {K : PySem.W.Frag} {S : Addr → Prop} {H : Hp} : ∀ {v : List V} {d : List PyData}, DtAll S H v d → DpAll K H v d
  | _, _, .nil => .nil
  | _, _, .cons a r => .cons (Dt.dp a) (DtAll.dp r)
end
abbrev SA : Addr → Prop := fun _ => True
theorem Dt.same {H H' : Hp} {v : V} {d : PyData} (s : Same H H') (h : Dt SA H v d) : Dt SA H' v d := h.mono (fun _ x => x) fun a o _ e => s a o e
theorem DtAll.same {H H' : Hp} {v : List V} {d : List PyData} (s : Same H H') (h : DtAll SA H v d) : DtAll SA H' v d := h.mono (fun _ x => x) fun a o _ e => s a o e
theorem DtAll.len {S : Addr → Prop} {H : Hp} : ∀ {v : List V} {d : List PyData}, DtAll S H v d → v.length = d.length
  | _, _, .nil => rfl
  | _, _, .cons _ r => congrArg Nat.succ r.len
theorem DtAll.get {S : Addr → Prop} {H : Hp} : ∀ {v : List V} {d : List PyData} {i : Nat} {x : V}, DtAll S H v d → v[i]? = some x → ∃ e, d[i]? = some e ∧ Dt S H x e
  | _, _, _, _, .nil, h => by simp at h
  | _, _, 0, _, .cons a r, h => by
    have e := Option.some.inj h
    subst e
    exact ⟨_, rfl, a⟩
  | _, _, i + 1, _, .cons a r, h => r.get (i := i) h
/-! depth, what may be laid -/
theorem depth_mem : ∀ {ds : List PyData} {i : Nat} {d : PyData}, ds[i]? = some d → PyData.depth d ≤ PyData.depthAll ds
  | [], _, _, h => by simp at h
  | x :: xs, 0, d, h => by
    have e := Option.some.inj h
    subst e
    rw [PyData.depthAll]
    exact Nat.le_max_left _ _
  | x :: xs, i + 1, d, h => by
    rw [PyData.depthAll]
    exact Nat.le_trans (depth_mem (i := i) h) (Nat.le_max_right _ _)
theorem lay_mem : ∀ {ds : List PyData} {i : Nat} {d : PyData}, PyData.canLayAll0 ds = true → ds[i]? = some d → PyData.canLay0 d = true
  | [], _, _, _, h => by simp at h
  | x :: xs, 0, d, c, h => by
    have e := Option.some.inj h
    subst e
    rw [PyData.canLayAll0, Bool.and_eq_true_iff] at c
    exact c.1
  | x :: xs, i + 1, d, c, h => by
    rw [PyData.canLayAll0, Bool.and_eq_true_iff] at c
    exact lay_mem (i := i) c.2 h
/-! the types -/
def tyN : PyData → String
  | .none => "NoneType"
  | .bool _ => "bool"
  | .int _ => "int"
  | .str _ => "str"
  | .list _ => "list"
  | .tuple _ => "tuple"
  | .dict _ => "dict"
theorem Dt.ty {K : PySem.W.Frag} {S : Addr → Prop} {H : Hp} {v : V} {d : PyData} (h : Dt S H v d) : TyX K H v (.type (tyN d)) := by
  cases h with
  | non => exact .base .non
  | bl b => exact .base (.bl b)
  | int b => exact .base (.int b)
  | str b => exact .base (.str b)
  | lst s e l r => exact .base (.lst e)
  | tup s e l r => exact .base (.tup e)
def isB : PyData → Bool
  | .bool _ => true
  | _ => false
def isSeq : PyData → Bool
  | .list _ => true
  | .tuple _ => true
  | _ => false
theorem kit_bool {K : PySem.W.Frag} {S : Addr → Prop} {H : Hp} {v : V} {d : PyData} (h : Dt S H v d) : PySem.W.kitOne K (.type (tyN d)) (.type "bool") = some (isB d) := by
  cases h with
  | non => exact kit_ty (a := "NoneType") (b := "bool") (r := false) (by decide +kernel)
  | bl b => exact kit_ty (a := "bool") (b := "bool") (r := true) (by decide +kernel)
  | int b => exact kit_ty (a := "int") (b := "bool") (r := false) (by decide +kernel)
  | str b => exact kit_ty (a := "str") (b := "bool") (r := false) (by decide +kernel)
  | lst s e l r => exact kit_ty (a := "list") (b := "bool") (r := false) (by decide +kernel)
  | tup s e l r => exact kit_ty (a := "tuple") (b := "bool") (r := false) (by decide +kernel)
theorem kit2 {K : PySem.W.Frag} {n : String} (h1 : kitB n "list" = some false) (h2 : kitB n "tuple" = some false) : PySem.W.kitAny K (.type n) [.type "list", .type "tuple"] = some false :=
  kitAny_cons (b := false) (kit_ty h1) (fun _ => kitAny_cons (b := false) (kit_ty h2) (fun _ => kitAny_nil) (fun z => nomatch z)) (fun z => nomatch z)
theorem kit_seq {K : PySem.W.Frag} {S : Addr → Prop} {H : Hp} {v : V} {d : PyData} (h : Dt S H v d) : PySem.W.kitAny K (.type (tyN d)) [.type "list", .type "tuple"] = some (isSeq d) := by
  cases h with
  | non => exact kit2 (n := "NoneType") (by decide +kernel) (by decide +kernel)
  | bl b => exact kit2 (n := "bool") (by decide +kernel) (by decide +kernel)
  | int b => exact kit2 (n := "int") (by decide +kernel) (by decide +kernel)
  | str b => exact kit2 (n := "str") (by decide +kernel) (by decide +kernel)
  | lst s e l r => exact kitAny_cons (b := true) (kit_ty (a := "list") (by decide +kernel)) (fun z => nomatch z) (fun _ => rfl)
  | tup s e l r => exact kitAny_cons (b := false) (kit_ty (a := "tuple") (by decide +kernel)) (fun _ => kitAny_cons (b := true) (kit_ty (a := "tuple") (by decide +kernel)) (fun z => nomatch z) (fun _ => rfl)) (fun z => nomatch z)
/-! zip of two tuples, walked -/
theorem walk_zipT {K : PySem.W.Frag} {a b : Addr} {xs ys : List V} {n : Nat} (hn : n = min xs.length ys.length) : Walk (RZ.ItzT K a b) n (fun H => SqT K H a xs ∧ SqT K H b ys) (YPair (fun i => xs[i]?) (fun i => ys[i]?)) := by
  subst hn
  refine ⟨fun i _ hi q => ?_, fun _ q => ⟨xs, ys, q.1, q.2, by omega⟩, fun i H v H' _ q y => ?_⟩
  · have h1 : i < xs.length := by omega
    have h2 : i < ys.length := by omega
    exact ⟨xs, ys, xs[i], ys[i], q.1, q.2, by simp [h1], by simp [h2]⟩
  · obtain ⟨T, x, z, h1, h2, h3, h4, h5⟩ := y
    exact ⟨T, x, z, h1, h2, h3, h4 xs q.1, h5 ys q.2⟩
theorem yes_ {σ : L2.St} {H : Hp} {A B : Hp → Prop} (h : A H) : tYes σ H fun b H3 => if b = true then A H3 else B H3 := by
  show if true = true then A H else B H
  exact iteT h
theorem small5000 {n : Nat} (h : n ≤ 5000) : n < sizeLine := Nat.lt_of_le_of_lt h (by decide)
/-- told and due are the same data, of a depth below n: True -/
def sp_like (n : Nat) : Sp := fun vs H Q _ => ∃ (v u : V) (d : PyData), vs = [v, u] ∧ Dt SA H v d ∧ Dt SA H u d ∧ d.canLay0 = true ∧ d.depth < n ∧ n ≤ 60 ∧ ∀ H', Same H H' → Q (.bl true) H'
/-- xs[i] read for an augmented store, i from 0 on -/
theorem get_listN {X : Cx} : PGet X (fun o i H Q => ∃ (p : Addr) (xs : List V) (j : Nat) (v : V), o = .ref p ∧ i = .int j ∧ H p = some (.lst xs) ∧ xs[j]? = some v ∧ Q v H) := by
  intro pins s σ H o i ov iv Q I ro ri h
  obtain ⟨p, xs, j, v, rfl, rfl, hp, hx, q⟩ := h
  cases (show ov = Value.ref p from ro)
  obtain ⟨t, rfl⟩ := ri
  obtain ⟨its, r, pl, hz⟩ := I.list (SqL.of hp)
  obtain ⟨u, eu, ru⟩ := r.get hx
  have hj : j < xs.length := (List.getElem?_eq_some_iff.mp hx).1
  have h63 := line63
  exact wpAny_getItem_list pl.isList (by omega) (by omega) (by simpa using eu) ⟨v, H, I, ru, q⟩
/-- the d-th of some whole numbers -/
theorem pick {ms : List Int} {d : Int} (h0 : 0 ≤ d) (h1 : d < ms.length) : ∃ m ∈ ms, atI (ms.map V.int) d = some (.int m) := by
  obtain ⟨j, rfl⟩ : ∃ j : Nat, d = (j : Int) := ⟨d.toNat, by omega⟩
  have hj : j < ms.length := by omega
  refine ⟨ms[j], List.getElem_mem hj, atI_nat ?_⟩
  rw [List.getElem?_map, List.getElem?_eq_getElem hj]
  rfl
theorem Bag.at {H H' : Hp} {p : Addr} (b : Bag H p) (e : H' p = H p) : Bag H' p := by
  obtain ⟨g, r, h, k⟩ := b
  exact ⟨g, r, e.trans h, k⟩
theorem Keep.new {p q : Addr} {H H' : Hp} {o : HO} (k : Keep p H H') (n : H' q = none) : Keep p H (L2.upd H' q o) := k.trans (.of (same_upd n))
theorem Keep.free {p q : Addr} {H H' : Hp} (k : Keep p H H') (b : Bag H p) (h : H' q = none) (b' : Bag H' p) : H q = none := by
  cases e : H q with
  | none => rfl
  | some o =>
    by_cases z : q = p
    · rw [z] at h
      obtain ⟨g, r, e', _⟩ := b'
      rw [e'] at h
      cases h
    · rw [k q o z e] at h
      cases h
theorem rep_one {α : Type} (x : α) (m : Nat) : (List.replicate m [x]).flatten = List.replicate m x := by
  induction m with
  | zero => rfl
  | succ m ih => rw [List.replicate_succ, List.flatten_cons, ih, List.replicate_succ]; rfl
/-! lists of whole numbers as data -/
abbrev dI (zs : List Int) : PyData := .list (zs.map PyData.int)
theorem dtAll_ints {S : Addr → Prop} {H : Hp} : ∀ zs : List Int, DtAll S H (zs.map V.int) (zs.map PyData.int)
  | [] => .nil
  | z :: zs => .cons (.int z) (dtAll_ints zs)
theorem dt_ints {H : Hp} {x : Addr} {zs : List Int} (h : H x = some (.lst (zs.map V.int))) (hl : zs.length ≤ 5000) : Dt SA H (.ref x) (dI zs) := .lst trivial h (by rw [List.length_map]; exact hl) (dtAll_ints zs)
theorem layAll_ints : ∀ zs : List Int, PyData.canLayAll0 (zs.map PyData.int) = true
  | [] => rfl
  | z :: zs => by rw [List.map_cons, PyData.canLayAll0, layAll_ints zs]; rfl
theorem lay_ints (zs : List Int) : (dI zs).canLay0 = true := layAll_ints zs
theorem depthAll_ints : ∀ zs : List Int, PyData.depthAll (zs.map PyData.int) = 0
  | [] => rfl
  | z :: zs => by rw [List.map_cons, PyData.depthAll, depthAll_ints zs]; rfl
theorem depth_ints (zs : List Int) : (dI zs).depth = 1 := by
  show PyData.depthAll (zs.map PyData.int) + 1 = 1
  rw [depthAll_ints]
theorem shaped_ints (zs : List Int) : SeqAt.shaped (dI zs) = true := Bool.and_eq_true_iff.mpr ⟨lay_ints zs, decide_eq_true (by rw [depth_ints]; decide)⟩
theorem eqv_ints (zs : List Int) : PyData.eqv (dI zs) (dI zs) = true := SeqAt.eqv_refl _ (lay_ints zs)
end Th
namespace Th
open PySem PySem.Spec PyProof.Rows L2
/-! the text -/
def topS (i : Nat) : Stmt := PySem.Challenge.pw_throughlines_k02_ahead_of_all.main.body.getD i (.Pass ⟨0, 0, 0, 0⟩)
abbrev FnP (K : PySem.W.Frag) (x : Str) (st : Stmt) (f : Addr) (fd : FuncData) : Prop := FunD K x x (defArgs st) (defBody st) (defScope st) [] [] f fd
abbrev s_parts : Stmt := topS 1
abbrev N_parts : List Str := ["pence", "weights", "whole", "told", "rests", "left", "by_rest", "at", "weight"]
theorem sc_parts : FnScope N_parts ["pence", "weights"] (defScope s_parts) := ⟨rfl, rfl, rfl, by decide +kernel, rfl, by decide +kernel, by decide +kernel⟩
abbrev s_ahead : Stmt := topS 2
abbrev N_ahead : List Str := ["pence", "wishes"]
theorem sc_ahead : FnScope N_ahead ["pence", "wishes"] (defScope s_ahead) := ⟨rfl, rfl, rfl, by decide +kernel, rfl, by decide +kernel, by decide +kernel⟩
abbrev s_l_bag : Stmt := topS 4
abbrev N_l_bag : List Str := ["_law_script", "_law_at", "_law_cell", "_law_great", "_law_primes"]
theorem sc_l_bag : FnScope N_l_bag ["_law_script", "_law_at"] (defScope s_l_bag) := ⟨rfl, rfl, rfl, by decide +kernel, rfl, by decide +kernel, by decide +kernel⟩
abbrev s_l_take : Stmt := topS 5
abbrev N_l_take : List Str := ["_law_bag_here", "_law_many", "_law_digit"]
theorem sc_l_take : FnScope N_l_take ["_law_bag_here", "_law_many"] (defScope s_l_take) := ⟨rfl, rfl, rfl, by decide +kernel, rfl, by decide +kernel, by decide +kernel⟩
abbrev s_l_parts : Stmt := topS 6
abbrev N_l_parts : List Str := ["_law_pence", "_law_weights", "_law_whole", "_law_found", "_law_left", "_law_rests", "_law_weight", "_law_at", "_law_one"]
theorem sc_l_parts : FnScope N_l_parts ["_law_pence", "_law_weights"] (defScope s_l_parts) := ⟨rfl, rfl, rfl, by decide +kernel, rfl, by decide +kernel, by decide +kernel⟩
abbrev s_l_ahead_of : Stmt := topS 7
abbrev N_l_ahead_of : List Str := ["_law_rests", "_law_at", "_law_k", "_law_rest"]
theorem sc_l_ahead_of : FnScope N_l_ahead_of ["_law_rests", "_law_at"] (defScope s_l_ahead_of) := ⟨rfl, rfl, rfl, by decide +kernel, rfl, by decide +kernel, by decide +kernel⟩
abbrev s_l_wished : Stmt := topS 8
abbrev N_l_wished : List Str := ["_law_pence", "_law_wishes_here"]
theorem sc_l_wished : FnScope N_l_wished ["_law_pence", "_law_wishes_here"] (defScope s_l_wished) := ⟨rfl, rfl, rfl, by decide +kernel, rfl, by decide +kernel, by decide +kernel⟩
abbrev s_l_sum : Stmt := topS 9
abbrev N_l_sum : List Str := ["_law_bag_here"]
theorem sc_l_sum : FnScope N_l_sum ["_law_bag_here"] (defScope s_l_sum) := ⟨rfl, rfl, rfl, by decide +kernel, rfl, by decide +kernel, by decide +kernel⟩
abbrev s_l_like : Stmt := topS 10
abbrev N_l_like : List Str := ["_law_told", "_law_due", "_law_one", "_law_other"]
theorem sc_l_like : FnScope N_l_like ["_law_told", "_law_due"] (defScope s_l_like) := ⟨rfl, rfl, rfl, by decide +kernel, rfl, by decide +kernel, by decide +kernel⟩
abbrev s_l_wishes : Stmt := topS 11
abbrev N_l_wishes : List Str := ["_law_bag_here", "_law_pence", "_law_many", "_law_most", "_law_near", "_law_found", "_law_left", "_law_k"]
theorem sc_l_wishes : FnScope N_l_wishes ["_law_bag_here", "_law_pence"] (defScope s_l_wishes) := ⟨rfl, rfl, rfl, by decide +kernel, rfl, by decide +kernel, by decide +kernel⟩
abbrev s_law : Stmt := topS 12
abbrev N_law : List Str := ["_law_script", "_law_at", "_law_bag_here", "_law_pence", "_law_wishes_here", "_law_handed", "_law_told", "_law_due"]
theorem sc_law : FnScope N_law ["_law_script"] (defScope s_law) := ⟨rfl, rfl, rfl, by decide +kernel, rfl, by decide +kernel, by decide +kernel⟩
structure Defs (K : PySem.W.Frag) (mg : Str → Option Value) where
  a_parts : Addr
  d_parts : FuncData
  F_parts : FnP K "parts" s_parts a_parts d_parts
  g_parts : mg "parts" = some (.ref a_parts)
  b_parts : Binds K d_parts ["pence", "weights"] []
  cc_parts : Addr
  tp_parts : Addr
  dc_parts : d_parts.code = .ref cc_parts
  a_ahead : Addr
  d_ahead : FuncData
  F_ahead : FnP K "ahead" s_ahead a_ahead d_ahead
  g_ahead : mg "ahead" = some (.ref a_ahead)
  b_ahead : Binds K d_ahead ["pence", "wishes"] []
  a_l_bag : Addr
  d_l_bag : FuncData
  F_l_bag : FnP K "_law_bag" s_l_bag a_l_bag d_l_bag
  g_l_bag : mg "_law_bag" = some (.ref a_l_bag)
  b_l_bag : Binds K d_l_bag ["_law_script", "_law_at"] []
  a_l_take : Addr
  d_l_take : FuncData
  F_l_take : FnP K "_law_take" s_l_take a_l_take d_l_take
  g_l_take : mg "_law_take" = some (.ref a_l_take)
  b_l_take : Binds K d_l_take ["_law_bag_here", "_law_many"] []
  a_l_parts : Addr
  d_l_parts : FuncData
  F_l_parts : FnP K "_law_parts" s_l_parts a_l_parts d_l_parts
  g_l_parts : mg "_law_parts" = some (.ref a_l_parts)
  b_l_parts : Binds K d_l_parts ["_law_pence", "_law_weights"] []
  a_l_ahead_of : Addr
  d_l_ahead_of : FuncData
  F_l_ahead_of : FnP K "_law_ahead_of" s_l_ahead_of a_l_ahead_of d_l_ahead_of
  g_l_ahead_of : mg "_law_ahead_of" = some (.ref a_l_ahead_of)
  b_l_ahead_of : Binds K d_l_ahead_of ["_law_rests", "_law_at"] []
  a_l_wished : Addr
  d_l_wished : FuncData
  F_l_wished : FnP K "_law_wished" s_l_wished a_l_wished d_l_wished
  g_l_wished : mg "_law_wished" = some (.ref a_l_wished)
  b_l_wished : Binds K d_l_wished ["_law_pence", "_law_wishes_here"] []
  a_l_sum : Addr
  d_l_sum : FuncData
  F_l_sum : FnP K "_law_sum" s_l_sum a_l_sum d_l_sum
  g_l_sum : mg "_law_sum" = some (.ref a_l_sum)
  b_l_sum : Binds K d_l_sum ["_law_bag_here"] []
  a_l_like : Addr
  d_l_like : FuncData
  F_l_like : FnP K "_law_like" s_l_like a_l_like d_l_like
  g_l_like : mg "_law_like" = some (.ref a_l_like)
  b_l_like : Binds K d_l_like ["_law_told", "_law_due"] []
  a_l_wishes : Addr
  d_l_wishes : FuncData
  F_l_wishes : FnP K "_law_wishes" s_l_wishes a_l_wishes d_l_wishes
  g_l_wishes : mg "_law_wishes" = some (.ref a_l_wishes)
  b_l_wishes : Binds K d_l_wishes ["_law_bag_here", "_law_pence"] []
  z_abs : mg "abs" = none
  z_all : mg "all" = none
  z_bool : mg "bool" = none
  z_enumerate : mg "enumerate" = none
  z_int : mg "int" = none
  z_isinstance : mg "isinstance" = none
  z_len : mg "len" = none
  z_list : mg "list" = none
  z_max : mg "max" = none
  z_min : mg "min" = none
  z_range : mg "range" = none
  z_sorted : mg "sorted" = none
  z_sum : mg "sum" = none
  z_tuple : mg "tuple" = none
  z_zip : mg "zip" = none
end Th
namespace Th
open PySem PySem.Spec PyProof.Rows L2
/-! parts -/
open LamX in
theorem ExtN.seq {K : PySem.W.Frag} {H H' : Hp} {a : Addr} {xs : List V} (e : ExtN H H') (h : SqL K H a xs) : SqL K H' a xs := by
  rcases h with (h | ⟨o, h⟩) | h
  · exact .inl (.inl (e _ _ h fun _ z => nomatch z))
  · exact .inl (.inr ⟨o, e _ _ h fun _ z => nomatch z⟩)
  · exact .inr h
theorem ExtN.free {H H' : Hp} (e : LamX.ExtN H H') {l : Addr} (h : H' l = none) (ht : ∀ ps, H l ≠ some (.tbl ps)) : H l = none := by
  cases q : H l with
  | none => rfl
  | some o =>
    rw [e l o q (fun ps z => ht ps (by rw [q, z]))] at h
    cases h
theorem ExtN.lst {H H' : Hp} (e : LamX.ExtN H H') {l : Addr} {xs : List V} (h : H l = some (.lst xs)) : H' l = some (.lst xs) := e _ _ h fun _ z => nomatch z
theorem ExtN.tup {H H' : Hp} (e : LamX.ExtN H H') {l : Addr} {xs : List V} (h : H l = some (.tup xs)) : H' l = some (.tup xs) := e _ _ h fun _ z => nomatch z
theorem tab_upd {H : Hp} {P p : Addr} {q : Str} {o u : HO} (t : LamX.TabS H P q) (hp : H p = some o) (n1 : ∀ ps, o ≠ .tbl ps) (n2 : ∀ c, o ≠ LamX.CodeO c q) : LamX.TabS (upd H p u) P q := by
  obtain ⟨ps, h1, h2, h3⟩ := t
  refine ⟨ps, ?_, h2, fun pos cv hc => ?_⟩
  · rw [upd_ne (fun z => n1 ps (by rw [← z, h1] at hp; exact (Option.some.inj hp).symm))]
    exact h1
  · obtain ⟨c, e1, e2⟩ := h3 pos cv hc
    refine ⟨c, e1, ?_⟩
    rw [upd_ne (fun z => n2 c (by rw [← z, e2] at hp; exact (Option.some.inj hp).symm))]
    exact e2
theorem lst_ne_code {xs : List V} (c : Addr) (q : Str) : HO.lst xs ≠ LamX.CodeO c q := fun z => by unfold LamX.CodeO at z; cases z
theorem tab_lst {H : Hp} {P p : Addr} {q : Str} {xs : List V} {u : HO} (t : LamX.TabS H P q) (hp : H p = some (.lst xs)) : LamX.TabS (upd H p u) P q :=
  tab_upd t hp (fun _ z => nomatch z) fun c => lst_ne_code c q
theorem ext_fresh {H H' : Hp} {p : Addr} {u : HO} (n : H p = none) (e : LamX.ExtN H H') : LamX.ExtN H (upd H' p u) := fun b o h nt => by
  rw [upd_ne (ne_of_none h n)]
  exact e b o h nt
theorem cut_take (xs : List V) (m : Nat) : cutV xs none (some (m : Int)) = xs.take m := by
  unfold cutV
  rw [HT.sIx_none, HT.sIx_nat]
  show (xs.drop 0).take (min m xs.length - 0) = xs.take m
  rw [List.drop_zero, Nat.sub_zero]
  by_cases h : m ≤ xs.length
  · rw [Nat.min_eq_left h]
  · rw [Nat.min_eq_right (by omega), List.take_length, List.take_of_length_le (by omega)]
theorem sum_lt : ∀ (ws : List Int), (∀ w ∈ ws, 0 ≤ w ∧ w < 2 ^ 63) → 0 ≤ ws.sum ∧ ws.sum ≤ ws.length * 2 ^ 63
  | [], _ => by simp
  | w :: ws, h => by
    have h1 := h w (List.mem_cons_self ..)
    have h2 := sum_lt ws fun x hx => h x (List.mem_cons_of_mem _ hx)
    rw [List.sum_cons, List.length_cons]
    omega
theorem wide_ok {z : Int} (h0 : 0 < z) (h1 : z ≤ 1000 * 2 ^ 63) : CDivW 0 z := by
  refine ⟨h0, ?_⟩
  refine Nat.lt_of_le_of_lt ?_ (show 99 < 9000 by decide)
  have h2 : z.natAbs < 2 ^ 100 := by omega
  have h3 : z.natAbs ≠ 0 := by omega
  have := (Nat.log2_lt h3).mpr h2
  omega
section
variable {P : Program} {w : World} {K : PySem.W.Frag} {mg : Str → Option Value} {base : Heap} {k : Nat}
/-- the rule for a def whose code object is known -/
theorem okC {x : Str} {st : Stmt} {f : Addr} {fd : FuncData} {N ps : List Str} {sp : Sp} (F : FnP K x st f fd) (S : FnScope N ps (defScope st)) (len : ∀ vs H Q E, sp vs H Q E → vs.length = ps.length)
    (hb : ∀ (A : Around) (outer : List Env) (s : Shared) (H : Hp) (vs : List V) (Q : VK) (E : XK), Room k (A.deeper (envOfC x (defScope st) s.heap.objs.size f fd.code)) → sp vs H Q E →
      ∃ t, PSs (cxOf CX0 P w K mg base N x (defScope st) f fd.code A outer s H E) (defBody st) t ∧ t { nx := fun _ H' => Q .non H', rt := Q } (start N vs) H) : FnOk P w K mg base CX0 (k + 1) f fd ps sp := by
  obtain ⟨oc, od, dV, kV, doc, pm, an, cdv, ct, osl, rfl, lk, hcd, _, _⟩ := F.ex
  exact fn_of lk hcd S len fun A outer s H vs Q E hr hsp => hb A outer s H vs Q E hr hsp
abbrev qParts : Str := (Str.ofString "parts" ++ Str.ofString ".<locals>.") ++ Str.ofString "<lambda>"
abbrev TabP (T : Defs K mg) (H : Hp) : Prop := LamX.TabS H T.tp_parts qParts
def sp_parts (T : Defs K mg) : Sp := fun vs H Q _ => ∃ (pence : Int) (a : Addr) (ws : List Int), vs = [.int pence, .ref a] ∧ SqL K H a (ws.map V.int) ∧ ws.length ≤ 1000 ∧ 0 ≤ pence ∧ pence < 2 ^ 63 ∧ (∀ w ∈ ws, 0 ≤ w ∧ w < 2 ^ 63) ∧ TabP T H ∧
  ∀ H' p, LamX.ExtN H H' → TabP T H' → H p = none → H' p = some (.lst ((Pm.partsM pence ws).map V.int)) → Q (.ref p) H'
set_option maxHeartbeats 8000000 in
theorem ok_parts (T : Defs K mg) (TB : LamX.TabB base mg T.cc_parts T.tp_parts) : FnOk P w K mg base CX0 4 T.a_parts T.d_parts ["pence", "weights"] (sp_parts T) := by
  refine okC T.F_parts sc_parts (fun vs H Q E h => ?_) (fun A outer s H vs Q E hr h => ?_)
  · obtain ⟨p, a, ws, rfl, _⟩ := h
    rfl
  · obtain ⟨pence, a, ws, rfl, hS, hlen, p0, p1, hw, hT, q⟩ := h
    obtain ⟨W0, W1⟩ := sum_lt ws hw
    have lenV : (ws.map V.int).length = ws.length := List.length_map _
    refine ⟨_, PSs.nox
(pss_cons (ps_set (i := 2) sc_parts.nd rfl (.inr rfl) (pe_callB (cr_sum rfl) (by rfl) T.z_sum (by decide +kernel) (pa_cons (pv 1) pa_nil)))
    (pss_cons (ps_if (pt_cmpR op_eq (pv 2) (pe_int) (nomark _))
      (pss_one (ps_ret (pe_op op_rep (pe_lst (pa_cons (pe_int) pa_nil)) (pe_callB call_len_seq (by rfl) T.z_len (by decide +kernel) (pa_cons (pv 1) pa_nil)))))
      pss_nil)
    (pss_cons (ps_setLc (i := 3) (own := [("weight", 8)]) (g := gName 8) rfl sc_parts.nd rfl rfl (sw_true rfl rfl rfl (by decide +kernel)) (pi_list (pv 1)) (blkOk_by (N := N_parts) (sc := defScope s_parts) (by decide +kernel)) (fun _ _ _ _ _ => (pg_name (i := 8) sc_parts.nd rfl (.inl rfl))) (fun _ _ _ _ _ => pts_nil) (fun _ _ _ _ _ => (pe_op op_fdivW (pe_op op_mul (pv 0) (pv 8)) (pv 2))))
    (pss_cons (ps_set (i := 4) sc_parts.nd rfl (.inr rfl) (pe_lc (own := [("weight", 8)]) (g := gName 8) rfl sc_parts.nd (pi_list (pv 1)) (blkOk_by (N := N_parts) (sc := defScope s_parts) (by decide +kernel)) (fun _ _ _ _ _ => (pg_name (i := 8) sc_parts.nd rfl (.inl rfl))) (fun _ _ _ _ _ => pts_nil) (fun _ _ _ _ _ => (pe_op op_mod (pe_op op_mul (pv 0) (pv 8)) (pv 2)))))
    (pss_cons (ps_set (i := 5) sc_parts.nd rfl (.inl rfl) (pe_op op_sub (pv 0) (pe_callB (cr_sum rfl) (by rfl) T.z_sum (by decide +kernel) (pa_cons (pv 3) pa_nil))))
    (pss_cons (ps_set (i := 6) sc_parts.nd rfl (.inl rfl) (Lk.pe_sortedLam (k := 0) (iy := 4) rfl (by rfl) T.z_sorted (by rfl) T.z_range (pe_callB call_len_seq (by rfl) T.z_len (by decide +kernel) (pa_cons (pv 1) pa_nil)) TB T.dc_parts (Lk.lam1_by (sc := defScope s_parts) rfl rfl rfl (by decide +kernel) (by decide +kernel) (by decide +kernel) (by decide +kernel)) rfl rfl (fun _ _ _ _ _ _ _ => rfl) hr (by decide) (by decide) (by decide)))
    (pss_cons (ps_for PassesOwn.never rfl (pi_list (pe_slice sl_list (pv 6) po_none (po_some (pv 5)))) (pg_name (i := 7) sc_parts.nd rfl (.inl rfl))
      (pss_one (ps_augS (pv 3) (pv 7) get_listN (pe_int) ip_add set_list)))
    (pss_one (ps_ret (pv 3))))))))))
      , ?_⟩
    -- whole = sum(weights)
    refine ⟨.ref a, rfl, a, ws, rfl, hS, ?_⟩
    -- if whole == 0
    refine ⟨.int ws.sum, rfl, rfl, _, rfl, ite2 (fun e => ?_) (fun e => ?_)⟩
    · have e0 : ws.sum = 0 := V.int.inj (of_decide_eq_true e)
      refine ⟨by show 1 ≤ sizeLine; decide, fun l n1 => ?_⟩
      refine ⟨.ref a, rfl, a, ws.map V.int, rfl, .inl ((same_upd n1).seq hS), ?_⟩
      refine ⟨l, _, [.int 0], rfl, rfl, upd_same, by rw [lenV]; omega, by rw [lenV]; omega, by rw [lenV]; show 1 * _ ≤ sizeLine; exact Nat.le_trans (by omega) (show 5000 ≤ sizeLine by decide), fun p np => ?_⟩
      refine q _ p (.of ((same_upd n1).trans (same_upd np))) (hT.ext ((same_upd n1).trans (same_upd np))) ((same_upd n1).free np) ?_
      rw [upd_same, lenV]
      unfold Pm.partsM
      rw [if_pos e0, List.map_replicate]
      congr 2
      show (List.replicate ((ws.length : Int).toNat) [V.int 0]).flatten = _
      rw [Int.toNat_natCast]
      generalize ws.length = m
      induction m with
      | zero => rfl
      | succ m ih => rw [List.replicate_succ, List.flatten_cons, ih, List.replicate_succ]; rfl
    · have hW : 0 < ws.sum := by
        have : ws.sum ≠ 0 := fun z => e (decide_eq_true (congrArg V.int z))
        omega
      have wd : CDivW 0 ws.sum := wide_ok hW (by omega)
      -- told
      refine ⟨.ref a, rfl, a, rfl, ⟨_, hS⟩, fun D nD => ?_⟩
      refine lc_it (walk_list (xs := ws.map V.int)) (fun i H3 => Same H H3 ∧ H3 D = some (.lst (((Pm.told pence ws).take i).map V.int))) ⟨same_upd nD, upd_same⟩ (fun i H3 _ p => p.1.seq hS) (fun i x H3 H4 hi p y => ?_) (fun H3 p => ?_)
      · obtain ⟨rfl, ex⟩ := y
        rw [lenV] at hi
        rw [List.getElem?_map, List.getElem?_eq_getElem hi] at ex
        have ex : x = .int ws[i] := (Option.some.inj ex).symm
        subst ex
        have hm := hw ws[i] (List.getElem_mem hi)
        refine ⟨rfl, yes_ ?_⟩
        refine ⟨.int pence, rfl, .int ws[i], rfl, pence, ws[i], rfl, rfl, .inl ⟨by omega, by omega⟩, .int ws.sum, rfl, _, ws.sum, rfl, rfl, wd, _, p.2, ?_, fun b o eb => ?_, ?_⟩
        · rw [List.length_map, List.length_take]
          exact small5000 (by omega)
        · rw [upd_ne (ne_of_none eb nD)]
          exact p.1 _ _ eb
        · rw [upd_same, List.take_add_one]
          have : (Pm.told pence ws)[i]? = some (pence * ws[i] / ws.sum) := by
            unfold Pm.told
            rw [List.getElem?_map, List.getElem?_eq_getElem hi]
            rfl
          rw [this, List.map_append]
          rfl
      · obtain ⟨s3, eD⟩ := p
        rw [lenV, List.take_of_length_le (by rw [Pm.told_len]; exact Nat.le_refl _)] at eD
        -- rests
        refine ⟨.ref a, rfl, a, rfl, ⟨_, s3.seq hS⟩, fun R nR => ?_⟩
        refine lc_it (walk_list (xs := ws.map V.int)) (fun i H4 => Same H3 H4 ∧ H4 R = some (.lst (((Pm.rests pence ws).take i).map V.int))) ⟨same_upd nR, upd_same⟩ (fun i H4 _ p => p.1.seq (s3.seq hS)) (fun i x H4 H5 hi p y => ?_) (fun H4 p => ?_)
        · obtain ⟨rfl, ex⟩ := y
          rw [lenV] at hi
          rw [List.getElem?_map, List.getElem?_eq_getElem hi] at ex
          have ex : x = .int ws[i] := (Option.some.inj ex).symm
          subst ex
          have hm := hw ws[i] (List.getElem_mem hi)
          refine ⟨rfl, yes_ ?_⟩
          refine ⟨.int pence, rfl, .int ws[i], rfl, pence, ws[i], rfl, rfl, .inl ⟨by omega, by omega⟩, .int ws.sum, rfl, _, ws.sum, rfl, rfl, hW, _, p.2, ?_, fun b o eb => ?_, ?_⟩
          · rw [List.length_map, List.length_take]
            exact small5000 (by omega)
          · rw [upd_ne (ne_of_none eb nR)]
            exact p.1 _ _ eb
          · rw [upd_same, List.take_add_one]
            have : (Pm.rests pence ws)[i]? = some (pence * ws[i] % ws.sum) := by
              unfold Pm.rests
              rw [List.getElem?_map, List.getElem?_eq_getElem hi]
              rfl
            rw [this, List.map_append]
            rfl
        · obtain ⟨s4, eR⟩ := p
          rw [lenV, List.take_of_length_le (by rw [Pm.rests_len]; exact Nat.le_refl _)] at eR
          have sH4 : Same H H4 := s3.trans s4
          have eD4 : H4 D = some (.lst ((Pm.told pence ws).map V.int)) := s4 _ _ eD
          -- left = pence - sum(told)
          refine ⟨.int pence, rfl, .ref D, rfl, D, _, rfl, SqL.of eD4, pence, _, rfl, rfl, ?_⟩
          -- by_rest
          refine ⟨.ref a, rfl, a, _, rfl, .inl (sH4.seq hS), ws.length, R, Pm.rests pence ws, by rw [lenV], by omega, Pm.rests_len _ _, rfl, eR, hT.ext sH4, fun H5 B e5 t5 nB => ?_⟩
          have l0 := Pm.left_nonneg pence hW
          obtain ⟨m, em⟩ : ∃ m : Nat, pence - (Pm.told pence ws).sum = (m : Int) := ⟨(Pm.left pence ws).toNat, by unfold Pm.left at *; omega⟩
          have em2 : (Pm.left pence ws).toNat = m := by unfold Pm.left; omega
          -- for at in by_rest[:left]
          refine ⟨.ref B, rfl, .int (pence - (Pm.told pence ws).sum), rfl, _, rfl, B, _, rfl, SqL.of upd_same, fun C nC => ?_⟩
          rw [em, cut_take, ← List.map_take]
          refine ⟨C, rfl, ⟨_, SqL.of upd_same⟩, ?_⟩
          have hD5 : H5 D = some (.lst ((Pm.told pence ws).map V.int)) := ExtN.lst e5 eD4
          have s6 : Same H5 (upd (upd H5 B (.lst ((Pm.order pence ws).map fun j => V.int ((j : Nat) : Int)))) C (.lst (((Pm.order pence ws).take m).map fun j => V.int ((j : Nat) : Int)))) := (same_upd nB).trans (same_upd nC)
          have nDC : D ≠ C := ne_of_none (same_upd nB _ _ hD5) nC
          refine for_it (walk_list (xs := ((Pm.order pence ws).take m).map fun j => V.int ((j : Nat) : Int))) (fun i σ H6 => ∃ y7, σ = [some (.int pence), some (.ref a), some (.int ws.sum), some (.ref D), some (.ref R), some (.int (pence - (Pm.told pence ws).sum)), some (.ref B), y7, none] ∧
              LamX.ExtN H H6 ∧ TabP T H6 ∧ H6 C = some (.lst (((Pm.order pence ws).take m).map fun j => V.int ((j : Nat) : Int))) ∧ H6 D = some (.lst ((Pm.bump (Pm.told pence ws) (((Pm.order pence ws).take m).take i)).map V.int)))
            ⟨none, rfl, (LamX.ExtN.of sH4).trans (e5.trans (.of s6)), t5.ext s6, upd_same, s6 _ _ hD5⟩ (fun i σ H6 _ p => ?_) (fun i x σ H6 H7 hi p y => ?_) (fun σ H6 p => ?_)
          · obtain ⟨_, _, _, _, eC, _⟩ := p
            exact SqL.of eC
          · obtain ⟨y7, rfl, e6, t6, eC, eD6⟩ := p
            obtain ⟨rfl, ex⟩ := y
            rw [List.length_map] at hi
            rw [List.getElem?_map, List.getElem?_eq_getElem hi] at ex
            have ex := (Option.some.inj ex).symm
            subst ex
            have hj : ((Pm.order pence ws).take m)[i] < ws.length := Pm.order_lt (List.mem_of_mem_take (List.getElem_mem hi))
            generalize hjj : ((Pm.order pence ws).take m)[i] = j at hj
            have hjl : j < (Pm.bump (Pm.told pence ws) (((Pm.order pence ws).take m).take i)).length := by rw [Pm.bump_len, Pm.told_len]; exact hj
            have gj : ((Pm.bump (Pm.told pence ws) (((Pm.order pence ws).take m).take i)).map V.int)[j]? = some (.int ((Pm.bump (Pm.told pence ws) (((Pm.order pence ws).take m).take i)).getD j 0)) := by
              rw [List.getElem?_map, List.getD_eq_getElem?_getD, List.getElem?_eq_getElem hjl]
              rfl
            refine ⟨.ref D, rfl, .int j, rfl, D, _, j, _, rfl, rfl, eD6, gj, _, 1, rfl, rfl, D, _, j, j, rfl, rfl, eD6, ?_, ?_⟩
            · unfold ixN
              rw [List.length_map, if_pos (by omega), if_pos (by omega)]
              rfl
            · refine ⟨some (.int j), rfl, ?_, tab_lst t6 eD6, ?_, ?_⟩
              · intro b o hb nt
                have nb : b ≠ D := fun z => by
                  subst z
                  rw [nD] at hb
                  cases hb
                rw [upd_ne nb]
                exact e6 b o hb nt
              · rw [upd_ne nDC.symm]
                exact eC
              · have e1 : ((Pm.order pence ws).take m).take (i + 1) = ((Pm.order pence ws).take m).take i ++ [j] := by
                  rw [List.take_add_one, List.getElem?_eq_getElem hi, hjj]
                  rfl
                rw [upd_same, e1, Pm.bump_snoc, List.map_set]
          · obtain ⟨y7, rfl, e6, t6, eC, eD6⟩ := p
            rw [List.length_map, List.take_of_length_le (Nat.le_refl _)] at eD6
            refine ⟨.ref D, rfl, q _ D e6 t6 nD ?_⟩
            have : Pm.partsM pence ws = Pm.bump (Pm.told pence ws) ((Pm.order pence ws).take m) := by
              unfold Pm.partsM
              rw [if_neg (by omega), em2]
            rw [this]
            exact eD6
end
end Th
namespace Th
open PySem PySem.Spec PyProof.Rows L2
/-! the law's own parts -/
theorem gd_map {rs : List Int} {i : Nat} (h : i < rs.length) : (rs.map V.int)[i]? = some (.int (rs.getD i 0)) := by
  rw [List.getElem?_map, List.getD_eq_getElem?_getD, List.getElem?_eq_getElem h]
  rfl
def ahL (rs : List Int) (j i : Nat) : List Nat := (List.range i).filter fun k => Pm.isAhead rs k j
theorem ahL_yes {rs : List Int} {j i : Nat} (h : rs.getD j 0 < rs.getD i 0 ∨ (rs.getD i 0 = rs.getD j 0 ∧ i < j)) : ahL rs j (i + 1) = ahL rs j i ++ [i] := by
  unfold ahL
  rw [List.range_succ, List.filter_append]
  congr 1
  have : Pm.isAhead rs i j = true := decide_eq_true h
  simp [this]
theorem ahL_no {rs : List Int} {j i : Nat} (h : ¬ (rs.getD j 0 < rs.getD i 0 ∨ (rs.getD i 0 = rs.getD j 0 ∧ i < j))) : ahL rs j (i + 1) = ahL rs j i := by
  unfold ahL
  rw [List.range_succ, List.filter_append]
  have : Pm.isAhead rs i j = false := decide_eq_false h
  simp [this]
theorem ahL_len (rs : List Int) (j i : Nat) : (ahL rs j i).length ≤ i := by
  unfold ahL
  exact Nat.le_trans (List.length_filter_le _ _) (by rw [List.length_range]; exact Nat.le_refl _)
section
variable {P : Program} {w : World} {K : PySem.W.Frag} {mg : Str → Option Value} {base : Heap} {k : Nat}
def sp_l_ahead_of (K : PySem.W.Frag) : Sp := fun vs H Q _ => ∃ (a : Addr) (rs : List Int) (j : Nat), vs = [.ref a, .int j] ∧ SqL K H a (rs.map V.int) ∧ rs.length ≤ 1000 ∧ j < rs.length ∧ ∀ H', Same H H' → Q (.int (Pm.aheadOf rs j : Nat)) H'
theorem ok_l_ahead_of (T : Defs K mg) : FnOk P w K mg base CX0 (k + 1) T.a_l_ahead_of T.d_l_ahead_of ["_law_rests", "_law_at"] (sp_l_ahead_of K) := by
  refine T.F_l_ahead_of.ok sc_l_ahead_of (fun vs H Q E h => ?_) (fun cdv A outer s H vs Q E hr h => ?_)
  · obtain ⟨a, rs, j, rfl, _⟩ := h
    rfl
  · obtain ⟨a, rs, j, rfl, hS, hlen, hj, q⟩ := h
    refine ⟨_, PSs.nox
(pss_one (ps_ret (pe_callB call_len_seq (by rfl) T.z_len (by decide +kernel) (pa_cons (pe_lc (own := [("_law_k", 2), ("_law_rest", 3)]) (g := gTup K 2 (gCons (gName 2) (gCons (gName 3) gNil))) rfl sc_l_ahead_of.nd (pi_enum (by rfl) T.z_enumerate (pa_cons (pv 0) pa_nil)) (blkOk_by (N := N_l_ahead_of) (sc := defScope s_l_ahead_of) (by decide +kernel)) (fun _ _ _ _ _ => (pg_tup rfl (pgs_cons (pg_name (i := 2) sc_l_ahead_of.nd rfl (.inl rfl)) (pgs_cons (pg_name (i := 3) sc_l_ahead_of.nd rfl (.inl rfl)) pgs_nil)))) (fun _ _ _ _ _ => pts_one (PW.pt (pw_or (pt_cmpR op_gt (pv 3) (pe_ix (r := rIxL K) ix_list (pv 0) (pv 1) (fun _ _ => rfl)) (nomark _)) (pw_or1 (PW.pt (pw_and (pt_cmpR op_eq (pv 3) (pe_ix (r := rIxL K) ix_list (pv 0) (pv 1) (fun _ _ => rfl)) (nomark _)) (pw_and1 (pt_cmpR op_lt (pv 2) (pv 1) (nomark _))))))))) (fun _ _ _ _ _ => (pv 2))) pa_nil))))
      , ?_⟩
    refine ⟨.ref a, rfl, a, _, rfl, hS, fun D nD => ?_⟩
    refine lc_it (walk_enum (xs := rs.map V.int)) (fun i H3 => Same H H3 ∧ H3 D = some (.lst ((ahL rs j i).map fun k => V.int ((k : Nat) : Int)))) ⟨same_upd nD, upd_same⟩ (fun i H3 _ p => p.1.seq hS) (fun i x H3 H4 hi p y => ?_) (fun H3 p => ?_)
    · obtain ⟨t1, x1, y1, rfl, nT, rfl, e1, e2⟩ := y
      rw [List.length_map] at hi
      have ex : x1 = .int (i : Int) := (Option.some.inj e1).symm
      have ey : y1 = .int (rs.getD i 0) := Option.some.inj ((show (rs.map V.int)[i]? = some y1 from e2).symm.trans (gd_map hi))
      subst ex ey
      have eL := same_upd (o := .tup [.int (i : Int), .int (rs.getD i 0)]) nT _ _ p.2
      have sL := p.1.trans (same_upd (o := .tup [.int (i : Int), .int (rs.getD i 0)]) nT)
      have hS4 := sL.seq hS
      have yes : (rs.getD j 0 < rs.getD i 0 ∨ (rs.getD i 0 = rs.getD j 0 ∧ i < j)) → ∃ acc, (upd H3 t1 (.tup [.int (i : Int), .int (rs.getD i 0)])) D = some (.lst acc) ∧ acc.length < sizeLine ∧
          (Same H (upd (upd H3 t1 (.tup [.int (i : Int), .int (rs.getD i 0)])) D (.lst (acc ++ [.int (i : Int)]))) ∧ (upd (upd H3 t1 (.tup [.int (i : Int), .int (rs.getD i 0)])) D (.lst (acc ++ [.int (i : Int)]))) D = some (.lst ((ahL rs j (i + 1)).map fun k => V.int ((k : Nat) : Int)))) := fun h => by
        refine ⟨_, eL, ?_, fun b o eb => ?_, ?_⟩
        · rw [List.length_map]
          exact small5000 (Nat.le_trans (ahL_len _ _ _) (by omega))
        · rw [upd_ne (ne_of_none eb nD)]
          exact sL _ _ eb
        · rw [upd_same, ahL_yes h, List.map_append]
          rfl
      have no : ¬ (rs.getD j 0 < rs.getD i 0 ∨ (rs.getD i 0 = rs.getD j 0 ∧ i < j)) → Same H (upd H3 t1 (.tup [.int (i : Int), .int (rs.getD i 0)])) ∧ (upd H3 t1 (.tup [.int (i : Int), .int (rs.getD i 0)])) D = some (.lst ((ahL rs j (i + 1)).map fun k => V.int ((k : Nat) : Int))) := fun h => by
        rw [ahL_no h]
        exact ⟨sL, eL⟩
      refine ⟨t1, _, rfl, SqT.of upd_same, rfl, .int (i : Int), _, rfl, .int (rs.getD i 0), [], rfl, rfl, rfl, ?_⟩
      refine ⟨.int (rs.getD i 0), rfl, .ref a, rfl, .int j, rfl, a, _, (j : Int), _, rfl, rfl, hS4, atI_nat (gd_map hj), _, _, rfl, rfl, _, rfl, ite2 (fun e => ?_) (fun e => ?_)⟩
      · have e := of_decide_eq_true e
        exact iteT ⟨.int (i : Int), rfl, yes (.inl e)⟩
      · have e : ¬ rs.getD j 0 < rs.getD i 0 := fun z => e (decide_eq_true z)
        refine ⟨.int (rs.getD i 0), rfl, .ref a, rfl, .int j, rfl, a, _, (j : Int), _, rfl, rfl, hS4, atI_nat (gd_map hj), rfl, _, rfl, ite2 (fun e2 => ?_) (fun e2 => ?_)⟩
        · have e2 : rs.getD i 0 = rs.getD j 0 := V.int.inj (of_decide_eq_true e2)
          refine ⟨.int (i : Int), rfl, .int j, rfl, _, _, rfl, rfl, _, rfl, ?_⟩
          by_cases h : i < j
          · rw [decide_eq_true (show (i : Int) < (j : Int) by omega)]
            exact iteT ⟨.int (i : Int), rfl, yes (.inr ⟨e2, h⟩)⟩
          · rw [decide_eq_false (show ¬ (i : Int) < (j : Int) by omega)]
            exact iteF (no (by omega))
        · have e2 : ¬ rs.getD i 0 = rs.getD j 0 := fun z => e2 (decide_eq_true (congrArg V.int z))
          exact iteF (no (by omega))
    · refine ⟨D, _, rfl, .inl (SqL.of p.2), ?_⟩
      rw [List.length_map, List.length_map]
      exact q _ p.1
def sp_l_parts (K : PySem.W.Frag) : Sp := fun vs H Q _ => ∃ (pence : Int) (a : Addr) (ws : List Int), vs = [.int pence, .ref a] ∧ SqL K H a (ws.map V.int) ∧ ws.length ≤ 1000 ∧ 0 ≤ pence ∧ pence < 2 ^ 63 ∧ (∀ w ∈ ws, 0 ≤ w ∧ w < 2 ^ 63) ∧ 0 < ws.sum ∧
  ∀ H' p, Same H H' → H p = none → H' p = some (.lst ((Pm.lawParts pence ws).map V.int)) → Q (.ref p) H'
def lpL (pence : Int) (ws : List Int) (i : Nat) : List Int := (List.range i).map fun j => (Pm.told pence ws).getD j 0 + (if (Pm.aheadOf (Pm.rests pence ws) j : Int) < Pm.left pence ws then 1 else 0)
set_option maxHeartbeats 8000000 in
theorem ok_l_parts (T : Defs K mg) : FnOk P w K mg base CX0 (k + 2) T.a_l_parts T.d_l_parts ["_law_pence", "_law_weights"] (sp_l_parts K) := by
  have G_l_ahead_of : FnOk P w K mg base CX0 (k + 1) _ _ _ _ := ok_l_ahead_of T
  refine T.F_l_parts.ok sc_l_parts (fun vs H Q E h => ?_) (fun cdv A outer s H vs Q E hr h => ?_)
  · obtain ⟨p, a, ws, rfl, _⟩ := h
    rfl
  · obtain ⟨pence, a, ws, rfl, hS, hlen, p0, p1, hw, hW, q⟩ := h
    obtain ⟨W0, W1⟩ := sum_lt ws hw
    have lenV : (ws.map V.int).length = ws.length := List.length_map _
    have wd : CDivW 0 ws.sum := wide_ok hW (by omega)
    refine ⟨_, PSs.nox
(pss_cons (ps_set (i := 2) sc_l_parts.nd rfl (.inr rfl) (pe_callB (cr_sum rfl) (by rfl) T.z_sum (by decide +kernel) (pa_cons (pv 1) pa_nil)))
    (pss_cons (ps_setLc (i := 3) (own := [("_law_weight", 6)]) (g := gName 6) rfl sc_l_parts.nd rfl rfl (sw_true rfl rfl rfl (by decide +kernel)) (pi_list (pv 1)) (blkOk_by (N := N_l_parts) (sc := defScope s_l_parts) (by decide +kernel)) (fun _ _ _ _ _ => (pg_name (i := 6) sc_l_parts.nd rfl (.inl rfl))) (fun _ _ _ _ _ => pts_nil) (fun _ _ _ _ _ => (pe_op op_fdivW (pe_op op_mul (pv 0) (pv 6)) (pv 2))))
    (pss_cons (ps_set (i := 4) sc_l_parts.nd rfl (.inr rfl) (pe_op op_sub (pv 0) (pe_callB (cr_sum rfl) (by rfl) T.z_sum (by decide +kernel) (pa_cons (pv 3) pa_nil))))
    (pss_cons (ps_set (i := 5) sc_l_parts.nd rfl (.inr rfl) (pe_lc (own := [("_law_weight", 6)]) (g := gName 6) rfl sc_l_parts.nd (pi_list (pv 1)) (blkOk_by (N := N_l_parts) (sc := defScope s_l_parts) (by decide +kernel)) (fun _ _ _ _ _ => (pg_name (i := 6) sc_l_parts.nd rfl (.inl rfl))) (fun _ _ _ _ _ => pts_nil) (fun _ _ _ _ _ => (pe_op op_mod (pe_op op_mul (pv 0) (pv 6)) (pv 2)))))
    (pss_one (ps_ret (pe_lc (own := [("_law_at", 7), ("_law_one", 8)]) (g := gTup K 2 (gCons (gName 7) (gCons (gName 8) gNil))) rfl sc_l_parts.nd (pi_enum (by rfl) T.z_enumerate (pa_cons (pv 3) pa_nil)) (blkOk_by (N := N_l_parts) (sc := defScope s_l_parts) (by decide +kernel)) (fun _ _ _ _ _ => (pg_tup rfl (pgs_cons (pg_name (i := 7) sc_l_parts.nd rfl (.inl rfl)) (pgs_cons (pg_name (i := 8) sc_l_parts.nd rfl (.inl rfl)) pgs_nil)))) (fun _ _ _ _ _ => pts_nil) (fun _ _ _ _ _ => (pe_op op_add (pv 8) (pe_callTy call_int1 (by rfl) T.z_int (by decide +kernel) (pa_cons (pe_cmpR op_lt (pe_call G_l_ahead_of hr (by rfl) T.g_l_ahead_of T.F_l_ahead_of.kp T.b_l_ahead_of .nil pass0 (pa_cons (pv 5) (pa_cons (pv 7) pa_nil))) (pv 4) (nomark _)) pa_nil)))))))))))
      , ?_⟩
    refine ⟨.ref a, rfl, a, ws, rfl, hS, ?_⟩
    -- found
    refine ⟨.ref a, rfl, a, rfl, ⟨_, hS⟩, fun D nD => ?_⟩
    refine lc_it (walk_list (xs := ws.map V.int)) (fun i H3 => Same H H3 ∧ H3 D = some (.lst (((Pm.told pence ws).take i).map V.int))) ⟨same_upd nD, upd_same⟩ (fun i H3 _ p => p.1.seq hS) (fun i x H3 H4 hi p y => ?_) (fun H3 p => ?_)
    · obtain ⟨rfl, ex⟩ := y
      rw [lenV] at hi
      rw [List.getElem?_map, List.getElem?_eq_getElem hi] at ex
      have ex : x = .int ws[i] := (Option.some.inj ex).symm
      subst ex
      have hm := hw ws[i] (List.getElem_mem hi)
      refine ⟨rfl, yes_ ?_⟩
      refine ⟨.int pence, rfl, .int ws[i], rfl, pence, ws[i], rfl, rfl, .inl ⟨by omega, by omega⟩, .int ws.sum, rfl, _, ws.sum, rfl, rfl, wd, _, p.2, ?_, fun b o eb => ?_, ?_⟩
      · rw [List.length_map, List.length_take]
        exact small5000 (by omega)
      · rw [upd_ne (ne_of_none eb nD)]
        exact p.1 _ _ eb
      · rw [upd_same, List.take_add_one]
        have : (Pm.told pence ws)[i]? = some (pence * ws[i] / ws.sum) := by
          unfold Pm.told
          rw [List.getElem?_map, List.getElem?_eq_getElem hi]
          rfl
        rw [this, List.map_append]
        rfl
    · obtain ⟨s3, eD⟩ := p
      rw [lenV, List.take_of_length_le (by rw [Pm.told_len]; exact Nat.le_refl _)] at eD
      -- left
      refine ⟨.int pence, rfl, .ref D, rfl, D, _, rfl, SqL.of eD, pence, _, rfl, rfl, ?_⟩
      -- rests
      refine ⟨.ref a, rfl, a, rfl, ⟨_, s3.seq hS⟩, fun R nR => ?_⟩
      refine lc_it (walk_list (xs := ws.map V.int)) (fun i H4 => Same H3 H4 ∧ H4 R = some (.lst (((Pm.rests pence ws).take i).map V.int))) ⟨same_upd nR, upd_same⟩ (fun i H4 _ p => p.1.seq (s3.seq hS)) (fun i x H4 H5 hi p y => ?_) (fun H4 p => ?_)
      · obtain ⟨rfl, ex⟩ := y
        rw [lenV] at hi
        rw [List.getElem?_map, List.getElem?_eq_getElem hi] at ex
        have ex : x = .int ws[i] := (Option.some.inj ex).symm
        subst ex
        have hm := hw ws[i] (List.getElem_mem hi)
        refine ⟨rfl, yes_ ?_⟩
        refine ⟨.int pence, rfl, .int ws[i], rfl, pence, ws[i], rfl, rfl, .inl ⟨by omega, by omega⟩, .int ws.sum, rfl, _, ws.sum, rfl, rfl, hW, _, p.2, ?_, fun b o eb => ?_, ?_⟩
        · rw [List.length_map, List.length_take]
          exact small5000 (by omega)
        · rw [upd_ne (ne_of_none eb nR)]
          exact p.1 _ _ eb
        · rw [upd_same, List.take_add_one]
          have : (Pm.rests pence ws)[i]? = some (pence * ws[i] % ws.sum) := by
            unfold Pm.rests
            rw [List.getElem?_map, List.getElem?_eq_getElem hi]
            rfl
          rw [this, List.map_append]
          rfl
      · obtain ⟨s4, eR⟩ := p
        rw [lenV, List.take_of_length_le (by rw [Pm.rests_len]; exact Nat.le_refl _)] at eR
        have eD4 := s4 _ _ eD
        have sH4 := s3.trans s4
        -- the list told
        refine ⟨.ref D, rfl, D, _, rfl, SqL.of eD4, fun M nM => ?_⟩
        refine lc_it (walk_enum (xs := (Pm.told pence ws).map V.int)) (fun i H5 => Same H4 H5 ∧ H5 M = some (.lst ((lpL pence ws i).map V.int))) ⟨same_upd nM, upd_same⟩ (fun i H5 _ p => SqL.of (p.1 _ _ eD4)) (fun i x H5 H6 hi p y => ?_) (fun H5 p => ?_)
        · obtain ⟨t1, x1, y1, rfl, nT, rfl, e1, e2⟩ := y
          rw [List.length_map, Pm.told_len] at hi
          have ex : x1 = .int (i : Int) := (Option.some.inj e1).symm
          have ey : y1 = .int ((Pm.told pence ws).getD i 0) := Option.some.inj ((show ((Pm.told pence ws).map V.int)[i]? = some y1 from e2).symm.trans (gd_map (by rw [Pm.told_len]; exact hi)))
          subst ex ey
          have sL := p.1.trans (same_upd (o := .tup [.int (i : Int), .int ((Pm.told pence ws).getD i 0)]) nT)
          have eM := same_upd (o := .tup [.int (i : Int), .int ((Pm.told pence ws).getD i 0)]) nT _ _ p.2
          refine ⟨t1, _, rfl, SqT.of upd_same, rfl, .int (i : Int), _, rfl, .int ((Pm.told pence ws).getD i 0), [], rfl, rfl, rfl, yes_ ?_⟩
          refine ⟨.int ((Pm.told pence ws).getD i 0), rfl, .ref R, rfl, .int (i : Int), rfl, R, Pm.rests pence ws, i, rfl, SqL.of (sL _ _ eR), by rw [Pm.rests_len]; exact hlen, by rw [Pm.rests_len]; exact hi, fun H7 s7 => ?_⟩
          refine ⟨.int (pence - (Pm.told pence ws).sum), rfl, _, _, rfl, rfl, .inr ⟨_, rfl, (Pm.told pence ws).getD i 0, _, rfl, rfl, _, s7 _ _ eM, ?_, fun b o eb => ?_, ?_⟩⟩
          · rw [List.length_map]
            unfold lpL
            rw [List.length_map, List.length_range]
            exact small5000 (by omega)
          · rw [upd_ne (ne_of_none eb nM)]
            exact s7 _ _ (sL _ _ eb)
          · have : lpL pence ws (i + 1) = lpL pence ws i ++ [(Pm.told pence ws).getD i 0 + (if (Pm.aheadOf (Pm.rests pence ws) i : Int) < Pm.left pence ws then 1 else 0)] := by
              unfold lpL
              rw [List.range_succ, List.map_append]
              rfl
            rw [upd_same, this, List.map_append]
            congr 3
            show [V.int (_ + if decide ((Pm.aheadOf (Pm.rests pence ws) i : Int) < Pm.left pence ws) = true then 1 else 0)] = _
            simp only [decide_eq_true_eq]
            rfl
        · rw [List.length_map, Pm.told_len] at p
          exact q _ M (sH4.trans p.1) (sH4.free nM) p.2
end
end Th
namespace Th
open PySem PySem.Spec PyProof.Rows L2
section
variable {P : Program} {w : World} {K : PySem.W.Frag} {mg : Str → Option Value} {base : Heap} {k : Nat}
theorem ok_l_bag (T : Defs K mg) : FnOk P w K mg base CX0 (k + 1) T.a_l_bag T.d_l_bag ["_law_script", "_law_at"] (sp_bag K) := by
  refine T.F_l_bag.ok sc_l_bag (fun vs H Q E h => ?_) (fun cdv A outer s H vs Q E hr h => ?_)
  · obtain ⟨a, ns, i, rfl, _⟩ := h
    rfl
  · obtain ⟨a, ns, i, rfl, hS, hi, q⟩ := h
    refine ⟨_, PSs.nox
(pss_cons (ps_set (i := 2) sc_l_bag.nd rfl (.inl rfl) (pe_int))
    (pss_cons (ps_if (pt_cmpR op_lt (pv 1) (pe_callB call_len_seq (by rfl) T.z_len (by decide +kernel) (pa_cons (pv 0) pa_nil)) (nomark _))
      (pss_one (ps_set (i := 2) sc_l_bag.nd rfl (.inl rfl) (pe_ix (r := rIxL K) ix_list (pv 0) (pv 1) (fun _ _ => rfl))))
      pss_nil)
    (pss_cons (ps_set (i := 3) sc_l_bag.nd rfl (.inl rfl) (pe_int))
    (pss_cons (ps_if (pt_cmpR op_ge (pe_callB call_abs (by rfl) T.z_abs (by decide +kernel) (pa_cons (pv 2) pa_nil)) (pe_op op_pow (pe_int) (pe_int)) (nomark _))
      (pss_one (ps_set (i := 3) sc_l_bag.nd rfl (.inl rfl) (pe_callB call_abs (by rfl) T.z_abs (by decide +kernel) (pa_cons (pv 2) pa_nil))))
      pss_nil)
    (pss_cons (ps_set (i := 4) sc_l_bag.nd rfl (.inl rfl) (pe_lst (pa_cons (pe_int) (pa_cons (pe_int) (pa_cons (pe_int) (pa_cons (pe_int) (pa_cons (pe_int) (pa_cons (pe_int) (pa_cons (pe_int) (pa_cons (pe_int) pa_nil))))))))))
    (pss_one (ps_ret (pe_lst (pa_cons (pv 3) (pa_cons (pe_op op_mod (pe_op op_pow (pe_op op_add (pe_op op_add (pe_op op_mod (pv 2) (pe_int)) (pe_op op_mul (pe_int) (pv 1))) (pe_int)) (pe_int)) (pe_ix (r := rIxL K) ix_list (pv 4) (pe_op op_mod (pv 1) (pe_int)) (fun _ _ => rfl))) pa_nil))))))))))
      , ?_⟩
    obtain ⟨pr, hp, hp0, hp1⟩ := primes_at i
    have fin : ∀ (c g : Int), 0 ≤ g → ∀ l, H l = none → ∀ H1, H1 = upd H l (.lst [V.int 2147483629, .int 2147483587, .int 2147483579, .int 2147483563, .int 2147483549, .int 2147483543, .int 2147483497, .int 2147483489]) →
        ∀ p, H1 p = none → Q (.ref p) (upd H1 p (.lst [.int g, .int ((c % 2147483647 + 104729 * (i : Int) + 7) ^ (5 : Int).toNat % pr)])) := by
      intro c g hg l nl H1 e p np
      have s1 : Same H H1 := by rw [e]; exact same_upd nl
      exact q _ p (s1.trans (same_upd np)) (s1.free np) ⟨g, _, upd_same, hg, Int.emod_nonneg _ (by omega), Int.lt_trans (Int.emod_lt_of_pos _ hp0) hp1⟩
    refine ⟨.int i, rfl, .ref a, rfl, a, ns.map V.int, rfl, .inl hS, _, _, rfl, rfl, _, rfl, ite2 (fun e => ?_) (fun e => ?_)⟩
    · have lt : i < ns.length := by
        have := of_decide_eq_true e
        rw [List.length_map] at this
        omega
      have g1 : (ns.map V.int)[i]? = some (.int ns[i]) := by
        rw [List.getElem?_map, List.getElem?_eq_getElem lt]
        rfl
      refine ⟨.ref a, rfl, .int i, rfl, a, _, (i : Int), .int ns[i], rfl, rfl, hS, atI_nat g1, ?_⟩
      refine ⟨.int ns[i], rfl, _, rfl, 10, 18, rfl, rfl, ⟨by decide, by decide, by decide⟩, _, _, rfl, rfl, _, rfl, ite2 (fun e => ?_) (fun e => ?_)⟩
      · refine ⟨.int ns[i], rfl, _, rfl, ?_⟩
        refine ⟨by show 8 ≤ sizeLine; decide, fun l nl => ?_⟩
        refine ⟨_, rfl, .int ns[i], rfl, ns[i], 2147483647, rfl, rfl, pA, .int i, rfl, 104729, i, rfl, rfl, .inl ⟨by decide, by decide⟩, _, _, rfl, rfl, _, 7, rfl, rfl, _, 5, rfl, rfl, ⟨by decide, by decide, ?_⟩, .ref l, rfl, .int i, rfl, i, 8, rfl, rfl, p8, l, _, _, _, rfl, rfl, SqL.of upd_same, hp, _, pr, rfl, rfl, hp0, by show 2 ≤ sizeLine; decide, fin ns[i] _ ?_ l nl _ rfl⟩
        · omega
        · split <;> omega
      · refine ⟨by show 8 ≤ sizeLine; decide, fun l nl => ?_⟩
        refine ⟨_, rfl, .int ns[i], rfl, ns[i], 2147483647, rfl, rfl, pA, .int i, rfl, 104729, i, rfl, rfl, .inl ⟨by decide, by decide⟩, _, _, rfl, rfl, _, 7, rfl, rfl, _, 5, rfl, rfl, ⟨by decide, by decide, ?_⟩, .ref l, rfl, .int i, rfl, i, 8, rfl, rfl, p8, l, _, _, _, rfl, rfl, SqL.of upd_same, hp, _, pr, rfl, rfl, hp0, by show 2 ≤ sizeLine; decide, fin ns[i] 0 (by decide) l nl _ rfl⟩
        omega
    · refine ⟨.int 0, rfl, _, rfl, 10, 18, rfl, rfl, ⟨by decide, by decide, by decide⟩, _, _, rfl, rfl, _, rfl, ite2 (fun e => ?_) (fun e => ?_)⟩
      · exact absurd (of_decide_eq_true e) (by decide)
      · refine ⟨by show 8 ≤ sizeLine; decide, fun l nl => ?_⟩
        refine ⟨_, rfl, .int 0, rfl, 0, 2147483647, rfl, rfl, pA, .int i, rfl, 104729, i, rfl, rfl, .inl ⟨by decide, by decide⟩, _, _, rfl, rfl, _, 7, rfl, rfl, _, 5, rfl, rfl, ⟨by decide, by decide, ?_⟩, .ref l, rfl, .int i, rfl, i, 8, rfl, rfl, p8, l, _, _, _, rfl, rfl, SqL.of upd_same, hp, _, pr, rfl, rfl, hp0, by show 2 ≤ sizeLine; decide, fin 0 0 (by decide) l nl _ rfl⟩
        omega
theorem ok_l_take (T : Defs K mg) : FnOk P w K mg base CX0 (k + 1) T.a_l_take T.d_l_take ["_law_bag_here", "_law_many"] sp_take := by
  refine T.F_l_take.ok sc_l_take (fun vs H Q E h => ?_) (fun cdv A outer s H vs Q E hr h => ?_)
  · obtain ⟨p, m, rfl, _⟩ := h
    rfl
  · obtain ⟨p, m, rfl, ⟨g, r, hp, g0, r0, r1⟩, m0, m1, q⟩ := h
    refine ⟨_, PSs.nox
(pss_cons (ps_if (pt_cmpR op_gt (pe_ix (r := rIxL K) ix_list (pv 0) (pe_int) (fun _ _ => rfl)) (pe_int) (nomark _))
      (pss_cons (ps_set (i := 2) sc_l_take.nd rfl (.inl rfl) (pe_op op_mod (pe_ix (r := rIxL K) ix_list (pv 0) (pe_int) (fun _ _ => rfl)) (pv 1)))
      (pss_cons (ps_asg (pe_op op_fdiv (pe_ix (r := rIxL K) ix_list (pv 0) (pe_int) (fun _ _ => rfl)) (pv 1)) (pg_sub (pv 0) (pe_int) set_list))
      (pss_one (ps_ret (pv 2)))))
      pss_nil)
    (pss_cons (ps_asg (pe_op op_mod (pe_op op_add (pe_op op_mul (pe_ix (r := rIxL K) ix_list (pv 0) (pe_int) (fun _ _ => rfl)) (pe_int)) (pe_int)) (pe_int)) (pg_sub (pv 0) (pe_int) set_list))
    (pss_one (ps_ret (pe_op op_mod (pe_op op_mod (pe_op op_pow (pe_op op_fdiv (pe_ix (r := rIxL K) ix_list (pv 0) (pe_int) (fun _ _ => rfl)) (pe_int)) (pe_int)) (pe_int)) (pv 1))))))
      , ?_⟩
    refine ⟨.ref p, rfl, p, _, 0, .int g, rfl, rfl, SqL.of hp, atI_nat (j := 0) rfl, _, 0, rfl, rfl, _, rfl, ite2 (fun e => ?_) (fun e => ?_)⟩
    · refine ⟨.ref p, rfl, p, _, 0, .int g, rfl, rfl, SqL.of hp, atI_nat (j := 0) rfl, .int m, rfl, g, m, rfl, rfl, m0, ?_⟩
      refine ⟨.ref p, rfl, p, _, 0, .int g, rfl, rfl, SqL.of hp, atI_nat (j := 0) rfl, .int m, rfl, g, m, rfl, rfl, ⟨m0, m1⟩, .ref p, rfl, p, _, 0, 0, rfl, rfl, hp, rfl, ?_⟩
      refine ⟨_, rfl, q _ _ Keep.upd ⟨_, _, upd_same, ?_, r0, r1⟩ (Int.emod_nonneg _ (by omega)) (Int.emod_lt_of_pos _ m0)⟩
      exact Int.ediv_nonneg g0 (by omega)
    · refine ⟨.ref p, rfl, p, _, 1, .int r, rfl, rfl, SqL.of hp, atI_nat (j := 1) rfl, r, 48271, rfl, rfl, .inr ⟨by decide, by decide⟩, _, 11, rfl, rfl, _, 2147483647, rfl, rfl, pA, .ref p, rfl, p, _, 1, 1, rfl, rfl, hp, rfl, ?_⟩
      have hz0 : 0 ≤ (r * 48271 + 11) % 2147483647 := Int.emod_nonneg _ (by decide)
      have hz1 : (r * 48271 + 11) % 2147483647 < 2147483647 := Int.emod_lt_of_pos _ (by decide)
      refine ⟨.ref p, rfl, p, _, 1, _, rfl, rfl, SqL.of upd_same, atI_nat (j := 1) rfl, (r * 48271 + 11) % 2147483647, 8, rfl, rfl, ⟨by decide, by decide⟩, _, 3, rfl, rfl, ⟨by decide, by decide, ?_⟩, _, 2147483629, rfl, rfl, pB, .int m, rfl, _, m, rfl, rfl, m0, ?_⟩
      · omega
      · exact q _ _ Keep.upd ⟨_, _, upd_same, g0, hz0, by omega⟩ (Int.emod_nonneg _ (by omega)) (Int.emod_lt_of_pos _ m0)
end
section
variable {P : Program} {w : World} {K : PySem.W.Frag} {mg : Str → Option Value} {base : Heap} {k : Nat}
theorem ok_l_like (T : Defs K mg) : ∀ n : Nat, FnOk P w K mg base CX0 n T.a_l_like T.d_l_like ["_law_told", "_law_due"] (sp_like n) := by
  intro n
  induction n with
  | zero =>
    exact ⟨fun vs H Q E ⟨v, u, d, _, _, _, _, z, _⟩ => absurd z (Nat.not_lt_zero _), fun A outer s H args us vs Q E _ _ _ _ ⟨v, u, d, _, _, _, _, z, _⟩ => absurd z (Nat.not_lt_zero _)⟩
  | succ n ih =>
  have G_l_like := ih
  refine T.F_l_like.ok sc_l_like (fun vs H Q E h => ?_) (fun cdv A outer s H vs Q E hr h => ?_)
  · obtain ⟨v, u, d, rfl, _⟩ := h
    rfl
  · obtain ⟨v, u, d, rfl, hv, hu, hlay, hdep, hn, q⟩ := h
    refine ⟨_, PSs.nox
(pss_cons (ps_if (PW.pt (pw_or (pt_cmpR op_ne (pe_callB call_isi (by rfl) T.z_isinstance (by decide +kernel) (pa_cons (pv 0) (pa_cons (pe_bltn (v := .ty "bool") (by rfl) T.z_bool (by decide +kernel) rfl) pa_nil))) (pe_callB call_isi (by rfl) T.z_isinstance (by decide +kernel) (pa_cons (pv 1) (pa_cons (pe_bltn (v := .ty "bool") (by rfl) T.z_bool (by decide +kernel) rfl) pa_nil))) (nomark _)) (pw_or1 (pt_cmpR (r := rNeD K) (op_neD hr.units) (pv 0) (pv 1) (nomark _)))))
      (pss_one (ps_ret (pe_bl)))
      pss_nil)
    (pss_cons (ps_if (pt_val (pe_callB call_isiT (by rfl) T.z_isinstance (by decide +kernel) (pa_cons (pv 0) (pa_cons (pe_tup (pa_cons (pe_bltn (v := .ty "list") (by rfl) T.z_list (by decide +kernel) rfl) (pa_cons (pe_bltn (v := .ty "tuple") (by rfl) T.z_tuple (by decide +kernel) rfl) pa_nil))) pa_nil))))
      (pss_one (ps_ret (pe_callB (cr_all rfl) (by rfl) T.z_all (by decide +kernel) (pa_cons (pe_lc (own := [("_law_one", 2), ("_law_other", 3)]) (g := gTup K 2 (gCons (gName 2) (gCons (gName 3) gNil))) rfl sc_l_like.nd (RZ.pi_zipA (by rfl) T.z_zip (pa_cons (pv 0) (pa_cons (pv 1) pa_nil))) (blkOk_by (N := N_l_like) (sc := defScope s_l_like) (by decide +kernel)) (fun _ _ _ _ _ => (pg_tup rfl (pgs_cons (pg_name (i := 2) sc_l_like.nd rfl (.inl rfl)) (pgs_cons (pg_name (i := 3) sc_l_like.nd rfl (.inl rfl)) pgs_nil)))) (fun _ _ _ _ _ => pts_nil) (fun _ _ _ _ _ => (pe_call G_l_like hr (by rfl) T.g_l_like T.F_l_like.kp T.b_l_like .nil pass0 (pa_cons (pv 2) (pa_cons (pv 3) pa_nil))))) pa_nil))))
      pss_nil)
    (pss_one (ps_ret (pe_bl)))))
      , ?_⟩
    have hsh : SeqAt.shaped d = true := Bool.and_eq_true_iff.mpr ⟨hlay, decide_eq_true (by omega)⟩
    refine ⟨v, rfl, v, .ty "bool", _, _, _, rfl, .ty "bool", hv.ty, kit_bool hv, u, rfl, u, .ty "bool", _, _, _, rfl, .ty "bool", hu.ty, kit_bool hu, rfl, _, rfl, iteNS rfl ?_⟩
    refine ⟨v, rfl, u, rfl, d, d, hv.dp, hu.dp, hsh, hsh, _, rfl, ?_⟩
    rw [SeqAt.eqv_refl d hlay]
    refine iteF ?_
    refine ⟨v, rfl, by show 2 ≤ sizeLine; decide, fun t nt => ?_⟩
    have s1 : Same H (upd H t (.tup [.ty "list", .ty "tuple"])) := same_upd nt
    have hv1 := hv.same s1
    have hu1 := hu.same s1
    refine ⟨v, t, [.ty "list", .ty "tuple"], _, _, _, rfl, upd_same, .cons (.ty _) (.cons (.ty _) .nil), hv1.ty, kit_seq hv1, _, rfl, ?_⟩
    generalize upd H t (.tup [.ty "list", .ty "tuple"]) = H1 at s1 hv1 hu1
    cases hv1 with
    | non => exact iteF (q _ s1)
    | bl b => exact iteF (q _ s1)
    | int b => exact iteF (q _ s1)
    | str b => exact iteF (q _ s1)
    | @lst a xs ds _ ea la ra =>
      cases hu1 with
      | @lst b ys _ _ eb lb rb =>
      refine iteT ?_
      have lx := ra.len
      have ly := rb.len
      refine ⟨.ref a, rfl, .ref b, rfl, a, b, xs, ys, rfl, .inl ⟨SqL.of ea, SqL.of eb, fun D nD => ?_⟩⟩
      refine lc_it (walk_zip (n := xs.length) (xs := xs) (ys := ys) (by omega)) (fun i H3 => Same H1 H3 ∧ H3 D = some (.lst (List.replicate i (V.bl true)))) ⟨same_upd nD, upd_same⟩ (fun i H3 _ p => ⟨SqL.of (p.1 _ _ ea), SqL.of (p.1 _ _ eb)⟩) (fun i x H3 H4 hi p y => ?_) (fun H3 p => ?_)
      · obtain ⟨t1, x1, y1, rfl, nT, rfl, e1, e2⟩ := y
        obtain ⟨d1, f1, hd1⟩ := ra.get e1
        obtain ⟨d2, f2, hd2⟩ := rb.get e2
        have e12 : d1 = d2 := Option.some.inj (f1.symm.trans f2)
        subst e12
        have s2 : Same H1 (upd H3 t1 (.tup [x1, y1])) := p.1.trans (same_upd nT)
        refine ⟨t1, [x1, y1], rfl, SqT.of upd_same, rfl, x1, [y1], rfl, y1, [], rfl, rfl, rfl, yes_ ?_⟩
        refine ⟨x1, rfl, y1, rfl, x1, y1, d1, rfl, hd1.same s2, hd2.same s2, lay_mem hlay f1, ?_, by omega, fun H5 s5 => ?_⟩
        · have := depth_mem f1
          rw [PyData.depth] at hdep
          omega
        · have eD : H5 D = some (.lst (List.replicate i (V.bl true))) := s5 _ _ (same_upd nT _ _ p.2)
          refine ⟨_, eD, by rw [List.length_replicate]; exact small5000 (by omega), fun c o e => ?_, ?_⟩
          · rw [upd_ne (ne_of_none e nD)]
            exact s5 _ _ (s2 _ _ e)
          · rw [upd_same, List.replicate_succ']
      · refine ⟨D, List.replicate xs.length true, rfl, SqL.of (by rw [p.2, List.map_replicate]), ?_⟩
        rw [show (List.replicate xs.length true).all id = true from by simp]
        exact q _ (s1.trans p.1)
    | @tup a xs ds _ ea la ra =>
      cases hu1 with
      | @tup b ys _ _ eb lb rb =>
      refine iteT ?_
      have lx := ra.len
      have ly := rb.len
      refine ⟨.ref a, rfl, .ref b, rfl, a, b, xs, ys, rfl, .inr ⟨SqT.of ea, SqT.of eb, fun D nD => ?_⟩⟩
      refine lc_it (walk_zipT (n := xs.length) (xs := xs) (ys := ys) (by omega)) (fun i H3 => Same H1 H3 ∧ H3 D = some (.lst (List.replicate i (V.bl true)))) ⟨same_upd nD, upd_same⟩ (fun i H3 _ p => ⟨SqT.of (p.1 _ _ ea), SqT.of (p.1 _ _ eb)⟩) (fun i x H3 H4 hi p y => ?_) (fun H3 p => ?_)
      · obtain ⟨t1, x1, y1, rfl, nT, rfl, e1, e2⟩ := y
        obtain ⟨d1, f1, hd1⟩ := ra.get e1
        obtain ⟨d2, f2, hd2⟩ := rb.get e2
        have e12 : d1 = d2 := Option.some.inj (f1.symm.trans f2)
        subst e12
        have s2 : Same H1 (upd H3 t1 (.tup [x1, y1])) := p.1.trans (same_upd nT)
        refine ⟨t1, [x1, y1], rfl, SqT.of upd_same, rfl, x1, [y1], rfl, y1, [], rfl, rfl, rfl, yes_ ?_⟩
        refine ⟨x1, rfl, y1, rfl, x1, y1, d1, rfl, hd1.same s2, hd2.same s2, lay_mem hlay f1, ?_, by omega, fun H5 s5 => ?_⟩
        · have := depth_mem f1
          rw [PyData.depth] at hdep
          omega
        · have eD : H5 D = some (.lst (List.replicate i (V.bl true))) := s5 _ _ (same_upd nT _ _ p.2)
          refine ⟨_, eD, by rw [List.length_replicate]; exact small5000 (by omega), fun c o e => ?_, ?_⟩
          · rw [upd_ne (ne_of_none e nD)]
            exact s5 _ _ (s2 _ _ e)
          · rw [upd_same, List.replicate_succ']
      · refine ⟨D, List.replicate xs.length true, rfl, SqL.of (by rw [p.2, List.map_replicate]), ?_⟩
        rw [show (List.replicate xs.length true).all id = true from by simp]
        exact q _ (s1.trans p.1)
end
/-! a drawn sum -/
section
variable {P : Program} {w : World} {K : PySem.W.Frag} {mg : Str → Option Value} {base : Heap} {k : Nat}
def sp_l_sum : Sp := fun vs H Q _ => ∃ p : Addr, vs = [.ref p] ∧ Bag H p ∧ ∀ H' d, Keep p H H' → Bag H' p → 0 ≤ d → d ≤ 1000000000 → Q (.int d) H'
theorem ok_l_sum (T : Defs K mg) : FnOk P w K mg base CX0 (k + 2) T.a_l_sum T.d_l_sum ["_law_bag_here"] sp_l_sum := by
  have G_l_take : FnOk P w K mg base CX0 (k + 1) _ _ _ _ := ok_l_take T
  refine T.F_l_sum.ok sc_l_sum (fun vs H Q E h => ?_) (fun cdv A outer s H vs Q E hr h => ?_)
  · obtain ⟨p, rfl, _⟩ := h
    rfl
  · obtain ⟨p, rfl, b, q⟩ := h
    refine ⟨_, PSs.nox
(pss_one (ps_ret (pe_call G_l_take hr (by rfl) T.g_l_take T.F_l_take.kp T.b_l_take .nil pass0 (pa_cons (pv 0) (pa_cons (pe_ix (r := rIxT K) ix_tup (pe_tup (pa_cons (pe_int) (pa_cons (pe_int) (pa_cons (pe_int) (pa_cons (pe_op op_pow (pe_int) (pe_int)) (pa_cons (pe_op op_add (pe_op op_pow (pe_int) (pe_int)) (pe_int)) pa_nil)))))) (pe_call G_l_take hr (by rfl) T.g_l_take T.F_l_take.kp T.b_l_take .nil pass0 (pa_cons (pv 0) (pa_cons (pe_int) pa_nil))) (fun _ _ => rfl)) pa_nil)))))
      , ?_⟩
    refine ⟨.ref p, rfl, 10, 6, rfl, rfl, ⟨by decide, by decide, by decide⟩, 10, 9, rfl, rfl, ⟨by decide, by decide, by decide⟩, _, 1, rfl, rfl, by show 5 ≤ sizeLine; decide, fun t nt => ?_⟩
    have nt2 : t ≠ p := b.ne nt
    refine ⟨.ref p, rfl, p, 5, rfl, b.keep (same_upd nt), by decide, by decide, fun H2 d k2 b2 d0 d1 => ?_⟩
    have et : H2 t = some (.tup ([4, 30, 1001, 1000000, 1000000001].map V.int)) := k2 _ _ nt2 upd_same
    obtain ⟨m, hm, ha⟩ := pick (ms := [4, 30, 1001, 1000000, 1000000001]) d0 d1
    have hm : 0 < m ∧ m ≤ 1000000001 := by
      simp only [List.mem_cons, List.not_mem_nil, or_false] at hm
      omega
    refine ⟨t, _, d, _, rfl, rfl, SqT.of et, ha, p, m, rfl, b2, hm.1, by omega, fun H3 e k3 b3 e0 e1 => ?_⟩
    exact q _ _ ((Keep.of (same_upd nt)).trans (k2.trans k3)) b3 e0 (by omega)
end
theorem ext_keep {H H1 H2 : Hp} {p : Addr} (e : LamX.ExtN H H1) (k : Keep p H1 H2) (n : H p = none) : LamX.ExtN H H2 := fun b o h nt => k b o (ne_of_none h n) (e b o h nt)
theorem ext_upd {H H1 : Hp} {p : Addr} {u : HO} (e : LamX.ExtN H H1) (n : H p = none) : LamX.ExtN H (upd H1 p u) := fun b o h nt => by
  rw [upd_ne (ne_of_none h n)]
  exact e b o h nt
theorem ext_same {H H1 H2 : Hp} (e : LamX.ExtN H H1) (s : Same H1 H2) : LamX.ExtN H H2 := e.trans (.of s)
/-- a store to what was new behind H1 -/
theorem ext_upd2 {H H1 H2 : Hp} {p : Addr} {u : HO} (e1 : LamX.ExtN H H1) (n : H1 p = none) (e2 : LamX.ExtN H H2) : LamX.ExtN H (upd H2 p u) := fun b o h nt => by
  rw [upd_ne (ne_of_none (e1 b o h nt) n)]
  exact e2 b o h nt
theorem tab_keep {H H' : Hp} {P p : Addr} {q : Str} (t : LamX.TabS H P q) (k : Keep p H H') (b : Bag H p) : LamX.TabS H' P q := by
  obtain ⟨ps, h1, h2, h3⟩ := t
  obtain ⟨g, r, eb, _⟩ := b
  refine ⟨ps, k _ _ (fun z => by rw [z, eb] at h1; cases h1) h1, h2, fun pos cv hc => ?_⟩
  obtain ⟨c, e1, e2⟩ := h3 pos cv hc
  refine ⟨c, e1, k _ _ (fun z => ?_) e2⟩
  rw [z, eb] at e2
  exact lst_ne_code _ q (Option.some.inj e2)
end Th
namespace Th
open PySem PySem.Spec PyProof.Rows L2
/-! ahead -/
def aheadM (p : Int) (ws : List Int) : List Int := if ws.sum ≤ p then ws else Pm.partsM p ws
theorem aheadM_len (p : Int) (ws : List Int) : (aheadM p ws).length = ws.length := by
  unfold aheadM
  split
  · rfl
  · exact Pm.partsM_len p ws
section
variable {P : Program} {w : World} {K : PySem.W.Frag} {mg : Str → Option Value} {base : Heap} {k : Nat}
def sp_ahead (T : Defs K mg) : Sp := fun vs H Q _ => ∃ (pence : Int) (a : Addr) (ws : List Int), vs = [.int pence, .ref a] ∧ SqL K H a (ws.map V.int) ∧ ws.length ≤ 1000 ∧ 0 ≤ pence ∧ pence < 2 ^ 63 ∧ (∀ w ∈ ws, 0 ≤ w ∧ w < 2 ^ 63) ∧ TabP T H ∧
  ∀ H' p, LamX.ExtN H H' → TabP T H' → H p = none → H' p = some (.lst ((aheadM pence ws).map V.int)) → Q (.ref p) H'
theorem ok_ahead (T : Defs K mg) (TB : LamX.TabB base mg T.cc_parts T.tp_parts) : FnOk P w K mg base CX0 5 T.a_ahead T.d_ahead ["pence", "wishes"] (sp_ahead T) := by
  have G_parts : FnOk P w K mg base CX0 4 _ _ _ _ := ok_parts T TB
  refine T.F_ahead.ok sc_ahead (fun vs H Q E h => ?_) (fun cdv A outer s H vs Q E hr h => ?_)
  · obtain ⟨p, a, ws, rfl, _⟩ := h
    rfl
  · obtain ⟨pence, a, ws, rfl, hS, hlen, p0, p1, hw, hT, q⟩ := h
    refine ⟨_, PSs.nox
(pss_cons (ps_if (pt_cmpR op_le (pe_callB (cr_sum rfl) (by rfl) T.z_sum (by decide +kernel) (pa_cons (pv 1) pa_nil)) (pv 0) (nomark _))
      (pss_one (ps_ret (pe_callTy call_list_of (by rfl) T.z_list (by decide +kernel) (pa_cons (pv 1) pa_nil))))
      pss_nil)
    (pss_one (ps_ret (pe_call G_parts hr (by rfl) T.g_parts T.F_parts.kp T.b_parts .nil pass0 (pa_cons (pv 0) (pa_cons (pv 1) pa_nil))))))
      , ?_⟩
    refine ⟨.ref a, rfl, a, ws, rfl, hS, .int pence, rfl, _, _, rfl, rfl, _, rfl, ite2 (fun e => ?_) (fun e => ?_)⟩
    · have e := of_decide_eq_true e
      refine ⟨.ref a, rfl, a, _, rfl, .inl hS, fun l nl => ?_⟩
      refine q _ l (.of (same_upd nl)) (hT.ext (same_upd nl)) nl ?_
      rw [upd_same]
      unfold aheadM
      rw [if_pos e]
    · have e : ¬ ws.sum ≤ pence := fun z => e (decide_eq_true z)
      refine ⟨.int pence, rfl, .ref a, rfl, pence, a, ws, rfl, hS, hlen, p0, p1, hw, hT, fun H' p e' t' np ep => ?_⟩
      refine q _ p e' t' np ?_
      rw [ep]
      unfold aheadM
      rw [if_neg e]
def sp_l_wished (K : PySem.W.Frag) : Sp := fun vs H Q _ => ∃ (pence : Int) (a : Addr) (ws : List Int), vs = [.int pence, .ref a] ∧ SqL K H a (ws.map V.int) ∧ ws.length ≤ 1000 ∧ 0 ≤ pence ∧ pence < 2 ^ 63 ∧ (∀ w ∈ ws, 0 ≤ w ∧ w < 2 ^ 63) ∧
  ∀ H' p, Same H H' → H p = none → H' p = some (.lst ((aheadM pence ws).map V.int)) → Q (.ref p) H'
theorem ok_l_wished (T : Defs K mg) : FnOk P w K mg base CX0 (k + 3) T.a_l_wished T.d_l_wished ["_law_pence", "_law_wishes_here"] (sp_l_wished K) := by
  have G_l_parts : FnOk P w K mg base CX0 (k + 2) _ _ _ _ := ok_l_parts T
  refine T.F_l_wished.ok sc_l_wished (fun vs H Q E h => ?_) (fun cdv A outer s H vs Q E hr h => ?_)
  · obtain ⟨p, a, ws, rfl, _⟩ := h
    rfl
  · obtain ⟨pence, a, ws, rfl, hS, hlen, p0, p1, hw, q⟩ := h
    refine ⟨_, PSs.nox
(pss_one (ps_ret (pe_ifExp (pt_cmpR op_le (pe_callB (cr_sum rfl) (by rfl) T.z_sum (by decide +kernel) (pa_cons (pv 1) pa_nil)) (pv 0) (nomark _)) (pe_callTy call_list_of (by rfl) T.z_list (by decide +kernel) (pa_cons (pv 1) pa_nil)) (pe_call G_l_parts hr (by rfl) T.g_l_parts T.F_l_parts.kp T.b_l_parts .nil pass0 (pa_cons (pv 0) (pa_cons (pv 1) pa_nil))))))
      , ?_⟩
    refine ⟨.ref a, rfl, a, ws, rfl, hS, .int pence, rfl, _, _, rfl, rfl, _, rfl, ite2 (fun e => ?_) (fun e => ?_)⟩
    · have e := of_decide_eq_true e
      refine ⟨.ref a, rfl, a, _, rfl, .inl hS, fun l nl => ?_⟩
      refine q _ l (same_upd nl) nl ?_
      rw [upd_same]
      unfold aheadM
      rw [if_pos e]
    · have e : ¬ ws.sum ≤ pence := fun z => e (decide_eq_true z)
      have hW : 0 < ws.sum := by omega
      refine ⟨.int pence, rfl, .ref a, rfl, pence, a, ws, rfl, hS, hlen, p0, p1, hw, hW, fun H' p e' np ep => ?_⟩
      refine q _ p e' np ?_
      rw [ep, ← Pm.parts_eq pence hW]
      unfold aheadM
      rw [if_neg e]
end
end Th
namespace Th
open PySem PySem.Spec PyProof.Rows L2
/-! drawn wishes -/
theorem cut_ints (ws : List Int) (lo hi : Option Int) : ∃ ys : List Int, cutV (ws.map V.int) lo hi = ys.map V.int := by
  unfold cutV
  exact ⟨(ws.drop _).take _, by rw [List.map_take, List.map_drop]⟩
section
variable {P : Program} {w : World} {K : PySem.W.Frag} {mg : Str → Option Value} {base : Heap} {k : Nat}
def sp_l_wishes : Sp := fun vs H Q _ => ∃ (p : Addr) (pence : Int), vs = [.ref p, .int pence] ∧ Bag H p ∧ ∀ (H' : Hp) (l : Addr) (ws : List Int), Keep p H H' → Bag H' p → H l = none → H' l = some (.lst (ws.map V.int)) → 1 ≤ ws.length → ws.length ≤ 40 → (∀ w ∈ ws, 0 ≤ w ∧ w ≤ 1000000000) → Q (.ref l) H'
set_option maxHeartbeats 8000000 in
theorem ok_l_wishes (T : Defs K mg) : FnOk P w K mg base CX0 (k + 2) T.a_l_wishes T.d_l_wishes ["_law_bag_here", "_law_pence"] sp_l_wishes := by
  have G_l_take : FnOk P w K mg base CX0 (k + 1) _ _ _ _ := ok_l_take T
  refine T.F_l_wishes.ok sc_l_wishes (fun vs H Q E h => ?_) (fun cdv A outer s H vs Q E hr h => ?_)
  · obtain ⟨p, pence, rfl, _⟩ := h
    rfl
  · obtain ⟨p, pence, rfl, b, q⟩ := h
    refine ⟨_, PSs.nox
(pss_cons (ps_set (i := 2) sc_l_wishes.nd rfl (.inl rfl) (pe_op op_add (pe_int) (pe_call G_l_take hr (by rfl) T.g_l_take T.F_l_take.kp T.b_l_take .nil pass0 (pa_cons (pv 0) (pa_cons (pe_ix (r := rIxT K) ix_tup (pe_tup (pa_cons (pe_int) (pa_cons (pe_int) (pa_cons (pe_int) pa_nil)))) (pe_call G_l_take hr (by rfl) T.g_l_take T.F_l_take.kp T.b_l_take .nil pass0 (pa_cons (pv 0) (pa_cons (pe_int) pa_nil))) (fun _ _ => rfl)) pa_nil)))))
    (pss_cons (ps_set (i := 3) sc_l_wishes.nd rfl (.inr rfl) (pe_ix (r := rIxT K) ix_tup (pe_tup (pa_cons (pe_int) (pa_cons (pe_int) (pa_cons (pe_op op_pow (pe_int) (pe_int)) (pa_cons (pe_op op_add (pe_op op_pow (pe_int) (pe_int)) (pe_int)) pa_nil))))) (pe_call G_l_take hr (by rfl) T.g_l_take T.F_l_take.kp T.b_l_take .nil pass0 (pa_cons (pv 0) (pa_cons (pe_int) pa_nil))) (fun _ _ => rfl)))
    (pss_cons (ps_set (i := 4) sc_l_wishes.nd rfl (.inl rfl) (pe_call G_l_take hr (by rfl) T.g_l_take T.F_l_take.kp T.b_l_take .nil pass0 (pa_cons (pv 0) (pa_cons (pe_int) pa_nil))))
    (pss_cons (ps_setLc (i := 5) (own := [("_law_k", 7)]) (g := gName 7) rfl sc_l_wishes.nd rfl rfl (sw_true rfl rfl rfl (by decide +kernel)) (pi_range1 (by rfl) T.z_range (pa_cons (pv 2) pa_nil)) (blkOk_by (N := N_l_wishes) (sc := defScope s_l_wishes) (by decide +kernel)) (fun _ _ _ _ _ => (pg_name (i := 7) sc_l_wishes.nd rfl (.inl rfl))) (fun _ _ _ _ _ => pts_nil) (fun _ _ _ _ _ => (pe_call G_l_take hr (by rfl) T.g_l_take T.F_l_take.kp T.b_l_take .nil pass0 (pa_cons (pv 0) (pa_cons (pv 3) pa_nil)))))
    (pss_cons (ps_set (i := 6) sc_l_wishes.nd rfl (.inl rfl) (pe_op op_sub (pv 1) (pe_callB (cr_sum rfl) (by rfl) T.z_sum (by decide +kernel) (pa_cons (pe_slice sl_list (pv 5) po_none (po_some (pe_un un_neg (pe_int)))) pa_nil))))
    (Evl.pss_cut (ps_if (PW.pt (pw_and (pt_cmpR op_lt (pv 4) (pe_int) (nomark _)) (pw_and1 (pt_cmpR op_gt (pv 6) (pe_int) (nomark _)))))
      (pss_one (ps_asg (pe_callB (call_min2 rfl) (by rfl) T.z_min (by decide +kernel) (pa_cons (pe_op op_pow (pe_int) (pe_int)) (pa_cons (pe_op op_add (pe_op op_sub (pv 6) (pe_int)) (pv 4)) pa_nil))) (pg_sub (pv 5) (pe_un un_neg (pe_int)) set_list)))
      pss_nil)
    (pss_one (ps_ret (pv 5)))))))))
      , ?_⟩
    -- many
    refine ⟨.ref p, rfl, by show 3 ≤ sizeLine; decide, fun t nt => ?_⟩
    refine ⟨.ref p, rfl, p, 3, rfl, b.keep (same_upd nt), by decide, by decide, fun H2 d k2 b2 d0 d1 => ?_⟩
    have et : H2 t = some (.tup ([1, 4, 40].map V.int)) := k2 _ _ (b.ne nt) upd_same
    obtain ⟨m, hm, ha⟩ := pick (ms := [1, 4, 40]) d0 d1
    have hm : 0 < m ∧ m ≤ 40 := by
      simp only [List.mem_cons, List.not_mem_nil, or_false] at hm
      omega
    have k2 : Keep p H H2 := (Keep.of (same_upd nt)).trans k2
    refine ⟨t, _, d, _, rfl, rfl, SqT.of et, ha, p, m, rfl, b2, hm.1, by omega, fun H3 e k3 b3 e0 e1 => ?_⟩
    refine ⟨1, e, rfl, rfl, ?_⟩
    have k3 := k2.trans k3
    obtain ⟨many, em⟩ : ∃ many : Nat, 1 + e = (many : Int) := ⟨(1 + e).toNat, by omega⟩
    have hmany : 1 ≤ many ∧ many ≤ 40 := by omega
    -- most
    refine ⟨10, 4, rfl, rfl, ⟨by decide, by decide, by decide⟩, 10, 9, rfl, rfl, ⟨by decide, by decide, by decide⟩, _, 1, rfl, rfl, by show 4 ≤ sizeLine; decide, fun t nt => ?_⟩
    refine ⟨.ref p, rfl, p, 4, rfl, b3.keep (same_upd nt), by decide, by decide, fun H4 d k4 b4 d0 d1 => ?_⟩
    have et : H4 t = some (.tup ([1, 5, 10000, 1000000001].map V.int)) := k4 _ _ (b3.ne nt) upd_same
    obtain ⟨most, hmost, ha⟩ := pick (ms := [1, 5, 10000, 1000000001]) d0 d1
    have hmost : 1 ≤ most ∧ most ≤ 1000000001 := by
      simp only [List.mem_cons, List.not_mem_nil, or_false] at hmost
      omega
    have k4 : Keep p H H4 := k3.trans ((Keep.of (same_upd nt)).trans k4)
    refine ⟨t, _, d, _, rfl, rfl, SqT.of et, ha, ?_⟩
    -- near
    refine ⟨.ref p, rfl, p, 4, rfl, b4, by decide, by decide, fun H5 near k5 b5 n0 n1 => ?_⟩
    have k5 := k4.trans k5
    -- found
    refine ⟨.int (1 + e), rfl, 1 + e, rfl, by omega, by omega, fun D nD => ?_⟩
    have en : (1 + e).toNat = many := by omega
    rw [en]
    refine lc_it walk_range (fun i H6 => Keep p H5 H6 ∧ Bag H6 p ∧ ∃ ws : List Int, ws.length = i ∧ (∀ w ∈ ws, 0 ≤ w ∧ w ≤ 1000000000) ∧ H6 D = some (.lst (ws.map V.int))) ⟨.of (same_upd nD), b5.keep (same_upd nD), [], rfl, fun w hw => by simp at hw, upd_same⟩ (fun _ _ _ _ => trivial) (fun i x H6 H7 hi pv y => ?_) (fun H6 pv => ?_)
    · obtain ⟨rfl, rfl⟩ := y
      obtain ⟨k6, b6, ws, hl, hw, eD⟩ := pv
      refine ⟨rfl, yes_ ?_⟩
      refine ⟨.ref p, rfl, .int most, rfl, p, most, rfl, b6, by omega, by omega, fun H8 d8 k8 b8 d80 d81 => ?_⟩
      have nDp : D ≠ p := b5.ne nD
      refine ⟨_, k8 _ _ nDp eD, by rw [List.length_map, hl]; exact small5000 (by omega), ?_, b8.at (upd_ne nDp.symm), ws ++ [d8], by rw [List.length_append, hl]; rfl, fun w hw' => ?_, by rw [upd_same, List.map_append]; rfl⟩
      · intro c o nc ec
        rw [upd_ne (fun z => by rw [z] at ec; rw [nD] at ec; cases ec)]
        exact k8 _ _ nc (k6 _ _ nc ec)
      · rcases List.mem_append.mp hw' with z | z
        · exact hw w z
        · rw [List.mem_singleton.mp z]
          exact ⟨d80, by omega⟩
    · obtain ⟨k6, b6, ws, hl, hw, eD⟩ := pv
      have nDp : D ≠ p := b5.ne nD
      have nDH : H D = none := k5.free b nD b5
      have k6 := k5.trans k6
      -- left = pence - sum(found[:-1])
      obtain ⟨ys, eys⟩ := cut_ints ws none (some (-1))
      refine ⟨.int pence, rfl, .ref D, rfl, 1, rfl, _, rfl, D, _, rfl, SqL.of eD, fun c nc => ?_⟩
      have sc : Same H6 (upd H6 c (.lst (cutV (ws.map V.int) none (some (-1))))) := same_upd nc
      have ec : (upd H6 c (.lst (cutV (ws.map V.int) none (some (-1))))) c = some (.lst (ys.map V.int)) := by rw [upd_same, eys]
      refine ⟨c, ys, rfl, SqL.of ec, pence, _, rfl, rfl, ?_⟩
      have eD7 := sc _ _ eD
      have k7 : Keep p H (upd H6 c (.lst (cutV (ws.map V.int) none (some (-1))))) := k6.trans (.of sc)
      have b7 := b6.keep sc
      generalize upd H6 c (.lst (cutV (ws.map V.int) none (some (-1)))) = H7 at sc ec eD7 k7 b7
      -- if near < 3 and left > 0
      refine ⟨fun σ H9 => ∃ (ws : List Int) (y5 : Option V), σ = [some (.ref p), some (.int pence), some (.int (1 + e)), some (.int most), some (.int near), some (.ref D), y5, none] ∧ Keep p H H9 ∧ Bag H9 p ∧ ws.length = many ∧ (∀ w ∈ ws, 0 ≤ w ∧ w ≤ 1000000000) ∧ H9 D = some (.lst (ws.map V.int)), ?_, fun σ H9 mid => ?_⟩
      · refine ⟨.int near, rfl, _, _, rfl, rfl, _, rfl, ite2 (fun h3 => ?_) (fun h3 => ?_)⟩
        · have h3 := of_decide_eq_true h3
          refine ⟨.int (pence - ys.sum), rfl, _, _, rfl, rfl, _, rfl, ite2 (fun hl0 => ?_) (fun hl0 => ?_)⟩
          · have hl0 : 0 < pence - ys.sum := of_decide_eq_true hl0
            refine ⟨10, 9, rfl, rfl, ⟨by decide, by decide, by decide⟩, .int (pence - ys.sum), rfl, _, 1, rfl, rfl, .int near, rfl, _, near, rfl, rfl, _, _, rfl, ?_⟩
            refine ⟨.ref D, rfl, 1, rfl, D, _, -1, many - 1, rfl, rfl, eD7, ?_, ?_⟩
            · unfold ixN
              rw [List.length_map, hl, if_neg (by omega), if_pos (by omega)]
              congr 1
              omega
            · refine ⟨ws.set (many - 1) (if pence - ys.sum - 1 + near < 10 ^ (9 : Int).toNat then pence - ys.sum - 1 + near else 10 ^ (9 : Int).toNat), _, rfl, ?_, b7.at (upd_ne nDp.symm), by rw [List.length_set, hl], fun w hw' => ?_, by rw [upd_same, List.map_set]⟩
              · intro c o nc ec
                rw [upd_ne (fun z => by rw [z] at ec; rw [nDH] at ec; cases ec)]
                exact k7 _ _ nc ec
              · rcases List.mem_or_eq_of_mem_set hw' with z | z
                · exact hw w z
                · rw [z]
                  have : (10 : Int) ^ (9 : Int).toNat = 1000000000 := rfl
                  rw [this]
                  split <;> omega
          · exact ⟨ws, _, rfl, k7, b7, hl, hw, eD7⟩
        · exact ⟨ws, _, rfl, k7, b7, hl, hw, eD7⟩
      · obtain ⟨ws, y5, rfl, k9, b9, hl, hw, eF⟩ := mid
        exact ⟨.ref D, rfl, q _ D ws k9 b9 nDH eF (by omega) (by omega) hw⟩
/-! the law -/
def sp_law (T : Defs K mg) : Sp := fun vs H Q _ => ∃ (a : Addr) (ns : List Int), vs = [.ref a] ∧ SqL K H a (ns.map V.int) ∧ ns.length ≤ 63 ∧ TabP T H ∧ ∀ H', Q (.bl true) H'
set_option maxHeartbeats 16000000 in
theorem ok_law {f : Addr} {fd : FuncData} (F : FnP K "law" s_law f fd) (T : Defs K mg) (TB : LamX.TabB base mg T.cc_parts T.tp_parts) : FnOk P w K mg base CX0 6 f fd ["_law_script"] (sp_law T) := by
  have G_l_bag : FnOk P w K mg base CX0 5 _ _ _ _ := ok_l_bag T
  have G_l_sum : FnOk P w K mg base CX0 5 _ _ _ _ := ok_l_sum T
  have G_l_wishes : FnOk P w K mg base CX0 5 _ _ _ _ := ok_l_wishes T
  have G_ahead : FnOk P w K mg base CX0 5 _ _ _ _ := ok_ahead T TB
  have G_l_wished : FnOk P w K mg base CX0 5 _ _ _ _ := ok_l_wished T
  have G_l_like : FnOk P w K mg base CX0 5 _ _ _ _ := (ok_l_like T 2).mono (by decide)
  refine F.ok sc_law (fun vs H Q E h => ?_) (fun cdv A outer s H vs Q E hr h => ?_)
  · obtain ⟨a, ns, rfl, _⟩ := h
    rfl
  · obtain ⟨a, ns, rfl, hS, hlen, hT, q⟩ := h
    refine ⟨_, PSs.nox
(pss_cons (ps_for PassesOwn.never rfl (pi_range1 (by rfl) T.z_range (pa_cons (pe_callB (call_max2 rfl) (by rfl) T.z_max (by decide +kernel) (pa_cons (pe_int) (pa_cons (pe_callB (call_min2 rfl) (by rfl) T.z_min (by decide +kernel) (pa_cons (pe_int) (pa_cons (pe_callB call_len_seq (by rfl) T.z_len (by decide +kernel) (pa_cons (pv 0) pa_nil)) pa_nil))) pa_nil))) pa_nil)) (pg_name (i := 1) sc_law.nd rfl (.inl rfl))
      (pss_cons (ps_set (i := 2) sc_law.nd rfl (.inl rfl) (pe_call G_l_bag hr (by rfl) T.g_l_bag T.F_l_bag.kp T.b_l_bag .nil pass0 (pa_cons (pv 0) (pa_cons (pv 1) pa_nil))))
      (pss_cons (ps_set (i := 3) sc_law.nd rfl (.inl rfl) (pe_call G_l_sum hr (by rfl) T.g_l_sum T.F_l_sum.kp T.b_l_sum .nil pass0 (pa_cons (pv 2) pa_nil)))
      (pss_cons (ps_set (i := 4) sc_law.nd rfl (.inl rfl) (pe_call G_l_wishes hr (by rfl) T.g_l_wishes T.F_l_wishes.kp T.b_l_wishes .nil pass0 (pa_cons (pv 2) (pa_cons (pv 3) pa_nil))))
      (pss_cons (ps_set (i := 5) sc_law.nd rfl (.inl rfl) (pe_callTy call_list_of (by rfl) T.z_list (by decide +kernel) (pa_cons (pv 4) pa_nil)))
      (pss_cons (ps_set (i := 6) sc_law.nd rfl (.inl rfl) (pe_call G_ahead hr (by rfl) T.g_ahead T.F_ahead.kp T.b_ahead .nil pass0 (pa_cons (pv 3) (pa_cons (pv 5) pa_nil))))
      (pss_cons (ps_set (i := 7) sc_law.nd rfl (.inl rfl) (pe_call G_l_wished hr (by rfl) T.g_l_wished T.F_l_wished.kp T.b_l_wished .nil pass0 (pa_cons (pv 3) (pa_cons (pv 4) pa_nil))))
      (pss_cons (ps_if (PW.pt (pw_or (pt_not (pt_val (pe_callB call_isi (by rfl) T.z_isinstance (by decide +kernel) (pa_cons (pv 6) (pa_cons (pe_bltn (v := .ty "list") (by rfl) T.z_list (by decide +kernel) rfl) pa_nil))))) (pw_or (pt_not (pt_val (pe_call G_l_like hr (by rfl) T.g_l_like T.F_l_like.kp T.b_l_like .nil pass0 (pa_cons (pv 6) (pa_cons (pv 7) pa_nil))))) (pw_or1 (pt_cmpR (r := rNeD K) (op_neD hr.units) (pv 5) (pv 4) (nomark _))))))
        (pss_one (ps_ret (pe_bl)))
        pss_nil)
      (pss_cons (ps_expr (pe_bm PySem.F.plainAttrs_list PySem.F.slot_list_append PySem.F.type_list_append mt_append (pv 6) (pa_cons (pe_int) pa_nil)))
      (pss_one (ps_if (PW.pt (pw_or (pt_cmpR (r := rNeD K) (op_neD hr.units) (pv 5) (pv 4) (nomark _)) (pw_or1 (pt_cmpR (r := rNeD K) (op_neD hr.units) (pe_call G_ahead hr (by rfl) T.g_ahead T.F_ahead.kp T.b_ahead .nil pass0 (pa_cons (pv 3) (pa_cons (pv 5) pa_nil))) (pv 7) (nomark _)))))
        (pss_one (ps_ret (pe_bl)))
        pss_nil)))))))))))
    (pss_one (ps_ret (pe_and (pe_cmpR (r := rEqD K) (op_eqD hr.units) (pe_call G_ahead hr (by rfl) T.g_ahead T.F_ahead.kp T.b_ahead .nil pass0 (pa_cons (pe_int) (pa_cons (pe_lst (pa_cons (pe_int) (pa_cons (pe_int) pa_nil))) pa_nil))) (pe_lst (pa_cons (pe_int) (pa_cons (pe_int) pa_nil))) (nomark _)) (pe_one (pe_cmpR (r := rEqD K) (op_eqD hr.units) (pe_call G_ahead hr (by rfl) T.g_ahead T.F_ahead.kp T.b_ahead .nil pass0 (pa_cons (pe_int) (pa_cons (pe_lst (pa_cons (pe_int) (pa_cons (pe_int) (pa_cons (pe_int) pa_nil)))) pa_nil))) (pe_lst (pa_cons (pe_int) (pa_cons (pe_int) (pa_cons (pe_int) pa_nil)))) (nomark _)))))))
      , ?_⟩
    have lenV : (ns.map V.int).length = ns.length := List.length_map _
    refine ⟨.ref a, rfl, a, _, rfl, .inl hS, 8, _, rfl, 3, _, rfl, _, rfl, ?_, ?_, ?_⟩
    · rw [lenV]
      split <;> split <;> omega
    · rw [lenV]
      split <;> split <;> omega
    · obtain ⟨n, en, hn⟩ : ∃ n : Nat, (if (if ((ns.map V.int).length : Int) < 8 then ((ns.map V.int).length : Int) else 8) > 3 then (if ((ns.map V.int).length : Int) < 8 then ((ns.map V.int).length : Int) else 8) else 3) = (n : Int) ∧ n ≤ 8 := by
        rw [lenV]
        refine ⟨(if (if (ns.length : Int) < 8 then (ns.length : Int) else 8) > 3 then (if (ns.length : Int) < 8 then (ns.length : Int) else 8) else 3).toNat, ?_, ?_⟩
        · split <;> split <;> omega
        · split <;> split <;> omega
      rw [en, Int.toNat_natCast]
      refine for_range (lo := 0) (n := n) (fun i σ H3 => ∃ (y1 y2 y3 y4 y5 y6 y7 : Option V), σ = [some (.ref a), y1, y2, y3, y4, y5, y6, y7] ∧ LamX.ExtN H H3 ∧ TabP T H3)
        ⟨none, none, none, none, none, none, none, rfl, .refl H, hT⟩ (fun i σ H3 hi hp => ?_) (fun σ H3 hp => ?_)
      · obtain ⟨y1, y2, y3, y4, y5, y6, y7, rfl, e03, hT3⟩ := hp
        have hS3 : SqL K H3 a (ns.map V.int) := ExtN.seq e03 hS
        refine ⟨.ref a, rfl, .int (0 + (i : Int)), rfl, a, ns, i, by rw [Int.zero_add]; rfl, hS3, by omega, fun H4 p s4 np b4 => ?_⟩
        have e4 : LamX.ExtN H H4 := ext_same e03 s4
        have t4 : TabP T H4 := hT3.ext s4
        refine ⟨.ref p, rfl, p, rfl, b4, fun H5 pence k5 b5 p0 p1 => ?_⟩
        have e5 : LamX.ExtN H3 H5 := ext_keep (.of s4) k5 np
        have t5 : TabP T H5 := tab_keep t4 k5 b4
        refine ⟨.ref p, rfl, .int pence, rfl, p, pence, rfl, b5, fun H6 l ws k6 b6 nl el l1 l2 hw => ?_⟩
        have e6 := ext_keep e5 k6 np
        have t6 : TabP T H6 := tab_keep t5 k6 b5
        have hw' : ∀ w ∈ ws, 0 ≤ w ∧ w < 2 ^ 63 := fun w h => ⟨(hw w h).1, by have := (hw w h).2; omega⟩
        -- handed = list(wishes)
        refine ⟨.ref l, rfl, l, _, rfl, .inl (SqL.of el), fun hd nhd => ?_⟩
        have s7 : Same H6 (upd H6 hd (.lst (ws.map V.int))) := same_upd nhd
        have e7 := ext_same e6 s7
        have t7 : TabP T (upd H6 hd (.lst (ws.map V.int))) := t6.ext s7
        have el7 := s7 _ _ el
        have eh7 : (upd H6 hd (.lst (ws.map V.int))) hd = some (.lst (ws.map V.int)) := upd_same
        generalize upd H6 hd (.lst (ws.map V.int)) = H7 at s7 e7 t7 el7 eh7
        -- told = ahead(pence, handed)
        refine ⟨.int pence, rfl, .ref hd, rfl, pence, hd, ws, rfl, SqL.of eh7, by omega, p0, by omega, hw', t7, fun H8 x e8' t8 nx ex => ?_⟩
        have e8 := e7.trans e8'
        have el8 := ExtN.lst e8' el7
        have eh8 := ExtN.lst e8' eh7
        have nxh : hd ≠ x := ne_of_none eh7 nx
        have nxl : l ≠ x := ne_of_none el7 nx
        -- due = wished(pence, wishes)
        refine ⟨.int pence, rfl, .ref l, rfl, pence, l, ws, rfl, SqL.of el8, by omega, p0, by omega, hw', fun H9 y s9 ny ey => ?_⟩
        have e9 := ext_same e8 s9
        have t9 : TabP T H9 := t8.ext s9
        have el9 := s9 _ _ el8
        have eh9 := s9 _ _ eh8
        have ex9 := s9 _ _ ex
        have nyx : x ≠ y := ne_of_none ex ny
        have zl : (aheadM pence ws).length ≤ 1000 := by rw [aheadM_len]; omega
        generalize hzs : aheadM pence ws = zs at *
        -- the test
        refine ⟨.ref x, rfl, .ref x, .ty "list", _, _, _, rfl, .ty _, .base (.lst ex9), kit_ty (r := true) (by decide +kernel), true, rfl, iteF ?_⟩
        refine ⟨.ref x, rfl, .ref y, rfl, .ref x, .ref y, dI zs, rfl, dt_ints ex9 (by omega), dt_ints ey (by omega), lay_ints _, by rw [depth_ints]; decide, by decide, fun H10 s10 => ⟨true, rfl, iteF ?_⟩⟩
        have e10 := ext_same e9 s10
        have t10 : TabP T H10 := t9.ext s10
        have el10 := s10 _ _ el9
        have eh10 := s10 _ _ eh9
        have ex10 := s10 _ _ ex9
        have ey10 := s10 _ _ ey
        refine ⟨.ref hd, rfl, .ref l, rfl, dI ws, dI ws, (dt_ints eh10 (by omega)).dp, (dt_ints el10 (by omega)).dp, shaped_ints _, shaped_ints _, _, rfl, ?_⟩
        rw [eqv_ints]
        refine iteF ?_
        -- told.append(1)
        refine ⟨.ref x, rfl, .inl ⟨rfl, _, SqL.of ex10⟩, x, _, _, rfl, rfl, ex10, by rw [List.length_map]; exact small5000 (by omega), ?_⟩
        have e11 : LamX.ExtN H3 (upd H10 x (.lst (zs.map V.int ++ [.int 1]))) := ext_upd2 e7 nx e10
        have t11 : TabP T (upd H10 x (.lst (zs.map V.int ++ [.int 1]))) := tab_lst t10 ex10
        have el11 : (upd H10 x (.lst (zs.map V.int ++ [.int 1]))) l = some (.lst (ws.map V.int)) := by rw [upd_ne nxl]; exact el10
        have eh11 : (upd H10 x (.lst (zs.map V.int ++ [.int 1]))) hd = some (.lst (ws.map V.int)) := by rw [upd_ne nxh]; exact eh10
        have ey11 : (upd H10 x (.lst (zs.map V.int ++ [.int 1]))) y = some (.lst (zs.map V.int)) := by rw [upd_ne nyx.symm]; exact ey10
        generalize upd H10 x (.lst (zs.map V.int ++ [.int 1])) = H11 at e11 t11 el11 eh11 ey11
        -- handed != wishes or ahead(pence, handed) != due
        refine ⟨.ref hd, rfl, .ref l, rfl, dI ws, dI ws, (dt_ints eh11 (by omega)).dp, (dt_ints el11 (by omega)).dp, shaped_ints _, shaped_ints _, _, rfl, ?_⟩
        rw [eqv_ints]
        refine iteF ?_
        refine ⟨.int pence, rfl, .ref hd, rfl, pence, hd, ws, rfl, SqL.of eh11, by omega, p0, by omega, hw', t11, fun H12 u e12' t12 nu eu => ?_⟩
        rw [hzs] at eu
        refine ⟨.ref y, rfl, dI zs, dI zs, (dt_ints eu (by omega)).dp, (dt_ints (ExtN.lst e12' ey11) (by omega)).dp, shaped_ints _, shaped_ints _, _, rfl, ?_⟩
        rw [eqv_ints]
        exact iteF ⟨_, _, _, _, _, _, _, rfl, e03.trans (e11.trans e12'), t12⟩
      · obtain ⟨y1, y2, y3, y4, y5, y6, y7, rfl, e03, hT3⟩ := hp
        -- ahead(5, [0, 0]) == [0, 0] and ahead(0, [0, 7, 1]) == [0, 0, 0]
        refine ⟨by show 2 ≤ sizeLine; decide, fun l1 n1 => ?_⟩
        refine ⟨5, l1, [0, 0], rfl, SqL.of upd_same, by decide, by decide, by decide, by decide, hT3.ext (same_upd n1), fun H4 u e4 t4 nu eu => ?_⟩
        refine ⟨by show 2 ≤ sizeLine; decide, fun l2 n2 => ?_⟩
        have eu : H4 u = some (.lst (([0, 0] : List Int).map V.int)) := eu
        refine ⟨dI [0, 0], dI [0, 0], (dt_ints (zs := [0, 0]) (same_upd n2 _ _ eu) (by decide)).dp, (dt_ints (zs := [0, 0]) upd_same (by decide)).dp, shaped_ints _, shaped_ints _, ?_⟩
        rw [eqv_ints]
        refine ⟨true, rfl, iteT ?_⟩
        refine ⟨by show 3 ≤ sizeLine; decide, fun l3 n3 => ?_⟩
        refine ⟨0, l3, [0, 7, 1], rfl, SqL.of upd_same, by decide, by decide, by decide, by decide, (t4.ext (same_upd n2)).ext (same_upd n3), fun H5 v e5 t5 nv ev => ?_⟩
        refine ⟨by show 3 ≤ sizeLine; decide, fun l4 n4 => ?_⟩
        have z : aheadM 0 [0, 7, 1] = [0, 0, 0] := by
          unfold aheadM
          rw [if_neg (by decide), Pm.parts_zero]
          rfl
        rw [z] at ev
        refine ⟨dI [0, 0, 0], dI [0, 0, 0], (dt_ints (zs := [0, 0, 0]) (same_upd n4 _ _ ev) (by decide)).dp, (dt_ints (zs := [0, 0, 0]) upd_same (by decide)).dp, shaped_ints _, shaped_ints _, ?_⟩
        rw [eqv_ints]
        exact q _
end
end Th
namespace Th
open PySem PySem.Spec PyProof.Rows L2
def dd_parts : He.DefD := ⟨("parts", none), "parts", "parts", defArgs s_parts, defBody s_parts, defScope s_parts, [], []⟩
def dd_ahead : He.DefD := ⟨("ahead", none), "ahead", "ahead", defArgs s_ahead, defBody s_ahead, defScope s_ahead, [], []⟩
def dd_l_bag : He.DefD := ⟨("_law_bag", none), "_law_bag", "_law_bag", defArgs s_l_bag, defBody s_l_bag, defScope s_l_bag, [], []⟩
def dd_l_take : He.DefD := ⟨("_law_take", none), "_law_take", "_law_take", defArgs s_l_take, defBody s_l_take, defScope s_l_take, [], []⟩
def dd_l_parts : He.DefD := ⟨("_law_parts", none), "_law_parts", "_law_parts", defArgs s_l_parts, defBody s_l_parts, defScope s_l_parts, [], []⟩
def dd_l_ahead_of : He.DefD := ⟨("_law_ahead_of", none), "_law_ahead_of", "_law_ahead_of", defArgs s_l_ahead_of, defBody s_l_ahead_of, defScope s_l_ahead_of, [], []⟩
def dd_l_wished : He.DefD := ⟨("_law_wished", none), "_law_wished", "_law_wished", defArgs s_l_wished, defBody s_l_wished, defScope s_l_wished, [], []⟩
def dd_l_sum : He.DefD := ⟨("_law_sum", none), "_law_sum", "_law_sum", defArgs s_l_sum, defBody s_l_sum, defScope s_l_sum, [], []⟩
def dd_l_like : He.DefD := ⟨("_law_like", none), "_law_like", "_law_like", defArgs s_l_like, defBody s_l_like, defScope s_l_like, [], []⟩
def dd_l_wishes : He.DefD := ⟨("_law_wishes", none), "_law_wishes", "_law_wishes", defArgs s_l_wishes, defBody s_l_wishes, defScope s_l_wishes, [], []⟩
def dd_law : He.DefD := ⟨("law", none), "law", "law", defArgs s_law, defBody s_law, defScope s_law, [], []⟩
def fn : List He.DefD := [dd_parts, dd_ahead, dd_l_bag, dd_l_take, dd_l_parts, dd_l_ahead_of, dd_l_wished, dd_l_sum, dd_l_like, dd_l_wishes, dd_law]
def fa : List He.Fa := [.glo "parts", .glo "ahead", .glo "_law_bag", .glo "_law_take", .glo "_law_parts", .glo "_law_ahead_of", .glo "_law_wished", .glo "_law_sum", .glo "_law_like", .glo "_law_wishes", .glo "law", .free "abs", .free "all", .free "bool", .free "enumerate", .free "int", .free "isinstance", .free "len", .free "list", .free "max", .free "min", .free "range", .free "sorted", .free "sum", .free "tuple", .free "zip"]
def tf : List He.Defn := [("parts", none)]
abbrev R : PySem.W.OpenRow := PySem.W.OpenLaw.row PySem.Challenge.rw_throughlines_k02_ahead_of_all
abbrev hk : PySem.W.Hook := He.hookX 4 fa fn [] tf (fun _ => true)
def ob (s : PySem.W.SharedT) : He.AlX := He.obsX 4 fa fn [] tf (fun _ => true) (HandSHeadRun.getT s)
theorem ob_eq (s : PySem.W.SharedT) : ob s = hk.obs s.abs := He.obsX_eq (HandSHeadRun.getT_eq s)
def loose : List PySem.Str := ["parts", "ahead", "_law_bag", "_law_take", "_law_parts", "_law_ahead_of", "_law_wished", "_law_sum", "_law_like", "_law_wishes"]
set_option maxHeartbeats 0 in
theorem run (w : World) : HandSHeadRun.RunEq R (PySem.W.view R.prog [12]) hk ob 2000 loose w := by
  intro os
  kernel_rfl
/-- a def's code object, by its function's data -/
theorem code_ref {K : PySem.W.Frag} {x : Str} {st : Stmt} {p : He.Defn} {fd : FuncData} (F : FnP K x st (He.fAd K p) fd) : fd.code = .ref (He.cT K p).1 := by
  obtain ⟨oc, od, dV, kV, doc, pm, an, cdv, ct, osl, rfl, lk, hcd, _, _⟩ := F.ex
  obtain ⟨c, e⟩ := He.codeIn_ref hcd
  have h := He.codeOf_eq lk (show _ = Value.ref c from e)
  show cdv = _
  rw [e]
  show Value.ref c = Value.ref (He.codeOf K p)
  rw [h]
theorem facts {w : World} {K : PySem.W.Frag} {h : Heap} {mg : Str → Option Value} {f : Addr} (X : K.In h) (G : h.Ns mainGlobals mg) (hfa : mg ("law" : Str) = some (.ref f)) (c' : He.SaysX fa fn [] tf (fun _ => true) w h K) :
    LamX.LawAtS PySem.Challenge.rw_throughlines_k02_ahead_of_all w K CX0 6 63 "_law_script" mg f h := by
  have c := c'.t.d
  obtain ⟨d_parts, F_parts⟩ := c.def_ 0 (d := dd_parts) rfl
  have b_parts : Binds K d_parts ["pence", "weights"] [] := FunD.bindsN F_parts fun _ _ _ _ _ _ us hl => match us, hl with | [_, _], _ => rfl
  obtain ⟨d_ahead, F_ahead⟩ := c.def_ 1 (d := dd_ahead) rfl
  have b_ahead : Binds K d_ahead ["pence", "wishes"] [] := FunD.bindsN F_ahead fun _ _ _ _ _ _ us hl => match us, hl with | [_, _], _ => rfl
  obtain ⟨d_l_bag, F_l_bag⟩ := c.def_ 2 (d := dd_l_bag) rfl
  have b_l_bag : Binds K d_l_bag ["_law_script", "_law_at"] [] := FunD.bindsN F_l_bag fun _ _ _ _ _ _ us hl => match us, hl with | [_, _], _ => rfl
  obtain ⟨d_l_take, F_l_take⟩ := c.def_ 3 (d := dd_l_take) rfl
  have b_l_take : Binds K d_l_take ["_law_bag_here", "_law_many"] [] := FunD.bindsN F_l_take fun _ _ _ _ _ _ us hl => match us, hl with | [_, _], _ => rfl
  obtain ⟨d_l_parts, F_l_parts⟩ := c.def_ 4 (d := dd_l_parts) rfl
  have b_l_parts : Binds K d_l_parts ["_law_pence", "_law_weights"] [] := FunD.bindsN F_l_parts fun _ _ _ _ _ _ us hl => match us, hl with | [_, _], _ => rfl
  obtain ⟨d_l_ahead_of, F_l_ahead_of⟩ := c.def_ 5 (d := dd_l_ahead_of) rfl
  have b_l_ahead_of : Binds K d_l_ahead_of ["_law_rests", "_law_at"] [] := FunD.bindsN F_l_ahead_of fun _ _ _ _ _ _ us hl => match us, hl with | [_, _], _ => rfl
  obtain ⟨d_l_wished, F_l_wished⟩ := c.def_ 6 (d := dd_l_wished) rfl
  have b_l_wished : Binds K d_l_wished ["_law_pence", "_law_wishes_here"] [] := FunD.bindsN F_l_wished fun _ _ _ _ _ _ us hl => match us, hl with | [_, _], _ => rfl
  obtain ⟨d_l_sum, F_l_sum⟩ := c.def_ 7 (d := dd_l_sum) rfl
  have b_l_sum : Binds K d_l_sum ["_law_bag_here"] [] := FunD.bindsN F_l_sum fun _ _ _ _ _ _ us hl => match us, hl with | [_], _ => rfl
  obtain ⟨d_l_like, F_l_like⟩ := c.def_ 8 (d := dd_l_like) rfl
  have b_l_like : Binds K d_l_like ["_law_told", "_law_due"] [] := FunD.bindsN F_l_like fun _ _ _ _ _ _ us hl => match us, hl with | [_, _], _ => rfl
  obtain ⟨d_l_wishes, F_l_wishes⟩ := c.def_ 9 (d := dd_l_wishes) rfl
  have b_l_wishes : Binds K d_l_wishes ["_law_bag_here", "_law_pence"] [] := FunD.bindsN F_l_wishes fun _ _ _ _ _ _ us hl => match us, hl with | [_, _], _ => rfl
  obtain ⟨d_law, F_law⟩ := c.def_ 10 (d := dd_law) rfl
  let T : Defs K mg := {
    a_parts := _,
    d_parts := d_parts,
    F_parts := F_parts,
    g_parts := He.glo_ok X G (c.fact 0 (f := .glo "parts") rfl),
    b_parts := b_parts,
    cc_parts := (He.cT K ("parts", none)).1,
    tp_parts := (He.cT K ("parts", none)).2,
    dc_parts := code_ref (x := "parts") (st := s_parts) (p := ("parts", none)) F_parts,
    a_ahead := _,
    d_ahead := d_ahead,
    F_ahead := F_ahead,
    g_ahead := He.glo_ok X G (c.fact 1 (f := .glo "ahead") rfl),
    b_ahead := b_ahead,
    a_l_bag := _,
    d_l_bag := d_l_bag,
    F_l_bag := F_l_bag,
    g_l_bag := He.glo_ok X G (c.fact 2 (f := .glo "_law_bag") rfl),
    b_l_bag := b_l_bag,
    a_l_take := _,
    d_l_take := d_l_take,
    F_l_take := F_l_take,
    g_l_take := He.glo_ok X G (c.fact 3 (f := .glo "_law_take") rfl),
    b_l_take := b_l_take,
    a_l_parts := _,
    d_l_parts := d_l_parts,
    F_l_parts := F_l_parts,
    g_l_parts := He.glo_ok X G (c.fact 4 (f := .glo "_law_parts") rfl),
    b_l_parts := b_l_parts,
    a_l_ahead_of := _,
    d_l_ahead_of := d_l_ahead_of,
    F_l_ahead_of := F_l_ahead_of,
    g_l_ahead_of := He.glo_ok X G (c.fact 5 (f := .glo "_law_ahead_of") rfl),
    b_l_ahead_of := b_l_ahead_of,
    a_l_wished := _,
    d_l_wished := d_l_wished,
    F_l_wished := F_l_wished,
    g_l_wished := He.glo_ok X G (c.fact 6 (f := .glo "_law_wished") rfl),
    b_l_wished := b_l_wished,
    a_l_sum := _,
    d_l_sum := d_l_sum,
    F_l_sum := F_l_sum,
    g_l_sum := He.glo_ok X G (c.fact 7 (f := .glo "_law_sum") rfl),
    b_l_sum := b_l_sum,
    a_l_like := _,
    d_l_like := d_l_like,
    F_l_like := F_l_like,
    g_l_like := He.glo_ok X G (c.fact 8 (f := .glo "_law_like") rfl),
    b_l_like := b_l_like,
    a_l_wishes := _,
    d_l_wishes := d_l_wishes,
    F_l_wishes := F_l_wishes,
    g_l_wishes := He.glo_ok X G (c.fact 9 (f := .glo "_law_wishes") rfl),
    b_l_wishes := b_l_wishes,
    z_abs := He.free_ok X G (c.fact 11 (f := .free "abs") rfl),
    z_all := He.free_ok X G (c.fact 12 (f := .free "all") rfl),
    z_bool := He.free_ok X G (c.fact 13 (f := .free "bool") rfl),
    z_enumerate := He.free_ok X G (c.fact 14 (f := .free "enumerate") rfl),
    z_int := He.free_ok X G (c.fact 15 (f := .free "int") rfl),
    z_isinstance := He.free_ok X G (c.fact 16 (f := .free "isinstance") rfl),
    z_len := He.free_ok X G (c.fact 17 (f := .free "len") rfl),
    z_list := He.free_ok X G (c.fact 18 (f := .free "list") rfl),
    z_max := He.free_ok X G (c.fact 19 (f := .free "max") rfl),
    z_min := He.free_ok X G (c.fact 20 (f := .free "min") rfl),
    z_range := He.free_ok X G (c.fact 21 (f := .free "range") rfl),
    z_sorted := He.free_ok X G (c.fact 22 (f := .free "sorted") rfl),
    z_sum := He.free_ok X G (c.fact 23 (f := .free "sum") rfl),
    z_tuple := He.free_ok X G (c.fact 24 (f := .free "tuple") rfl),
    z_zip := He.free_ok X G (c.fact 25 (f := .free "zip") rfl) }
  have e := hfa.symm.trans (He.glo_ok X G (c.fact 10 (f := .glo "law") rfl))
  cases e
  have b := FunD.bindsA (ps := ["_law_script"]) F_law fun _ _ _ _ _ _ us hl => match us, hl with | [_], _ => rfl
  refine ⟨d_law, tf.map (He.cT K), sp_law T, fun p hp => ?_, fun p hp => ?_, fun p hp => ?_, fun s v => b s [v] rfl, fun H a ns hl _ hH hS => ⟨a, ns, rfl, hS, hl, LamX.TabS.nil (hH (He.cT K ("parts", none)) (List.mem_map_of_mem (f := He.cT K) (List.mem_of_getElem? (l := tf) (i := 0) rfl))), fun _ => rfl⟩, fun base _ _ hTB => ok_law F_law T (hTB (He.cT K ("parts", none)) (List.mem_map_of_mem (f := He.cT K) (List.mem_of_getElem? (l := tf) (i := 0) rfl)))⟩
  · obtain ⟨q, hq, rfl⟩ := List.mem_map.mp hp
    exact c'.empty q hq
  · obtain ⟨q, hq, rfl⟩ := List.mem_map.mp hp
    exact c'.out q hq
  · obtain ⟨q, hq, rfl⟩ := List.mem_map.mp hp
    exact PySem.W.codeHd_of_K X (c'.hd q hq)
end Th
open PySem PySem.W PySem.Calls PyProof.Rows
set_option maxHeartbeats 0 in
theorem PySem.Challenge.cw_throughlines_k02_ahead_of_all_holds : PySem.Challenge.rw_throughlines_k02_ahead_of_all.Holds := by
  w_on; o_law
  refine HandSHeadRun.head_any (r := OpenLaw.row PySem.Challenge.rw_throughlines_k02_ahead_of_all) (q := view (OpenLaw.row PySem.Challenge.rw_throughlines_k02_ahead_of_all).prog [12]) (H := Th.hk) (ob := Th.ob) (M := 2000) (loose := Th.loose) (d := HandSHeadRun.topDef (OpenLaw.row PySem.Challenge.rw_throughlines_k02_ahead_of_all).prog 12) (kwd := []) Th.ob_eq
    (by kernel_rfl) (fun s => by kernel_rfl) Th.run (by kernel_rfl) (by kernel_rfl) (by kernel_rfl) (by rfl) (by first | assumption | decide +kernel) (by decide +kernel) ⟨rfl, rfl, rfl, rfl, rfl, by decide +kernel⟩ ?hw ?hc
  case hw => w_witness2
  case hc =>
    refine LamX.walk_ofTsE (l := PySem.Challenge.rw_throughlines_k02_ahead_of_all) (n := 63) (k := 6) (x := "_law_script") (CX := fun _ => L2.CX0) rfl (by decide) (by kernel_rfl) ⟨rfl, by decide, by decide⟩ ?F (fun _ _ _ _ _ z => z)
    intro w mg fa h Y G hmg0
    obtain ⟨K, KX, c⟩ := Y
    have hmg : mg ("law" : PySem.Str) = some (.ref fa) := by
      have e : (HandSHeadRun.topDef (OpenLaw.row PySem.Challenge.rw_throughlines_k02_ahead_of_all).prog 12).name = ("law" : PySem.Str) := by kernel_rfl
      rw [← e]
      exact hmg0
    exact ⟨K, KX, Th.facts KX G hmg c⟩
