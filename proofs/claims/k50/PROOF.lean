import PyProof.Rows.All
import Wide.All
import OpenK.AllK
import Wide.FinOn
import HandS.ForMost
import HandS.Wide
import HandS.IsInst
import HandS.Zip
import HandS.Style
import HandS.Gcd
import HandS.FStr
import HandS.Evl
import KE.GoesEnum
import HandS.SlotsOwn
import HandS.Property
import KE.KOpsOwn
import HandS.WideBits
import KE.KMathGC
import HandS.TupLe
import KE.KFmtOwn
import PyProof.FactsAll.object_2
import HandS.TupAny
import HandS.ClsMeth
import HandS.OwnIter
import HandS.IterVal
import HandS.Text
import HandS.TupMul
import HandS.RaiseMore
import KE.KCallOwn
import PyProof.FactsLen
import HandS.Deep
import HandS.TupSets
import HandS.Sort
import HandS.ForExc
import KE.KExcInit
import PyProof.NeKinds
import KE.KDictZip
import HandS.RevTup
import KE.KDictDisplayH
import HandS.Dict
import KE.KEqDict
import KE.KDictPairs
import KE.GoesMore
import HandS.DictTup
import KE.OsRunLaw
import HandS.Head3
import PySem.Challenge.RW_sourceforms_k50_whole_prime_points_and_t
set_option Elab.async false
set_option linter.all false
set_option maxRecDepth 100000
set_option maxHeartbeats 4000000
/-! rules by values whose readings are settled by what the heap holds -/
namespace Pr
open PySem PySem.Spec PyProof.Rows L2

/-! ### weaker readings -/
section
variable {X : Cx}
theorem opImp {f : Value → Value → Sem Value} {r r' : R2} (h : OpR X f r) (i : ∀ x y H Q, r' x y H Q → r x y H Q) : OpR X f r' :=
  fun pins s σ H x y v u Q I rx ry q => h pins s σ H x y v u Q I rx ry (i _ _ _ _ q)
theorem callImp {f : Value} {r r' : List V → Hp → VK → Prop} (h : CallR X f r) (i : ∀ vs H Q, r' vs H Q → r vs H Q) : CallR X f r' :=
  fun pins s σ H xs us Q I rx q => h pins s σ H xs us Q I rx (i _ _ _ q)
theorem ixImp {r r' : R2} (h : IxR X r) (i : ∀ x y H Q, r' x y H Q → r x y H Q) : IxR X r' :=
  fun va sl pins s σ H x y v u Q I rx ry q e => h va sl pins s σ H x y v u Q I rx ry (i _ _ _ _ q) e
theorem mtImp {id : String} {r r' : V → List V → Hp → VK → Prop} (h : MtM X id r) (i : ∀ x vs H Q, r' x vs H Q → r x vs H Q) : MtM X id r' :=
  fun pins s σ H x xs v us Q I rx rs q => h pins s σ H x xs v us Q I rx rs (i _ _ _ _ q)
theorem setImp {r r' : TSet} (h : PSet X r) (i : ∀ o j v H Q, r' o j v H Q → r o j v H Q) : PSet X r' :=
  fun pins s σ H o j v ov iv u Q I ro ri rv q => h pins s σ H o j v ov iv u Q I ro ri rv (i _ _ _ _ _ q)
end

/-! ### lists and tuples of ints -/
abbrev LI (ns : List Int) : HO := .lst (ns.map V.int)
abbrev TI (ns : List Int) : HO := .tup (ns.map V.int)
theorem map_int_inj {xs ys : List Int} : xs.map V.int = ys.map V.int ↔ xs = ys := by
  constructor
  · intro h
    exact (List.map_inj_right (fun a b e => V.int.inj e)).mp h
  · rintro rfl
    rfl
theorem map_nil_iff {xs : List Int} : ([] : List V) = xs.map V.int ↔ xs = [] := by
  cases xs <;> simp
/-- the item at an int's place -/
def gi (ns : List Int) (i : Int) : Int := ns.getD i.toNat 0
theorem gi_nat (ns : List Int) (i : Nat) : gi ns (i : Int) = ns.getD i 0 := by
  unfold gi
  rw [Int.toNat_natCast]
theorem at_gi {ns : List Int} {i : Int} (h0 : 0 ≤ i) (h1 : i < ns.length) : atI (ns.map V.int) i = some (.int (gi ns i)) := by
  obtain ⟨n, rfl⟩ := Int.eq_ofNat_of_zero_le h0
  have hn : n < ns.length := by omega
  rw [gi_nat]
  refine atI_nat (j := n) ?_
  rw [List.getElem?_map, List.getElem?_eq_getElem hn, List.getD_eq_getElem?_getD, List.getElem?_eq_getElem hn]
  rfl
theorem at_raw {xs : List V} {i : Int} (h0 : 0 ≤ i) (h1 : i < xs.length) : atI xs i = some (xs.getD i.toNat .non) := by
  obtain ⟨n, rfl⟩ := Int.eq_ofNat_of_zero_le h0
  have hn : n < xs.length := by omega
  refine atI_nat (j := n) ?_
  rw [Int.toNat_natCast, List.getElem?_eq_getElem hn, List.getD_eq_getElem?_getD, List.getElem?_eq_getElem hn]
  rfl
theorem atI_neg {xs : List V} {i : Int} (h0 : i < 0) (h1 : -(xs.length : Int) ≤ i) : atI xs i = some (xs.getD (i + xs.length).toNat .non) := by
  unfold atI ixN
  rw [if_neg (by omega), if_pos h1]
  show xs[(i + (xs.length : Int)).toNat]? = _
  rw [List.getElem?_eq_getElem (by omega), List.getD_eq_getElem?_getD, List.getElem?_eq_getElem (by omega)]
  rfl

section
variable {X : Cx}
/-- xs[i], xs a list of ints, the place from the left -/
def rIxLI : R2 := fun x y H Q => ∃ p i, x = .ref p ∧ y = .int i ∧ ∃ ns, H p = some (LI ns) ∧ 0 ≤ i ∧ i < (ns.length : Int) ∧ Q (.int (gi ns i)) H
theorem ix_LI : IxR X rIxLI := ixImp ix_list fun x y H Q ⟨p, i, ex, ey, ns, hp, h0, h1, q⟩ =>
  ⟨p, _, i, _, ex, ey, .inl (.inl hp), at_gi h0 h1, q⟩
def rIxTI : R2 := fun x y H Q => ∃ p i, x = .ref p ∧ y = .int i ∧ ∃ ns, H p = some (TI ns) ∧ 0 ≤ i ∧ i < (ns.length : Int) ∧ Q (.int (gi ns i)) H
theorem ix_TI : IxR X rIxTI := ixImp ix_tup fun x y H Q ⟨p, i, ex, ey, ns, hp, h0, h1, q⟩ =>
  ⟨p, _, i, _, ex, ey, .inl (.inl hp), at_gi h0 h1, q⟩
/-- xs[i], xs a list or tuple of any things -/
def rIxLV : R2 := fun x y H Q => ∃ p i, x = .ref p ∧ y = .int i ∧ ∃ xs, H p = some (.lst xs) ∧ ∃ v, atI xs i = some v ∧ Q v H
theorem ix_LV : IxR X rIxLV := ixImp ix_list fun x y H Q ⟨p, i, ex, ey, xs, hp, v, hv, q⟩ => ⟨p, xs, i, v, ex, ey, .inl (.inl hp), hv, q⟩
def rIxTV : R2 := fun x y H Q => ∃ p i, x = .ref p ∧ y = .int i ∧ ∃ xs, H p = some (.tup xs) ∧ ∃ v, atI xs i = some v ∧ Q v H
theorem ix_TV : IxR X rIxTV := ixImp ix_tup fun x y H Q ⟨p, i, ex, ey, xs, hp, v, hv, q⟩ => ⟨p, xs, i, v, ex, ey, .inl (.inl hp), hv, q⟩
def rLen : List V → Hp → VK → Prop := fun vs H Q => ∃ p, vs = [.ref p] ∧ ∃ xs, (H p = some (.lst xs) ∨ H p = some (.tup xs)) ∧ Q (.int (xs.length : Nat)) H
theorem cr_len : CallR X (.builtin "len") rLen := callImp call_len_seq fun vs H Q ⟨p, e, xs, h, q⟩ =>
  ⟨p, xs, e, h.elim (fun h => .inl (.inl (.inl h))) (fun h => .inr (.inl (.inl h))), q⟩
theorem ixN_of {n : Nat} {i : Int} (h0 : 0 ≤ i) (h1 : i < n) : ixN n i = some i.toNat := by
  unfold ixN
  rw [if_pos h0, if_pos h1]
def rSetLI : TSet := fun o j v H Q => ∃ p i n, o = .ref p ∧ j = .int i ∧ v = .int n ∧ ∃ ns, H p = some (LI ns) ∧ 0 ≤ i ∧ i < (ns.length : Int) ∧ Q (upd H p (LI (ns.set i.toNat n)))
theorem set_LI : PSet X rSetLI := setImp set_list fun o j v H Q ⟨p, i, n, eo, ej, ev, ns, hp, h0, h1, q⟩ => by
  subst ev
  refine ⟨p, _, i, i.toNat, eo, ej, hp, ?_, ?_⟩
  · rw [List.length_map]
    exact ixN_of h0 h1
  · rw [← List.map_set]
    exact q
def rSetLV : TSet := fun o j v H Q => ∃ p i, o = .ref p ∧ j = .int i ∧ ∃ xs, H p = some (.lst xs) ∧ 0 ≤ i ∧ i < (xs.length : Int) ∧ Q (upd H p (.lst (xs.set i.toNat v)))
theorem set_LV : PSet X rSetLV := setImp set_list fun o j v H Q ⟨p, i, eo, ej, xs, hp, h0, h1, q⟩ =>
  ⟨p, xs, i, i.toNat, eo, ej, hp, ixN_of h0 h1, q⟩
theorem sz {n : Nat} (h : n < 1000000) : n < sizeLine := Nat.lt_of_lt_of_le h (by decide)
def rAppI : V → List V → Hp → VK → Prop := fun x vs H Q => ∃ l n, x = .ref l ∧ vs = [.int n] ∧ ∃ ns, H l = some (LI ns) ∧ ns.length < 1000000 ∧ Q .non (upd H l (LI (ns ++ [n])))
theorem mt_appI : MtM X "list.append" rAppI := mtImp mt_append fun x vs H Q ⟨l, n, ex, ev, ns, hl, hz, q⟩ => by
  refine ⟨l, ns.map V.int, .int n, ex, ev, hl, sz (by rw [List.length_map]; exact hz), ?_⟩
  rw [← List.map_singleton (f := V.int), ← List.map_append]
  exact q
def rAppV : V → List V → Hp → VK → Prop := fun x vs H Q => ∃ l v, x = .ref l ∧ vs = [v] ∧ ∃ xs, H l = some (.lst xs) ∧ xs.length < 1000000 ∧ Q .non (upd H l (.lst (xs ++ [v])))
theorem mt_appV : MtM X "list.append" rAppV := mtImp mt_append fun x vs H Q ⟨l, n, ex, ev, ns, hl, hz, q⟩ => ⟨l, ns, n, ex, ev, hl, sz hz, q⟩
def rTupL : List V → Hp → VK → Prop := fun vs H Q => ∃ p, vs = [.ref p] ∧ ∃ xs, H p = some (.lst xs) ∧ ∀ l, H l = none → Q (.ref l) (upd H l (.tup xs))
theorem cr_tupL : CallR X (.type "tuple") rTupL := callImp call_tuple_of fun vs H Q ⟨p, e, xs, h, q⟩ => ⟨p, xs, e, .inl ⟨.inl (.inl h), q⟩⟩
def rListS : List V → Hp → VK → Prop := fun vs H Q => ∃ p, vs = [.ref p] ∧ ∃ xs, (H p = some (.lst xs) ∨ H p = some (.tup xs)) ∧ ∀ l, H l = none → Q (.ref l) (upd H l (.lst xs))
theorem cr_listS : CallR X (.type "list") rListS := callImp call_list_of fun vs H Q ⟨p, e, xs, h, q⟩ => ⟨p, xs, e, h.elim (fun h => .inl (.inl (.inl h))) (fun h => .inr (.inl (.inl h))), q⟩
def rSumLI : List V → Hp → VK → Prop := fun vs H Q => ∃ p, vs = [.ref p] ∧ ∃ ns, H p = some (LI ns) ∧ Q (.int ns.sum) H
theorem cr_sumLI (hc : X.calm = true) : CallR X (.builtin "sum") rSumLI := callImp (cr_sum hc) fun vs H Q ⟨p, e, ns, h, q⟩ => ⟨p, ns, e, .inl (.inl h), q⟩
/-- xs * k of a new list -/
def rRepLI : R2 := fun x y H Q => ∃ l k, x = .ref l ∧ y = .int k ∧ ∃ n, H l = some (LI [n]) ∧ k < 1000000 ∧ -1000000 < k ∧ ∀ p, H p = none → Q (.ref p) (upd H p (LI (List.replicate k.toNat n)))
theorem flat_rep (k : Nat) (n : Int) : (List.replicate k [V.int n]).flatten = (List.replicate k n).map V.int := by
  induction k with
  | zero => rfl
  | succ k ih =>
    rw [List.replicate_succ, List.flatten_cons, ih, List.replicate_succ]
    rfl
theorem op_repLI : OpR X (binaryOp .Mult) rRepLI := opImp op_rep fun x y H Q ⟨l, k, ex, ey, n, hl, h0, h1, q⟩ => by
  refine ⟨l, k, [V.int n], ex, ey, hl, by omega, by omega, ?_, fun p hp => ?_⟩
  · show 1 * k.toNat ≤ sizeLine
    rw [Nat.one_mul]
    exact Nat.le_of_lt (sz (by omega))
  · rw [flat_rep]
    exact q p hp
/-- int(n) -/
def rIntI : List V → Hp → VK → Prop := fun vs H Q => ∃ i, vs = [.int i] ∧ Q (.int i) H
theorem cr_intI : CallR X (.type "int") rIntI := callImp call_int1 fun vs H Q ⟨i, e, q⟩ => .inl ⟨i, e, q⟩
def rIntB : List V → Hp → VK → Prop := fun vs H Q => ∃ k, vs = [.bl k] ∧ Q (.int (if k then 1 else 0)) H
theorem cr_intB : CallR X (.type "int") rIntB := callImp call_int1 fun vs H Q ⟨i, e, q⟩ => .inr ⟨i, e, q⟩
/-- isinstance(x, T) by what x is, T a builtin class -/
def tyOf : V → Hp → Option String
  | .non, _ => some "NoneType"
  | .bl _, _ => some "bool"
  | .int _, _ => some "int"
  | .str _, _ => some "str"
  | .ref a, H => match H a with
    | some (.lst _) => some "list"
    | some (.tup _) => some "tuple"
    | some (.dK _) => some "dict"
    | some (.dT _) => some "dict"
    | _ => none
  | _, _ => none
end
end Pr

namespace Pr
open PySem PySem.Spec PyProof.Rows L2

/-! ### == of lists and tuples of ints -/
theorem dpAll_ints (K : PySem.W.Frag) (H : Hp) : ∀ ns : List Int, DpAll K H (ns.map V.int) (ns.map PyData.int)
  | [] => .nil
  | n :: ns => .cons (.int n) (dpAll_ints K H ns)
theorem eqvAll_ints : ∀ ns ms : List Int, PyData.eqvAll (ns.map .int) (ms.map .int) = decide (ns = ms)
  | [], [] => rfl
  | [], m :: ms => by simp [PyData.eqvAll]
  | n :: ns, [] => by simp [PyData.eqvAll]
  | n :: ns, m :: ms => by
    show (PyData.eqv (.int n) (.int m) && PyData.eqvAll (ns.map .int) (ms.map .int)) = decide (n :: ns = m :: ms)
    rw [eqvAll_ints ns ms]
    simp [PyData.eqv, ]
    by_cases h : n = m <;> simp [h]
theorem lay_ints : ∀ ns : List Int, PyData.canLayAll0 (ns.map .int) = true
  | [] => rfl
  | n :: ns => by
    show (PyData.canLay0 (.int n) && PyData.canLayAll0 (ns.map .int)) = true
    rw [lay_ints ns]
    rfl
theorem depth_ints : ∀ ns : List Int, PyData.depthAll (ns.map .int) = 0
  | [] => rfl
  | n :: ns => by
    show max (PyData.depth (.int n)) (PyData.depthAll (ns.map .int)) = 0
    rw [depth_ints ns]
    rfl
theorem shaped_TI (ns : List Int) : SeqAt.shaped (.tuple (ns.map .int)) = true := by
  unfold SeqAt.shaped
  simp [PyData.canLay0, PyData.depth, lay_ints, depth_ints]
theorem shaped_LI (ns : List Int) : SeqAt.shaped (.list (ns.map .int)) = true := by
  unfold SeqAt.shaped
  simp [PyData.canLay0, PyData.depth, lay_ints, depth_ints]
section
variable {X : Cx}
def rEqTI : R2 := fun x y H Q => ∃ p q, x = .ref p ∧ y = .ref q ∧ ∃ ns, H p = some (TI ns) ∧ ∃ ms, H q = some (TI ms) ∧ Q (.bl (decide (ns = ms))) H
theorem op_eqTI (hu : X.A.units + 64 < cLine) : OpR X (compareOp .Eq) rEqTI := opImp (op_eqD hu) fun x y H Q ⟨p, q, ex, ey, ns, hp, ms, hq, k⟩ => by
  subst ex ey
  refine ⟨_, _, .tup (.inl (.inl hp)) (dpAll_ints _ _ ns), .tup (.inl (.inl hq)) (dpAll_ints _ _ ms), shaped_TI ns, shaped_TI ms, ?_⟩
  show Q (.bl (PyData.eqvAll (ns.map .int) (ms.map .int))) H
  rw [eqvAll_ints]
  exact k
def rNeTI : R2 := fun x y H Q => ∃ p q, x = .ref p ∧ y = .ref q ∧ ∃ ns, H p = some (TI ns) ∧ ∃ ms, H q = some (TI ms) ∧ Q (.bl (!decide (ns = ms))) H
theorem op_neTI (hu : X.A.units + 64 < cLine) : OpR X (compareOp .NotEq) rNeTI := opImp (op_neD hu) fun x y H Q ⟨p, q, ex, ey, ns, hp, ms, hq, k⟩ => by
  subst ex ey
  refine ⟨_, _, .tup (.inl (.inl hp)) (dpAll_ints _ _ ns), .tup (.inl (.inl hq)) (dpAll_ints _ _ ms), shaped_TI ns, shaped_TI ms, ?_⟩
  show Q (.bl (!PyData.eqvAll (ns.map .int) (ms.map .int))) H
  rw [eqvAll_ints]
  exact k
def rEqLI : R2 := fun x y H Q => ∃ p q, x = .ref p ∧ y = .ref q ∧ ∃ ns, H p = some (LI ns) ∧ ∃ ms, H q = some (LI ms) ∧ Q (.bl (decide (ns = ms))) H
theorem op_eqLI (hu : X.A.units + 64 < cLine) : OpR X (compareOp .Eq) rEqLI := opImp (op_eqD hu) fun x y H Q ⟨p, q, ex, ey, ns, hp, ms, hq, k⟩ => by
  subst ex ey
  refine ⟨_, _, .lst (.inl (.inl hp)) (dpAll_ints _ _ ns), .lst (.inl (.inl hq)) (dpAll_ints _ _ ms), shaped_LI ns, shaped_LI ms, ?_⟩
  show Q (.bl (PyData.eqvAll (ns.map .int) (ms.map .int))) H
  rw [eqvAll_ints]
  exact k
def rNeLI : R2 := fun x y H Q => ∃ p q, x = .ref p ∧ y = .ref q ∧ ∃ ns, H p = some (LI ns) ∧ ∃ ms, H q = some (LI ms) ∧ Q (.bl (!decide (ns = ms))) H
theorem op_neLI (hu : X.A.units + 64 < cLine) : OpR X (compareOp .NotEq) rNeLI := opImp (op_neD hu) fun x y H Q ⟨p, q, ex, ey, ns, hp, ms, hq, k⟩ => by
  subst ex ey
  refine ⟨_, _, .lst (.inl (.inl hp)) (dpAll_ints _ _ ns), .lst (.inl (.inl hq)) (dpAll_ints _ _ ms), shaped_LI ns, shaped_LI ms, ?_⟩
  show Q (.bl (!PyData.eqvAll (ns.map .int) (ms.map .int))) H
  rw [eqvAll_ints]
  exact k
/-- isinstance of what is no object -/
def rIsiS : List V → Hp → VK → Prop := fun vs H Q => ∃ x T, vs = [x, .ty T] ∧ ∃ t, tyOf x H = some t ∧ ∃ b, kitB t T = some b ∧ Q (.bl b) H
theorem cr_isiS : CallR X (.builtin "isinstance") rIsiS := callImp call_isi fun vs H Q ⟨x, T, e, t, ht, b, hb, q⟩ => by
  refine ⟨x, .ty T, .type t, .type T, b, e, ?_, ?_, kit_ty hb, q⟩
  · exact .ty T
  · unfold tyOf at ht
    split at ht
    · cases ht; exact .base .non
    · cases ht; exact .base (.bl _)
    · cases ht; exact .base (.int _)
    · cases ht; exact .base (.str _)
    · split at ht <;> cases ht
      · exact .base (.lst ‹_›)
      · exact .base (.tup ‹_›)
      · exact .base (.dK ‹_›)
      · exact .base (.dT ‹_›)
    · cases ht
end

/-! ### sum of a tuple of ints -/
section
variable {prog : Program} {w : World} {A : Around} {E : Value → Shared → Prop} {s : Shared} {l : Addr} {xs : Array (Int × Tok)}
theorem sum_intTupG {Q : Value → Shared → Prop} (hh : A.handled = none) (hl : IsTup s.heap l (intItems xs))
    (h : ∀ h' tk t', (∀ b o, s.heap.get? b = some o → h'.get? b = some o) → Q (.int (preSum (numAt xs) xs.size) t') { s with heap := h', toks := tk }) :
    wpAny (model prog w) A (call (.builtin "sum") [.ref l]) Q E s := by
  have hlt : l < s.heap.objs.size := hl.lt
  refine call_sum_walkG (wpAny_pyIter_tuple hl ?_)
  refine ⟨_, [_, l], [_], _, _, _, numAt xs, rfl, Walks.tuple (A := A.in1) hh _ l (Nat.ne_of_lt hlt) (intItems xs), ⟨⟨_, Heap.get?_push_size _ rfl, rfl, rfl⟩, hl.push _⟩, fun b hb => ?_, (fun _ _ => intItems_at), fun h' tk t' hk => ?_⟩
  · show b < (s.heap.push _).objs.size
    rw [Heap.size_push]
    rcases List.mem_cons.mp hb with rfl | hb
    · exact Nat.lt_succ_self _
    · rcases List.mem_cons.mp hb with rfl | hb
      · exact Nat.lt_succ_of_lt hlt
      · cases hb
  · have := h h' tk t' (fun b o e => by
      refine hk b o (fun hm => ?_) (Heap.get?_push_of_some _ e)
      rcases List.mem_cons.mp hm with e1 | hm
      · exact absurd (e1 ▸ Heap.lt_size e) (Nat.lt_irrefl _)
      · cases hm)
    simpa [intItems] using this
end
section
variable {X : Cx}
def rSumTI : List V → Hp → VK → Prop := fun vs H Q => ∃ p, vs = [.ref p] ∧ ∃ ns, H p = some (TI ns) ∧ Q (.int ns.sum) H
theorem cr_sumTI (hc : X.calm = true) : CallR X (.builtin "sum") rSumTI := by
  intro pins s σ H vs us Q I r h
  obtain ⟨a, rfl, ns, hs, q⟩ := h
  obtain ⟨its, rv, hl, _⟩ := I.tuple (.inl (.inl hs))
  rw [Vals.ref1 r]
  obtain ⟨xs, e⟩ := rv.ints.allInts.items
  have hn : numsOf (intItems xs).toList = ns := by rw [← e]; exact rv.ints.numsOf
  rw [nums_intItems] at hn
  rw [e] at hl
  refine sum_intTupG (I.ok.hd hc) hl fun h' tk t' hk => ?_
  refine ⟨.int _, H, I.kept hk, ⟨_, rfl⟩, ?_⟩
  rw [preSum_eq, List.take_of_length_le (by simp), hn]
  exact q
end

/-! ### t[::-1] of a tuple -/
section
variable {prog : Program} {w : World} {A : Around} {E : Value → Shared → Prop} {s : Shared}
theorem rev_pick (xs : Array Value) : ((List.range xs.size).filterMap fun (m : Nat) => xs[(((xs.size : Int) - 1) + (m : Int) * (-1)).toNat]?).toArray = xs.toList.reverse.toArray := by
  congr 1
  have e : (List.range xs.size).filterMap (fun (m : Nat) => xs[(((xs.size : Int) - 1) + (m : Int) * (-1)).toNat]?) = (List.range xs.size).map fun m => xs.toList.reverse.getD m .none := by
    have h1 : ∀ m ∈ List.range xs.size, xs[(((xs.size : Int) - 1) + (m : Int) * (-1)).toNat]? = some (xs.toList.reverse.getD m .none) := fun m hm => by
      have hm := List.mem_range.mp hm
      have e1 : (((xs.size : Int) - 1) + (m : Int) * (-1)).toNat = xs.size - 1 - m := by omega
      rw [e1, List.getD_eq_getElem?_getD, List.getElem?_reverse (by simpa using hm), Array.getElem?_toList, Array.length_toList]
      rw [Array.getElem?_eq_getElem (by omega)]
      rfl
    generalize hg : (List.range xs.size) = L at h1 ⊢
    clear hg
    induction L with
    | nil => rfl
    | cons a L ih =>
      rw [List.filterMap_cons]
      simp only [h1 a List.mem_cons_self]
      rw [List.map_cons, ih fun m hm => h1 m (List.mem_cons_of_mem _ hm)]
  rw [e]
  apply List.ext_getElem
  · simp
  · intro i h1 h2
    rw [List.getElem_map, List.getElem_range, List.getD_eq_getElem?_getD, List.getElem?_eq_getElem h2]
    rfl
theorem sliceApplied_rev {sl : Addr} {n : Nat} {tk : Tok} {Q : Int × Int × Nat → Shared → Prop} (hs : s.heap.IsSliceOf sl .none .none (.int (-1) tk))
    (h : Q ((n : Int) - 1, -1, n) s) : wpAny (model prog w) A (Builtin.Slice.sliceApplied (.ref sl) (pure (n : Int))) Q E s := by
  obtain ⟨os, hos, hcs, hds⟩ := id hs
  unfold Builtin.Slice.sliceApplied Builtin.Slice.sliceFields
  refine wpAny_bind (wpAny_bind (wpAny_field hos hds (x := .none) rfl (wpAny_bind (wpAny_field hos hds (x := .none) rfl (wpAny_bind (wpAny_field hos hds (x := .int (-1) tk) rfl (wpAny_pure ?_)))))))
  refine wpAny_bind (slicePart_int ?_)
  show wpAny _ _ (if ((-1 : Int) == 0) = true then _ else _) _ _ s
  rw [if_neg (by decide)]
  refine wpAny_bind (slicePart_none (wpAny_bind (slicePart_none (wpAny_bind (wpAny_pure ?_)))))
  show wpAny _ _ (pure (((n : Int) - 1), (-1 : Int), Builtin.Slice.slicePlaces ((n : Int) - 1) (-1) (-1))) _ _ s
  have e : Builtin.Slice.slicePlaces ((n : Int) - 1) (-1) (-1) = n := by
    unfold Builtin.Slice.slicePlaces
    rw [if_neg (by omega)]
    by_cases h0 : (n : Int) - 1 > -1
    · rw [if_pos h0]
      show (((n : Int) - 1 - -1 - 1) / 1 + 1).toNat = n
      omega
    · rw [if_neg h0]
      omega
  rw [e]
  exact wpAny_pure h
theorem getItem_tuple_rev {t sl : Addr} {items : Array Value} {tk : Tok} {Q : Value → Shared → Prop} (ht : IsTup s.heap t items) (hs : s.heap.IsSliceOf sl .none .none (.int (-1) tk))
    (h : Q (.ref s.heap.objs.size) { s with heap := s.heap.push { cls := .type "tuple", data := .seq items.toList.reverse.toArray } })
    (hsz : items.size ≤ sizeLine) : wpAny (model prog w) A (getItem (.ref t) (.ref sl)) Q E s := by
  have htake : sizeOk (.seq (items.toList.reverse).toArray) := by
    show (items.toList.reverse).toArray.size ≤ sizeLine
    rw [List.size_toArray, List.length_reverse, Array.length_toList]
    omega
  obtain ⟨os, hos, hcs, hds⟩ := id hs
  have hTs : s.TypeIs (.ref sl) "slice" := ⟨os, hos, hcs⟩
  unfold getItem
  try with_reducible refine wpAny_holding ?_
  first | refine wpAny_bind (wpAny_pure ?_) | skip
  refine wpAny_bind (wpAny_sequenceKey ht.typeIs (by decide) ?_)
  refine wpAny_bind (wpAny_callSpecial?_slot (name := Str.ofString "__getitem__") ht.typeIs PyProof.Rows.slot_tuple_getitem
    (wpAny_call_entry PyProof.Rows.slot_tuple_getitem ht.typeIs PyProof.Rows.entry_tuple_getitem ?_ (PyProof.Rows.args_tuple_getitem _ _)))
  show wpAny _ _ (Builtin.Tuple.tupleItemsOf (.ref t) >>= _) _ _ s
  refine wpAny_bind (tupleItemsOf_ ht ?_)
  refine wpAny_bind (wpAny_typeOf hTs ?_)
  rw [if_pos (by decide)]
  refine wpAny_bind (sliceApplied_rev hs ?_)
  have hno : ¬ (((((items.size : Nat) : Int) - 1) == 0 && (-1 : Int) == 1 && items.size == items.size) = true) := by
    intro q
    rw [Bool.and_eq_true, Bool.and_eq_true] at q
    exact absurd q.1.2 (by decide)
  show wpAny _ _ (if ((((items.size : Nat) : Int) - 1) == 0 && (-1 : Int) == 1 && items.size == items.size) = true then _ else _) _ _ s
  rw [if_neg hno, rev_pick]
  first
    | exact wpAny_bind (m := Builtin.Tuple.tupleExact _) (wpAny_newObj_type (wpAny_pure ⟨_, rfl, wpAny_pure h⟩) htake)
    | exact wpAny_bind (m := Builtin.Tuple.tupleExact _) (wpAny_newObj_type (wpAny_bind (wpAny_pure (wpAny_pure ⟨_, rfl, wpAny_pure h⟩))) htake)
    | exact wpAny_bind (wpAny_bind (m := Builtin.Tuple.tupleExact _) (wpAny_newObj_type (wpAny_pure (wpAny_pure ⟨_, rfl, wpAny_pure h⟩)) htake))
    | exact wpAny_bind (wpAny_bind (m := Builtin.Tuple.tupleExact _) (wpAny_newObj_type (wpAny_pure ⟨_, rfl, wpAny_pure h⟩) htake))
end
section
variable {X : Cx}
def tRevT (te : TE) : TE := fun σ H Q => te σ H fun x H1 => ∃ a, x = .ref a ∧ ∃ xs, H1 a = some (.tup xs) ∧ ∀ p, H1 p = none → Q (.ref p) (upd H1 p (.tup xs.reverse))
theorem pe_revT {e : Expr} {te : TE} {k : Nat} {p1 p2 p3 pos : Pos} (he : PE X e te) : PE X (.Subscript e (.Slice none none (some (.UnaryOp .USub (.Constant (.int 1) k p1) p2)) p3) pos) (tRevT te) := by
  refine ⟨fun pins s σ H Q I h => ?_⟩
  refine Subscript_ (thn (he.run pins s σ H _ I h) fun v s1 ⟨x, H1, I1, r1, q1⟩ => ?_)
  obtain ⟨a, ex, xs, hx, q⟩ := q1
  subst ex
  cases r1
  have hst : PO X (some (.UnaryOp .USub (.Constant (.int 1) k p1) p2)) (tPart (tUn (rU fun i => .int (-i)) (tC (.int 1)))) := po_some (pe_un un_neg pe_int)
  refine wpAny_Slice (thn (po_none.run pins s1 σ H1 (fun o H2 => o = none ∧ H2 = H1) I1 ⟨rfl, rfl⟩) fun vl s2 ⟨l, H2, I2, pl, el, e2⟩ => ?_)
  subst el e2
  refine thn (po_none.run pins s2 σ H2 (fun o H3 => o = none ∧ H3 = H2) I2 ⟨rfl, rfl⟩) fun vu s3 ⟨u, H3, I3, pu, eu, e3⟩ => ?_
  subst eu e3
  refine thn (hst.run pins s3 σ H3 (fun o H4 => o = some (-1) ∧ H4 = H3) I3 ⟨1, rfl, -1, rfl, rfl, rfl⟩) fun vs s4 ⟨o, H4, I4, ps, eo, e4⟩ => ?_
  subst eo e4
  cases pl
  cases pu
  cases ps with
  | int i tk =>
  have I5 : Inv X pins σ H4 { s4 with heap := s4.heap.push { cls := .type "slice", data := .fields #[.none, .none, .int (-1) tk] } } := I4.kept (t' := s4.toks) fun b ob q => Heap.get?_push_of_some _ q
  obtain ⟨its, r, ht, hz⟩ := I5.tuple (.inl (.inl hx))
  have hlen := r.length
  show wpAny (model X.prog X.w) X.A (subscriptTail e (.Slice none none (some (.UnaryOp .USub (.Constant (.int 1) k p1) p2)) p3) (.ref a) (.ref s4.heap.objs.size)) (EP X pins σ Q) X.xe { s4 with heap := s4.heap.push { cls := .type "slice", data := .fields #[.none, .none, .int (-1) tk] } }
  refine tail_any (ops := [.ref a, .ref s4.heap.objs.size]) ht.typeIs (PyProof.Rows.slot_tuple_getitem.lookup) ?_ (by with_unfolding_all rfl)
  refine getItem_tuple_rev ht (Heap.IsSliceOf.new _ .none .none (.int (-1) tk)) ?_ (by rw [List.size_toArray]; omega)
  refine ⟨.ref _, _, I5.laid (t' := s4.toks) (o := .tup xs.reverse) (fun b ob q => Heap.get?_push_of_some _ q) (Nat.le_refl _) ?_, rfl, q _ (I5.hok.fresh (Nat.le_refl _))⟩
  exact ⟨by rw [List.length_reverse]; exact hz, _, r.reverse, IsTup.new _ _⟩
end
end Pr

namespace Pr
open PySem PySem.Spec PyProof.Rows L2

/-! ### readings, applied -/
section
variable {K : PySem.W.Frag} {σ : L2.St} {H : Hp} {Q : VK} {ta tb tc te : TE} {t u : TT} {D : Ends} {tu tw : TS} {g : TG} {x y v : V} {i j : Nat} {QT : Bool → Hp → Prop} {QA : List V → Hp → Prop}
theorem ap_seq : tSeq tu tw D σ H = tu { D with nx := tw D } σ H := rfl
theorem ap_next : tNext D σ H = D.nx σ H := rfl
theorem ap_asg : tAsg te g D σ H = te σ H fun x H1 => g x σ H1 D.nx := rfl
theorem ap_gName {QN : L2.St → Hp → Prop} : gName i v σ H QN = QN (σ.set i (some v)) H := rfl
theorem ap_ret : tRet te D σ H = te σ H D.rt := rfl
theorem ap_retN : tRetN D σ H = D.rt .non H := rfl
theorem ap_drop : tDrop te D σ H = te σ H fun _ H1 => D.nx σ H1 := rfl
theorem ap_ifS : tIfS t tu tw D σ H = t σ H fun b H1 => if b = true then tu D σ H1 else tw D σ H1 := rfl
theorem ap_break : tBreak D σ H = D.bk σ H := rfl
theorem ap_cont : tCont D σ H = D.ct σ H := rfl
theorem ap_par {ta : TA} : tPar i j ta D σ H = ta σ H fun vs H1 => ∃ v w, vs = [v, w] ∧ D.nx ((σ.set i (some v)).set j (some w)) H1 := rfl
theorem ap_aug {ti : TIp} : tAug i te ti D σ H = ∃ x, σ[i]? = some (some x) ∧ te σ H fun y H1 => ti x y H1 fun z H2 => D.nx (σ.set i (some z)) H2 := rfl
theorem ap_ip {f : Int → Int → Int} : ipI f x y H Q = ∃ i j, x = .int i ∧ y = .int j ∧ Q (.int (f i j)) H := rfl
theorem ap_gSub {to ti : TE} {ts : TSet} {QN : L2.St → Hp → Prop} : gSub to ti ts v σ H QN = to σ H fun o H1 => ti σ H1 fun i H2 => ts o i v H2 fun H3 => QN σ H3 := rfl
theorem ap_gTup {n : Nat} {ts : TGs} {QN : L2.St → Hp → Prop} : gTup K n ts v σ H QN = ∃ a xs, v = .ref a ∧ SqT K H a xs ∧ xs.length = n ∧ ts xs σ H QN := rfl
theorem ap_gNil {vs : List V} {QN : L2.St → Hp → Prop} : gNil vs σ H QN = (vs = [] ∧ QN σ H) := rfl
theorem ap_gCons {t : TG} {u : TGs} {vs : List V} {QN : L2.St → Hp → Prop} : gCons t u vs σ H QN = ∃ v r, vs = v :: r ∧ t v σ H fun σ' H' => u r σ' H' QN := rfl
theorem ap_var : tVar i σ H Q = ∃ v, σ[i]? = some (some v) ∧ Q v H := rfl
theorem ap_c : tC v σ H Q = Q v H := rfl
theorem ap_op {r : R2} : tOp r ta tb σ H Q = ta σ H fun x H1 => tb σ H1 fun y H2 => r x y H2 Q := rfl
theorem ap_un {r : V → Hp → VK → Prop} : tUn r ta σ H Q = ta σ H fun x H1 => r x H1 Q := rfl
theorem ap_if : tIf t ta tb σ H Q = t σ H fun c H1 => if c = true then ta σ H1 Q else tb σ H1 Q := rfl
theorem ap_test : tTest te σ H QT = te σ H fun x H' => ∃ k, x = .bl k ∧ QT k H' := rfl
theorem ap_B : tB te σ H QT = te σ H fun x H' => ∃ k, x = .bl k ∧ QT k H' := rfl
theorem ap_and : tAnd t u σ H QT = t σ H fun c H1 => if c = true then u σ H1 QT else QT false H1 := rfl
theorem ap_or : tOr t u σ H QT = t σ H fun c H1 => if c = true then QT true H1 else u σ H1 QT := rfl
theorem ap_not : tNot t σ H QT = t σ H fun c H1 => QT (!c) H1 := rfl
theorem ap_andV : tAndV ta tb σ H Q = ta σ H fun x H1 => ∃ c, x = .bl c ∧ if c = true then tb σ H1 Q else Q (.bl false) H1 := rfl
theorem ap_orV : tOrV ta tb σ H Q = ta σ H fun x H1 => ∃ c, x = .bl c ∧ if c = true then Q (.bl true) H1 else tb σ H1 Q := rfl
theorem ap_notV : tNotV ta σ H Q = ta σ H fun x H1 => ∃ c, x = .bl c ∧ Q (.bl (!c)) H1 := rfl
theorem ap_nil : tNil σ H QA = QA [] H := rfl
theorem ap_cons {tr : TA} : tCons ta tr σ H QA = ta σ H fun x H1 => tr σ H1 fun xs H2 => QA (x :: xs) H2 := rfl
theorem ap_tup {ta : TA} : tTup ta σ H Q = ta σ H fun xs H1 => xs.length ≤ sizeLine ∧ ∀ p, H1 p = none → Q (.ref p) (upd H1 p (.tup xs)) := rfl
theorem ap_lst {ta : TA} : tLst ta σ H Q = ta σ H fun xs H1 => xs.length ≤ sizeLine ∧ ∀ p, H1 p = none → Q (.ref p) (upd H1 p (.lst xs)) := rfl
theorem ap_cb {r : List V → Hp → VK → Prop} {ta : TA} : tCB r ta σ H Q = ta σ H fun vs H1 => r vs H1 Q := rfl
theorem ap_bm {T : String} {r : V → List V → Hp → VK → Prop} {ta : TA} : tBM K T r te ta σ H Q = te σ H fun x H1 => tyV K T x H1 ∧ ta σ H1 fun xs H2 => r x xs H2 Q := rfl
theorem ap_call {sp : Sp} {dvs : List V} {E : XK} {ta : TA} : tCall sp dvs E ta σ H Q = ta σ H fun vs H1 => sp (vs ++ dvs) H1 Q E := rfl
theorem ap_chain {r r' : R2} : tChain r r' ta tb tc σ H Q = ta σ H fun x H1 => tb σ H1 fun y H2 => r x y H2 fun z H3 => ∃ k, z = .bl k ∧ (if k = true then tc σ H3 fun w H4 => r' y w H4 Q else Q (.bl false) H3) := by
  unfold tChain
  apply propext
  rfl
theorem ap_rI {C : Int → Int → Prop} {f : Int → Int → V} : rI C f x y H Q = ∃ i j, x = .int i ∧ y = .int j ∧ C i j ∧ Q (f i j) H := rfl
theorem ap_rI0 {f : Int → Int → V} : rI0 f x y H Q = ∃ i j, x = .int i ∧ y = .int j ∧ Q (f i j) H := rfl
theorem ap_rU {f : Int → V} : rU f x H Q = ∃ i, x = .int i ∧ Q (f i) H := rfl
theorem ap_rEq : rEq x y H Q = (scal x y = true ∧ Q (.bl (decide (x = y))) H) := rfl
theorem ap_rNe : rNe x y H Q = (scal x y = true ∧ Q (.bl (!decide (x = y))) H) := rfl
theorem ap_revT : tRevT te σ H Q = te σ H fun x H1 => ∃ a, x = .ref a ∧ ∃ xs, H1 a = some (.tup xs) ∧ ∀ p, H1 p = none → Q (.ref p) (upd H1 p (.tup xs.reverse)) := rfl
theorem ap_sl {r : V → Option Int → Option Int → Hp → VK → Prop} {tl th : TO} : tSl r te tl th σ H Q = te σ H fun x H1 => tl σ H1 fun l H2 => th σ H2 fun u H3 => r x l u H3 Q := rfl
theorem ap_part {QO : Option Int → Hp → Prop} : tPart te σ H QO = te σ H fun x H1 => ∃ i, x = .int i ∧ QO (some i) H1 := rfl
theorem ap_noPart {QO : Option Int → Hp → Prop} : tNoPart σ H QO = QO none H := rfl
theorem ap_ixLI : rIxLI x y H Q = ∃ p i, x = .ref p ∧ y = .int i ∧ ∃ ns, H p = some (LI ns) ∧ 0 ≤ i ∧ i < (ns.length : Int) ∧ Q (.int (gi ns i)) H := rfl
theorem ap_ixTI : rIxTI x y H Q = ∃ p i, x = .ref p ∧ y = .int i ∧ ∃ ns, H p = some (TI ns) ∧ 0 ≤ i ∧ i < (ns.length : Int) ∧ Q (.int (gi ns i)) H := rfl
theorem ap_ixLV : rIxLV x y H Q = ∃ p i, x = .ref p ∧ y = .int i ∧ ∃ xs, H p = some (.lst xs) ∧ ∃ v, atI xs i = some v ∧ Q v H := rfl
theorem ap_ixTV : rIxTV x y H Q = ∃ p i, x = .ref p ∧ y = .int i ∧ ∃ xs, H p = some (.tup xs) ∧ ∃ v, atI xs i = some v ∧ Q v H := rfl
theorem ap_ixL : rIxL K x y H Q = ∃ p xs i v, x = .ref p ∧ y = .int i ∧ SqL K H p xs ∧ atI xs i = some v ∧ Q v H := rfl
theorem ap_len {vs : List V} : rLen vs H Q = ∃ p, vs = [.ref p] ∧ ∃ xs, (H p = some (.lst xs) ∨ H p = some (.tup xs)) ∧ Q (.int (xs.length : Nat)) H := rfl
theorem ap_setLI {o : V} {QH : Hp → Prop} : rSetLI o x v H QH = ∃ p i n, o = .ref p ∧ x = .int i ∧ v = .int n ∧ ∃ ns, H p = some (LI ns) ∧ 0 ≤ i ∧ i < (ns.length : Int) ∧ QH (upd H p (LI (ns.set i.toNat n))) := rfl
theorem ap_setLV {o : V} {QH : Hp → Prop} : rSetLV o x v H QH = ∃ p i, o = .ref p ∧ x = .int i ∧ ∃ xs, H p = some (.lst xs) ∧ 0 ≤ i ∧ i < (xs.length : Int) ∧ QH (upd H p (.lst (xs.set i.toNat v))) := rfl
theorem ap_appI {vs : List V} : rAppI x vs H Q = ∃ l n, x = .ref l ∧ vs = [.int n] ∧ ∃ ns, H l = some (LI ns) ∧ ns.length < 1000000 ∧ Q .non (upd H l (LI (ns ++ [n]))) := rfl
theorem ap_appV {vs : List V} : rAppV x vs H Q = ∃ l v, x = .ref l ∧ vs = [v] ∧ ∃ xs, H l = some (.lst xs) ∧ xs.length < 1000000 ∧ Q .non (upd H l (.lst (xs ++ [v]))) := rfl
theorem ap_tupL {vs : List V} : rTupL vs H Q = ∃ p, vs = [.ref p] ∧ ∃ xs, H p = some (.lst xs) ∧ ∀ l, H l = none → Q (.ref l) (upd H l (.tup xs)) := rfl
theorem ap_listS {vs : List V} : rListS vs H Q = ∃ p, vs = [.ref p] ∧ ∃ xs, (H p = some (.lst xs) ∨ H p = some (.tup xs)) ∧ ∀ l, H l = none → Q (.ref l) (upd H l (.lst xs)) := rfl
theorem ap_sumLI {vs : List V} : rSumLI vs H Q = ∃ p, vs = [.ref p] ∧ ∃ ns, H p = some (LI ns) ∧ Q (.int ns.sum) H := rfl
theorem ap_sumTI {vs : List V} : rSumTI vs H Q = ∃ p, vs = [.ref p] ∧ ∃ ns, H p = some (TI ns) ∧ Q (.int ns.sum) H := rfl
theorem ap_repLI : rRepLI x y H Q = ∃ l k, x = .ref l ∧ y = .int k ∧ ∃ n, H l = some (LI [n]) ∧ k < 1000000 ∧ -1000000 < k ∧ ∀ p, H p = none → Q (.ref p) (upd H p (LI (List.replicate k.toNat n))) := rfl
theorem ap_intI {vs : List V} : rIntI vs H Q = ∃ i, vs = [.int i] ∧ Q (.int i) H := rfl
theorem ap_intB {vs : List V} : rIntB vs H Q = ∃ k, vs = [.bl k] ∧ Q (.int (if k then 1 else 0)) H := rfl
theorem ap_eqTI : rEqTI x y H Q = ∃ p q, x = .ref p ∧ y = .ref q ∧ ∃ ns, H p = some (TI ns) ∧ ∃ ms, H q = some (TI ms) ∧ Q (.bl (decide (ns = ms))) H := rfl
theorem ap_neTI : rNeTI x y H Q = ∃ p q, x = .ref p ∧ y = .ref q ∧ ∃ ns, H p = some (TI ns) ∧ ∃ ms, H q = some (TI ms) ∧ Q (.bl (!decide (ns = ms))) H := rfl
theorem ap_eqLI : rEqLI x y H Q = ∃ p q, x = .ref p ∧ y = .ref q ∧ ∃ ns, H p = some (LI ns) ∧ ∃ ms, H q = some (LI ms) ∧ Q (.bl (decide (ns = ms))) H := rfl
theorem ap_neLI : rNeLI x y H Q = ∃ p q, x = .ref p ∧ y = .ref q ∧ ∃ ns, H p = some (LI ns) ∧ ∃ ms, H q = some (LI ms) ∧ Q (.bl (!decide (ns = ms))) H := rfl
theorem ap_isi {vs : List V} : rIsiS vs H Q = ∃ x T, vs = [x, .ty T] ∧ ∃ t, tyOf x H = some t ∧ ∃ b, kitB t T = some b ∧ Q (.bl b) H := rfl
/-- a loop over what has begun -/
def tLoop (g : TG) (tb : TS) (D : Ends) (σ : L2.St) (J : It) (H1 : Hp) : Prop := ∃ W : Nat → Nat → L2.St → Hp → Prop, (∃ m, W 0 m σ H1) ∧ ∀ i m σ H, W i m σ H →
  (J.stop i H ∧ D.nx σ H) ∨ (J.go i H ∧ ∃ N : L2.St → Hp → Prop, (∀ σ' H', N σ' H' → ∃ m', m' < m ∧ W (i + 1) m' σ' H') ∧ ∀ x H', J.yld i H x H' → g x σ H' fun σ2 H2 => tb { D with nx := N, ct := N, bk := D.nx } σ2 H2)
theorem ap_for {wi : L2.TI} : tFor wi g tu D σ H = wi σ H (tLoop g tu D σ) := rfl
theorem ap_rng1 {ta : TA} {R : It → Hp → Prop} : iRng1 ta σ H R = ta σ H fun vs H1 => ∃ j : Int, vs = [.int j] ∧ -(2 ^ 62) ≤ j ∧ j < 2 ^ 62 ∧ R (Itr 0 j.toNat) H1 := rfl
theorem ap_rng2 {ta : TA} {R : It → Hp → Prop} : iRng2 ta σ H R = ta σ H fun vs H1 => ∃ i j : Int, vs = [.int i, .int j] ∧ (-(2 ^ 62) ≤ i ∧ i < 2 ^ 62 ∧ -(2 ^ 62) ≤ j ∧ j < 2 ^ 62) ∧ R (Itr i (j - i).toNat) H1 := rfl
theorem ap_iList {R : It → Hp → Prop} : iList K te σ H R = te σ H fun x H1 => ∃ a, x = .ref a ∧ (∃ xs, SqL K H1 a xs) ∧ R (Itl K a) H1 := rfl
theorem ap_iTup {R : It → Hp → Prop} : iTup K te σ H R = te σ H fun x H1 => ∃ a, x = .ref a ∧ (∃ xs, SqT K H1 a xs) ∧ R (Itt K a) H1 := rfl
/-- a comprehension over what has begun -/
def tLcIn (g : TG) (tt : TT) (te : TE) (vs : List Nat) (σ : L2.St) (Q : VK) (J : It) (H1 : Hp) : Prop := ∀ D, H1 D = none → ∃ W : Nat → Nat → Hp → Prop, (∃ m, W 0 m (upd H1 D (.lst []))) ∧ ∀ i m H, W i m H →
  (J.stop i H ∧ Q (.ref D) H) ∨ (J.go i H ∧ ∃ Nx : Hp → Prop, (∀ H', Nx H' → ∃ m', m' < m ∧ W (i + 1) m' H') ∧ ∀ x H', J.yld i H x H' → g x (wipe σ vs) H' fun σ2 H2 => wipe σ2 vs = wipe σ vs ∧ tt σ2 H2 fun b H3 =>
    if b = true then te σ2 H3 fun y H4 => ∃ acc, H4 D = some (.lst acc) ∧ acc.length < sizeLine ∧ Nx (upd H4 D (.lst (acc ++ [y]))) else Nx H3)
theorem ap_lc {wi : L2.TI} {vs : List Nat} : tLc wi g t te vs σ H Q = wi σ H (tLcIn g t te vs σ Q) := rfl
theorem ap_yes : tYes σ H QT = QT true H := rfl
theorem tyV_l {p : Addr} (h : ∃ xs, H p = some (.lst xs)) : tyV K "list" (.ref p) H = True := by
  obtain ⟨xs, h⟩ := h
  exact eq_true (.inl ⟨rfl, xs, .inl (.inl h)⟩)
theorem sqL_of {p : Addr} {xs : List V} (h : H p = some (.lst xs)) : SqL K H p xs := .inl (.inl h)
theorem sqT_of {p : Addr} {xs : List V} (h : H p = some (.tup xs)) : SqT K H p xs := .inl (.inl h)
end

/-! ### loops -/
section
variable {K : PySem.W.Frag} {g : TG} {tb : TS} {D : Ends} {σ : L2.St} {H : Hp} {j : Nat} {te : TE} {vs : List Nat} {Q : VK} {tt : TT}
theorem loop_range {lo : Int} {n : Nat} (Pv : Nat → L2.St → Hp → Prop) (h0 : Pv 0 σ H)
    (hs : ∀ (i : Nat) σ H, i < n → Pv i σ H → tb { D with nx := Pv (i + 1), ct := Pv (i + 1), bk := D.nx } (σ.set j (some (.int (lo + i)))) H) (hd : ∀ σ H, Pv n σ H → D.nx σ H) :
    tLoop (gName j) tb D σ (Itr lo n) H := for_range (g := gName j) Pv h0 hs hd
theorem loop_list {a : Addr} {xs : List V} (Pv : Nat → L2.St → Hp → Prop) (h0 : Pv 0 σ H) (hl : ∀ i σ H, i ≤ xs.length → Pv i σ H → SqL K H a xs)
    (hs : ∀ i x σ H, xs[i]? = some x → Pv i σ H → tb { D with nx := Pv (i + 1), ct := Pv (i + 1), bk := D.nx } (σ.set j (some x)) H) (hd : ∀ σ H, Pv xs.length σ H → D.nx σ H) :
    tLoop (gName j) tb D σ (Itl K a) H := for_list (g := gName j) Pv h0 hl hs hd
theorem loop_tup {a : Addr} {xs : List V} (Pv : Nat → L2.St → Hp → Prop) (h0 : Pv 0 σ H) (hl : ∀ i σ H, i ≤ xs.length → Pv i σ H → SqT K H a xs)
    (hs : ∀ i x σ H, xs[i]? = some x → Pv i σ H → tb { D with nx := Pv (i + 1), ct := Pv (i + 1), bk := D.nx } (σ.set j (some x)) H) (hd : ∀ σ H, Pv xs.length σ H → D.nx σ H) :
    tLoop (gName j) tb D σ (Itt K a) H := for_tup (g := gName j) Pv h0 hl hs hd
theorem same_upd {H : Hp} {p : Addr} {o : HO} (h : H p = none) : Same H (upd H p o) := fun b x e => by
  rw [upd_ne (ne_of_none e h)]
  exact e
theorem same_mut {H H' : Hp} {p : Addr} {o : HO} (e : Same H H') (h : H p = none) : Same H (upd H' p o) := fun b x eb => by
  rw [upd_ne (ne_of_none eb h)]
  exact e b x eb
/-- a comprehension whose turns leave what H knows, and give ints -/
theorem lc_rangeI {lo : Int} {n : Nat} (f : Nat → Int) (hn : n < 1000000) (hw : ∀ x, wipe ((wipe σ vs).set j (some x)) vs = wipe σ vs)
    (he : ∀ (i : Nat) H', i < n → Same H H' → ∀ Q' : VK, (∀ H'', Same H' H'' → Q' (.int (f i)) H'') → te ((wipe σ vs).set j (some (.int (lo + i)))) H' Q')
    (hq : ∀ p H', H p = none → Same H H' → H' p = some (LI ((List.range n).map f)) → Q (.ref p) H') :
    tLcIn (gName j) tYes te vs σ Q (Itr lo n) H := fun Dl hD => by
  refine lc_range (g := gName j) (lo := lo) (n := n) (fun i H' => Same H H' ∧ H' Dl = some (LI ((List.range i).map f))) ⟨same_upd hD, ?_⟩ (fun i H' hi hP => ?_) (fun H' hP => hq Dl H' hD hP.1 hP.2)
  · rw [upd_same]
    rfl
  · obtain ⟨sm, ed⟩ := hP
    refine ⟨hw _, he i H' hi sm _ fun H'' sm' => ⟨_, sm' _ _ ed, sz (by simp; omega), same_mut (sm.trans sm') hD, ?_⟩⟩
    rw [upd_same, List.range_succ, List.map_append]
    simp
theorem lc_listI {a : Addr} {xs : List V} (f : Nat → Int) (hx : H a = some (.lst xs)) (hn : xs.length < 1000000) (hw : ∀ x, wipe ((wipe σ vs).set j (some x)) vs = wipe σ vs)
    (he : ∀ (i : Nat) x H', xs[i]? = some x → Same H H' → ∀ Q' : VK, (∀ H'', Same H' H'' → Q' (.int (f i)) H'') → te ((wipe σ vs).set j (some x)) H' Q')
    (hq : ∀ p H', H p = none → Same H H' → H' p = some (LI ((List.range xs.length).map f)) → Q (.ref p) H') :
    tLcIn (gName j) tYes te vs σ Q (Itl K a) H := fun Dl hD => by
  refine lc_list (g := gName j) (xs := xs) (fun i H' => Same H H' ∧ H' Dl = some (LI ((List.range i).map f))) ⟨same_upd hD, ?_⟩ (fun i H' hi hP => sqL_of (hP.1 _ _ hx)) (fun i x H' hi hP => ?_) (fun H' hP => hq Dl H' hD hP.1 hP.2)
  · rw [upd_same]
    rfl
  · obtain ⟨sm, ed⟩ := hP
    have hl := (List.getElem?_eq_some_iff.mp hi).1
    refine ⟨hw _, he i x H' hi sm _ fun H'' sm' => ⟨_, sm' _ _ ed, sz (by simp; omega), same_mut (sm.trans sm') hD, ?_⟩⟩
    rw [upd_same, List.range_succ, List.map_append]
    simp
theorem iteC {c A B : Prop} {inst : Decidable c} (h1 : c → A) (h2 : ¬c → B) : @ite Prop c inst A B := by
  by_cases h : c
  · rw [if_pos h]
    exact h1 h
  · rw [if_neg h]
    exact h2 h
theorem gi_c0 {a : Int} {l : List Int} : gi (a :: l) 0 = a := by
  unfold gi
  rfl
theorem gi_c1 {a b : Int} {l : List Int} : gi (a :: b :: l) 1 = b := by
  unfold gi
  rfl
theorem gi_c2 {a b c : Int} {l : List Int} : gi (a :: b :: c :: l) 2 = c := by
  unfold gi
  rfl
theorem gi_c3 {a b c d : Int} {l : List Int} : gi (a :: b :: c :: d :: l) 3 = d := by
  unfold gi
  rfl
theorem own_cons {p : Str × Nat} {l : List (Str × Nat)} : List.map (fun x : Str × Nat => x.snd) (p :: l) = p.snd :: List.map (fun x : Str × Nat => x.snd) l := rfl
theorem own_nil : List.map (fun x : Str × Nat => x.snd) [] = [] := rfl
theorem le1 {a : Int} {ns : List Int} : ([V.int a] = List.map V.int ns) ↔ [a] = ns := map_int_inj (xs := [a])
theorem le2 {a b : Int} {ns : List Int} : ([V.int a, V.int b] = List.map V.int ns) ↔ [a, b] = ns := map_int_inj (xs := [a, b])
theorem le3 {a b c : Int} {ns : List Int} : ([V.int a, V.int b, V.int c] = List.map V.int ns) ↔ [a, b, c] = ns := map_int_inj (xs := [a, b, c])
theorem le4 {a b c d : Int} {ns : List Int} : ([V.int a, V.int b, V.int c, V.int d] = List.map V.int ns) ↔ [a, b, c, d] = ns := map_int_inj (xs := [a, b, c, d])
theorem me_cons {a : Int} {l : List Int} {v : V} {r : List V} : (List.map V.int (a :: l) = v :: r) ↔ (V.int a = v ∧ List.map V.int l = r) := by
  rw [List.map_cons, List.cons.injEq]
theorem me_nil {r : List V} : (List.map V.int ([] : List Int) = r) ↔ [] = r := Iff.rfl
theorem wipe_nil : wipe σ [] = σ := rfl
theorem wipe_cons {v : Nat} : wipe σ (v :: vs) = (wipe σ vs).set v none := rfl
end
/-! the written part named, for what stands in a comprehension within another one -/
section
variable {X : Cx} {K : PySem.W.Frag} {tg l : Expr} {tl : TE}
theorem pi_listK (hK : X.K = K) (hl : PE X l tl) : PI X tg l (iList K tl) := by
  subst hK
  exact pi_list hl
theorem pi_tupK (hK : X.K = K) (hl : PE X l tl) : PI X tg l (iTup K tl) := by
  subst hK
  exact pi_tup hl
theorem ix_listK (hK : X.K = K) : IxR X (rIxL K) := by
  subst hK
  exact ix_list
end
end Pr

namespace Pr
open PySem PySem.Spec PyProof.Rows L2

/-! ### ints of any sign and some hundred digits -/
abbrev Big : Int := (2 ^ 250) ^ 16
def CFd (_ j : Int) : Prop := j ≠ 0 ∧ -((2 ^ 250) ^ 16) < j ∧ j < (2 ^ 250) ^ 16
def CMu (i j : Int) : Prop := (-((2 ^ 250) ^ 16) < i ∧ i < (2 ^ 250) ^ 16) ∧ -((2 ^ 250) ^ 16) < j ∧ j < (2 ^ 250) ^ 16
theorem bigE : ((2 : Int) ^ 250) ^ 16 = ((2 ^ 4000 : Nat) : Int) := by
  rw [← Int.pow_mul]
  norm_cast
theorem big_abs {i : Int} (h : -(2 ^ 250) ^ 16 < i ∧ i < (2 ^ 250) ^ 16) : i.natAbs < 2 ^ 4000 := by
  have e := bigE
  generalize (2 ^ 4000 : Nat) = B at e ⊢
  rw [e] at h
  omega
section
variable {X : Cx}
theorem op_fdivG : OpR X (binaryOp .FloorDiv) (rI CFd fun i j => .int (i.fdiv j)) := opI fun i j _ _ _ _ _ hc q => by
  have h1 : j ≠ 0 := hc.1
  have h2 : j.natAbs.log2 < 9000 := Nat.lt_of_lt_of_le (PySem.Flt.log2_lt_of (by decide) (big_abs hc.2)) (by decide)
  exact floordiv_int h1 q (.inl (PyProof.noPylong_of_log2 h2))
theorem op_mulB : OpR X (binaryOp .Mult) (rI CMu fun i j => .int (i * j)) := opImp op_mulW fun x y H Q ⟨i, j, ex, ey, c, q⟩ =>
  ⟨i, j, ex, ey, wide_mul (big_abs c.1) (big_abs c.2) (by decide) (by decide) (by decide), q⟩
def CDp (_ j : Int) : Prop := 0 < j ∧ j < (2 ^ 250) ^ 16
theorem op_fdivP : OpR X (binaryOp .FloorDiv) (rI CDp fun i j => .int (i / j)) := opImp op_fdivW fun x y H Q ⟨i, j, ex, ey, c, q⟩ => by
  refine ⟨i, j, ex, ey, wide_div c.1 (big_abs (i := j) ⟨?_, c.2⟩) (by decide) (by decide), q⟩
  have := c.1
  have e := bigE
  generalize (2 ^ 4000 : Nat) = B at e
  rw [e]
  omega
/-- isqrt -/
def rIsqrt : List V → Hp → VK → Prop := fun vs H Q => ∃ i, vs = [.int i] ∧ 0 ≤ i ∧ i < (2 ^ 250) ^ 16 ∧ Q (.int ((Float64.isqrt i.toNat : Nat) : Int)) H
theorem cr_isqrt : CallR X (.builtin "math.isqrt") rIsqrt := by
  intro pins s σ H vs us Q I r h
  obtain ⟨i, rfl, h0, h1, q⟩ := h
  obtain ⟨u, rfl, ru⟩ := r.one
  obtain ⟨t, rfl⟩ := ru
  have hb : i.toNat.log2 < 4000 := by
    have e := bigE
    refine PySem.Flt.log2_lt_of (by decide) ?_
    generalize (2 ^ 4000 : Nat) = B at e ⊢
    rw [e] at h1
    omega
  exact PySem.call_function_meets PySem.W.MGF.kind_isqrt PySem.W.MGF.plain_isqrt PySem.W.MGF.entry_isqrt (PySem.W.MGF.args_isqrt _) (PySem.W.mg_run_isqrt i t (by omega) (by omega) (by omega)).meets ⟨.int _, H, I.tok _, ⟨_, rfl⟩, q⟩
end
theorem ty_cases {x : V} {H : Hp} {t : String} (h : tyOf x H = some t) : x = .non ∨ (∃ b, x = .bl b) ∨ (∃ i, x = .int i) ∨ (∃ s, x = .str s) ∨ (∃ a, x = .ref a ∧ (t = "list" ∨ t = "tuple" ∨ t = "dict")) := by
  cases x with
  | non => exact .inl rfl
  | bl b => exact .inr (.inl ⟨b, rfl⟩)
  | int i => exact .inr (.inr (.inl ⟨i, rfl⟩))
  | str s => exact .inr (.inr (.inr (.inl ⟨s, rfl⟩)))
  | ref a =>
    refine .inr (.inr (.inr (.inr ⟨a, rfl, ?_⟩)))
    have e : tyOf (.ref a) H = (match H a with
      | some (.lst _) => some "list"
      | some (.tup _) => some "tuple"
      | some (.dK _) => some "dict"
      | some (.dT _) => some "dict"
      | _ => none) := rfl
    rw [e] at h
    split at h
    · exact .inl (Option.some.inj h).symm
    · exact .inr (.inl (Option.some.inj h).symm)
    · exact .inr (.inr (Option.some.inj h).symm)
    · exact .inr (.inr (Option.some.inj h).symm)
    · cases h
  | byt b => cases h
  | flt b => cases h
  | ty n => cases h
theorem ty_non (H : Hp) : tyOf .non H = some "NoneType" := rfl
theorem ty_bl (b : Bool) (H : Hp) : tyOf (.bl b) H = some "bool" := rfl
theorem ty_int (i : Int) (H : Hp) : tyOf (.int i) H = some "int" := rfl
theorem ty_str (s : Str) (H : Hp) : tyOf (.str s) H = some "str" := rfl
theorem ty_tup {a : Addr} {H : Hp} {xs : List V} (h : H a = some (.tup xs)) : tyOf (.ref a) H = some "tuple" := by
  show (match H a with
      | some (.lst _) => some "list"
      | some (.tup _) => some "tuple"
      | some (.dK _) => some "dict"
      | some (.dT _) => some "dict"
      | _ => none) = _
  rw [h]
theorem ty_lst {a : Addr} {H : Hp} {xs : List V} (h : H a = some (.lst xs)) : tyOf (.ref a) H = some "list" := by
  show (match H a with
      | some (.lst _) => some "list"
      | some (.tup _) => some "tuple"
      | some (.dK _) => some "dict"
      | some (.dT _) => some "dict"
      | _ => none) = _
  rw [h]
/-! ### unpacking, texts -/
section
variable {X : Cx}
def gTupH (n : Nat) (t : TGs) : TG := fun v σ H Q => ∃ a, v = .ref a ∧ ∃ xs, H a = some (.tup xs) ∧ xs.length = n ∧ t xs σ H Q
theorem pg_tupH {es : List Expr} {t : TGs} {k n : Nat} {pos : Pos} (hc : X.calm = true) (h : PGs X es t)
    (hn : (assignEach es X.env).length = n := by rfl) (hst : (assignEach es X.env).findIdx? (·.1) = none := by rfl) : PG X (.Tuple es k pos) (gTupH n t) := by
  have g := pg_tup (k := k) (pos := pos) hc h hn hst
  exact ⟨fun pins s σ H v u Q I r q => g.run pins s σ H v u Q I r (by
    obtain ⟨a, e, xs, hx, hl, k⟩ := q
    exact ⟨a, xs, e, .inl (.inl hx), hl, k⟩)⟩
variable {K : PySem.W.Frag} {σ : L2.St} {H : Hp} {Q : VK} {te : TE} {ts : List TE}
theorem ap_cut {D : Ends} {tu tw : TS} : Evl.tCut tu tw D σ H = ∃ Mid : L2.St → Hp → Prop, tu { D with nx := Mid } σ H ∧ ∀ σ' H', Mid σ' H' → tw D σ' H' := rfl
theorem ap_gTupH {n : Nat} {t : TGs} {v : V} {QN : L2.St → Hp → Prop} : gTupH n t v σ H QN = ∃ a, v = .ref a ∧ ∃ xs, H a = some (.tup xs) ∧ xs.length = n ∧ t xs σ H QN := rfl
theorem ap_fmt : tFmt te σ H Q = te σ H fun x H1 => (∃ y : Str, x = .str y ∧ y.length ≤ sizeLine ∧ Q (.str y) H1) ∨ ∃ i : Int, x = .int i ∧ i.natAbs.log2 < 1920 ∧ Q (.str (toString i)) H1 := rfl
theorem ap_jsn {acc : Str} {QS : Str → Hp → Prop} : tJs [] acc σ H QS = QS acc H := rfl
theorem ap_jsc {acc : Str} {QS : Str → Hp → Prop} : tJs (te :: ts) acc σ H QS = te σ H fun x H1 => ∃ y : Str, x = .str y ∧ (acc ++ y).length ≤ sizeLine ∧ tJs ts (acc ++ y) σ H1 QS := rfl
theorem ap_gcd {vs : List V} : rGcd vs H Q = ∃ a b : Int, vs = [.int a, .int b] ∧ Q (.int ((Nat.gcd a.natAbs b.natAbs : Nat) : Int)) H := rfl
theorem ap_isqrt {vs : List V} : rIsqrt vs H Q = ∃ i, vs = [.int i] ∧ 0 ≤ i ∧ i < (2 ^ 250) ^ 16 ∧ Q (.int ((Float64.isqrt i.toNat : Nat) : Int)) H := rfl
end
end Pr

/-! enumerate over a tuple -/
namespace Pr
open PySem PySem.Spec PyProof.Rows L2
open Sem (wp)
theorem en_new {u : Value} {ob : Obj} {Z : Heap → Prop} (B : Begins u ob Z) :
    Meets (Builtin.«enumerate.__new__» ⟨[.type "enumerate", u], []⟩) (fun _ R z => Z z.heap ∧
      R (.ok (.ret (.ref (z.heap.push ob).objs.size))) { z with heap := (z.heap.push ob).push ⟨.type "enumerate", none, .fields #[.none, .bool false, .ref z.heap.objs.size, rawInt 0, .none, .none], #[]⟩ }) := by
  refine .of_wp fun pg wd B1 R z hz => ?_
  rcases z with ⟨hp, gs, dr, tk, out⟩
  rcases hz with ⟨hb, hz⟩
  have sub1 := sub_enumerate
  have go : ∀ {B' : Around} {E' Q' : Value → Shared → Prop}, Q' (.ref hp.objs.size) ⟨hp.push ob, gs, dr, tk, out⟩ → wpAny (model pg wd) B' (pyIter u) Q' E' ⟨hp, gs, dr, tk, out⟩ := fun y => B.iter pg wd _ _ _ _ hb y
  wp_walk using go
  refine wpAny_stack_any fun stk => wpAny_pure ?_
  split
  · rename_i c' _ _ _ _ _
    rcases hcc : c' == Value.type "enumerate" with _ | _ <;> (simp only [hcc]; wp_walk using go; exact ⟨_, rfl, hz⟩)
  · wp_walk using go; exact ⟨_, rfl, hz⟩
section
variable {pg : Program} {wd : World} {Ar : Around} {E : Value → Shared → Prop} {s : Shared}
theorem en_call {u : Value} {ob : Obj} {Z : Heap → Prop} {Q : Value → Shared → Prop} (B : Begins u ob Z) (hb : Z s.heap)
    (k : ∀ g : Heap, IsEnum g (s.heap.objs.size + 1) s.heap.objs.size 0 .none → g.get? s.heap.objs.size = some ob → g.objs.size = s.heap.objs.size + 2 → (∀ c x, s.heap.get? c = some x → g.get? c = some x) → Q (.ref (s.heap.objs.size + 1)) { s with heap := g }) :
    wpAny (model pg wd) Ar (call (.type "enumerate") [u]) Q E s := by
  have n1 : (s.heap.push ob).objs.size = s.heap.objs.size + 1 := Heap.size_push ..
  have at1 : ((s.heap.push ob).push ⟨.type "enumerate", none, .fields #[.none, .bool false, .ref s.heap.objs.size, rawInt 0, .none, .none], #[]⟩).get? (s.heap.objs.size + 1) = some ⟨.type "enumerate", none, .fields #[.none, .bool false, .ref s.heap.objs.size, rawInt 0, .none, .none], #[]⟩ := by
    rw [← n1]
    exact Heap.get?_push_size _ rfl
  refine callType_new F.called_enumerate (by decide) (F.typeCall_enumerate_1 _) (F.newCall_enumerate_1 _) (fun y => F.args_object_init_2 y _) F.entry_enumerate_new (en_new B) ⟨hb, ?_⟩
  show _ ∧ _
  rw [n1]
  refine ⟨⟨_, at1, rfl⟩, k _ at1 (Heap.get?_push_of_some _ (Heap.get?_push_size _ B.free)) ?_ fun c x ex => Heap.get?_push_of_some _ (Heap.get?_push_of_some _ ex)⟩
  rw [Heap.size_push, n1]
end
/-- the turns of enumerate over the tuple at a -/
def ItT (K : PySem.W.Frag) (a : Addr) : It where
  go := fun i H => ∃ xs x, SqT K H a xs ∧ xs[i]? = some x
  yld := fun i H v H' => ∃ t x, v = .ref t ∧ H t = none ∧ H' = upd H t (.tup [.int (i : Nat), x]) ∧ ∀ xs, SqT K H a xs → xs[i]? = some x
  stop := fun i H => ∃ xs : List V, SqT K H a xs ∧ xs.length ≤ i
theorem turn_en {pg : Program} {wd : World} {K : PySem.W.Frag} {elts : List Expr} {n : Nat} {tp : Pos} (a e it : Addr) :
    Turn pg wd K (.Tuple elts n tp) (ItT K a) [e, it] e (fun i h => (∃ y, IsEnum h e it ((i : Nat) : Int) y) ∧ h.IsTupleIter it a i ∧ e ≠ it) where
  mem := by simp
  obj := fun i h z b hb => by
    rcases z with ⟨⟨y, q1⟩, ⟨o, q2, _, q3⟩, _⟩
    rcases (show b = e ∨ b = it by simpa using hb) with rfl | rfl
    · exact ⟨_, q1, fun v c => nomatch c⟩
    · exact ⟨o, q2, fun v c => by rw [q3] at c; cases c⟩
  keep := fun i h g z k => ⟨⟨_, k e (by simp) _ z.1.choose_spec⟩, z.2.1.at fun o q => k it (by simp) o q, z.2.2⟩
  item := by
    intro X e1 e2 e3 calm i pins s σ H Ex I fps z gg
    subst e1 e2 e3
    rcases z with ⟨⟨y, q1⟩, q2, ne⟩
    rcases gg with ⟨xs, x, sq, ex⟩
    obtain ⟨us, rv, tp1, _⟩ := I.tuple sq
    obtain ⟨u, eu, ru⟩ := rv.get ex
    have la : e < s.heap.objs.size := Heap.lt_size q1
    have lb : it < s.heap.objs.size := by obtain ⟨_, q, _⟩ := q2; exact Heap.lt_size q
    have ai : a ≠ it := fun c => by
      obtain ⟨o, p1, p2, _⟩ := q2
      obtain ⟨o', r1, r2, _⟩ := tp1
      rw [c, p1] at r1
      cases r1
      rw [p2] at r2
      exact absurd r2 (by decide)
    have ae : a ≠ e := fun c => by
      obtain ⟨o', r1, r2, _⟩ := tp1
      rw [c] at r1
      have := q1.symm.trans r1
      cases this
      simp at r2
    have D := Draws.tuple (prog := X.prog) (w := X.w) (A := X.A.in1) (I.ok.hd calm) it a ai us.toArray
    have li : i < us.toArray.size := by
      have := (List.getElem?_eq_some_iff.mp eu).1
      simpa using this
    refine wpAny_pyNext_enum_itemD D q1 ⟨q2, tp1⟩ li ne (by simp [ne, ae.symm]) fun x' g tk px out st2 tup gs keepg => ?_
    have ux : x' = u := by
      have h1 : us.toArray[i]? = some u := by simpa using eu
      exact Option.some.inj (px.symm.trans h1)
    subst ux
    obtain ⟨st2, -⟩ := st2
    refine ⟨_, rfl, wpAny_letOwnedTupleGo_enum (s := { s with heap := g, toks := tk + 1 }) out fun g2 q3 sb => ?_⟩
    obtain ⟨sb1, sb⟩ := sb
    have nw : g2.get? s.heap.objs.size = some { cls := .type "tuple", data := .seq #[.int i tk, x'] } := by rw [← tup]; exact sb _ (Nat.ne_of_gt la)
    have kp : ∀ c o, c ∉ [e, it] → s.heap.get? c = some o → g2.get? c = some o := fun c o nc ec => by
      have c1 : c ≠ e := fun z => nc (by simp [z])
      have c2 : c ≠ it := fun z => nc (by simp [z])
      exact (sb c c1).trans (keepg c o c1 c2 ec)
    have wr : ObjOk X.prog X.w (upd H s.heap.objs.size (.tup [.int (i : Nat), x])) g2 s.heap.objs.size (.tup [.int (i : Nat), x]) := ⟨by show 2 ≤ sizeLine; decide, [.int i tk, x'], .cons ⟨_, rfl⟩ (.cons ru .nil), ⟨_, nw, rfl, _, rfl⟩⟩
    have I2 := I.turnedNew (t' := tk + 1) (ch := [e, it]) kp fps (Nat.le_refl _) wr
    have fr := I.hok.fresh (Nat.le_refl s.heap.objs.size)
    have q4 : IsEnum g2 e it ((i + 1 : Nat) : Int) x' := by
      rw [show ((i + 1 : Nat) : Int) = (i : Int) + 1 by omega]
      exact q3
    refine ⟨.ref s.heap.objs.size, _, I2, rfl, ⟨_, x, rfl, fr, rfl, fun ys hy => (I.tuple_inj hy sq) ▸ ex⟩, ⟨⟨_, q4⟩, st2.at fun o q => (sb it ne.symm).trans q, ne⟩, fun b hb => ?_⟩
    have lt : b < s.heap.objs.size := by
      rcases (show b = e ∨ b = it by simpa using hb) with rfl | rfl
      · exact la
      · exact lb
    rw [upd_ne (Nat.ne_of_lt lt)]
    exact (fps b hb).1
  done := by
    intro X e1 e2 e3 calm i pins s σ H Ex I fps z gg
    subst e1 e2 e3
    rcases z with ⟨⟨y, q1⟩, q2, ne⟩
    rcases gg with ⟨xs, sq, ex⟩
    obtain ⟨us, rv, tp1, _⟩ := I.tuple sq
    have ai : a ≠ it := fun c => by
      obtain ⟨o, p1, p2, _⟩ := q2
      obtain ⟨o', r1, r2, _⟩ := tp1
      rw [c, p1] at r1
      cases r1
      rw [p2] at r2
      exact absurd r2 (by decide)
    obtain ⟨f0, f1, f2, f3, f4, f5⟩ := fps it (by simp)
    have ln := rv.length
    have D : Draws X.prog X.w X.A.in1 it [it, a] 0 (fun _ _ => False) (fun _ h => h.IsTupleIter it a i ∧ h.IsTuple a us.toArray) := {
      live := fun _ _ st => let ⟨o, ho, _⟩ := st.1; ⟨o, ho⟩
      frame := fun _ _ _ st k => ⟨st.1.at fun o q => k it (by simp) o q, st.2.at fun o q => k a (by simp) o q⟩
      item := fun j _ _ _ lt => absurd lt (Nat.not_lt_zero j)
      done := fun s Q E st k => wpAny_nextOf_tuple_end (I.ok.hd calm) st.1 st.2 (by simp; omega) k }
    exact wpAny_pyNext_enum_endD D q1 ⟨q2, tp1⟩ fun g k => ⟨rfl, I.turned (t' := s.toks) (fun b o nb q => k b o nb q) f0 f1 f3 f4 f5⟩
  self := fun B i s Q Ex z k => wpAny_pyIter_enum z.1.choose_spec k
end Pr

/-! loops and comprehensions over anything that gives n things -/
namespace Pr
open PySem PySem.Spec PyProof.Rows L2
/-- while F holds, J goes through n things, as Y tells -/
structure Gives (J : It) (n : Nat) (F : Hp → Prop) (Y : Nat → V → Hp → Hp → Prop) : Prop where
  go : ∀ i H, i < n → F H → J.go i H
  yld : ∀ i H v H', i < n → F H → J.yld i H v H' → Y i v H H'
  stop : ∀ H, F H → J.stop n H
section
variable {K : PySem.W.Frag} {g : TG} {tb : TS} {D : Ends} {σ : L2.St} {H : Hp} {j k : Nat} {te : TE} {tt : TT} {vs : List Nat} {Q : VK} {J : It} {n : Nat} {F : Hp → Prop} {Y : Nat → V → Hp → Hp → Prop}
theorem loop_gen (G : Gives J n F Y) (Pv : Nat → L2.St → Hp → Prop) (h0 : Pv 0 σ H) (hF : ∀ i σ H, i ≤ n → Pv i σ H → F H)
    (hs : ∀ i v σ H H', i < n → Pv i σ H → Y i v H H' → g v σ H' fun σ2 H2 => tb { D with nx := Pv (i + 1), ct := Pv (i + 1), bk := D.nx } σ2 H2) (hd : ∀ σ H, Pv n σ H → D.nx σ H) : tLoop g tb D σ J H := by
  refine ⟨fun i m σ H => m + i = n ∧ Pv i σ H, ⟨n, rfl, h0⟩, fun i m σ H ⟨e, p⟩ => ?_⟩
  have f := hF i σ H (by omega) p
  rcases m with _ | m
  · have e' : i = n := by omega
    subst e'
    exact .inl ⟨G.stop H f, hd σ H p⟩
  · exact .inr ⟨G.go i H (by omega) f, Pv (i + 1), fun σ' H' p' => ⟨m, Nat.lt_succ_self m, by omega, p'⟩, fun v H' y => hs i v σ H H' (by omega) p (G.yld i H v H' (by omega) f y)⟩
theorem lc_gen (G : Gives J n F Y) (Pv : Addr → Nat → Hp → Prop) (h0 : ∀ A, H A = none → Pv A 0 (upd H A (.lst []))) (hF : ∀ A i H, i ≤ n → Pv A i H → F H)
    (hs : ∀ A i v H1 H', H A = none → i < n → Pv A i H1 → Y i v H1 H' → g v (wipe σ vs) H' fun σ2 H2 => wipe σ2 vs = wipe σ vs ∧ tt σ2 H2 fun b H3 =>
      if b = true then te σ2 H3 fun y H4 => ∃ acc, H4 A = some (.lst acc) ∧ acc.length < sizeLine ∧ Pv A (i + 1) (upd H4 A (.lst (acc ++ [y]))) else Pv A (i + 1) H3)
    (hd : ∀ A H', H A = none → Pv A n H' → Q (.ref A) H') : tLcIn g tt te vs σ Q J H := by
  intro A hA
  refine ⟨fun i m H' => m + i = n ∧ Pv A i H', ⟨n, rfl, h0 A hA⟩, fun i m H1 ⟨e, p⟩ => ?_⟩
  have f := hF A i H1 (by omega) p
  rcases m with _ | m
  · have e' : i = n := by omega
    subst e'
    exact .inl ⟨G.stop H1 f, hd A H1 hA p⟩
  · exact .inr ⟨G.go i H1 (by omega) f, Pv A (i + 1), fun H' p' => ⟨m, Nat.lt_succ_self m, by omega, p'⟩, fun v H' y => hs A i v H1 H' hA (by omega) p (G.yld i H1 v H' (by omega) f y)⟩
/-- a new pair of two things, told by R -/
def PY (R : Nat → V → V → Prop) : Nat → V → Hp → Hp → Prop := fun i v H H' => ∃ t x y, v = .ref t ∧ H t = none ∧ H' = upd H t (.tup [x, y]) ∧ R i x y
theorem gives_en {a : Addr} {xs : List V} : Gives (ItT K a) xs.length (fun H => H a = some (.tup xs)) (PY fun i x y => x = .int (i : Nat) ∧ xs[i]? = some y) where
  go := fun i H lt f => ⟨xs, xs[i], sqT_of f, by simp [lt]⟩
  yld := fun i H v H' lt f y => by
    obtain ⟨t, x, e1, e2, e3, e4⟩ := y
    exact ⟨t, _, x, e1, e2, e3, rfl, e4 xs (sqT_of f)⟩
  stop := fun H f => ⟨xs, sqT_of f, Nat.le_refl _⟩
theorem gives_enL {a : Addr} {xs : List V} : Gives (Ite K a) xs.length (fun H => H a = some (.lst xs)) (PY fun i x y => x = .int (i : Nat) ∧ xs[i]? = some y) where
  go := fun i H lt f => ⟨xs, xs[i], sqL_of f, by simp [lt]⟩
  yld := fun i H v H' lt f y => by
    obtain ⟨t, x, e1, e2, e3, e4⟩ := y
    exact ⟨t, _, x, e1, e2, e3, rfl, e4 xs (sqL_of f)⟩
  stop := fun H f => ⟨xs, sqL_of f, Nat.le_refl _⟩
theorem gives_zipL {a b : Addr} {xs ys : List V} (hl : xs.length = ys.length) : Gives (Itz K a b) xs.length (fun H => H a = some (.lst xs) ∧ H b = some (.lst ys)) (PY fun i x y => xs[i]? = some x ∧ ys[i]? = some y) where
  go := fun i H lt f => ⟨xs, ys, xs[i], ys[i]'(hl ▸ lt), sqL_of f.1, sqL_of f.2, by simp [lt], by simp [hl ▸ lt]⟩
  yld := fun i H v H' lt f y => by
    obtain ⟨t, x, y, e1, e2, e3, e4, e5⟩ := y
    exact ⟨t, x, y, e1, e2, e3, e4 xs (sqL_of f.1), e5 ys (sqL_of f.2)⟩
  stop := fun H f => ⟨xs, ys, sqL_of f.1, sqL_of f.2, .inl (Nat.le_refl _)⟩
theorem gives_zipT {a b : Addr} {xs ys : List V} (hl : xs.length = ys.length) : Gives (RZ.ItzT K a b) xs.length (fun H => H a = some (.tup xs) ∧ H b = some (.tup ys)) (PY fun i x y => xs[i]? = some x ∧ ys[i]? = some y) where
  go := fun i H lt f => ⟨xs, ys, xs[i], ys[i]'(hl ▸ lt), sqT_of f.1, sqT_of f.2, by simp [lt], by simp [hl ▸ lt]⟩
  yld := fun i H v H' lt f y => by
    obtain ⟨t, x, y, e1, e2, e3, e4, e5⟩ := y
    exact ⟨t, x, y, e1, e2, e3, e4 xs (sqT_of f.1), e5 ys (sqT_of f.2)⟩
  stop := fun H f => ⟨xs, ys, sqT_of f.1, sqT_of f.2, .inl (Nat.le_refl _)⟩
theorem pair_in {R : Nat → V → V → Prop} {u v i : Nat} {x : V} {H1 H' : Hp} {QN : L2.St → Hp → Prop} (y : PY R i x H1 H') (k : ∀ t a b, H1 t = none → R i a b → QN ((σ.set u (some a)).set v (some b)) (upd H1 t (.tup [a, b]))) : gTupH 2 (gCons (gName u) (gCons (gName v) gNil)) x σ H' QN := by
  obtain ⟨t, a, b, rfl, nt, rfl, r⟩ := y
  exact ⟨t, rfl, [a, b], upd_same, rfl, a, [b], rfl, b, [], rfl, rfl, k t a b nt r⟩
theorem loop_pair {R : Nat → V → V → Prop} {u v : Nat} (G : Gives J n F (PY R)) (Pv : Nat → L2.St → Hp → Prop) (h0 : Pv 0 σ H) (hF : ∀ i σ H, i ≤ n → Pv i σ H → F H)
    (hs : ∀ i a b t σ H1, i < n → Pv i σ H1 → H1 t = none → R i a b → tb { D with nx := Pv (i + 1), ct := Pv (i + 1), bk := D.nx } ((σ.set u (some a)).set v (some b)) (upd H1 t (.tup [a, b]))) (hd : ∀ σ H, Pv n σ H → D.nx σ H) :
    tLoop (gTupH 2 (gCons (gName u) (gCons (gName v) gNil))) tb D σ J H :=
  loop_gen G Pv h0 hF (fun i x σ H1 H' hi p y => pair_in y fun t a b nt r => hs i a b t σ H1 hi p nt r) hd
/-- a comprehension over pairs that gives ints -/
theorem lc_pairI {R : Nat → V → V → Prop} {u v : Nat} (G : Gives J n F (PY R)) (f : Nat → Int) (hn : n < 1000000) (hF : ∀ H', Same H H' → F H')
    (hw : ∀ x y, wipe (((wipe σ vs).set u (some x)).set v (some y)) vs = wipe σ vs)
    (he : ∀ i a b H', i < n → R i a b → Same H H' → ∀ Q' : VK, (∀ H'', Same H' H'' → Q' (.int (f i)) H'') → te (((wipe σ vs).set u (some a)).set v (some b)) H' Q')
    (hq : ∀ p H', H p = none → Same H H' → H' p = some (LI ((List.range n).map f)) → Q (.ref p) H') :
    tLcIn (gTupH 2 (gCons (gName u) (gCons (gName v) gNil))) tYes te vs σ Q J H := by
  refine lc_gen G (fun A i H' => Same H H' ∧ H' A = some (LI ((List.range i).map f))) (fun A hA => ⟨same_upd hA, upd_same⟩) (fun A i H' _ p => hF H' p.1) (fun A i x H1 H' hA hi p y => ?_) (fun A H' hA p => hq A H' hA p.1 p.2)
  refine pair_in y fun t a b nt r => ⟨hw a b, ?_⟩
  have s1 := same_upd (o := HO.tup [a, b]) nt
  refine he i a b _ hi r (p.1.trans s1) _ fun H2 s2 => ⟨_, s2 _ _ (s1 _ _ p.2), sz (by simp; omega), same_mut ((p.1.trans s1).trans s2) hA, ?_⟩
  rw [upd_same, List.range_succ, List.map_append]
  simp
theorem lc_tupI {a : Addr} {xs : List V} (f : Nat → Int) (hx : H a = some (.tup xs)) (hn : xs.length < 1000000) (hw : ∀ x, wipe ((wipe σ vs).set j (some x)) vs = wipe σ vs)
    (he : ∀ (i : Nat) x H', xs[i]? = some x → Same H H' → ∀ Q' : VK, (∀ H'', Same H' H'' → Q' (.int (f i)) H'') → te ((wipe σ vs).set j (some x)) H' Q')
    (hq : ∀ p H', H p = none → Same H H' → H' p = some (LI ((List.range xs.length).map f)) → Q (.ref p) H') :
    tLcIn (gName j) tYes te vs σ Q (Itt K a) H := by
  refine lc_gen (n := xs.length) (F := fun H' => H' a = some (.tup xs)) (Y := fun i v H H' => H' = H ∧ xs[i]? = some v) ⟨fun i H lt f => ⟨xs, xs[i], sqT_of f, by simp [lt]⟩, fun i H v H' lt f y => ⟨y.1, y.2 xs (sqT_of f)⟩, fun H f => ⟨xs, sqT_of f, Nat.le_refl _⟩⟩
    (fun A i H' => Same H H' ∧ H' A = some (LI ((List.range i).map f))) (fun A hA => ⟨same_upd hA, upd_same⟩) (fun A i H' _ p => p.1 _ _ hx) (fun A i x H1 H' hA hi p y => ?_) (fun A H' hA p => hq A H' hA p.1 p.2)
  obtain ⟨rfl, y⟩ := y
  refine ⟨hw _, he i x _ y p.1 _ fun H2 s2 => ⟨_, s2 _ _ p.2, sz (by simp; omega), same_mut (p.1.trans s2) hA, ?_⟩⟩
  rw [upd_same, List.range_succ, List.map_append]
  simp
/-- the made list, told another way -/
theorem range_map {f : Nat → Int} {ns : List Int} (h : ∀ i n, ns[i]? = some n → f i = n) : (List.range ns.length).map f = ns := by
  refine List.ext_getElem? fun i => ?_
  rw [List.getElem?_map]
  by_cases hi : i < ns.length
  · rw [List.getElem?_range hi, List.getElem?_eq_getElem hi]
    exact congrArg some (h i _ (List.getElem?_eq_getElem hi))
  · rw [List.getElem?_eq_none (by simpa using hi), List.getElem?_eq_none (by omega)]
    rfl
theorem gives_list {a : Addr} {xs : List V} : Gives (Itl K a) xs.length (fun H => H a = some (.lst xs)) (fun i v H H' => H' = H ∧ xs[i]? = some v) where
  go := fun i H lt f => ⟨xs, xs[i], sqL_of f, by simp [lt]⟩
  yld := fun i H v H' lt f y => ⟨y.1, y.2 xs (sqL_of f)⟩
  stop := fun H f => ⟨xs, sqL_of f, Nat.le_refl _⟩
theorem gives_tup {a : Addr} {xs : List V} : Gives (Itt K a) xs.length (fun H => H a = some (.tup xs)) (fun i v H H' => H' = H ∧ xs[i]? = some v) where
  go := fun i H lt f => ⟨xs, xs[i], sqT_of f, by simp [lt]⟩
  yld := fun i H v H' lt f y => ⟨y.1, y.2 xs (sqT_of f)⟩
  stop := fun H f => ⟨xs, sqT_of f, Nat.le_refl _⟩
end
section
variable {X : Cx}
def iEnT (K : PySem.W.Frag) (ta : TA) : L2.TI := fun σ H R => ta σ H fun vs H1 => ∃ a xs, vs = [.ref a] ∧ SqT K H1 a xs ∧ R (ItT K a) H1
theorem pi_enT {e : Expr} {ta : TA} {p pos tpos : Pos} {elts : List Expr} {kk : Nat} (hg : Gl X "enumerate") (hm : X.mg "enumerate" = none) (ha : PA X [e] ta) (hs : starEach [e] X.env = [(false, eval e X.env)] := by rfl) :
    PI X (.Tuple elts kk tpos) (.Call (.Name "enumerate" p) [e] [] pos) (iEnT X.K ta) := by
  constructor
  intro pins s σ H R I h
  refine Call_ (ld_blt I hg hm boot_enumerate (PyProof.Rows.callWith_type1 (thn (ha.run pos pins s σ H _ I h) fun us z ⟨ws, H1, I1, rel, q⟩ => ?_) hs rfl))
  rcases q with ⟨a, xs, ex, sq, k⟩
  subst ex
  rcases rel with _ | ⟨r, rr⟩
  cases rr
  cases r
  obtain ⟨its, -, tp, -⟩ := I1.tuple sq
  refine en_call (begins_tuple a its.toArray) tp fun g e1 e2 e3 e4 => wpAny_pyIter_enum e1 ?_
  have I2 : Inv X pins σ H1 { z with heap := g } := I1.kept (t' := z.toks) e4
  refine ⟨z.heap.objs.size + 1, [z.heap.objs.size + 1, z.heap.objs.size], _, _, H1, rfl, I2, turn_en a _ z.heap.objs.size, ⟨⟨.none, e1⟩, ⟨_, e2, rfl, rfl⟩, Nat.succ_ne_self _⟩, fun b hb => ?_, k⟩
  have le : z.heap.objs.size ≤ b := by
    rcases (show b = z.heap.objs.size + 1 ∨ b = z.heap.objs.size by simpa using hb) with rfl | rfl
    · exact Nat.le_succ _
    · exact Nat.le_refl _
  exact I1.fpOk le (I1.hok.fresh le)
theorem ap_iEnT {K : PySem.W.Frag} {ta : TA} {σ : L2.St} {H : Hp} {R : It → Hp → Prop} : iEnT K ta σ H R = ta σ H fun vs H1 => ∃ a xs, vs = [.ref a] ∧ SqT K H1 a xs ∧ R (ItT K a) H1 := rfl
theorem ap_iEnL {K : PySem.W.Frag} {ta : TA} {σ : L2.St} {H : Hp} {R : It → Hp → Prop} : iEnum K ta σ H R = ta σ H fun vs H1 => ∃ a xs, vs = [.ref a] ∧ SqL K H1 a xs ∧ R (Ite K a) H1 := rfl
theorem ap_iZipA {K : PySem.W.Frag} {ta : TA} {σ : L2.St} {H : Hp} {R : It → Hp → Prop} : RZ.iZipA K ta σ H R = ta σ H fun vs H1 => ∃ a b xs ys, vs = [.ref a, .ref b] ∧ ((SqL K H1 a xs ∧ SqL K H1 b ys ∧ R (Itz K a b) H1) ∨ (SqT K H1 a xs ∧ SqT K H1 b ys ∧ R (RZ.ItzT K a b) H1)) := rfl
theorem ap_all {K : PySem.W.Frag} {vs : List V} {H : Hp} {Q : VK} : rAll K vs H Q = ∃ (a : Addr) (bs : List Bool), vs = [V.ref a] ∧ SqL K H a (bs.map V.bl) ∧ Q (.bl (bs.all id)) H := rfl
end
section
variable {K : PySem.W.Frag} {g : TG} {D : Ends} {σ : L2.St} {H : Hp} {j : Nat} {te : TE} {vs : List Nat} {Q : VK} {tt : TT}
theorem lc_no {a : Addr} {xs : List V} (hx : H a = some (.lst xs)) (hw : ∀ x, wipe ((wipe σ vs).set j (some x)) vs = wipe σ vs)
    (ht : ∀ (i : Nat) x H', xs[i]? = some x → Same H H' → ∀ Q' : Bool → Hp → Prop, Q' false H' → tt ((wipe σ vs).set j (some x)) H' Q')
    (hq : ∀ p H', H p = none → Same H H' → H' p = some (.lst []) → Q (.ref p) H') :
    tLcIn (gName j) tt te vs σ Q (Itl K a) H := fun Dl hD => by
  refine lc_list (g := gName j) (xs := xs) (fun i H' => Same H H' ∧ H' Dl = some (.lst [])) ⟨same_upd hD, upd_same⟩ (fun i H' hi hP => sqL_of (hP.1 _ _ hx)) (fun i x H' hi hP => ?_) (fun H' hP => hq Dl H' hD hP.1 hP.2)
  obtain ⟨sm, ed⟩ := hP
  exact ⟨hw _, ht i x H' hi sm _ ⟨sm, ed⟩⟩
theorem lc_tupV {a : Addr} {xs : List V} (f : Nat → V) (hx : H a = some (.tup xs)) (hn : xs.length < 1000000) (hw : ∀ x, wipe ((wipe σ vs).set j (some x)) vs = wipe σ vs)
    (he : ∀ (i : Nat) x H', xs[i]? = some x → Same H H' → ∀ Q' : VK, (∀ H'', Same H' H'' → Q' (f i) H'') → te ((wipe σ vs).set j (some x)) H' Q')
    (hq : ∀ p H', H p = none → Same H H' → H' p = some (.lst ((List.range xs.length).map f)) → Q (.ref p) H') :
    tLcIn (gName j) tYes te vs σ Q (Itt K a) H := fun Dl hD => by
  refine lc_tup (g := gName j) (xs := xs) (fun i H' => Same H H' ∧ H' Dl = some (.lst ((List.range i).map f))) ⟨same_upd hD, ?_⟩ (fun i H' hi hP => sqT_of (hP.1 _ _ hx)) (fun i x H' hi hP => ?_) (fun H' hP => hq Dl H' hD hP.1 hP.2)
  · rw [upd_same]
    rfl
  · obtain ⟨sm, ed⟩ := hP
    have hl := (List.getElem?_eq_some_iff.mp hi).1
    refine ⟨hw _, he i x H' hi sm _ fun H'' sm' => ⟨_, sm' _ _ ed, sz (by simp; omega), same_mut (sm.trans sm') hD, ?_⟩⟩
    rw [upd_same, List.range_succ, List.map_append]
    simp
end
section
variable {X : Cx}
/-- tuple(t) of a tuple -/
def rTupT : List V → Hp → VK → Prop := fun vs H Q => ∃ p, vs = [.ref p] ∧ ∃ xs, H p = some (.tup xs) ∧ Q (.ref p) H
theorem cr_tupT : CallR X (.type "tuple") rTupT := callImp call_tupleT fun vs H Q ⟨p, e, xs, h, q⟩ => ⟨p, xs, e, sqT_of h, q⟩
theorem ap_tupT {vs : List V} {H : Hp} {Q : VK} : rTupT vs H Q = ∃ p, vs = [.ref p] ∧ ∃ xs, H p = some (.tup xs) ∧ Q (.ref p) H := rfl
end
end Pr

/-! own operators of a class with plain instances -/
namespace Pr
open PySem PySem.Spec PyProof.Rows L2
section
variable {X : Cx} {CX : CXT} {k : Nat} {C g : Addr} {fd : FuncData} {ps : List Str} {sp : Sp} {E : XK} {op : Operator}
/-- x op y, both of the class at C -/
def rBin (C : Addr) (sp : Sp) (E : XK) : R2 := fun x y H Q => ∃ a dx fs b dy gs, x = .ref a ∧ y = .ref b ∧ H a = some (.ins C dx fs) ∧ H b = some (.ins C dy gs) ∧ sp [x, y] H Q E
theorem op_bin (first : PySem.W.selfFirst X.K C = true) (at_ : PySem.W.findIn X.K (.ref C) (PySem.dunder op.info.2) = some (some (.ref g))) (fn : PySem.W.isFn X.K (.ref g) = true)
    (F : FnOk X.prog X.w X.K X.mg X.base CX k g fd ps sp) (room : Room k X.A) (hb : Binds X.K fd ps []) (pass : Passes CX X E) : OpR X (binaryOp op) (rBin C sp E) := by
  intro pins s σ H x y v u Q I rx ry h
  obtain ⟨a, dx, fs, b, dy, gs, rfl, rfl, ea, eb, q⟩ := h
  cases (show v = Value.ref a from rx)
  cases (show u = Value.ref b from ry)
  obtain ⟨_, O, _⟩ := ins_get I.hok ea
  obtain ⟨_, J, _⟩ := O.look
  obtain ⟨_, O2, _⟩ := ins_get I.hok eb
  obtain ⟨_, J2, _⟩ := O2.look
  obtain ⟨m, fr⟩ := I.fr
  refine PySem.W.binop_K fr I.ok.mod.kin J J2.type first at_ fn (wpAny_mono (run_fn (vs := [.ref a, .ref b]) (us := [.ref a, .ref b]) F room hb .nil pass I (.cons rfl (.cons rfl .nil)) q) (fun z s' r => ?_) fun _ _ e => e)
  obtain ⟨z', H', I', rz, qz⟩ := r
  exact SlX.cmpback rz ⟨z', H', I', rz, qz⟩
/-- x op n, x of the class at C, n an int -/
def rBinI (C : Addr) (sp : Sp) (E : XK) : R2 := fun x y H Q => ∃ a dx fs n, x = .ref a ∧ y = .int n ∧ H a = some (.ins C dx fs) ∧ sp [x, y] H Q E
theorem op_binI {fo ro rc : Option Value} (first : PySem.W.selfFirst X.K C = true) (at_ : PySem.W.findIn X.K (.ref C) (PySem.dunder op.info.2) = some (some (.ref g))) (fn : PySem.W.isFn X.K (.ref g) = true)
    (hr : PySem.W.findIn X.K (.ref C) (dunderR op.info.2) = some rc) (hp : rc = none ∨ ∃ g : Addr, rc = some (.ref g)) (h1 : PySem.W.findIn X.K (.type "int") (PySem.dunder op.info.2) = some fo) (h2 : PySem.W.findIn X.K (.type "int") (dunderR op.info.2) = some ro)
    (sub : PySem.W.subIn X.K (.type "int") (.ref C) = some false)
    (F : FnOk X.prog X.w X.K X.mg X.base CX k g fd ps sp) (room : Room k X.A) (hb : Binds X.K fd ps []) (pass : Passes CX X E) : OpR X (binaryOp op) (rBinI C sp E) := by
  intro pins s σ H x y v u Q I rx ry h
  obtain ⟨a, dx, fs, n, rfl, rfl, ea, q⟩ := h
  cases (show v = Value.ref a from rx)
  obtain ⟨t, rfl⟩ := (show ∃ t, u = Value.int n t from ry)
  obtain ⟨_, O, _⟩ := ins_get I.hok ea
  obtain ⟨_, J, _⟩ := O.look
  obtain ⟨m, fr⟩ := I.fr
  refine PySem.W.ksp_binT (T := "int") fr I.ok.mod.kin J rfl first at_ fn hr hp h1 h2 sub (wpAny_mono (run_fn (vs := [.ref a, .int n]) (us := [.ref a, .int n t]) F room hb .nil pass I (.cons rfl (.cons ⟨t, rfl⟩ .nil)) q) (fun z s' r => ?_) fun _ _ e => e)
  obtain ⟨z', H', I', rz, qz⟩ := r
  exact SlX.cmpback rz ⟨z', H', I', rz, qz⟩
/-- -x -/
def rNeg (C : Addr) (sp : Sp) (E : XK) : V → Hp → VK → Prop := fun x H Q => ∃ a dx fs, x = .ref a ∧ H a = some (.ins C dx fs) ∧ sp [x] H Q E
theorem un_negOwn (at_ : PySem.W.findIn X.K (.ref C) "__neg__" = some (some (.ref g))) (fn : PySem.W.isFn X.K (.ref g) = true)
    (F : FnOk X.prog X.w X.K X.mg X.base CX k g fd ps sp) (room : Room k X.A) (hb : Binds X.K fd ps []) (pass : Passes CX X E) : UnR X (unaryOp .USub) (rNeg C sp E) := by
  intro pins s σ H x v Q I rx h
  obtain ⟨a, dx, fs, rfl, ea, q⟩ := h
  cases (show v = Value.ref a from rx)
  obtain ⟨_, O, _⟩ := ins_get I.hok ea
  obtain ⟨_, J, _⟩ := O.look
  obtain ⟨m, fr⟩ := I.fr
  exact PySem.W.ksp_neg fr I.ok.mod.kin J at_ fn (run_fn (vs := [.ref a]) (us := [.ref a]) F room hb .nil pass I (.cons rfl .nil) q)
/-- x == y, both of the class at C, by its own def; the other instance's class is C too -/
theorem op_eqOwn {cop : CmpOp} (hop : ∀ a b, compareOp cop a b = richCompare cop a b) (not : PySem.W.notFirst X.K C (.ref C) = true) (at_ : PySem.W.findIn X.K (.ref C) (cmpInfo cop).2.1 = some (some (.ref g))) (fn : PySem.W.isFn X.K (.ref g) = true)
    (F : FnOk X.prog X.w X.K X.mg X.base CX k g fd ps sp) (room : Room k X.A) (hb : Binds X.K fd ps []) (pass : Passes CX X E) : OpR X (compareOp cop) (rBin C sp E) := by
  intro pins s σ H x y v u Q I rx ry h
  obtain ⟨a, dx, fs, b, dy, gs, rfl, rfl, ea, eb, q⟩ := h
  cases (show v = Value.ref a from rx)
  cases (show u = Value.ref b from ry)
  obtain ⟨_, O, _⟩ := ins_get I.hok ea
  obtain ⟨_, J, _⟩ := O.look
  obtain ⟨_, O2, _⟩ := ins_get I.hok eb
  obtain ⟨_, J2, _⟩ := O2.look
  obtain ⟨m, fr⟩ := I.fr
  rw [hop]
  refine PySem.W.cmp_K (op := cop) (tb := .ref C) room.units0 fr I.ok.mod.kin J J2.type not at_ fn (wpAny_mono (run_fn (vs := [.ref a, .ref b]) (us := [.ref a, .ref b]) F room hb .nil pass I (.cons rfl (.cons rfl .nil)) q) (fun z s' r => ?_) fun _ _ e => e)
  obtain ⟨z', H', I', rz, qz⟩ := r
  exact SlX.cmpback rz ⟨z', H', I', rz, qz⟩
end
end Pr

/-! shifts, masks, bit lengths, comb, ranges with a step above 0 -/
namespace Pr
open PySem PySem.Spec PyProof.Rows L2
section
variable {X : Cx}
def rShl : R2 := fun x y H Q => ∃ (i : Int) (k : Nat), x = .int i ∧ y = .int (k : Int) ∧ CShl i (k : Int) ∧ Q (.int (i * 2 ^ k)) H
def rShr : R2 := fun x y H Q => ∃ (i : Int) (k : Nat), x = .int i ∧ y = .int (k : Int) ∧ Q (.int (i / 2 ^ k)) H
def rMask : R2 := fun x y H Q => ∃ (i : Int) (k : Nat), x = .int i ∧ y = .int (2 ^ k - 1) ∧ Q (.int (i % 2 ^ k)) H
theorem op_shlK : OpR X (binaryOp .LShift) rShl := op_shlN
theorem op_shrK : OpR X (binaryOp .RShift) rShr := op_shrN
theorem op_maskK : OpR X (binaryOp .BitAnd) rMask := op_andM
def rComb : List V → Hp → VK → Prop := fun vs H Q => ∃ i j, vs = [.int i, .int j] ∧ 0 ≤ i ∧ 0 ≤ j ∧ i < 2 ^ 60 ∧ j ≤ 9000 ∧ Q (.int (PySem.W.mcComb i j)) H
theorem cr_comb : CallR X (.builtin "math.comb") rComb := by
  intro pins s σ H vs us Q I r h
  obtain ⟨i, j, rfl, h0, h1, h2, h3, q⟩ := h
  obtain ⟨u, w', rfl, ⟨t, rfl⟩, ⟨t', rfl⟩⟩ := vals2 r
  exact PySem.call_function_meets PySem.W.MGF.kind_comb PySem.W.MGF.plain_comb PySem.W.MGF.entry_comb (PySem.W.MGF.args_comb _ _) (PySem.W.mc_gives_comb t t' h0 h1 (by omega) (.inl h3)).meets ⟨.int _, H, I.tok _, ⟨_, rfl⟩, q⟩
end
section
variable {σ : L2.St} {H : Hp} {Q : VK} {x y : V} {R : It → Hp → Prop}
theorem ap_shl : rShl x y H Q = ∃ (i : Int) (k : Nat), x = .int i ∧ y = .int (k : Int) ∧ CShl i (k : Int) ∧ Q (.int (i * 2 ^ k)) H := rfl
theorem ap_shr : rShr x y H Q = ∃ (i : Int) (k : Nat), x = .int i ∧ y = .int (k : Int) ∧ Q (.int (i / 2 ^ k)) H := rfl
theorem ap_mask : rMask x y H Q = ∃ (i : Int) (k : Nat), x = .int i ∧ y = .int (2 ^ k - 1) ∧ Q (.int (i % 2 ^ k)) H := rfl
theorem ap_comb {vs : List V} : rComb vs H Q = ∃ i j, vs = [.int i, .int j] ∧ 0 ≤ i ∧ 0 ≤ j ∧ i < 2 ^ 60 ∧ j ≤ 9000 ∧ Q (.int (PySem.W.mcComb i j)) H := rfl
theorem ap_bits {to : TE} : tBits to σ H Q = to σ H fun x H1 => ∃ i, x = .int i ∧ Q (.int (Builtin.Int.intBits i : Nat)) H1 := rfl
theorem ap_rng3 {ta : TA} : iRng3 ta σ H R = ta σ H fun vs H1 => ∃ (i j c : Int) (n : Nat), vs = [.int i, .int j, .int c] ∧ RgC i j c n ∧ R (Itc i c n) H1 := rfl
theorem loop_rangeC {lo c : Int} {n j : Nat} {tb : TS} {D : Ends} (Pv : Nat → L2.St → Hp → Prop) (h0 : Pv 0 σ H)
    (hs : ∀ (i : Nat) σ H, i < n → Pv i σ H → tb { D with nx := Pv (i + 1), ct := Pv (i + 1), bk := D.nx } (σ.set j (some (.int (lo + i * c)))) H) (hd : ∀ σ H, Pv n σ H → D.nx σ H) :
    tLoop (gName j) tb D σ (Itc lo c n) H := for_rangeC (g := gName j) Pv h0 hs hd
end
theorem rgc_up {i j c : Int} {n : Nat} (hc : 0 < c) (hc2 : c < 1073741824) (hi : -(2 ^ 61) ≤ i) (hi2 : i < 2 ^ 61) (hj : -(2 ^ 61) ≤ j) (hj2 : j < 2 ^ 61) (hn : (n : Int) = if i < j then (j - i - 1) / c + 1 else 0) : RgC i j c n := by
  have hs : Builtin.Range.rangeSize i j c = (n : Int) := by
    unfold Builtin.Range.rangeSize
    rw [if_pos hc, hn]
  refine ⟨by omega, by omega, ?_, hs⟩
  have hle : ∀ x : Int, 0 ≤ x → x / c ≤ x := fun x h => Int.ediv_le_self c h
  have hm : ∀ x : Int, 0 ≤ x → x / c * c ≤ x := fun x _ => Int.ediv_mul_le x (by omega)
  have hle' := hle (j - i - 1)
  have hm' := hm (j - i - 1)
  unfold Builtin.Range.small
  rw [hs, hn]
  simp only [Builtin.Range.rangeFitsLong, Bool.and_eq_true, Bool.or_eq_true, decide_eq_true_eq, beq_iff_eq, show c > 0 from hc, if_true]
  split
  · generalize (j - i - 1) / c = q at *
    have e : (q + 1) * c = q * c + c := by rw [Int.add_mul, Int.one_mul]
    generalize q * c = z at *
    omega
  · omega
/-- products that go down, and lots -/
theorem fp_shift (n : Int) : ∀ k : Nat, Builtin.Math.fallingProduct n (k + 1) = n * Builtin.Math.fallingProduct (n - 1) k
  | 0 => by rw [PySem.W.mc_fp_succ, PySem.W.mc_fp_zero, PySem.W.mc_fp_zero]; omega
  | k + 1 => by
    rw [PySem.W.mc_fp_succ, fp_shift n k, PySem.W.mc_fp_succ (n - 1) k, Int.mul_assoc]
    have : n - ((k + 1 : Nat) : Int) = n - 1 - k := by omega
    rw [this]
end Pr

/-! plain instances with one attribute; != by an own __eq__; str and len by own defs; isinstance with an own class -/
namespace Pr
open PySem PySem.Spec PyProof.Rows L2
theorem pe_imp {X : Cx} {e : Expr} {t t' : TE} (h : PE X e t) (i : ∀ σ H Q, t' σ H Q → t σ H Q) : PE X e t' := ⟨fun pins s σ H Q I q => h.run pins s σ H Q I (i σ H Q q)⟩
/-- its attributes: one -/
def FE (f : Str) (t : Addr) : List (Str × V) := [(f, .ref t)]
theorem FE_inj {f : Str} {t u : Addr} : FE f t = FE f u ↔ t = u := by
  unfold FE
  simp
theorem FE_at {f : Str} {t : Addr} : (FE f t).lookup f = some (.ref t) := by
  unfold FE
  simp [List.lookup]
theorem FE_put {f : Str} {t u : Addr} : putF f (.ref u) (FE f t) = FE f u := by
  unfold FE putF
  simp
theorem FE_new {f : Str} {t : Addr} : putF f (.ref t) [] = FE f t := rfl
/-- an instance of C at p whose attribute f is the object at t -/
def At1 (C : Addr) (f : Str) (H : Hp) (p t : Addr) : Prop := ∃ dx, H p = some (.ins C dx (FE f t))
end Pr
namespace PySem.W
open PySem PySem.Spec PySem.Calls PyProof.Rows
section
variable {prog : Program} {w : World} {A : Around} {E : Value → Shared → Prop} {s : Shared} {K : Frag} {x C f : Addr} {ox : Obj} {od : Option Obj}
theorem own_bound_B {M : Model} {name : Str} {id : String} {args : List Value} {Q : Option Value → Shared → Prop} (X : K.In s.heap) (I : InstAt s.heap x ox C od) (hs : findIn K (.ref C) name = some (some (.builtin id)))
    (hb : ∀ self, bindSpecial (.builtin id) self = pure (.builtin id, [self])) (h : wpAny M A (call (.builtin id) (.ref x :: args)) (fun v => Q (some v)) E s) : wpAny M A (callSpecialIfBound? (.ref x) name args) Q E s := by
  simp only [callSpecialIfBound?, bindSpecialIfBound?]
  refine wpAny_holding (wpAny_bind (wpAny_bind (wpAny_bind (I.type.here ((looks_findIn X hs).here ?_)))))
  refine wpAny_bind (wpAny_askSetting (wpAny_ite ?_))
  have fin : wpAny M A (call (.builtin id) ([.ref x] ++ args) >>= fun v => pure (some v)) Q E s := wpAny_bind (wpAny_mono h (fun v s' h' => wpAny_pure h') fun _ _ h' => h')
  split
  · exact wpAny_bind ((Looks.of_pure (hb _)).here (wpAny_pure (by exact fin)))
  · exact wpAny_tryCatch (wpAny_bind ((Looks.of_pure (hb _)).here (wpAny_pure (by exact fin))))
open Builtin in
theorem own_ne_call {b : Value} {Q : Value → Shared → Prop} (hu : A.in1.units < cLine) (X : K.In s.heap) (I : InstAt s.heap x ox C od) (hm : mroIn K C (.type "object") = some true)
    (hs : findIn K (.ref C) "__eq__" = some (some (.ref f))) (hf : isFn K (.ref f) = true)
    (h : wpAny (model prog w) A.in1 (call (.ref f) [.ref x, b]) (fun v s' => ∃ r, v = .bool r ∧ Q (.bool (!r)) s') E s) : wpAny (model prog w) A (call (.builtin "object.__ne__") [.ref x, b]) Q E s := by
  refine wpAny_call (codeAny_call_builtin PySem.F.slot_object_ne.plain PySem.F.entry_object_ne (check_slot (i := "object.__ne__") (owner := "object") (n := "__ne__") (by decide +kernel) (by decide +kernel) (I.type.andThen (looks_mroIn X hm)) (PySem.F.args_object_ne_2 _ _) ?_))
  unfold Builtin.«object.__ne__»
  refine wpAny_bind (m := slotArgs "__ne__" 1 _) (wpAny_pure ?_)
  refine wpAny_bind (m := cRoomFor _ _) (wpAny_cRoomFor hu ?_)
  refine wpAny_bind (m := callSpecialIfBound? (.ref x) (Str.ofString "__eq__") _) (ifBound_K X I hs hf (wpAny_mono h (fun r s' hq => ?_) fun _ _ y => y))
  obtain ⟨r, rfl, hq⟩ := hq
  refine wpAny_bind (m := truthy (.bool r)) (wpAny_pure ?_)
  exact wpAny_pure hq
/-- x != b by the == of x's class -/
theorem own_ne {b tb : Value} {Q : Value → Shared → Prop} {h₀ : Heap} {L : Addr} {m : Str → Option Value} (hu : A.units < cLine) (hu1 : A.in1.units < cLine) (F : Fr h₀ L s.heap m) (X₀ : K.In h₀) (I : InstAt s.heap x ox C od) (hb : Looks (model prog w) s.heap (typeOf b) tb) (hn : notFirst K C tb = true)
    (hm : mroIn K C (.type "object") = some true) (hne : findIn K (.ref C) "__ne__" = some (some (.builtin "object.__ne__"))) (hs : findIn K (.ref C) "__eq__" = some (some (.ref f))) (hf : isFn K (.ref f) = true)
    (h : wpAny (model prog w) A.in1 (call (.ref f) [.ref x, b]) (fun v s' => ∃ r, v = .bool r ∧ Q (.bool (!r)) s') E s) : wpAny (model prog w) A (richCompare .NotEq (.ref x) b) Q E s := by
  have X := X₀.keeps F.keep
  have one : wpAny (model prog w) A (tryCompare (.ref x) (cmpInfo .NotEq).2.1 b) (fun r s' => ∃ v, r = some v ∧ Q v s') E s := by
    unfold tryCompare
    refine wpAny_bind (own_bound_B (name := (cmpInfo .NotEq).2.1) X I hne (fun self => PySem.F.slot_object_ne.bind self) (own_ne_call hu1 X I hm hs hf (wpAny_mono h (fun v s' hv => ?_) fun _ _ e => e)))
    obtain ⟨r, rfl, hq⟩ := hv
    exact ⟨r, rfl, wpAny_pure ⟨_, rfl, hq⟩⟩
  unfold richCompare
  simp only [oneThing_ref]
  refine wpAny_holding (wpAny_bind (wpAny_cRoomFor hu ?_))
  refine wpAny_bind (I.type.here (wpAny_bind (hb.here ?_)))
  split
  · rename_i q
    have e : subIn K tb (.ref C) = some false := by
      rcases Bool.or_eq_true_iff.mp hn with e | e
      · rw [beq_iff_eq.mp e] at q; simp at q
      · exact beq_iff_eq.mp e
    refine wpAny_bind ((looks_subIn X e).here ?_)
    simp only [Bool.false_eq_true, if_false]
    refine wpAny_bind (wpAny_mono one (fun r s' z => ?_) fun _ _ e => e)
    obtain ⟨v, rfl, hq⟩ := z
    exact wpAny_pure hq
  · refine wpAny_bind (wpAny_pure ?_)
    simp only [Bool.false_eq_true, if_false]
    refine wpAny_bind (wpAny_mono one (fun r s' z => ?_) fun _ _ e => e)
    obtain ⟨v, rfl, hq⟩ := z
    exact wpAny_pure hq
end
end PySem.W
namespace Pr
open PySem PySem.Spec PyProof.Rows L2
/-- t > u of two tuples of ints -/
def rGtT (K : PySem.W.Frag) : R2 := fun x y H Q => ∃ (a b : Addr) (ns ms : List Int), x = .ref a ∧ y = .ref b ∧ SqT K H a (ns.map V.int) ∧ SqT K H b (ms.map V.int) ∧
  Q (.bl (Ob.lexAt (fun j => decide (ns.getD j 0 = ms.getD j 0)) (fun j => decide (ns.getD j 0 > ms.getD j 0)) (decide (ns.length > ms.length)) 0 (min ns.length ms.length))) H
theorem op_gtT {X : Cx} (hu : X.A.units < cLine) : OpR X (compareOp .Gt) (rGtT X.K) := by
  intro pins s σ H x y v u Q I rx ry h
  obtain ⟨a, b, ns, ms, rfl, rfl, ha, hb, q⟩ := h
  cases rx
  cases ry
  obtain ⟨its, r1, p1, _⟩ := I.tuple ha
  obtain ⟨its2, r2, p2, _⟩ := I.tuple hb
  have i1 : IntsAre its ns := Vals.ints r1
  have i2 : IntsAre its2 ms := Vals.ints r2
  have e1 : its.toArray.size = ns.length := by rw [List.size_toArray]; exact i1.length
  have e2 : its2.toArray.size = ms.length := by rw [List.size_toArray]; exact i2.length
  have at1 : ∀ j (h1 : j < its.toArray.size), ∃ t, its.toArray[j] = .int (ns.getD j 0) t := fun j h1 => PyProof.Rows.IntsAre.int_at i1 _ _ (by simp at h1; simp [h1])
  have at2 : ∀ j (h1 : j < its2.toArray.size), ∃ t, its2.toArray[j] = .int (ms.getD j 0) t := fun j h1 => PyProof.Rows.IntsAre.int_at i2 _ _ (by simp at h1; simp [h1])
  have R := Ob.RcOp.tuples_gt (A := X.A) (s := s) (e := fun j => decide (ns.getD j 0 = ms.getD j 0)) (r := fun j => decide (ns.getD j 0 > ms.getD j 0)) p1 p2 hu (fun j h1 h2 => by
    obtain ⟨t, et⟩ := at1 j h1
    obtain ⟨t', et'⟩ := at2 j h2
    rw [et, et']
    have z : (ns.getD j 0 == ms.getD j 0) = decide (ns.getD j 0 = ms.getD j 0) := by
      by_cases q : ns.getD j 0 = ms.getD j 0
      · rw [decide_eq_true q]; exact beq_iff_eq.mpr q
      · rw [decide_eq_false q]; exact beq_eq_false_iff_ne.mpr q
    rw [← z]
    exact SeqAt.EqAt.int_int _ _ _ _) (fun j h1 h2 _ => by
    obtain ⟨t, et⟩ := at1 j h1
    obtain ⟨t', et'⟩ := at2 j h2
    rw [et, et']
    exact Ob.RcOp.gt_int _ _ _ _)
  rw [e1, e2] at R
  exact R X.prog X.w X.xe (EP X pins σ Q) ⟨.bl _, H, I, rfl, q⟩
/-! isinstance with an own class -/
/-- what the class at C must have -/
structure IsC (K : PySem.W.Frag) (C : Addr) : Prop where
  cl : Cls K C
  ha : PySem.W.findIn K (.ref C) "__class__" = some (some (.builtin "object.__class__"))
  hn : PySem.W.specialIn K (.builtin "object.__class__") "__get__" = some (some (.builtin "getset_descriptor.__get__"))
  ht : PySem.W.takesIn K (.builtin "object.__class__") = some true
  hm : PySem.W.mroIn K C (.type "object") = some true
  ty : PySem.W.typeIn K (.ref C) = some (.type "type")
  int : PySem.W.subIn K (.type "int") (.ref C) = some false
  tup : PySem.W.subIn K (.type "tuple") (.ref C) = some false
theorem kit_own {K : PySem.W.Frag} {C : Addr} {t : Value} {b : Bool} (i : IsC K C) (hs : PySem.W.subIn K t (.ref C) = some b) (hne : (t == Value.ref C) = false) : PySem.W.kitOne K t (.ref C) = some b := by
  obtain ⟨cd, hc, _⟩ := PySem.W.any_some i.cl.hd
  unfold PySem.W.kitOne PySem.W.kitCls
  rw [hne]
  show (if ((PySem.W.clsIn K C).isSome && PySem.W.typeIn K (Value.ref C) == some (Value.type "type")) = true then PySem.W.subIn K t (Value.ref C) else none) = some b
  rw [hc, i.ty]
  simp [hs]
/-- whether it is an instance of C -/
inductive ObjIs (C : Addr) (H : Hp) : V → Bool → Prop where
  | obj {p dx : Addr} {fs : List (Str × V)} (h : H p = some (.ins C dx fs)) : ObjIs C H (.ref p) true
  | int (n : Int) : ObjIs C H (.int n) false
  | tup {p : Addr} {xs : List V} (h : H p = some (.tup xs)) : ObjIs C H (.ref p) false
def rIsO (C : Addr) : List V → Hp → VK → Prop := fun xs H Q => ∃ x b, xs = [x, .ref C] ∧ ObjIs C H x b ∧ Q (.bl b) H
theorem cr_isO {X : Cx} {C : Addr} (i : IsC X.K C) : CallR X (.builtin "isinstance") (rIsO C) := callImp call_isi fun vs H Q ⟨x, b, e, o, q⟩ => by
  cases o with
  | @obj p dx fs h =>
    refine ⟨.ref p, .ref C, .ref C, .ref C, true, e, .own C, .base (.ins h i.cl i.ha i.hn i.ht i.hm), ?_, q⟩
    unfold PySem.W.kitOne
    simp
  | int n => exact ⟨.int n, .ref C, .type "int", .ref C, false, e, .own C, .base (.int n), kit_own i i.int rfl, q⟩
  | @tup p xs h => exact ⟨.ref p, .ref C, .type "tuple", .ref C, false, e, .own C, .base (.tup h), kit_own i i.tup rfl, q⟩
/-! a def run one or two calls deeper -/
section
variable {X : Cx} {CX : CXT} {k : Nat} {C g : Addr} {fd : FuncData} {ps : List Str} {sp : Sp} {E : XK} {pins : List (Addr × Obj)} {σ : L2.St} {H : Hp} {s : Shared} {Q : VK} {us : List Value} {vs : List V}
theorem run_in1 (F : FnOk X.prog X.w X.K X.mg X.base CX k g fd ps sp) (hr : Room (k + 1) X.A) (hb : Binds X.K fd ps []) (hx : Passes CX X E) (I : Inv X pins σ H s) (r : Vals vs us) (h : sp vs H Q E) :
    wpAny (model X.prog X.w) X.A.in1 (call (.ref g) us) (EP X pins σ Q) X.xe s := by
  have hl : us.length = ps.length := by
    rw [← F.len _ _ _ _ h]
    exact r.length.symm
  have hb' := hb s us I.kIn (by rw [List.append_nil]; exact hl)
  rw [List.append_nil] at hb'
  refine wpAny_call (codeAny_mono (F.run X.A.in1 X.stack s H ⟨us, []⟩ us vs Q E hr.in1 I.env0.in1 hb' r h) fun r s' hq => ?_)
  cases r with
  | error e => exact hx pins σ H s e s' I hq
  | ok fl =>
    cases fl with
    | ret u => exact I.after hq
    | next => exact False.elim hq
    | brk => exact False.elim hq
    | cont => exact False.elim hq
/-- x != y, both of the class at C, by its own == -/
def rNe (C : Addr) (sp : Sp) (E : XK) : R2 := fun x y H Q => ∃ a dx fs b dy gs, x = .ref a ∧ y = .ref b ∧ H a = some (.ins C dx fs) ∧ H b = some (.ins C dy gs) ∧ sp [x, y] H (fun v H' => ∃ r, v = .bl r ∧ Q (.bl (!r)) H') E
theorem op_neOwn (nf : PySem.W.notFirst X.K C (.ref C) = true) (hm : PySem.W.mroIn X.K C (.type "object") = some true) (hne : PySem.W.findIn X.K (.ref C) "__ne__" = some (some (.builtin "object.__ne__")))
    (at_ : PySem.W.findIn X.K (.ref C) "__eq__" = some (some (.ref g))) (fn : PySem.W.isFn X.K (.ref g) = true)
    (F : FnOk X.prog X.w X.K X.mg X.base CX k g fd ps sp) (room : Room (k + 1) X.A) (hb : Binds X.K fd ps []) (pass : Passes CX X E) : OpR X (compareOp .NotEq) (rNe C sp E) := by
  intro pins s σ H x y v u Q I rx ry h
  obtain ⟨a, dx, fs, b, dy, gs, rfl, rfl, ea, eb, q⟩ := h
  cases (show v = Value.ref a from rx)
  cases (show u = Value.ref b from ry)
  obtain ⟨_, O, _⟩ := ins_get I.hok ea
  obtain ⟨_, J, _⟩ := O.look
  obtain ⟨_, O2, _⟩ := ins_get I.hok eb
  obtain ⟨_, J2, _⟩ := O2.look
  obtain ⟨m, fr⟩ := I.fr
  show wpAny _ _ (richCompare .NotEq (.ref a) (.ref b)) _ _ _
  refine PySem.W.own_ne (tb := .ref C) room.units0 room.in1.units0 fr I.ok.mod.kin J J2.type nf hm hne at_ fn (wpAny_mono (run_in1 (vs := [.ref a, .ref b]) (us := [.ref a, .ref b]) F room hb pass I (.cons rfl (.cons rfl .nil)) q) (fun z s' r => ?_) fun _ _ e => e)
  obtain ⟨z', H', I', rz, b', rfl, qz⟩ := r
  refine ⟨b', rz, .bl (!b'), H', I', rfl, qz⟩
end
/-- a class's own maker, read for one attribute -/
def tNew (C : Addr) (f : Str) (good : List Int → Prop) (ta : TA) : TE := fun σ H Q => ta σ H fun vs H1 => ∃ t es, vs = [.ref t] ∧ H1 t = some (TI es) ∧ good es ∧ ∀ p dx H', Same H1 H' → H1 p = none → H' p = some (.ins C dx (FE f t)) → Q (.ref p) H'
/-- o.f, the one attribute -/
def tAtt (C : Addr) (f : Str) (ta : TE) : TE := fun σ H Q => ta σ H fun x H1 => ∃ p dx t, x = .ref p ∧ H1 p = some (.ins C dx (FE f t)) ∧ Q (.ref t) H1
theorem pe_att {X : Cx} {C : Addr} {e : Expr} {f : Str} {pos : Pos} {ta : TE} (h : PE X (.Attribute e f pos) (tFld X.K ta f)) (mono : ∀ σ H (Q Q' : VK), (∀ x H1, Q x H1 → Q' x H1) → ta σ H Q → ta σ H Q') (cl : Cls X.K C) (no : NoAttr X.K C f) : PE X (.Attribute e f pos) (tAtt C f ta) :=
  pe_imp h fun σ H Q q => mono σ H _ _ (fun x H1 ⟨p, dx, t, ex, hp, q1⟩ => ⟨p, C, dx, FE f t, .ref t, ex, hp, cl, no, FE_at, q1⟩) q
section
variable {σ : L2.St} {H : Hp} {Q : VK} {C : Addr} {f : Str} {good : List Int → Prop}
theorem ap_new {ta : TA} : tNew C f good ta σ H Q = ta σ H fun vs H1 => ∃ t es, vs = [.ref t] ∧ H1 t = some (TI es) ∧ good es ∧ ∀ p dx H', Same H1 H' → H1 p = none → H' p = some (.ins C dx (FE f t)) → Q (.ref p) H' := rfl
theorem ap_att {ta : TE} : tAtt C f ta σ H Q = ta σ H fun x H1 => ∃ p dx t, x = .ref p ∧ H1 p = some (.ins C dx (FE f t)) ∧ Q (.ref t) H1 := rfl
theorem ap_prop {sp : Sp} {dvs : List V} {E : XK} {ta : TE} : tProp C sp dvs E ta σ H Q = ta σ H fun x H1 => ∃ a dx fs, x = .ref a ∧ H1 a = some (.ins C dx fs) ∧ sp (.ref a :: dvs) H1 Q E := rfl
theorem ap_isO {vs : List V} : rIsO C vs H Q = ∃ x b, vs = [x, .ref C] ∧ ObjIs C H x b ∧ Q (.bl b) H := rfl
theorem ap_bin {sp : Sp} {E : XK} {x y : V} : rBin C sp E x y H Q = ∃ a dx fs b dy gs, x = .ref a ∧ y = .ref b ∧ H a = some (.ins C dx fs) ∧ H b = some (.ins C dy gs) ∧ sp [x, y] H Q E := rfl
theorem ap_ne {sp : Sp} {E : XK} {x y : V} : rNe C sp E x y H Q = ∃ a dx fs b dy gs, x = .ref a ∧ y = .ref b ∧ H a = some (.ins C dx fs) ∧ H b = some (.ins C dy gs) ∧ sp [x, y] H (fun v H' => ∃ r, v = .bl r ∧ Q (.bl (!r)) H') E := rfl
theorem ap_meth {C : Addr} {m : Str} {sp : Sp} {dvs : List V} {E : XK} {ta : TE} {t : TA} : tMeth C m sp dvs E ta t σ H Q = ta σ H fun x H1 => ∃ a dx fs, x = .ref a ∧ H1 a = some (.ins C dx fs) ∧ fs.lookup m = none ∧ t σ H1 fun vs H2 => sp (x :: (vs ++ dvs)) H2 Q E := rfl
end
end Pr
namespace Pr
open PySem PySem.Spec PyProof.Rows L2
/-- what comes of C(..) with the values vs -/
def NewV (C : Addr) (sp : Sp) (dvs : List V) (E : XK) (vs : List V) (H1 : Hp) (Q : VK) : Prop := ∀ x dx, H1 x = none → H1 dx = none → dx ≠ x →
  sp (.ref x :: (vs ++ dvs)) (upd (upd H1 dx (.own x)) x (.ins C dx [])) (fun v H2 => v = .non ∧ Q (.ref x) H2) E
theorem ap_make {σ : L2.St} {H : Hp} {Q : VK} {C : Addr} {sp : Sp} {dvs : List V} {E : XK} {t : TA} : tMake C sp dvs E t σ H Q = t σ H fun vs H1 => NewV C sp dvs E vs H1 Q := rfl
theorem ins_inj {C D dx dy : Addr} {fs gs : List (Str × V)} : HO.ins C dx fs = HO.ins D dy gs ↔ C = D ∧ dx = dy ∧ fs = gs := by
  constructor
  · intro h
    cases h
    exact ⟨rfl, rfl, rfl⟩
  · rintro ⟨rfl, rfl, rfl⟩
    rfl
theorem mono_var {i : Nat} (σ : L2.St) (H : Hp) (Q Q' : VK) (h : ∀ x H1, Q x H1 → Q' x H1) (q : tVar i σ H Q) : tVar i σ H Q' := let ⟨v, e, z⟩ := q; ⟨v, e, h _ _ z⟩
end Pr

/-! slices and sums of tuples of ints, whole ones too -/
namespace Pr
open PySem PySem.Spec PyProof.Rows L2
section
variable {X : Cx}
def cutI (ns : List Int) (lo hi : Option Int) : List Int := (ns.drop (HT.sIx ns.length 0 lo)).take (HT.sIx ns.length ns.length hi - HT.sIx ns.length 0 lo)
theorem cut_map (ns : List Int) (lo hi : Option Int) : cutV (ns.map V.int) lo hi = (cutI ns lo hi).map V.int := by
  unfold cutV cutI
  rw [List.map_take, List.map_drop, List.length_map]
theorem cut_take (ns : List Int) (k : Nat) : cutI ns none (some (k : Int)) = ns.take k := by
  unfold cutI
  rw [HT.sIx_nat, HT.sIx_none, List.drop_zero, Nat.sub_zero]
  by_cases h : k ≤ ns.length
  · rw [Nat.min_eq_left h]
  · rw [Nat.min_eq_right (by omega), List.take_length, List.take_of_length_le (by omega)]
theorem cut_drop (ns : List Int) (k : Nat) : cutI ns (some (k : Int)) none = ns.drop k := by
  unfold cutI
  rw [HT.sIx_nat, HT.sIx_none]
  by_cases h : k ≤ ns.length
  · rw [Nat.min_eq_left h, List.take_of_length_le (by rw [List.length_drop]; omega)]
  · rw [Nat.min_eq_right (by omega), List.drop_length, List.drop_of_length_le (by omega)]
    simp
def rSlI : V → Option Int → Option Int → Hp → VK → Prop := fun x lo hi H Q => ∃ a, x = .ref a ∧ ∃ ns, H a = some (TI ns) ∧ ∀ r H', Same H H' → H' r = some (TI (cutI ns lo hi)) → Q (.ref r) H'
theorem slImp {r r' : V → Option Int → Option Int → Hp → VK → Prop} (h : SlR X r) (i : ∀ x lo hi H Q, r' x lo hi H Q → r x lo hi H Q) : SlR X r' :=
  fun pins s σ H x v vl vu lo hi sl Q I rx hs pl pu q => h pins s σ H x v vl vu lo hi sl Q I rx hs pl pu (i _ _ _ _ _ q)
theorem sl_tupI : SlR X rSlI := slImp sl_tupA fun x lo hi H Q ⟨a, ex, ns, ha, q⟩ => by
  refine ⟨a, ns.map V.int, ex, .inl (.inl ha), fun hw => ?_, fun _ p np => ?_⟩
  · refine q a H (fun _ _ h => h) ?_
    have e : cutI ns lo hi = ns := by
      rw [List.length_map] at hw
      unfold cutI
      rw [hw.1, hw.2, List.drop_zero, Nat.sub_zero, List.take_length]
    rw [e]
    exact ha
  · refine q p _ (fun b o e => by rw [upd_ne (ne_of_none e np)]; exact e) ?_
    rw [upd_same, cut_map]
def rCatI : R2 := fun x y H Q => ∃ a b, x = .ref a ∧ y = .ref b ∧ ∃ ns, H a = some (TI ns) ∧ ∃ ms, H b = some (TI ms) ∧ ns.length + ms.length ≤ 10000 ∧ ∀ r H', Same H H' → H' r = some (TI (ns ++ ms)) → Q (.ref r) H'
theorem op_catI : OpR X (binaryOp .Add) rCatI := opImp op_catA fun x y H Q ⟨a, b, ex, ey, ns, ha, ms, hb, hz, q⟩ => by
  refine ⟨a, b, ns.map V.int, ms.map V.int, ex, ey, .inl (.inl ha), .inl (.inl hb), ?_, fun e => ?_, fun _ e => ?_, fun _ _ p np => ?_⟩
  · rw [List.length_map, List.length_map, sizeLine_eq]
    omega
  · have : ns = [] := by simpa using e
    subst this
    exact q b H (fun _ _ h => h) hb
  · have : ms = [] := by simpa using e
    subst this
    exact q a H (fun _ _ h => h) (by rw [List.append_nil]; exact ha)
  · refine q p _ (fun b o e => by rw [upd_ne (ne_of_none e np)]; exact e) ?_
    rw [upd_same, ← List.map_append]
end
section
variable {σ : L2.St} {H : Hp} {Q : VK} {x y : V} {lo hi : Option Int}
theorem ap_slI : rSlI x lo hi H Q = ∃ a, x = .ref a ∧ ∃ ns, H a = some (TI ns) ∧ ∀ r H', Same H H' → H' r = some (TI (cutI ns lo hi)) → Q (.ref r) H' := rfl
theorem ap_catI : rCatI x y H Q = ∃ a b, x = .ref a ∧ y = .ref b ∧ ∃ ns, H a = some (TI ns) ∧ ∃ ms, H b = some (TI ms) ∧ ns.length + ms.length ≤ 10000 ∧ ∀ r H', Same H H' → H' r = some (TI (ns ++ ms)) → Q (.ref r) H' := rfl
end
end Pr

/-! perm -/
namespace Pr
open PySem PySem.Spec PyProof.Rows L2
section
variable {X : Cx}
def rPerm : List V → Hp → VK → Prop := fun vs H Q => ∃ i j, vs = [.int i, .int j] ∧ 0 ≤ i ∧ 0 ≤ j ∧ i < 2 ^ 60 ∧ j ≤ 9000 ∧ Q (.int (PySem.W.mcPerm i j)) H
theorem cr_perm : CallR X (.builtin "math.perm") rPerm := by
  intro pins s σ H vs us Q I r h
  obtain ⟨i, j, rfl, h0, h1, h2, h3, q⟩ := h
  obtain ⟨u, w', rfl, ⟨t, rfl⟩, ⟨t', rfl⟩⟩ := vals2 r
  exact PySem.call_function_meets PySem.W.MGF.kind_perm PySem.W.MGF.plain_perm PySem.W.MGF.entry_perm (PySem.W.MGF.args_perm _ _) (PySem.W.mc_gives_perm t t' h0 h1 (by omega) (by omega)).meets ⟨.int _, H, I.tok _, ⟨_, rfl⟩, q⟩
end
theorem ap_perm {vs : List V} {H : Hp} {Q : VK} : rPerm vs H Q = ∃ i j, vs = [.int i, .int j] ∧ 0 ≤ i ∧ 0 ≤ j ∧ i < 2 ^ 60 ∧ j ≤ 9000 ∧ Q (.int (PySem.W.mcPerm i j)) H := rfl
/-- the product of k numbers from n down -/
def fall (n : Nat) : Nat → Nat
  | 0 => 1
  | k + 1 => fall n k * (n - k)
theorem fall_fp (n : Nat) : ∀ k, k ≤ n → Builtin.Math.fallingProduct (n : Int) k = (fall n k : Int)
  | 0, _ => rfl
  | k + 1, h => by
    rw [PySem.W.mc_fp_succ, fall_fp n k (by omega)]
    show _ = ((fall n k * (n - k) : Nat) : Int)
    rw [Int.natCast_mul]
    congr 1
    omega
theorem perm_fall {n k : Nat} (h : k ≤ n) : PySem.W.mcPerm (n : Int) (k : Int) = (fall n k : Int) := by
  rw [PySem.W.mcPerm_at (by omega), Int.toNat_natCast, fall_fp n k h]
theorem fall_le (n : Nat) : ∀ k, fall n k ≤ n ^ k
  | 0 => Nat.le_refl 1
  | k + 1 => by
    show fall n k * (n - k) ≤ n ^ k * n
    exact Nat.mul_le_mul (fall_le n k) (Nat.sub_le n k)
end Pr

namespace Pr
open PySem PySem.Spec PyProof.Rows L2
/-! classmethods read off a class; any of a list of truth values -/
theorem _root_.L2.FnOk.rawN {P : Program} {w : World} {K : PySem.W.Frag} {mg : Str → Option Value} {base : Heap} {CX : CXT} {k : Nat} {f : Addr} {fd : FuncData} {ps : List Str} {sp : Sp}
    (F : FnOk P w K mg base CX k f fd ps sp) (hb : Binds K fd ps []) : FnR P w K mg base CX k f sp :=
  (F.raw hb .nil).imp fun vs H Q E h => by rw [List.append_nil]; exact h
theorem ap_cm {C : Addr} {sp : Sp} {E : XK} {ta : TE} {t : TA} {σ : L2.St} {H : Hp} {Q : VK} : ClX.tCMeth C sp E ta t σ H Q = ta σ H fun x H1 => x = .ref C ∧ t σ H1 fun vs H2 => sp (.ref C :: vs) H2 Q E := rfl
theorem ap_any {K : PySem.W.Frag} {vs : List V} {H : Hp} {Q : VK} : rAny K vs H Q = ∃ (a : Addr) (bs : List Bool), vs = [V.ref a] ∧ SqL K H a (bs.map V.bl) ∧ Q (.bl (bs.any id)) H := rfl
end Pr

/-! len(o), list(o), str(o) of plain instances by own defs; iter of a tuple; repr of a bool; o != t, t a tuple -/
namespace PySem.W
open PySem PySem.Spec PySem.Calls PyProof.Rows
section
variable {prog : Program} {w : World} {A : Around} {E : Value → Shared → Prop} {s : Shared} {K : Frag} {x C f : Addr} {ox : Obj} {od : Option Obj}
open Builtin in
theorem own_len_call {Q : Value → Shared → Prop} (X : K.In s.heap) (I : InstAt s.heap x ox C od) (hs : findIn K (.ref C) "__len__" = some (some (.ref f))) (hf : isFn K (.ref f) = true)
    (h : wpAny (model prog w) A.in1 (call (.ref f) [.ref x]) (fun r s' => ∃ n u, r = .int n u ∧ 0 ≤ n ∧ n < 2 ^ 63 ∧ Q (.int n s'.toks) { s' with toks := s'.toks + 1 }) E s) :
    wpAny (model prog w) A (call (.builtin "len") [.ref x]) Q E s := by
  refine Calls.call_function_entry kind_len plain_len entry_len (args_len1 _) ?_
  unfold Builtin.«len»
  refine wpAny_bind (m := oneArg "len" _) (wpAny_pure ?_)
  refine wpAny_bind (m := callSpecial? (.ref x) (Str.ofString "__len__")) (special_fn (args := []) X I hs (beq_iff_eq.mp hf) (wpAny_mono h (fun r s' hr => ?_) fun _ _ y => y))
  obtain ⟨n, u, rfl, h0, h1, hq⟩ := hr
  refine wpAny_bind (wpAny_holding (wpAny_pure ?_))
  refine wpAny_bind (wpAny_letGo ?_)
  show wpAny _ _ (if n < 0 then _ else _) _ _ _
  rw [if_neg (by omega)]
  show wpAny _ _ (if n ≥ 2 ^ 63 then _ else _) _ _ _
  rw [if_neg (by omega)]
  exact wpAny_bind (wpAny_mkInt (wpAny_pure ⟨_, rfl, hq⟩))
end
end PySem.W
namespace Pr
open PySem PySem.Spec PyProof.Rows L2
section
variable {X : Cx} {CX : CXT} {k : Nat} {C g : Addr} {fd : FuncData} {ps : List Str} {sp : Sp} {E : XK} {pins : List (Addr × Obj)} {σ : L2.St} {H : Hp} {s : Shared} {Q : VK} {us : List Value} {vs : List V}
/-- a def run by a machine of ours that stands deeper -/
theorem run_sub {A1 : Around} (sb : Sub X k A1) (F : FnOk X.prog X.w X.K X.mg X.base CX k g fd ps sp) (hb : Binds X.K fd ps []) (hx : Passes CX X E) (I : Inv X pins σ H s) (r : Vals vs us) (h : sp vs H Q E) :
    wpAny (model X.prog X.w) A1 (call (.ref g) us) (EP X pins σ Q) X.xe s := by
  have hl : us.length = ps.length := by
    rw [← F.len _ _ _ _ h]
    exact r.length.symm
  have hb' := hb s us I.kIn (by rw [List.append_nil]; exact hl)
  rw [List.append_nil] at hb'
  have e0 : Env0 X.prog X.w X.K X.mg X.base A1 X.stack s H := by
    have e := I.env0
    exact ⟨by rw [sb.fr]; exact e.frames, e.mod, e.bs, e.bsz, e.funs, e.frf, e.hok, e.bare⟩
  refine wpAny_call (codeAny_mono (F.run A1 X.stack s H ⟨us, []⟩ us vs Q E sb.room e0 hb' r h) fun r s' hq => ?_)
  cases r with
  | error e => exact hx pins σ H s e s' I hq
  | ok fl =>
    cases fl with
    | ret u => exact I.after hq
    | next => exact False.elim hq
    | brk => exact False.elim hq
    | cont => exact False.elim hq
/-! ### len(o) -/
def rLenO (C : Addr) (sp : Sp) (E : XK) : List V → Hp → VK → Prop := fun xs H Q => ∃ a dx fs, xs = [.ref a] ∧ H a = some (.ins C dx fs) ∧ sp [.ref a] H (fun v H' => ∃ n : Nat, v = .int n ∧ n < 1000000 ∧ Q (.int n) H') E
theorem cr_lenO (at_ : PySem.W.findIn X.K (.ref C) "__len__" = some (some (.ref g))) (fn : PySem.W.isFn X.K (.ref g) = true)
    (F : FnOk X.prog X.w X.K X.mg X.base CX k g fd ps sp) (room : Room (k + 1) X.A) (hb : Binds X.K fd ps []) (pass : Passes CX X E) : CallR X (.builtin "len") (rLenO C sp E) := by
  intro pins s σ H xs us Q I r h
  obtain ⟨a, dx, fs, rfl, ea, q⟩ := h
  obtain ⟨u, rfl, ru⟩ := r.one
  cases ru
  obtain ⟨_, O, _⟩ := ins_get I.hok ea
  obtain ⟨_, J, _⟩ := O.look
  refine PySem.W.own_len_call I.kIn J at_ fn (wpAny_mono (run_in1 (vs := [.ref a]) (us := [.ref a]) F room hb pass I (.cons rfl .nil) q) (fun z s' r => ?_) fun _ _ e => e)
  obtain ⟨z', H', I', rz, n, rfl, hn, qz⟩ := r
  obtain ⟨t, rfl⟩ := (show ∃ t, z = Value.int n t from rz)
  exact ⟨n, t, rfl, by omega, by omega, .int n, H', I'.kept (t' := s'.toks + 1) (fun _ _ e => e), ⟨_, rfl⟩, qz⟩
/-! ### str(o) -/
def rStrO (C : Addr) (sp : Sp) (E : XK) : List V → Hp → VK → Prop := fun xs H Q => ∃ a dx fs, xs = [.ref a] ∧ H a = some (.ins C dx fs) ∧ sp [.ref a] H (fun v H' => ∃ z, v = .str z ∧ Q (.str z) H') E
theorem cr_strO (at_ : PySem.W.findIn X.K (.ref C) "__str__" = some (some (.ref g))) (fn : PySem.W.isFn X.K (.ref g) = true)
    (F : FnOk X.prog X.w X.K X.mg X.base CX k g fd ps sp) (room : Room (k + 2) X.A) (hb : Binds X.K fd ps []) (pass : Passes CX X E) : CallR X (.type "str") (rStrO C sp E) := by
  intro pins s σ H xs us Q I r h
  obtain ⟨a, dx, fs, rfl, ea, q⟩ := h
  obtain ⟨u, rfl, ru⟩ := r.one
  cases ru
  obtain ⟨_, O, _⟩ := ins_get I.hok ea
  obtain ⟨_, J, _⟩ := O.look
  have sb : Sub X k X.A.in1.in1 := (Sub.in1 (Sub.in1 (⟨room, rfl⟩ : Sub X (k + 2) X.A)))
  refine PySem.W.kso_call sb.room.units0 I.kIn J at_ fn (wpAny_mono (run_sub (vs := [.ref a]) (us := [.ref a]) sb F hb pass I (.cons rfl .nil) q) (fun z s' r => ?_) fun _ _ e => e)
  obtain ⟨z', H', I', rz, y, rfl, qz⟩ := r
  obtain ⟨t, rfl⟩ := (show ∃ t, z = Value.str y t from rz)
  exact ⟨.str y, H', I', ⟨_, rfl⟩, qz⟩
/-! ### repr of a bool -/
def rReprB : List V → Hp → VK → Prop := fun xs H Q => ∃ b, xs = [.bl b] ∧ Q (.str (if b then "True" else "False")) H
theorem cr_reprB : CallR X (.builtin "repr") rReprB := by
  intro pins s σ H xs us Q I r h
  obtain ⟨b, rfl, q⟩ := h
  obtain ⟨u, rfl, ru⟩ := r.one
  cases (show u = Value.bool b from ru)
  refine PySem.P.repr_of_bool ?_
  exact ⟨.str _, H, I.kept (t' := s.toks + 1) (fun _ _ e => e), ⟨_, rfl⟩, q⟩
end
/-! ### o != t, t a tuple, by the own == -/
section
variable {X : Cx} {CX : CXT} {k : Nat} {C g : Addr} {fd : FuncData} {ps : List Str} {sp : Sp} {E : XK}
def rNeT (C : Addr) (sp : Sp) (E : XK) : R2 := fun x y H Q => ∃ a dx fs b xs, x = .ref a ∧ y = .ref b ∧ H a = some (.ins C dx fs) ∧ H b = some (.tup xs) ∧ sp [x, y] H (fun v H' => ∃ r, v = .bl r ∧ Q (.bl (!r)) H') E
theorem op_neOwnT (nf : PySem.W.notFirst X.K C (.type "tuple") = true) (hm : PySem.W.mroIn X.K C (.type "object") = some true) (hne : PySem.W.findIn X.K (.ref C) "__ne__" = some (some (.builtin "object.__ne__")))
    (at_ : PySem.W.findIn X.K (.ref C) "__eq__" = some (some (.ref g))) (fn : PySem.W.isFn X.K (.ref g) = true)
    (F : FnOk X.prog X.w X.K X.mg X.base CX k g fd ps sp) (room : Room (k + 1) X.A) (hb : Binds X.K fd ps []) (pass : Passes CX X E) : OpR X (compareOp .NotEq) (rNeT C sp E) := by
  intro pins s σ H x y v u Q I rx ry h
  obtain ⟨a, dx, fs, b, xs, rfl, rfl, ea, eb, q⟩ := h
  cases (show v = Value.ref a from rx)
  cases (show u = Value.ref b from ry)
  obtain ⟨_, O, _⟩ := ins_get I.hok ea
  obtain ⟨_, J, _⟩ := O.look
  obtain ⟨its, r1, p1, _⟩ := I.tuple (.inl (.inl eb))
  obtain ⟨m, fr⟩ := I.fr
  obtain ⟨ob, hob, hcb, _⟩ := id p1
  show wpAny _ _ (richCompare .NotEq (.ref a) (.ref b)) _ _ _
  refine PySem.W.own_ne (tb := .type "tuple") room.units0 room.in1.units0 fr I.ok.mod.kin J (fun A Q E s k q => wpAny_typeOf_ref (k _ _ hob) (by rw [hcb]; exact q)) nf hm hne at_ fn (wpAny_mono (run_in1 (vs := [.ref a, .ref b]) (us := [.ref a, .ref b]) F room hb pass I (.cons rfl (.cons rfl .nil)) q) (fun z s' r => ?_) fun _ _ e => e)
  obtain ⟨z', H', I', rz, b', rfl, qz⟩ := r
  refine ⟨b', rz, .bl (!b'), H', I', rfl, qz⟩
end
end Pr

/-! iter(t), t a tuple; list(o) of an instance whose own __iter__ gives the iterator of a tuple, and whose own __len__ tells its length -/
namespace Pr
open PySem PySem.Spec PyProof.Rows L2
open Builtin in
/-- a tuple's iterator has nothing left: it stands still, changed -/
theorem tup_end {prog : Program} {w : World} {A : Around} {E : Value → Shared → Prop} {s : Shared} {I t : Addr} {n : Nat} {items : Array Value} {Q : Option Value → Shared → Prop} (calm : A.handled = none)
    (hI : s.heap.IsTupleIter I t n) (hT : s.heap.IsTuple t items) (none_ : items[n]? = none) (hQ : ∀ h', Heap.ExtBut I s.heap h' → (∃ o, h'.get? I = some o) → Q none { s with heap := h' }) : wpAny (model prog w) A (pyNext (.ref I)) Q E s := by
  obtain ⟨oI, gI, cI, dI⟩ := id hI
  obtain ⟨oT, gT, _, m, dT⟩ := hT
  unfold pyNext
  have entry : wpAny (model prog w) A.in1 (Builtin.«tuple_iterator.__next__» ⟨[.ref I], []⟩) (fun _ _ => False) (fun e s' => wpAny (model prog w) A (isInstance e (.type "StopIteration")) (fun b s₂ => b = true ∧ Q none s₂) E s') s := by
    show wpAny _ _ (field (.ref I) 0 >>= _) _ _ s
    refine wpAny_bind (wpAny_field gI dI (x := .ref t) rfl ?_)
    show wpAny _ _ (if (Value.ref t == Value.none) = true then _ else _) _ _ s
    refine PySem.W.KFB.if_not rfl ?_
    show wpAny _ _ (field (.ref I) 1 >>= _) _ _ s
    refine wpAny_bind (wpAny_field gI dI (x := .int n 0) rfl ?_)
    show wpAny _ _ (seqItems? (.ref t) >>= _) _ _ s
    refine wpAny_bind (wpAny_seqItems gT dT ?_)
    simp only [Int.toNat_natCast, none_]
    refine wpAny_bind (wpAny_rule (wpAny_bind (wpAny_setField gI dI (by simp) ?_)))
    have gI' := Heap.get?_update_self (Obj.mapFields (·.setIfInBounds 0 Value.none)) gI (Obj.isFreed_of_fields (Obj.data_mapFields dI _))
    show wpAny _ _ (newExc (.type "StopIteration") [] >>= _) _ _ _
    refine wpAny_bind ?_
    simp only [newExc, newTuple]
    refine wpAny_bind (wpAny_newObj_type ?_ (by size_fits))
    refine wpAny_bind (m := firstArgMember _ _) (wpAny_of_eq (a := Value.none) (by first | rfl | (simp only [firstArgMember]; rfl)) ?_)
    refine wpAny_newObj_type ?_ (by size_fits)
    simp only [raiseNew]
    refine wpAny_bind (wpAny_handled ?_)
    rw [show A.in1.handled = none from calm]
    refine wpAny_bind (wpAny_pure (wpAny_throw ?_))
    refine wpAny_isInstance (T := "StopIteration") (b := true) ⟨_, Heap.get?_push_size _ rfl, rfl⟩ isSubtype_stop ?_
    exact ⟨rfl, hQ _ (((Heap.SameBut.update ..).extBut.push _).push _) ⟨_, Heap.get?_push_of_some _ (Heap.get?_push_of_some _ gI')⟩⟩
  refine wpAny_bind (wpAny_attempt (wpAny_callSpecial?_slot (name := Str.ofString "__next__") hI.typeIs F.slot_tuple_iterator_next
    (wpAny_call_entry F.slot_tuple_iterator_next hI.typeIs F.entry_tuple_iterator_next (wpAny_mono entry (fun _ _ z => z.elim) fun e s' z => ?_) (F.args_tuple_iterator_next_1 _))))
  refine wpAny_bind (wpAny_mono z (fun b s₂ q => ?_) fun _ _ y => y)
  obtain ⟨rfl, q⟩ := q
  exact wpAny_pure q
/-- at it an iterator over the tuple at t, i items are drawn -/
def TtO (t it : Addr) (i : Nat) : HO := .ext fun h => h.IsTupleIter it t i
theorem ttO_ok {P : Program} {w : World} {H : Hp} {h : Heap} {t it : Addr} {i : Nat} (e : h.IsTupleIter it t i) : ObjOk P w H h it (TtO t it i) :=
  ⟨e, let ⟨o, ho, _⟩ := e; ⟨o, ho⟩, fun h1 h2 q k => let ⟨o, ho, r⟩ := q; ⟨o, k _ ho, r⟩⟩
section
variable {X : Cx} {pins : List (Addr × Obj)} {σ : L2.St} {H : Hp} {s : Shared} {t it : Addr} {i : Nat}
theorem ttO_get (I : Inv X pins σ H s) (e : H it = some (TtO t it i)) : s.heap.IsTupleIter it t i := (I.hok it _ e).1
theorem call_iterTup {prog : Program} {w : World} {A : Around} {E : Value → Shared → Prop} {s : Shared} {items : Array Value} {l : Addr} {Q : Value → Shared → Prop} (hl : s.heap.IsTuple l items)
    (h : Q (.ref s.heap.objs.size) { s with heap := s.heap.push { cls := .type "tuple_iterator", data := .fields #[.ref l, .int 0 0] } }) : wpAny (model prog w) A (call (.builtin "iter") [.ref l]) Q E s := by
  refine Calls.call_function_entry (by decide +kernel) (by decide +kernel) PySem.W.kdk_entry_iter (PySem.W.kdk_args_iter _) ?_
  unfold Builtin.«iter»
  refine wpAny_bind (m := someArgs "iter" 1 2 _) (wpAny_of_eq (a := [Value.ref l]) (by first | rfl | kernel_rfl!) ?_)
  show wpAny _ _ (pyIter (.ref l) >>= _) _ _ _
  refine wpAny_bind (wpAny_pyIter_tuple hl ?_)
  exact wpAny_pure ⟨_, rfl, h⟩
end
section
variable {X : Cx}
def rIterT : List V → Hp → VK → Prop := fun xs H Q => ∃ l, xs = [.ref l] ∧ ∃ zs, H l = some (.tup zs) ∧ ∀ it, H it = none → Q (.ref it) (upd H it (TtO l it 0))
theorem cr_iterT : CallR X (.builtin "iter") rIterT := by
  intro pins s σ H xs us Q I r h
  obtain ⟨l, rfl, zs, hq, q⟩ := h
  obtain ⟨u, rfl, ru⟩ := r.one
  cases ru
  obtain ⟨its, rv, pl, hz⟩ := I.tuple (.inl (.inl hq))
  refine call_iterTup pl ?_
  exact ⟨.ref s.heap.objs.size, _, I.laid (t' := s.toks) (fun b u e => Heap.get?_push_of_some _ e) (Nat.le_refl _) (ttO_ok ⟨_, Heap.get?_push_size _ rfl, rfl, rfl⟩), rfl, q _ (I.hok.fresh (Nat.le_refl _))⟩
end
/-- what __iter__ promises -/
def spIt (C : Addr) (f : Str) : Sp := fun vs H Q _ => ∃ a dx t xs, vs = [.ref a] ∧ H a = some (.ins C dx (FE f t)) ∧ H t = some (.tup xs) ∧ ∀ it, H it = none → Q (.ref it) (upd H it (TtO t it 0))
/-- what __len__ promises -/
def spLn (C : Addr) (f : Str) : Sp := fun vs H Q _ => ∃ a dx t xs, vs = [.ref a] ∧ H a = some (.ins C dx (FE f t)) ∧ H t = some (.tup xs) ∧ Q (.int (xs.length : Nat)) H
section
variable {X : Cx} {pins : List (Addr × Obj)} {σ : L2.St} {H : Hp} {s : Shared} {C fi fl a q t it : Addr} {fdI fdL : FuncData} {psI psL : List Str} {A1 : Around} {f : Str} {n : Nat}
theorem upd_swap {H : Hp} {a b : Addr} {o u : HO} (h : a ≠ b) : upd (upd H a o) b u = upd (upd H b u) a o := by
  funext c
  by_cases ha : c = a
  · rw [ha, upd_same, upd_ne h, upd_same]
  · by_cases hb : c = b
    · rw [hb, upd_same, upd_ne (Ne.symm h), upd_same]
    · rw [upd_ne hb, upd_ne ha, upd_ne ha, upd_ne hb]
theorem take_snoc {α} {xs : List α} {i : Nat} {x : α} (h : xs[i]? = some x) : xs.take i ++ [x] = xs.take (i + 1) := by
  rw [List.take_succ, h]
  rfl
/-- an iterator that has ended -/
def TtE (it : Addr) : HO := .ext fun h => ∃ o, h.get? it = some o
theorem it_loop {Rs : Result → Shared → Prop} {xs : List V} {H0 : Hp} (hc : A1.in1.handled = none) (hqi : q ≠ it) (ht0 : H0 t = some (.tup xs)) (htq : t ≠ q) (hti : t ≠ it) (hi0 : H0 it = none) (hz : xs.length < sizeLine)
    (hdone : ∀ s, Inv X pins σ (upd H0 q (.lst xs)) s → Rs (.ok (.ret .none)) s) :
    ∀ (k i : Nat) (s : Shared), i + k = xs.length → Inv X pins σ (upd (upd H0 q (.lst (xs.take i))) it (TtO t it i)) s → codeAny (model X.prog X.w) A1 (.builtin "list.extend.loop" ⟨[.ref q, .ref it, .none], []⟩) Rs s := by
  intro k
  induction k with
  | zero =>
    intro i s hk I
    refine codeAny_builtin PySem.F.entry_extend_loop ?_
    rw [Around.under_plainId PySem.F.plain_extend_loop _]
    show wpAny _ A1.in1 (pyNext (.ref it) >>= _) _ _ s
    have ht : upd (upd H0 q (.lst (xs.take i))) it (TtO t it i) t = some (.tup xs) := by rw [upd_ne hti, upd_ne htq]; exact ht0
    obtain ⟨its, rv, pl, _⟩ := I.tuple (.inl (.inl ht))
    have hit := ttO_get I upd_same
    refine wpAny_bind (tup_end hc hit pl (by rw [List.getElem?_toArray]; exact rv.none_of (by rw [List.getElem?_eq_none_iff]; omega)) fun h' hx ⟨o, ho⟩ => ?_)
    refine wpAny_pure (hdone _ ?_)
    have mu : Mut (upd (upd H0 q (.lst (xs.take i))) it (TtO t it i) it) := by rw [upd_same]; exact True.intro
    have I2 := I.write (x := it) (e := it) (t' := s.toks) (o := TtE it) mu (.inl rfl) (fun b u hb e => hx b u hb e) ⟨o, ho⟩ ⟨⟨o, ho⟩, ⟨o, ho⟩, fun h1 h2 q k => let ⟨o, ho⟩ := q; ⟨o, k _ ho⟩⟩
    rw [upd_upd] at I2
    have I3 := ItX.inv_drop I2 (a := it) upd_same
    rw [ItX.dropH_upd (by rw [upd_ne (Ne.symm hqi)]; exact hi0), show xs.take i = xs from List.take_of_length_le (by omega)] at I3
    exact I3
  | succ k ih =>
    intro i s hk I
    refine codeAny_builtin PySem.F.entry_extend_loop ?_
    rw [Around.under_plainId PySem.F.plain_extend_loop _]
    show wpAny _ A1.in1 (pyNext (.ref it) >>= _) _ _ s
    have ht : upd (upd H0 q (.lst (xs.take i))) it (TtO t it i) t = some (.tup xs) := by rw [upd_ne hti, upd_ne htq]; exact ht0
    obtain ⟨its, rv, pl, _⟩ := I.tuple (.inl (.inl ht))
    have hit := ttO_get I upd_same
    have hi : i < xs.length := by omega
    obtain ⟨u, hu, ru⟩ := rv.get (List.getElem?_eq_getElem hi)
    refine wpAny_bind (wpAny_pyNext_tuple_item hit pl (by rw [List.getElem?_toArray]; exact hu) fun h' hit' sb => ?_)
    have mu : Mut (upd (upd H0 q (.lst (xs.take i))) it (TtO t it i) it) := by rw [upd_same]; exact True.intro
    have I2 := I.write (x := it) (e := it) (t' := s.toks) (o := TtO t it (i + 1)) mu (.inl rfl) (fun b o nb z => (sb.2 b nb).trans z) (let ⟨o, ho, _⟩ := hit'; ⟨o, ho⟩) (ttO_ok hit')
    rw [upd_upd] at I2
    have hq' : upd (upd H0 q (.lst (xs.take i))) it (TtO t it (i + 1)) q = some (.lst (xs.take i)) := by rw [upd_ne hqi, upd_same]
    show wpAny _ A1.in1 (updateSeq q (·.push u) >>= _) _ _ _
    obtain ⟨z, its2, k2, r2, hl2, e2⟩ := I2.lstM hq'
    have lt : (xs.take i).length = i := by rw [List.length_take]; omega
    refine wpAny_bind (wpAny_updateSeq e2 rfl (wpAny_pure ⟨plainId_quiet PySem.F.plain_extend_loop _, ?_⟩) (by rw [List.size_toArray]; omega) (by show (its2.toArray.push u).size ≤ sizeLine + 1; rw [Array.size_push, List.size_toArray]; omega))
    have I3 := I2.lset (f := (·.push u)) (its' := its2 ++ [u]) (t' := s.toks) hq' e2 (by simp) (r2.append (.cons ru .nil)) (by rw [List.length_append, List.length_singleton]; omega)
    rw [upd_swap (Ne.symm hqi), upd_upd, take_snoc (List.getElem?_eq_getElem hi)] at I3
    exact ih (i + 1) _ (by omega) I3
/-- a def that lets nothing out -/
theorem run_sub0 {A2 : Around} {k : Nat} {g : Addr} {fd : FuncData} {ps : List Str} {sp : Sp} {vs : List V} {us : List Value} {Q : VK} (sb : Sub X k A2) (F : FnOk X.prog X.w X.K X.mg X.base CX0 k g fd ps sp) (hb : Binds X.K fd ps []) (I : Inv X pins σ H s) (r : Vals vs us) (h : sp vs H Q E0) :
    wpAny (model X.prog X.w) A2 (call (.ref g) us) (EP X pins σ Q) (fun _ _ => False) s := by
  have hl : us.length = ps.length := by
    rw [← F.len _ _ _ _ h]
    exact r.length.symm
  have hb' := hb s us I.kIn (by rw [List.append_nil]; exact hl)
  rw [List.append_nil] at hb'
  have e0 : Env0 X.prog X.w X.K X.mg X.base A2 X.stack s H := by
    have e := I.env0
    exact ⟨by rw [sb.fr]; exact e.frames, e.mod, e.bs, e.bsz, e.funs, e.frf, e.hok, e.bare⟩
  refine wpAny_call (codeAny_mono (F.run A2 X.stack s H ⟨us, []⟩ us vs Q E0 sb.room e0 hb' r h) fun r s' hq => ?_)
  cases r with
  | error e => exact hq
  | ok fl =>
    cases fl with
    | ret u => exact I.after hq
    | next => exact False.elim hq
    | brk => exact False.elim hq
    | cont => exact False.elim hq
/-- the length is asked -/
theorem it_hint {Q : Bool → Shared → Prop} {dx : Addr} {xs : List V} (sb : Sub X n A1.in1) (hl : PySem.W.findIn X.K (.ref C) "__len__" = some (some (.ref fl))) (hlF : PySem.W.isFn X.K (.ref fl) = true)
    (FL : FnOk X.prog X.w X.K X.mg X.base CX0 n fl fdL psL (spLn C f)) (bL : Binds X.K fdL psL [])
    (I : Inv X pins σ H s) (ha : H a = some (.ins C dx (FE f t))) (ht : H t = some (.tup xs)) (hz : xs.length < 1000000) (h : ∀ s' b, Inv X pins σ H s' → Q b s') {E : Value → Shared → Prop} :
    wpAny (model X.prog X.w) A1 (Builtin.List.listLengthHint (.ref a)) Q E s := by
  obtain ⟨mA, J, _⟩ := ins_get I.hok ha
  obtain ⟨od, J, _⟩ := J.look
  unfold Builtin.List.listLengthHint
  refine wpAny_bind (wpAny_bind (J.type.here ((PySem.W.looks_findIn I.kIn hl).here ?_)))
  refine PySem.W.KFB.if_not rfl ?_
  refine PySem.W.KFB.if_so rfl ?_
  refine wpAny_bind (wpAny_rule ?_)
  refine wpAny_bind (wpAny_attempt (PySem.W.own_len_call I.kIn J hl hlF (wpAny_mono (run_sub0 (vs := [.ref a]) (us := [.ref a]) (Q := fun v H' => v = .int (xs.length : Nat) ∧ H' = H) sb FL bL I (.cons rfl .nil) ⟨a, dx, t, xs, rfl, ha, ht, rfl, rfl⟩) (fun z s' r => ?_) fun e s' he => he.elim)))
  obtain ⟨z', H', I', rz, rfl, rfl⟩ := r
  obtain ⟨tk, rfl⟩ := (show ∃ t, z = Value.int _ t from rz)
  refine ⟨_, tk, rfl, by omega, by omega, ?_⟩
  refine PySem.W.KFB.if_not ?_ ?_
  · show Builtin.List.listTooLong _ = false
    rw [Int.toNat_natCast]
    unfold Builtin.List.listTooLong
    have := sz hz
    exact decide_eq_false (by omega)
  exact wpAny_pure (h _ _ (I'.kept (t' := s'.toks + 1) (fun _ _ e => e)))
theorem it_extend {Rs : Result → Shared → Prop} {dx : Addr} {xs : List V} (sb1 : Sub X (n + 1) A1.in1) (hc : A1.in1.handled = none)
    (hi : PySem.W.findIn X.K (.ref C) "__iter__" = some (some (.ref fi))) (hiF : PySem.W.isFn X.K (.ref fi) = true) (FI : FnOk X.prog X.w X.K X.mg X.base CX0 n fi fdI psI (spIt C f)) (bI : Binds X.K fdI psI [])
    (hl : PySem.W.findIn X.K (.ref C) "__len__" = some (some (.ref fl))) (hlF : PySem.W.isFn X.K (.ref fl) = true) (FL : FnOk X.prog X.w X.K X.mg X.base CX0 n fl fdL psL (spLn C f)) (bL : Binds X.K fdL psL [])
    {H0 : Hp} (hq0 : H0 q = none) (I : Inv X pins σ (upd H0 q (.lst [])) s) (ha0 : H0 a = some (.ins C dx (FE f t))) (ht0 : H0 t = some (.tup xs)) (hz : xs.length < 1000000)
    (hdone : ∀ s, Inv X pins σ (upd H0 q (.lst xs)) s → Rs (.ok (.ret .none)) s) :
    wpAny (model X.prog X.w) A1.in1 (Builtin.List.listExtendWith (.ref q) (.ref a) .none)
      (fun fin s' => match fin with | .done f => Rs (.ok f) s' | .again c' => c'.quiet = true ∧ codeAny (model X.prog X.w) A1 c' Rs s') (fun e s' => Rs (.error e) s') s := by
  have naq : a ≠ q := ne_of_none ha0 hq0
  have ntq : t ≠ q := ne_of_none ht0 hq0
  have ha : upd H0 q (.lst []) a = some (.ins C dx (FE f t)) := by rw [upd_ne naq]; exact ha0
  have ht : upd H0 q (.lst []) t = some (.tup xs) := by rw [upd_ne ntq]; exact ht0
  obtain ⟨mA, J, _⟩ := ins_get I.hok ha
  obtain ⟨od, J, _⟩ := J.look
  obtain ⟨m0, hF⟩ := I.fr
  unfold Builtin.List.listExtendWith
  refine wpAny_bind (J.type.here ?_)
  have h1 : Builtin.List.listSameRef (.ref q) (.ref a) = false := by simp [Builtin.List.listSameRef, Ne.symm naq]
  have h2 : (Value.ref C == Value.type "list") = false := rfl
  have h3 : (Value.ref C == Value.type "tuple") = false := rfl
  simp only [h1, h2, h3, Bool.or_false, Bool.false_eq_true, if_false]
  refine wpAny_bind (PySem.W.owit_iter hF I.ok.mod.kin J hi hiF (wpAny_mono (run_sub0 (vs := [.ref a]) (us := [.ref a]) (Q := fun v H' => ∃ it, v = .ref it ∧ upd H0 q (.lst []) it = none ∧ H' = upd (upd H0 q (.lst [])) it (TtO t it 0)) (sb1.mono (Nat.le_succ n)) FI bI I (.cons rfl .nil) ⟨a, dx, t, xs, rfl, ha, ht, fun it nit => ⟨it, rfl, nit, rfl⟩⟩) (fun z s' r => ?_) fun e s' he => he.elim))
  obtain ⟨z', H', I', rz, it, rfl, nit, rfl⟩ := r
  cases rz
  have hit := ttO_get I' upd_same
  unfold PySem.W.OwitIt
  refine wpAny_specialOf (name := Str.ofString "__next__") hit.typeIs F.slot_tuple_iterator_next.lookup ?_
  have nai : a ≠ it := ne_of_none ha nit
  have nti : t ≠ it := ne_of_none ht nit
  have nqi : q ≠ it := fun z => by
    rw [← z, upd_same] at nit
    cases nit
  have hi0 : H0 it = none := by rw [upd_ne (Ne.symm nqi)] at nit; exact nit
  refine wpAny_bind (wpAny_holding (it_hint (f := f) (t := t) (dx := dx) (xs := xs) sb1.in1 hl hlF FL bL I' (by rw [upd_ne nai]; exact ha) (by rw [upd_ne nti]; exact ht) hz fun s2 b I2 => ?_))
  have go : ∀ s3, Inv X pins σ (upd (upd H0 q (.lst [])) it (TtO t it 0)) s3 → codeAny (model X.prog X.w) A1 (.builtin "list.extend.loop" ⟨[.ref q, .ref it, .none], []⟩) Rs s3 := fun s3 I3 =>
    it_loop (xs := xs) (H0 := H0) (t := t) hc nqi ht0 ntq nti hi0 (sz hz) hdone xs.length 0 s3 (by omega) I3
  refine wpAny_ite_split (fun _ => ?_) (fun _ => wpAny_pure ⟨plainId_quiet PySem.F.plain_extend_loop _, go _ I2⟩)
  refine wpAny_bind (wpAny_rule ?_)
  refine wpAny_bind ?_
  show wpAny _ _ (updateSeq q (·.push .none) >>= fun _ => updateSeq q (·.pop)) _ _ _
  have hq2 : upd (upd H0 q (.lst [])) it (TtO t it 0) q = some (.lst []) := by rw [upd_ne nqi, upd_same]
  obtain ⟨z, its, k, r3, hl3, e3⟩ := I2.lstM hq2
  cases r3
  refine wpAny_bind (wpAny_updateSeq e3 rfl ?_)
  have I3 := I2.lset (f := (·.push Value.none)) (its' := [Value.none]) (ys := [.non]) (t' := s2.toks) hq2 e3 (by simp) (.cons rfl .nil) (by rw [List.length_singleton, sizeLine_eq]; decide)
  obtain ⟨z4, its4, k4, r4, hl4, e4⟩ := I3.lstM upd_same
  obtain ⟨u4, rfl, ru4⟩ := r4.one
  refine wpAny_updateSeq e4 rfl ?_ (by show 1 ≤ sizeLine; rw [sizeLine_eq]; decide) (by show 0 ≤ sizeLine + 1; exact Nat.zero_le _)
  refine wpAny_pure ⟨plainId_quiet PySem.F.plain_extend_loop _, go _ ?_⟩
  have I4 := I3.lset (f := (·.pop)) (its := [u4]) (its' := []) (ys := []) (t' := s2.toks) upd_same e4 (by rfl) .nil (Nat.zero_le _)
  rw [upd_upd] at I4
  have hH : upd (upd (upd H0 q (.lst [])) it (TtO t it 0)) q (.lst []) = upd (upd H0 q (.lst [])) it (TtO t it 0) := by
    rw [upd_swap (Ne.symm nqi), upd_upd]
  rw [hH] at I4
  exact I4
/-- list(o) -/
def rListO (C : Addr) (f : Str) : List V → Hp → VK → Prop := fun xs H Q => ∃ a dx t ys, xs = [.ref a] ∧ H a = some (.ins C dx (FE f t)) ∧ H t = some (.tup ys) ∧ ys.length < 1000000 ∧ ∀ q, H q = none → Q (.ref q) (upd H q (.lst ys))
theorem cr_listO (hc : X.calm = true) (hi : PySem.W.findIn X.K (.ref C) "__iter__" = some (some (.ref fi))) (hiF : PySem.W.isFn X.K (.ref fi) = true) (FI : FnOk X.prog X.w X.K X.mg X.base CX0 n fi fdI psI (spIt C f)) (bI : Binds X.K fdI psI [])
    (hl : PySem.W.findIn X.K (.ref C) "__len__" = some (some (.ref fl))) (hlF : PySem.W.isFn X.K (.ref fl) = true) (FL : FnOk X.prog X.w X.K X.mg X.base CX0 n fl fdL psL (spLn C f)) (bL : Binds X.K fdL psL [])
    (room : Room (n + 3) X.A) : CallR X (.type "list") (rListO C f) := by
  intro pins s σ H xs us Q I rv h
  obtain ⟨a, dx, t, ys, rfl, ha, ht, hz, hq⟩ := h
  obtain ⟨u, rfl, ru⟩ := rv.one
  cases ru
  have sb : Sub X (n + 1) X.A.in1.in1 := Sub.in1 (Sub.in1 (⟨room, rfl⟩ : Sub X (n + 3) X.A))
  refine callType_codes (Q₁ := fun obj s₁ => obj = .ref s.heap.objs.size ∧ s₁ = { s with heap := s.heap.push { cls := .type "list", data := .seq #[] } }) PySem.F.called_list (PySem.F.typeCall_list_1 _) PySem.F.entry_list_init
    (code_list_new _ ⟨rfl, rfl⟩) fun obj s₁ h₁ => ?_
  obtain ⟨rfl, rfl⟩ := h₁
  have hS : (s.heap.push { cls := .type "list", data := .seq #[] }).get? s.heap.objs.size = some { cls := .type "list", data := .seq #[] } := Heap.get?_push_size _ rfl
  refine ⟨⟨_, hS, rfl⟩, PySem.F.args_list_init_2 _ _, ?_⟩
  have fr : H s.heap.objs.size = none := I.hok.fresh (Nat.le_refl _)
  have I1 : Inv X pins σ (upd H s.heap.objs.size (.lst [])) { s with heap := s.heap.push { cls := .type "list", data := .seq #[] } } := I.lnew (its := []) (t' := s.toks) .nil (Nat.zero_le _)
  show wpAny _ _ (do let old ← Builtin.List.listItems (.ref s.heap.objs.size); Builtin.List.listUpdate (.ref s.heap.objs.size) (fun _ => #[]); letGo old.toList.reverse; Builtin.List.listExtendWith (.ref s.heap.objs.size) (.ref a) .none) _ _ _
  refine wpAny_bind ?_
  unfold Builtin.List.listItems
  refine wpAny_bind (wpAny_seqItems hS rfl (wpAny_pure ?_))
  show wpAny _ _ (updateSeq s.heap.objs.size (fun _ => #[]) >>= fun _ => letGo (#[] : Array Value).toList.reverse >>= fun _ => Builtin.List.listExtendWith (.ref s.heap.objs.size) (.ref a) .none) _ _ _
  refine wpAny_bind (wpAny_updateSeq hS rfl ?_)
  have I2 := I1.lset (f := fun _ => #[]) (its := []) (its' := []) (ys := []) (t' := s.toks) upd_same hS rfl .nil (Nat.zero_le _)
  rw [upd_upd] at I2
  refine wpAny_bind (wpAny_letGo ?_)
  exact it_extend (A1 := X.A.in1) (Rs := wants (fun r s₂ => r = .none ∧ EP X pins σ Q (.ref s.heap.objs.size) s₂) X.xe) sb (I.ok.hd hc) hi hiF FI bI hl hlF FL bL fr I2 ha ht hz
    (fun s' I' => ⟨rfl, .ref s.heap.objs.size, _, I', rfl, hq _ fr⟩)
end
section
variable {X : Cx}
/-- xs + ys, two lists -/
def rCatL : R2 := fun x y H Q => ∃ p q, x = .ref p ∧ y = .ref q ∧ ∃ xs, H p = some (.lst xs) ∧ ∃ ys, H q = some (.lst ys) ∧ xs.length + ys.length < 1000000 ∧ ∀ l, H l = none → Q (.ref l) (upd H l (.lst (xs ++ ys)))
theorem op_catL : OpR X (binaryOp .Add) rCatL := opImp op_cat fun x y H Q ⟨p, q, ex, ey, xs, hp, ys, hq, hz, k⟩ =>
  ⟨p, q, xs, ys, ex, ey, hp, hq, Nat.le_of_lt (sz hz), k⟩
/-- (n,) * k -/
def rRepTI : R2 := fun x y H Q => ∃ l k, x = .ref l ∧ y = .int k ∧ ∃ n, H l = some (TI [n]) ∧ 2 ≤ k ∧ k ≤ 1000 ∧ ∀ p, H p = none → Q (.ref p) (upd H p (TI (List.replicate k.toNat n)))
theorem op_repTI : OpR X (binaryOp .Mult) rRepTI := opImp op_repT fun x y H Q ⟨l, k, ex, ey, n, hl, h0, h1, q⟩ =>
  ⟨l, k, [V.int n], ex, ey, .inl (.inl hl), by simp, h0, h1, by simp, fun p hp => by
    rw [flat_rep]
    exact q p hp⟩
end
section
variable {σ : L2.St} {H : Hp} {Q : VK} {C : Addr} {f : Str} {sp : Sp} {E : XK} {vs : List V}
theorem ap_repTI {x y : V} : rRepTI x y H Q = ∃ l k, x = .ref l ∧ y = .int k ∧ ∃ n, H l = some (TI [n]) ∧ 2 ≤ k ∧ k ≤ 1000 ∧ ∀ p, H p = none → Q (.ref p) (upd H p (TI (List.replicate k.toNat n))) := rfl
theorem ap_lenO : rLenO C sp E vs H Q = ∃ a dx fs, vs = [.ref a] ∧ H a = some (.ins C dx fs) ∧ sp [.ref a] H (fun v H' => ∃ n : Nat, v = .int n ∧ n < 1000000 ∧ Q (.int n) H') E := rfl
theorem ap_strO : rStrO C sp E vs H Q = ∃ a dx fs, vs = [.ref a] ∧ H a = some (.ins C dx fs) ∧ sp [.ref a] H (fun v H' => ∃ z, v = .str z ∧ Q (.str z) H') E := rfl
theorem ap_listO : rListO C f vs H Q = ∃ a dx t ys, vs = [.ref a] ∧ H a = some (.ins C dx (FE f t)) ∧ H t = some (.tup ys) ∧ ys.length < 1000000 ∧ ∀ q, H q = none → Q (.ref q) (upd H q (.lst ys)) := rfl
theorem ap_reprB : rReprB vs H Q = ∃ b, vs = [.bl b] ∧ Q (.str (if b then "True" else "False")) H := rfl
theorem ap_iterT : rIterT vs H Q = ∃ l, vs = [.ref l] ∧ ∃ zs, H l = some (.tup zs) ∧ ∀ it, H it = none → Q (.ref it) (upd H it (TtO l it 0)) := rfl
theorem ap_neT {x y : V} : rNeT C sp E x y H Q = ∃ a dx fs b xs, x = .ref a ∧ y = .ref b ∧ H a = some (.ins C dx fs) ∧ H b = some (.tup xs) ∧ sp [x, y] H (fun v H' => ∃ r, v = .bl r ∧ Q (.bl (!r)) H') E := rfl
theorem ap_negO {x : V} : rNeg C sp E x H Q = ∃ a dx fs, x = .ref a ∧ H a = some (.ins C dx fs) ∧ sp [x] H Q E := rfl
theorem ap_binI {x y : V} : rBinI C sp E x y H Q = ∃ a dx fs n, x = .ref a ∧ y = .int n ∧ H a = some (.ins C dx fs) ∧ sp [x, y] H Q E := rfl
theorem ap_catL {x y : V} : rCatL x y H Q = ∃ p q, x = .ref p ∧ y = .ref q ∧ ∃ xs, H p = some (.lst xs) ∧ ∃ ys, H q = some (.lst ys) ∧ xs.length + ys.length < 1000000 ∧ ∀ l, H l = none → Q (.ref l) (upd H l (.lst (xs ++ ys))) := rfl
theorem ap_tM1 {r : V → List V → Hp → VK → Prop} {to te : TE} : tM1 r to te σ H Q = to σ H fun x H1 => (∃ a, x = .str a) ∧ te σ H1 fun y H2 => r x [y] H2 Q := rfl
end
end Pr

/-! list.count of a tuple of ints in a list of such; `in`, set and sorted of tuples of ints -/
namespace Pr
open PySem PySem.Spec PyProof.Rows L2
theorem _root_.L2.Room.units65 {k : Nat} {A : Around} (r : Room k A) : A.units + 65 < cLine := by have := r.un; omega
/-- the tuples of ints at these places -/
def RowsAt (H : Hp) (rs : List Addr) (nss : List (List Int)) : Prop := rs.length = nss.length ∧ ∀ (i : Nat) (r : Addr) (ns : List Int), rs[i]? = some r → nss[i]? = some ns → H r = some (TI ns)
theorem RowsAt.same {H H' : Hp} {rs : List Addr} {nss : List (List Int)} (h : RowsAt H rs nss) (s : Same H H') : RowsAt H' rs nss := ⟨h.1, fun i r ns e1 e2 => s _ _ (h.2 i r ns e1 e2)⟩
theorem RowsAt.nil {H : Hp} : RowsAt H [] [] := ⟨rfl, fun i r ns e => by simp at e⟩
theorem RowsAt.tail {H : Hp} {r : Addr} {rs : List Addr} {n : List Int} {nss : List (List Int)} (h : RowsAt H (r :: rs) (n :: nss)) : RowsAt H rs nss := ⟨by have := h.1; simp at this; exact this, fun i r ns e1 e2 => h.2 (i + 1) r ns (by simpa using e1) (by simpa using e2)⟩
theorem RowsAt.head {H : Hp} {r : Addr} {rs : List Addr} {n : List Int} {nss : List (List Int)} (h : RowsAt H (r :: rs) (n :: nss)) : H r = some (TI n) := h.2 0 r n rfl rfl
theorem RowsAt.cons {H : Hp} {r : Addr} {rs : List Addr} {n : List Int} {nss : List (List Int)} (h0 : H r = some (TI n)) (h : RowsAt H rs nss) : RowsAt H (r :: rs) (n :: nss) := by
  refine ⟨by simp [h.1], fun i => ?_⟩
  match i with
  | 0 => intro r' ns e1 e2; simp at e1 e2; subst e1 e2; exact h0
  | i + 1 => intro r' ns e1 e2; exact h.2 i r' ns (by simpa using e1) (by simpa using e2)
theorem RowsAt.append {H : Hp} : ∀ {rs rs' : List Addr} {nss nss' : List (List Int)}, RowsAt H rs nss → RowsAt H rs' nss' → RowsAt H (rs ++ rs') (nss ++ nss')
  | [], _, [], _, _, h' => h'
  | [], _, _ :: _, _, h, _ => by have := h.1; simp at this
  | _ :: _, _, [], _, h, _ => by have := h.1; simp at this
  | r :: rs, rs', n :: nss, nss', h, h' => .cons h.head (RowsAt.append h.tail h')
theorem RowsAt.mem {H : Hp} {rs : List Addr} {nss : List (List Int)} (h : RowsAt H rs nss) {i : Nat} (hi : i < rs.length) : ∃ ns, nss[i]? = some ns ∧ H rs[i] = some (TI ns) := by
  have hi' : i < nss.length := by rw [← h.1]; exact hi
  exact ⟨nss[i], List.getElem?_eq_getElem hi', h.2 i _ _ (List.getElem?_eq_getElem hi) (List.getElem?_eq_getElem hi')⟩
theorem dpAll_rows {K : PySem.W.Frag} {H : Hp} : ∀ {rs : List Addr} {nss : List (List Int)}, RowsAt H rs nss → DpAll K H (rs.map V.ref) (nss.map fun ns => PyData.tuple (ns.map .int))
  | [], [], _ => .nil
  | [], _ :: _, h => by have := h.1; simp at this
  | _ :: _, [], h => by have := h.1; simp at this
  | r :: rs, n :: nss, h => .cons (.tup (sqT_of h.head) (dpAll_ints _ _ n)) (dpAll_rows h.tail)
theorem lay_rows : ∀ nss : List (List Int), PyData.canLayAll0 (nss.map fun ns => PyData.tuple (ns.map .int)) = true
  | [] => rfl
  | n :: nss => by
    show (PyData.canLayAll0 (n.map .int) && PyData.canLayAll0 (nss.map fun ns => PyData.tuple (ns.map .int))) = true
    rw [lay_rows nss, lay_ints n]
    rfl
theorem depth_rows : ∀ nss : List (List Int), PyData.depthAll (nss.map fun ns => PyData.tuple (ns.map .int)) ≤ 1
  | [] => Nat.zero_le _
  | n :: nss => by
    show max (PyData.depth (.tuple (n.map .int))) (PyData.depthAll (nss.map fun ns => PyData.tuple (ns.map .int))) ≤ 1
    have h1 := depth_rows nss
    have h2 : PyData.depth (.tuple (n.map .int)) ≤ 1 := by
      have := depth_ints n
      simp [PyData.depth, this]
    omega
theorem shaped_rows (nss : List (List Int)) : SeqAt.shaped (.list (nss.map fun ns => PyData.tuple (ns.map .int))) = true := by
  have h1 := lay_rows nss
  have h2 := depth_rows nss
  unfold SeqAt.shaped
  simp [PyData.canLay0, PyData.depth, h1]
  omega
theorem eqv_tup (n m : List Int) : PyData.eqv (.tuple (n.map .int)) (.tuple (m.map .int)) = decide (n = m) := eqvAll_ints n m
section
variable {X : Cx}
def rCountD (K : PySem.W.Frag) : V → List V → Hp → VK → Prop := fun x xs H Q => ∃ (a : Addr) (y : V) (d : PyData) (ds : List PyData), x = V.ref a ∧ xs = [y] ∧ Dp K H (V.ref a) (.list ds) ∧ Dp K H y d ∧
  SeqAt.shaped (.list ds) = true ∧ SeqAt.shaped d = true ∧ Q (.int ((ds.countP fun z => PyData.eqv z d) : Nat)) H
theorem mt_countD (hu : X.A.units + 65 < cLine) : MtR X "list.count" (rCountD X.K) := by
  intro pins s σ H x xs v us Q I rx rxs h
  obtain ⟨a, y, d, ds, rfl, rfl, hl, hy, sl, sd, q⟩ := h
  cases rx
  obtain ⟨uy, rfl, ry⟩ := rxs.one
  obtain ⟨bs, r1⟩ := Dp.reads I d y uy hy ry
  have lays : PyData.canLayAll0 ds = true := SeqAt.canLay_of_shaped sl
  have room : X.A.units + 1 + min (PyData.depthAll ds) d.depth < cLine := room_in_shaped sd hu
  cases hl with
  | lst hs ha =>
    obtain ⟨its, rv, ⟨⟨cls, dd, data, sls⟩, n, ho, hc, hdn, hdt⟩, hlen⟩ := I.list hs
    simp only at hc hdt
    subst hc hdt
    obtain ⟨as, h4⟩ := Dp.readsAll I ds _ its ha rv
    have hmap : its.map (SeqAt.readOf s.heap) = ds := SeqAt.readsAll_map ds its as lays h4
    refine call_meets PySem.F.slot_list_count ⟨_, ho, rfl⟩ PySem.F.entry_list_count (PySem.F.args_list_count_2 _ _)
      (SeqAt.list_countAt a its.toArray n dd sls uy (fun u => PyData.eqv (SeqAt.readOf s.heap u) d)) ⟨ho, SeqAt.items_eqAt (vs := its.toArray) (show ReadsAll s.heap its.toArray.toList ds as from h4) r1 lays (SeqAt.canLay_of_shaped sd) room, ?_⟩
    have ec : its.toArray.toList.countP (fun u => PyData.eqv (SeqAt.readOf s.heap u) d) = ds.countP fun z => PyData.eqv z d := by
      rw [← hmap, List.countP_map]
      rfl
    refine ⟨.int ((ds.countP fun z => PyData.eqv z d) : Nat), H, I.tok _, ⟨s.toks, ?_⟩, q⟩
    rw [ec]
/-- xs.count(t), tuples of ints -/
def rCountT : V → List V → Hp → VK → Prop := fun x xs H Q => ∃ (a : Addr) (y : Addr), x = V.ref a ∧ xs = [.ref y] ∧ ∃ rs nss ns, H a = some (.lst (rs.map V.ref)) ∧ RowsAt H rs nss ∧ H y = some (TI ns) ∧ Q (.int ((nss.count ns : Nat))) H
theorem mt_countT (hu : X.A.units + 65 < cLine) : MtR X "list.count" rCountT := fun pins s σ H x xs v us Q I rx rxs h => by
  obtain ⟨a, y, ex, exs, rs, nss, ns, ha, hr, hy, q⟩ := h
  refine mt_countD hu pins s σ H x xs v us Q I rx rxs ⟨a, .ref y, .tuple (ns.map .int), _, ex, exs, .lst (sqL_of ha) (dpAll_rows hr), .tup (sqT_of hy) (dpAll_ints _ _ ns), shaped_rows nss, shaped_TI ns, ?_⟩
  have e : ((nss.map fun ns => PyData.tuple (ns.map .int)).countP fun z => PyData.eqv z (.tuple (ns.map .int))) = nss.count ns := by
    rw [List.countP_map, List.count_eq_countP]
    congr 1
    funext m
    show PyData.eqv (.tuple (m.map .int)) (.tuple (ns.map .int)) = (m == ns)
    rw [eqv_tup, Bool.eq_iff_iff, decide_eq_true_iff, beq_iff_eq]
  rw [e]
  exact q
/-- t not in xs -/
def rNotInT : R2 := fun x y H Q => ∃ (t a : Addr), x = .ref t ∧ y = .ref a ∧ ∃ rs nss ns, H a = some (.lst (rs.map V.ref)) ∧ RowsAt H rs nss ∧ H t = some (TI ns) ∧ Q (.bl (!decide (ns ∈ nss))) H
theorem op_notInT (hu : X.A.units + 65 < cLine) : OpR X (compareOp .NotIn) rNotInT := opImp (op_notInD hu) fun x y H Q ⟨t, a, ex, ey, rs, nss, ns, ha, hr, ht, q⟩ => by
  subst ex ey
  refine ⟨.tuple (ns.map .int), _, .tup (sqT_of ht) (dpAll_ints _ _ ns), .lst (sqL_of ha) (dpAll_rows hr), shaped_TI ns, shaped_rows nss, ?_⟩
  have e : ((nss.map fun ns => PyData.tuple (ns.map .int)).any fun z => PyData.eqv z (.tuple (ns.map .int))) = decide (ns ∈ nss) := by
    rw [List.any_map, Bool.eq_iff_iff, List.any_eq_true, decide_eq_true_iff]
    constructor
    · rintro ⟨m, hm, h⟩
      have h2 : PyData.eqv (.tuple (m.map .int)) (.tuple (ns.map .int)) = true := h
      rw [eqv_tup] at h2
      rw [← of_decide_eq_true h2]
      exact hm
    · intro h
      refine ⟨ns, h, ?_⟩
      show PyData.eqv (.tuple (ns.map .int)) (.tuple (ns.map .int)) = true
      rw [eqv_tup]
      exact decide_eq_true rfl
  rw [e]
  exact q
/-- [v] * k -/
def rRepL1 : R2 := fun x y H Q => ∃ l k, x = .ref l ∧ y = .int k ∧ ∃ v, H l = some (.lst [v]) ∧ k < 1000000 ∧ -1000000 < k ∧ ∀ p, H p = none → Q (.ref p) (upd H p (.lst (List.replicate k.toNat v)))
theorem flat_rep1 (k : Nat) (v : V) : (List.replicate k [v]).flatten = List.replicate k v := by
  induction k with
  | zero => rfl
  | succ k ih =>
    rw [List.replicate_succ, List.flatten_cons, ih, List.replicate_succ]
    rfl
theorem op_repL1 : OpR X (binaryOp .Mult) rRepL1 := opImp op_rep fun x y H Q ⟨l, k, ex, ey, n, hl, h0, h1, q⟩ => by
  refine ⟨l, k, [n], ex, ey, hl, by omega, by omega, ?_, fun p hp => ?_⟩
  · show 1 * k.toNat ≤ sizeLine
    rw [Nat.one_mul]
    exact Nat.le_of_lt (sz (by omega))
  · rw [flat_rep1]
    exact q p hp
end
section
variable {σ : L2.St} {H : Hp} {Q : VK} {K : PySem.W.Frag} {P : Program} {w : World}
theorem ap_countT {x : V} {xs : List V} : rCountT x xs H Q = ∃ (a : Addr) (y : Addr), x = V.ref a ∧ xs = [.ref y] ∧ ∃ rs nss ns, H a = some (.lst (rs.map V.ref)) ∧ RowsAt H rs nss ∧ H y = some (TI ns) ∧ Q (.int ((nss.count ns : Nat))) H := rfl
theorem ap_notInT {x y : V} : rNotInT x y H Q = ∃ (t a : Addr), x = .ref t ∧ y = .ref a ∧ ∃ rs nss ns, H a = some (.lst (rs.map V.ref)) ∧ RowsAt H rs nss ∧ H t = some (TI ns) ∧ Q (.bl (!decide (ns ∈ nss))) H := rfl
theorem ap_repL1 {x y : V} : rRepL1 x y H Q = ∃ l k, x = .ref l ∧ y = .int k ∧ ∃ v, H l = some (.lst [v]) ∧ k < 1000000 ∧ -1000000 < k ∧ ∀ p, H p = none → Q (.ref p) (upd H p (.lst (List.replicate k.toNat v))) := rfl
end
end Pr

/-! sorted(s), s a set of pairs of ints of any sign -/
namespace Pr
open PySem PySem.Spec PyProof.Rows L2
theorem perm_back {α β} {f : α → β} {xs ys : List β} (p : xs.Perm ys) : ∀ L : List α, ys = L.map f → ∃ L' : List α, L'.Perm L ∧ xs = L'.map f := by
  induction p with
  | nil => exact fun L e => ⟨L, .refl _, e⟩
  | cons x _ ih =>
    intro L e
    match L, e with
    | a :: L, e =>
      rw [List.map_cons] at e
      obtain ⟨e1, e2⟩ := List.cons.inj e
      obtain ⟨L', q, e3⟩ := ih L e2
      exact ⟨a :: L', q.cons a, by rw [List.map_cons, e1, e3]⟩
  | swap x y l =>
    intro L e
    match L, e with
    | a :: b :: L, e =>
      rw [List.map_cons, List.map_cons] at e
      obtain ⟨e1, e2⟩ := List.cons.inj e
      obtain ⟨e3, e4⟩ := List.cons.inj e2
      exact ⟨b :: a :: L, .swap a b L, by rw [List.map_cons, List.map_cons, e1, e3, e4]⟩
  | trans _ _ ih1 ih2 =>
    intro L e
    obtain ⟨L1, q1, e1⟩ := ih2 L e
    obtain ⟨L2, q2, e2⟩ := ih1 L1 e1
    exact ⟨L2, q2.trans q1, e2⟩
section
variable {P : Program} {w : World} {A : Around} {E : Value → Shared → Prop} {s : Shared}
theorem sorted_setP {a : Addr} {L : List (Addr × List Int)} {es : Array (Int × Value)} {ep : Nat} {t : SetTable} {Q : Value → Shared → Prop} (R : SetTR P w s.heap a L es ep t) (hh : A.handled = none) (hB : ∀ p ∈ L, p.2.length = 2)
    (hQ : ∀ s' p (out : List Value) (c : Nat) (L' : List (Addr × List Int)), (∀ b o, s.heap.get? b = some o → s'.heap.get? b = some o) → s'.gens = s.gens → s'.os = s.os → s.heap.objs.size ≤ p →
      s'.heap.get? p = some (seqObj "list" out.toArray c) → out = L'.map (fun q => Value.ref q.1) → L'.Perm L → Q (.ref p) s') :
    wpAny (model P w) A (call (.builtin "sorted") [.ref a]) Q E s := by
  obtain ⟨o, ho, hex, hd⟩ := R.ob
  have few := R.few
  have size := R.size
  refine Calls.call_function_entry kind_sorted plain_sorted entry_sorted (args_sorted1 _) ?_
  unfold Builtin.«sorted»
  refine wpAny_bind (m := checkCount "sorted" 1 1 _) (wpAny_pure ?_)
  refine wpAny_bind (collect_set (A := A.in1) hh ⟨o, ho, hex.1, hd⟩ R.fits (by unfold scanBound; omega) R.tab.ris R.led fun s1 vs k1 hz g1 o1 pm => ?_)
  have hes : es.toList.map (·.2) = L.map fun q => Value.ref q.1 := by
    rw [R.rows]
    unfold rowsOf
    rw [List.map_map] <;> rfl
  rw [hes] at pm
  have lv : vs.length < 64 := by rw [pm.length_eq, List.length_map]; exact few
  have fits : vs.length ≤ sizeLine := by rw [sizeLine_eq]; omega
  refine wpAny_bind (wpAny_newList ?_ fits)
  have at1 : (s1.heap.push (seqObj "list" vs.toArray 0)).get? s1.heap.objs.size = some (seqObj "list" vs.toArray 0) := Heap.get?_push_size _ rfl
  have pairs : ∀ v ∈ vs, ∃ x y, Srt.IsPair (s1.heap.push (seqObj "list" vs.toArray 0)) v x y := fun v hv => by
    obtain ⟨q, hq, e⟩ := List.mem_map.mp (pm.mem_iff.mp hv)
    obtain ⟨b, items, eb, ⟨ob, hob, hcb, n, hdb⟩, hin⟩ := tupInts_of (P := P) (w := w) (isT_keep (R.tup q hq) fun b u e => Heap.get?_push_of_some (seqObj "list" vs.toArray 0) (k1 b u e))
    have l2 := hB q hq
    match hk : q.2, l2 with
    | [x, y], _ =>
      rw [hk] at hin
      obtain ⟨il⟩ := items
      cases hin with
      | cons _ t1 r =>
        cases r with
        | cons _ t2 r2 =>
          cases r2
          rw [← e]
          exact ⟨x, y, b, ob, t1, t2, n, eb, hob, hcb, hdb⟩
  refine wpAny_bind (wpAny_holding (wpAny_call_entry slot_list_sort ⟨_, at1, rfl⟩ entry_list_sort (Srt.list_sort_any (s := { s1 with heap := s1.heap.push (seqObj "list" vs.toArray 0) }) at1 fits
    (fun h2 => Srt.pairs_sortable (by omega) pairs fun u e => ?_) fun out a1 => ⟨_, rfl, ?_⟩) (args_list_sort _)))
  · have e' : some u = some (seqObj "list" vs.toArray 0) := e.symm.trans at1
    cases e'
    intro c
    exact absurd (Value.type.inj c) (by decide)
  · obtain ⟨c, hc⟩ := sortedHeap_at (vs := vs) (out := out.toArray) at1
    obtain ⟨L', pL, eL⟩ := perm_back (a1.trans pm) L rfl
    refine wpAny_pure ⟨_, rfl, hQ _ s1.heap.objs.size out c L' (fun b u e => ?_) g1 o1 hz hc eL pL⟩
    have q := k1 b u e
    have hlt := Heap.lt_size q
    show (sortedHeap (s1.heap.push (seqObj "list" vs.toArray 0)) s1.heap.objs.size vs out.toArray).get? b = some u
    rw [sortedHeap_old (Nat.ne_of_lt hlt) (by rw [size_push']; exact Nat.lt_succ_of_lt hlt)]
    exact Heap.get?_push_of_some _ q
end
section
variable {X : Cx}
def rSortedS2 (K : PySem.W.Frag) (P : Program) (w : World) : List V → Hp → VK → Prop := fun vs H Q => ∃ (a : Addr) (L : List (Addr × List Int)), vs = [V.ref a] ∧ H a = some (SetTO P w a L) ∧ (∀ p ∈ L, SqT K H p.1 (p.2.map V.int)) ∧ (∀ p ∈ L, p.2.length = 2) ∧
  ∀ (L' : List (Addr × List Int)) (p : Addr), L'.Perm L → (L'.map (·.2)).Nodup → L'.length < 64 → H p = none → Q (.ref p) (upd H p (.lst (L'.map fun q => V.ref q.1)))
theorem cr_sortedS2 (hc : X.calm = true) : CallR X (.builtin "sorted") (rSortedS2 X.K X.prog X.w) := by
  intro pins s σ H vs us Q I r h
  obtain ⟨a, L, rfl, ha, hk, hB, q⟩ := h
  have R0 : SetT0 X.prog X.w s.heap a L := (I.hok a _ ha).1
  obtain ⟨es, ep, t, R⟩ := R0.full fun p hp => I.isT (hk p hp)
  obtain ⟨u, rfl, ru⟩ := r.one
  cases ru
  refine sorted_setP R (I.ok.hd hc) hB fun s2 p out c L' k g o hp hg hout pm => ?_
  have few : L'.length < 64 := by rw [pm.length_eq]; exact R.few
  have lz : (L'.map fun q => V.ref q.1).length ≤ sizeLine := by rw [List.length_map, sizeLine_eq]; omega
  have fr : H p = none := I.hok.fresh hp
  have hv : Vals (L'.map fun q => V.ref q.1) out := by rw [hout]; exact vals_of_refs L'
  obtain ⟨h2, g2, d2, t2, os2⟩ := s2
  have eo : os2 = s.os := o
  subst eo
  have J : Inv X pins σ (upd H p (.lst (L'.map fun q => V.ref q.1))) { s with heap := h2, gens := g2, drawn := d2, toks := t2 } :=
    I.call (ch := []) (Un.laid k hp fr) (I.hok.laid k hp ⟨lz, out, c, hv, hg⟩) (by rw [show g2 = s.gens from g]; exact I.bare) (fun _ z => nomatch z)
  exact ⟨.ref p, _, J, rfl, q L' p pm ((pm.map (·.2)).nodup_iff.mpr R.nd) few fr⟩
end
end Pr

namespace Pr
open PySem PySem.Spec PyProof.Rows L2
/-- the number that a value is -/
def intOf : Value → Option Int
  | .int i _ => some i
  | _ => none
theorem vals_ints : ∀ {us : List Value} {ns : List Int}, us.map intOf = ns.map some → Vals (ns.map V.int) us
  | [], [], _ => .nil
  | u :: us, n :: ns, h => by
    rw [List.map_cons, List.map_cons, List.cons.injEq] at h
    refine .cons ?_ (vals_ints h.2)
    match u, h.1 with
    | .int i t, e =>
      have e : some i = some n := e
      cases e
      exact ⟨_, rfl⟩
theorem sqT_const {K : PySem.W.Frag} {H : Hp} {a : Addr} {d : Option Addr} {its : Array Value} {n : Nat} {sl : Array (Option Value)} {ns : List Int} (l : K.lookup a = some ⟨.type "tuple", d, .seq its n, sl⟩) (e : its.toList.map intOf = ns.map some) (hs : ns.length ≤ sizeLine) : SqT K H a (ns.map V.int) := by
  refine .inr ⟨_, its, n, l, rfl, rfl, ?_, vals_ints e⟩
  have := congrArg List.length e
  rw [List.length_map, List.length_map, Array.length_toList] at this
  omega
section
variable {X : Cx}
/-- t + u, two tuples of anything that are not empty -/
def rCatTT : R2 := fun x y H Q => ∃ a b, x = .ref a ∧ y = .ref b ∧ ∃ xs, H a = some (.tup xs) ∧ ∃ ys, H b = some (.tup ys) ∧ xs ≠ [] ∧ ys ≠ [] ∧ xs.length + ys.length < 1000000 ∧ ∀ p, H p = none → Q (.ref p) (upd H p (.tup (xs ++ ys)))
theorem op_catTT : OpR X (binaryOp .Add) rCatTT := opImp op_catT fun x y H Q ⟨a, b, ex, ey, xs, hx, ys, hy, nx, ny, hl, k⟩ =>
  ⟨a, b, xs, ys, ex, ey, sqT_of hx, sqT_of hy, nx, Nat.le_of_lt (sz hl), fun e => absurd e ny, fun _ => k⟩
/-- xs.pop(i) for a place within the list -/
def rPopN : V → List V → Hp → VK → Prop := fun x vs H Q => ∃ l xs, ∃ i : Int, x = .ref l ∧ vs = [.int i] ∧ 0 ≤ i ∧ H l = some (.lst xs) ∧ xs.length < 1000000 ∧ ∃ y, xs[i.toNat]? = some y ∧ Q y (upd H l (.lst (xs.eraseIdx i.toNat)))
theorem mt_popN : MtM X "list.pop" rPopN := fun pins s σ H x vs v us Q I rx rv h => by
  obtain ⟨l, xs, i, ex, evs, h0, hl, hn, y, hy, q⟩ := h
  obtain ⟨hi, _⟩ := List.getElem?_eq_some_iff.mp hy
  refine mt_popAt pins s σ H x vs v us Q I rx rv ⟨l, xs, i, i.toNat, y, ex, evs, hl, by omega, by omega, ?_, hy, q⟩
  have e1 : (if i < 0 then i + (xs.length : Int) else i) = i := if_neg (by omega)
  have e2 : (decide (0 ≤ i) && decide (i < (xs.length : Int))) = true := by
    rw [decide_eq_true h0, decide_eq_true (by omega)]
    rfl
  simp only [seqIndex?, e1, e2, if_true]
end
section
variable {σ : L2.St} {H : Hp} {Q : VK} {K : PySem.W.Frag} {P : Program} {w : World}
theorem ap_par3 {i j l : Nat} {ta : TA} {D : Ends} : tPar3 i j l ta D σ H = ta σ H (fun vs H1 => ∃ u v w, vs = [u, v, w] ∧ D.nx (((σ.set i (some u)).set j (some v)).set l (some w)) H1) := rfl
theorem ap_catTT {x y : V} : rCatTT x y H Q = ∃ a b, x = V.ref a ∧ y = V.ref b ∧ ∃ xs, H a = some (.tup xs) ∧ ∃ ys, H b = some (.tup ys) ∧ xs ≠ [] ∧ ys ≠ [] ∧ xs.length + ys.length < 1000000 ∧ ∀ p, H p = none → Q (.ref p) (upd H p (.tup (xs ++ ys))) := rfl
theorem ap_popN {x : V} {vs : List V} : rPopN x vs H Q = ∃ l xs, ∃ i : Int, x = V.ref l ∧ vs = [V.int i] ∧ 0 ≤ i ∧ H l = some (.lst xs) ∧ xs.length < 1000000 ∧ ∃ y, xs[i.toNat]? = some y ∧ Q y (upd H l (.lst (xs.eraseIdx i.toNat))) := rfl
end
end Pr

/-! (n,) * k for k from 1 on: once is the tuple itself -/
namespace Pr
open PySem PySem.Spec PyProof.Rows L2
theorem tuple_mul1 (l : Addr) (items : Array Value) (n : Nat) (dd : Option Addr) (sl : Array (Option Value)) (u : Tok) :
    Meets (Builtin.«tuple.__mul__» ⟨[.ref l, .int 1 u], []⟩) (fun _ R s => s.heap.get? l = some { cls := .type "tuple", dict := dd, data := .seq items n, slots := sl } ∧
      R (.ok (.ret (Value.ref l))) s) :=
  .of_wp fun prog w A R s h => by
    obtain ⟨hp, g, d, tk, os⟩ := s
    obtain ⟨hl, h⟩ := h
    have f1 := AutoSeq1.idx_int
    wp_walk using wpAny_loadPart' hl
    exact ⟨_, rfl, h⟩
section
variable {X : Cx}
/-- t * k of a tuple of one int -/
def rRepTA : R2 := fun x y H Q => ∃ l k, x = .ref l ∧ y = .int k ∧ ∃ n, H l = some (TI [n]) ∧ 1 ≤ k ∧ k ≤ 1000 ∧ ∀ p H', Same H H' → H' p = some (TI (List.replicate k.toNat n)) → Q (.ref p) H'
theorem op_repTA : OpR X (binaryOp .Mult) rRepTA := by
  intro pins s σ H x y v u Q I rx ry h
  obtain ⟨l, k, rfl, rfl, n, hl, h1, h2, q⟩ := h
  by_cases hk : k = 1
  · subst hk
    cases rx
    obtain ⟨t, rfl⟩ := ry
    obtain ⟨its, r, ⟨⟨cls, dd, data, sl⟩, ho, hc, m, hd⟩, hs⟩ := I.tuple (.inl (.inl hl))
    simp only at hc hd
    subst hc hd
    refine wpAny_binaryOp_repeat_ref (T := "tuple") (U := "int") (by decide) ⟨_, ho, rfl⟩ (fun s' => typeIs_int s' 1 t) noFill_tuple_mul F.fills_int_mul F.slot_int_rmul repeat_tuple F.slot_int_index.lookup
      (call_meets F.slot_int_rmul (typeIs_int s 1 t) F.entry_int_rmul (F.args_int_rmul_2 _ _) (int_rmul_tuple 1 t l its.toArray m dd sl)
        ⟨ho, rfl, ⟨_, ho, rfl⟩, call_meets F.slot_tuple_mul ⟨_, ho, rfl⟩ F.entry_tuple_mul (F.args_tuple_mul_2 _ _) (tuple_mul1 l its.toArray m dd sl t) ⟨ho, ?_⟩⟩)
    exact ⟨.ref l, H, I, rfl, q l H (Same.refl H) hl⟩
  · refine op_repTI pins s σ H (.ref l) (.int k) v u Q I rx ry ⟨l, k, rfl, rfl, n, hl, by omega, h2, fun p hp => q p _ (same_upd hp) upd_same⟩
end
theorem ap_repTA {x y : V} {H : Hp} {Q : VK} : rRepTA x y H Q = ∃ l k, x = .ref l ∧ y = .int k ∧ ∃ n, H l = some (TI [n]) ∧ 1 ≤ k ∧ k ≤ 1000 ∧ ∀ p H', Same H H' → H' p = some (TI (List.replicate k.toNat n)) → Q (.ref p) H' := rfl
end Pr

/-! instances with several attributes; a class that a local name holds, called -/
namespace Pr
open PySem PySem.Spec PyProof.Rows L2
/-- o.f, one of several attributes -/
def tAttF (C : Addr) (f : Str) (ta : TE) : TE := fun σ H Q => ta σ H fun x H1 => ∃ p dx fs, x = .ref p ∧ H1 p = some (.ins C dx fs) ∧ ∃ v, fs.lookup f = some v ∧ Q v H1
theorem pe_attF {X : Cx} {C : Addr} {e : Expr} {f : Str} {pos : Pos} {ta : TE} (h : PE X (.Attribute e f pos) (tFld X.K ta f)) (mono : ∀ σ H (Q Q' : VK), (∀ x H1, Q x H1 → Q' x H1) → ta σ H Q → ta σ H Q') (cl : Cls X.K C) (no : NoAttr X.K C f) : PE X (.Attribute e f pos) (tAttF C f ta) :=
  pe_imp h fun σ H Q q => mono σ H _ _ (fun x H1 ⟨p, dx, fs, ex, hp, v, hv, q1⟩ => ⟨p, C, dx, fs, v, ex, hp, cl, no, hv, q1⟩) q
theorem ap_attF {C : Addr} {f : Str} {ta : TE} {σ : L2.St} {H : Hp} {Q : VK} : tAttF C f ta σ H Q = ta σ H fun x H1 => ∃ p dx fs, x = .ref p ∧ H1 p = some (.ins C dx fs) ∧ ∃ v, fs.lookup f = some v ∧ Q v H1 := rfl
/-- the i-th slot holds the class at C, which is called -/
def tMakeL (i : Nat) (C : Addr) (sp : Sp) (dvs : List V) (E : XK) (t : TA) : TE := fun σ H Q => σ[i]? = some (some (.ref C)) ∧ tMake C sp dvs E t σ H Q
section
variable {X : Cx} {CX : CXT} {k i : Nat} {f C : Addr} {fd : FuncData} {ps : List Str} {sp : Sp} {dvs : List V} {ds : List Value} {E : XK} {x : Str} {p pos : Pos} {e : Expr} {es : List Expr} {t : TA}
theorem pe_makeL (M : Mk X.K C f) (F : FnOk X.prog X.w X.K X.mg X.base CX k f fd ps sp) (room : Room (k + 1) X.A) (nm : X.N[i]? = some x) (vis : Vis X.env.scope x) (bind : Binds X.K fd ps ds) (dflt : Vals dvs ds) (pass : Passes CX X E) (ha : PA X (e :: es) t)
    (hdb : (x == ("__debug__" : Str)) = false := by decide) (hcd : (x == ("__classdict__" : Str)) = false := by decide)
    (he : starEach (e :: es) X.env = (false, eval e X.env) :: starEach es X.env := by rfl) (hpl : (backTo pos (starEach es X.env)).any (·.1) = false := by rfl) : PE X (.Call (.Name x p) (e :: es) [] pos) (tMakeL i C sp dvs E t) :=
  ⟨fun pins s σ H Q I h => wpAny_Call_Name_kw (thn ((pe_var (pos := p) nm vis hdb hcd).run pins s σ H (fun v H1 => v = .ref C ∧ H1 = H) I ⟨.ref C, h.1, rfl, rfl⟩) fun u s1 ⟨v, H1, I1, r1, q1⟩ => by
    obtain ⟨ev, eH⟩ := q1
    subst ev eH
    have eu : u = Value.ref C := r1
    subst eu
    exact PySem.W.callWith_K (h₀ := X.base) I1.ok.mod.kin M.kp (thn (ha.run pos pins s1 σ _ _ I1 h.2) fun us s2 ⟨vs, H2, I2, r, q⟩ => ⟨I2.kIn, run_make M F room bind dflt pass I2 r q⟩) he hpl)⟩
end
theorem ap_makeL {i : Nat} {C : Addr} {sp : Sp} {dvs : List V} {E : XK} {t : TA} {σ : L2.St} {H : Hp} {Q : VK} : tMakeL i C sp dvs E t σ H Q = (σ[i]? = some (some (.ref C)) ∧ tMake C sp dvs E t σ H Q) := rfl
end Pr

namespace Pr
open PySem PySem.Spec PyProof.Rows L2
section
variable {X : Cx}
theorem op_isNotB : OpR X (compareOp .IsNot) (fun x y H Q => ∃ a b, x = .bl a ∧ y = .bl b ∧ Q (.bl (!decide (a = b))) H) := by
  intro pins s σ H x y v u Q I rx ry h
  obtain ⟨a, b, rfl, rfl, q⟩ := h
  cases (show v = Value.bool a from rx)
  cases (show u = Value.bool b from ry)
  refine wpAny_isNot_plain rfl ⟨.bl (!decide (a = b)), H, I, ?_, q⟩
  cases a <;> cases b <;> rfl
end
end Pr

/-! rows that are lists or tuples -/
namespace Pr
open PySem PySem.Spec PyProof.Rows L2
section
variable {X : Cx} {x y : V} {H : Hp} {Q : VK}
/-- xs[i], xs a list or a tuple of ints, the place from the left -/
def rIxRI : R2 := fun x y H Q => ∃ p i, x = .ref p ∧ y = .int i ∧ ∃ ns, (H p = some (LI ns) ∨ H p = some (TI ns)) ∧ 0 ≤ i ∧ i < (ns.length : Int) ∧ Q (.int (gi ns i)) H
theorem ix_RI : IxR X rIxRI := ixImp (IxR.or ix_LI ix_TI) fun x y H Q ⟨p, i, ex, ey, ns, hp, h0, h1, q⟩ => by
  rcases hp with hp | hp
  · exact .inl ⟨p, i, ex, ey, ns, hp, h0, h1, q⟩
  · exact .inr ⟨p, i, ex, ey, ns, hp, h0, h1, q⟩
theorem ap_ixRI : rIxRI x y H Q = ∃ p i, x = .ref p ∧ y = .int i ∧ ∃ ns, (H p = some (LI ns) ∨ H p = some (TI ns)) ∧ 0 ≤ i ∧ i < (ns.length : Int) ∧ Q (.int (gi ns i)) H := rfl
/-- xs[i], xs a list or a tuple of any things -/
def rIxRV : R2 := fun x y H Q => ∃ p i, x = .ref p ∧ y = .int i ∧ ∃ xs, (H p = some (.lst xs) ∨ H p = some (.tup xs)) ∧ ∃ v, atI xs i = some v ∧ Q v H
theorem ix_RV : IxR X rIxRV := ixImp (IxR.or ix_LV ix_TV) fun x y H Q ⟨p, i, ex, ey, xs, hp, v, hv, q⟩ => by
  rcases hp with hp | hp
  · exact .inl ⟨p, i, ex, ey, xs, hp, v, hv, q⟩
  · exact .inr ⟨p, i, ex, ey, xs, hp, v, hv, q⟩
theorem ap_ixRV : rIxRV x y H Q = ∃ p i, x = .ref p ∧ y = .int i ∧ ∃ xs, (H p = some (.lst xs) ∨ H p = some (.tup xs)) ∧ ∃ v, atI xs i = some v ∧ Q v H := rfl
end
end Pr

namespace Pr
open PySem PySem.Spec PyProof.Rows L2
/-! zip and enumerate in a comprehension within another one: the written part named -/
section
variable {X : Cx} {K : PySem.W.Frag}
theorem pi_zipAK {e e2 : Expr} {ta : TA} {p pos tpos : Pos} {elts : List Expr} {kk : Nat} (hK : X.K = K) (hg : Gl X "zip") (hm : X.mg "zip" = none) (ha : PA X [e, e2] ta)
    (hs : starEach [e, e2] X.env = (false, eval e X.env) :: starEach [e2] X.env := by rfl) (hpl : (backTo pos (starEach [e2] X.env)).any (·.1) = false := by rfl) :
    PI X (.Tuple elts kk tpos) (.Call (.Name "zip" p) [e, e2] [] pos) (RZ.iZipA K ta) := by
  subst hK
  exact RZ.pi_zipA hg hm ha hs hpl
theorem pi_enumK {e : Expr} {ta : TA} {p pos tpos : Pos} {elts : List Expr} {kk : Nat} (hK : X.K = K) (hg : Gl X "enumerate") (hm : X.mg "enumerate" = none) (ha : PA X [e] ta) (hs : starEach [e] X.env = [(false, eval e X.env)] := by rfl) :
    PI X (.Tuple elts kk tpos) (.Call (.Name "enumerate" p) [e] [] pos) (iEnum K ta) := by
  subst hK
  exact pi_enum hg hm ha hs
theorem pi_enTK {e : Expr} {ta : TA} {p pos tpos : Pos} {elts : List Expr} {kk : Nat} (hK : X.K = K) (hg : Gl X "enumerate") (hm : X.mg "enumerate" = none) (ha : PA X [e] ta) (hs : starEach [e] X.env = [(false, eval e X.env)] := by rfl) :
    PI X (.Tuple elts kk tpos) (.Call (.Name "enumerate" p) [e] [] pos) (iEnT K ta) := by
  subst hK
  exact pi_enT hg hm ha hs
end
end Pr
namespace Pr
open PySem PySem.Spec PyProof.Rows L2
section
variable {J : It} {n : Nat} {F : Hp → Prop} {σ : L2.St} {H : Hp} {te : TE} {vs : List Nat} {Q : VK}
/-- a comprehension over pairs that gives rows -/
theorem lc_pairW {R : Nat → V → V → Prop} {u v : Nat} (G : Gives J n F (PY R)) (f : Nat → List Int) (hn : n < 1000000) (hF : ∀ H', Same H H' → F H')
    (hw : ∀ x y, wipe (((wipe σ vs).set u (some x)).set v (some y)) vs = wipe σ vs)
    (he : ∀ i a b H', i < n → R i a b → Same H H' → ∀ Q' : VK, (∀ H'' r, Same H' H'' → H'' r = some (TI (f i)) → Q' (.ref r) H'') → te (((wipe σ vs).set u (some a)).set v (some b)) H' Q')
    (hq : ∀ p H' rs, H p = none → Same H H' → H' p = some (.lst (rs.map V.ref)) → RowsAt H' rs ((List.range n).map f) → Q (.ref p) H') :
    tLcIn (gTupH 2 (gCons (gName u) (gCons (gName v) gNil))) tYes te vs σ Q J H := by
  refine lc_gen G (fun A i H' => Same H H' ∧ ∃ rs, H' A = some (.lst (rs.map V.ref)) ∧ RowsAt H' rs ((List.range i).map f)) (fun A hA => ⟨same_upd hA, [], upd_same, .nil⟩) (fun A i H' _ p => hF H' p.1) (fun A i x H1 H' hA hi p y => ?_) (fun A H' hA p => ?_)
  · refine pair_in y fun t a b nt r => ⟨hw a b, ?_⟩
    have s1 := same_upd (o := HO.tup [a, b]) nt
    obtain ⟨sm, rs, eA, hR⟩ := p
    refine he i a b _ hi r (sm.trans s1) _ fun H2 q s2 eq => ⟨_, s2 _ _ (s1 _ _ eA), ?_, same_mut ((sm.trans s1).trans s2) hA, rs ++ [q], ?_, ?_⟩
    · have := hR.1
      rw [List.length_map, List.length_range] at this
      rw [List.length_map]
      exact sz (by omega)
    · rw [upd_same, List.map_append]
      rfl
    · have nrA : q ≠ A := fun e => by
        rw [e, s2 _ _ (s1 _ _ eA)] at eq
        cases eq
      rw [List.range_succ, List.map_append]
      have h1 : RowsAt H2 (rs ++ [q]) ((List.range i).map f ++ [f i]) := ((hR.same s1).same s2).append (.cons eq .nil)
      refine ⟨h1.1, fun k r' ns e1 e2 => ?_⟩
      have h2 := h1.2 k r' ns e1 e2
      rw [upd_ne fun e => ?_]
      · exact h2
      · rw [e, s2 _ _ (s1 _ _ eA)] at h2
        cases h2
  · obtain ⟨sm, rs, eA, hR⟩ := p
    exact hq A H' rs hA sm eA hR
end
end Pr

namespace Pr
open PySem PySem.Spec PyProof.Rows L2
/-! own exceptions over any built-in base -/
theorem relO_one {v : V} {v' : Value} {n : Str} (r : RelV v v') (f : Str) : RelO (List.lookup f [(n, v)]) (if f = n then some v' else none) := by
  by_cases h : f = n
  · rw [h, if_pos rfl, show List.lookup n [(n, v)] = some v by simp [List.lookup]]
    exact r
  · rw [if_neg h, show List.lookup f [(n, v)] = none by simp [List.lookup, show (f == n) = false by simpa using h]]
    trivial
section
open PySem.W PySem.Calls PySem.HandSPX Builtin Builtin.ObjectAttr
variable {prog : Program} {w : World} {A : Around} {R : Result → Shared → Prop} {hp : Heap} {g : Array GenState} {d : Drawn} {t : Nat} {os : OsState} {K : Frag} {B : String} {bmB : List Value}
/-- the first store into an exception -/
theorem exc_put {name : Str} {tk : Tok} {v : Value} {x C : Addr} {fv : Array Value} (SF : StoreFacts B bmB "object.__setattr__" "object")
    (X : K.In hp) (hx : hp.get? x = some { cls := .ref C, data := .fields fv }) (ov : excOver K C bmB = true) (ht : takerIn K C name = some none) (hd : hasDictIn K C = true)
    (hq : ∀ h' tk' dx, (∀ b o, b ≠ x → hp.get? b = some o → h'.get? b = some o) → hp.objs.size ≤ dx → dx ≠ x → h'.get? x = some { cls := .ref C, dict := some dx, data := .fields fv } →
      h'.Ns1 dx (fun y => if y = name then some v else none) → R (.ok (.ret .none)) ⟨h', g, d, tk', os⟩) :
    codeAny (model prog w) A (.call (.builtin "object.__setattr__") ⟨[.ref x, .str name tk, v], []⟩) R ⟨hp, g, d, t, os⟩ := by
  have ne : x ≠ hp.objs.size := fun e => Nat.lt_irrefl _ (e ▸ Heap.lt_size hx)
  refine osa_openX (od := none) SF X ⟨hx, rfl, rfl, trivial⟩ ov ht fun b => ?_
  obtain ⟨cd, hc, hh⟩ := any_some hd
  have Lc := looks_clsIn (M := model prog w) X hc
  show wpAny _ _ (storeInOwnDict (.ref x) (.ref C) (.str name tk) name v b) _ _ _
  obtain ⟨n1, n2, n3, n4, n5, hd6, n7, n8, n9, n10, n11⟩ := cd
  have e6 : hd6 = true := hh
  subst e6
  unfold storeInOwnDict ownDictForStores
  repeat (first | with_reducible refine HandSPX.store_in_new ?_ ?_ | with_reducible refine wpAny_loadPart_at hx ?_ | with_reducible refine Lc.at ?_ | wp_step)
  · exact ⟨_, #[], _, (Heap.get?_update_ne _ _ _ _ ne.symm).trans (Heap.get?_push_at rfl rfl), rfl, fun e he => absurd he (by simp), fun _ => rfl⟩
  · intro h' tk' hn' hs
    have ex := Heap.get?_push_of_some ({ cls := .type "dict", data := .dict #[] } : Obj) hx
    exact hq h' tk' hp.objs.size (fun b o hb ho => (hs.2 b (Nat.ne_of_lt (Heap.lt_size ho))).trans ((Heap.get?_update_ne _ _ _ _ hb).trans (Heap.get?_push_of_some _ ho))) (Nat.le_refl _) ne.symm ((hs.2 x ne).trans (Heap.get?_update_self _ ex rfl)) hn'
end
end Pr

namespace Pr
open PySem PySem.Spec PyProof.Rows L2
/-! a list unpacked; an error of the class at S is what «except S» names -/
section
variable {X : Cx}
def gLstH (n : Nat) (t : TGs) : TG := fun v σ H Q => ∃ a, v = .ref a ∧ ∃ xs, H a = some (.lst xs) ∧ xs.length = n ∧ t xs σ H Q
theorem pg_lstH {es : List Expr} {t : TGs} {k n : Nat} {pos : Pos} (hc : X.calm = true) (h : PGs X es t)
    (hn : (assignEach es X.env).length = n := by rfl) (hst : (assignEach es X.env).findIdx? (·.1) = none := by rfl) : PG X (.Tuple es k pos) (gLstH n t) := by
  have g := pg_lst (k := k) (pos := pos) hc h hn hst
  exact ⟨fun pins s σ H v u Q I r q => g.run pins s σ H v u Q I r (by
    obtain ⟨a, e, xs, hx, hl, z⟩ := q
    exact ⟨a, xs, e, .inl (.inl hx), hl, z⟩)⟩
theorem ap_gLstH {n : Nat} {t : TGs} {v : V} {σ : L2.St} {H : Hp} {QN : L2.St → Hp → Prop} : gLstH n t v σ H QN = ∃ a, v = .ref a ∧ ∃ xs, H a = some (.lst xs) ∧ xs.length = n ∧ t xs σ H QN := rfl
end
theorem ap_callS {sp : Sp} {E : L2.St → XK} {t : TA} {σ : L2.St} {H : Hp} {Q : VK} : tCallS sp E t σ H Q = t σ H fun vs H1 => sp vs H1 Q (E σ) := rfl
theorem passE0 {X : Cx} : Passes (L2.CX X.prog X.w) X E0 := fun _ _ _ _ _ _ _ ⟨_, _, _, _, _, _, _, _, _, _, _, _, e⟩ => e.elim
theorem exm_self {K : PySem.W.Frag} {S : Addr} (h1 : PySem.W.subIn K (.ref S) (.type "BaseException") = some true) (h2 : PySem.W.isClsIn K S = true) (h3 : PySem.W.typeIn K (.ref S) = some (.type "type")) (h4 : PySem.W.subIn K (.ref S) (.ref S) = some true) :
    PySem.W.exmOne K (.ref S) (.ref S) = some true := by
  have e1 : (PySem.W.subIn K (.ref S) (.type "BaseException") == some true) = true := by rw [h1]; rfl
  have e2 : ((PySem.W.clsIn K S).isSome && PySem.W.typeIn K (.ref S) == some (.type "type")) = true := by
    rw [show (PySem.W.clsIn K S).isSome = true from h2, h3]
    rfl
  show (if (PySem.W.subIn K (.ref S) (.type "BaseException") == some true) = true then (if ((PySem.W.clsIn K S).isSome && PySem.W.typeIn K (.ref S) == some (.type "type")) = true then PySem.W.subIn K (.ref S) (.ref S) else none) else none) = some true
  rw [if_pos e1, if_pos e2]
  exact h4
end Pr

namespace Pr
open PySem PySem.Spec PyProof.Rows L2
/-! tuples of the very same objects -/
section
variable {X : Cx}
theorem vals_refs : ∀ {as : List Addr} {its : List Value}, Vals (as.map V.ref) its → its = as.map Value.ref
  | [], _, .nil => rfl
  | a :: as, _ :: _, .cons r t => by
    have e := vals_refs t
    cases r
    rw [e]
    rfl
def rNeSame : R2 := fun x y H Q => ∃ p q, x = .ref p ∧ y = .ref q ∧ ∃ as : List Addr, H p = some (.tup (as.map V.ref)) ∧ H q = some (.tup (as.map V.ref)) ∧ Q (.bl false) H
theorem op_neSame (hu : X.A.units + 64 < cLine) : OpR X (compareOp .NotEq) rNeSame := by
  intro pins s σ H x y v u Q I rx ry h
  obtain ⟨p, q, rfl, rfl, as, ep, eq, k⟩ := h
  cases rx
  cases ry
  obtain ⟨i1, r1, ⟨o1, g1, c1, n1, d1⟩, _⟩ := I.tuple (sqT_of ep)
  obtain ⟨i2, r2, ⟨o2, g2, c2, n2, d2⟩, _⟩ := I.tuple (sqT_of eq)
  have e1 := vals_refs r1
  have e2 := vals_refs r2
  subst e1 e2
  have w := SeqAt.RcNeAt.tuples (A := X.A) (s := s) (l := p) (b := q) (e := fun _ => true) ⟨o1, g1, c1, n1, d1⟩ ⟨o2, g2, c2, n2, d2⟩ (by omega) fun j h1 h2 => SeqAt.EqAt.same _
  have z : (!((List.range (min (as.map Value.ref).toArray.size (as.map Value.ref).toArray.size)).all (fun _ => true) && (as.map Value.ref).toArray.size == (as.map Value.ref).toArray.size)) = false := by simp
  rw [z] at w
  exact w X.prog X.w X.xe _ ⟨.bl false, H, I, rfl, k⟩
theorem ap_neSame {x y : V} {H : Hp} {Q : VK} : rNeSame x y H Q = ∃ p q, x = .ref p ∧ y = .ref q ∧ ∃ as : List Addr, H p = some (.tup (as.map V.ref)) ∧ H q = some (.tup (as.map V.ref)) ∧ Q (.bl false) H := rfl
end
end Pr

namespace Pr
open PySem PySem.Spec PyProof.Rows L2
/-! tuples that stand in the module (or are tracked): read by SqT; a written dict of the module with whole numbers as keys -/
section
variable {K : PySem.W.Frag} {H H' : Hp} {a : Addr} {xs : List V}
theorem sqT_same (h : SqT K H a xs) (s : Same H H') : SqT K H' a xs := h.elim (fun r => .inl (r.elim (fun e => .inl (s _ _ e)) fun ⟨o, e⟩ => .inr ⟨o, s _ _ e⟩)) .inr
theorem gives_enTK : Gives (ItT K a) xs.length (fun H => SqT K H a xs) (PY fun i x y => x = .int (i : Nat) ∧ xs[i]? = some y) where
  go := fun i H lt f => ⟨xs, xs[i], f, by simp [lt]⟩
  yld := fun i H v H' lt f y => by
    obtain ⟨t, x, e1, e2, e3, e4⟩ := y
    exact ⟨t, _, x, e1, e2, e3, rfl, e4 xs f⟩
  stop := fun H f => ⟨xs, f, Nat.le_refl _⟩
theorem gives_tupTK : Gives (Itt K a) xs.length (fun H => SqT K H a xs) (fun i v H H' => H' = H ∧ xs[i]? = some v) where
  go := fun i H lt f => ⟨xs, xs[i], f, by simp [lt]⟩
  yld := fun i H v H' lt f y => ⟨y.1, y.2 xs f⟩
  stop := fun H f => ⟨xs, f, Nat.le_refl _⟩
end
section
variable {X : Cx} {x y : V} {vs : List V} {H : Hp} {Q : VK}
def rLenK (K : PySem.W.Frag) : List V → Hp → VK → Prop := fun vs H Q => ∃ p, vs = [.ref p] ∧ ∃ ys, SqT K H p ys ∧ Q (.int (ys.length : Nat)) H
theorem cr_lenK : CallR X (.builtin "len") (rLenK X.K) := callImp call_len_seq fun vs H Q ⟨p, e, ys, h, q⟩ => ⟨p, ys, e, .inr h, q⟩
theorem ap_lenK {K : PySem.W.Frag} : rLenK K vs H Q = ∃ p, vs = [.ref p] ∧ ∃ ys, SqT K H p ys ∧ Q (.int (ys.length : Nat)) H := rfl
def rListK (K : PySem.W.Frag) : List V → Hp → VK → Prop := fun vs H Q => ∃ p, vs = [.ref p] ∧ ∃ ys, SqT K H p ys ∧ ∀ l, H l = none → Q (.ref l) (upd H l (.lst ys))
theorem cr_listK : CallR X (.type "list") (rListK X.K) := callImp call_list_of fun vs H Q ⟨p, e, ys, h, q⟩ => ⟨p, ys, e, .inr h, q⟩
theorem ap_listK {K : PySem.W.Frag} : rListK K vs H Q = ∃ p, vs = [.ref p] ∧ ∃ ys, SqT K H p ys ∧ ∀ l, H l = none → Q (.ref l) (upd H l (.lst ys)) := rfl
def rIxKT (K : PySem.W.Frag) : R2 := fun x y H Q => ∃ p i, x = .ref p ∧ y = .int i ∧ ∃ ys, SqT K H p ys ∧ ∃ v, atI ys i = some v ∧ Q v H
theorem ix_KT : IxR X (rIxKT X.K) := ixImp ix_tup fun x y H Q ⟨p, i, ex, ey, ys, h, v, e, q⟩ => ⟨p, ys, i, v, ex, ey, h, e, q⟩
theorem ap_ixKT {K : PySem.W.Frag} : rIxKT K x y H Q = ∃ p i, x = .ref p ∧ y = .int i ∧ ∃ ys, SqT K H p ys ∧ ∃ v, atI ys i = some v ∧ Q v H := rfl
/-- isinstance(x, tuple), x such a tuple -/
def rIsiK (K : PySem.W.Frag) : List V → Hp → VK → Prop := fun vs H Q => ∃ p, vs = [.ref p, .ty "tuple"] ∧ (∃ ys, SqT K H p ys) ∧ Q (.bl true) H
theorem cr_isiK : CallR X (.builtin "isinstance") (rIsiK X.K) := callImp call_isi fun vs H Q ⟨p, e, ⟨ys, h⟩, q⟩ => by
  refine ⟨.ref p, .ty "tuple", .type "tuple", .type "tuple", true, e, .ty _, ?_, kit_ty (by decide +kernel), q⟩
  rcases h with (h | ⟨o, h⟩) | ⟨o, its, n, h1, h2, _⟩
  · exact .base (.tup h)
  · exact .fTuple h
  · exact .kTuple h1 h2
theorem ap_isiK {K : PySem.W.Frag} : rIsiK K vs H Q = ∃ p, vs = [.ref p, .ty "tuple"] ∧ (∃ ys, SqT K H p ys) ∧ Q (.bl true) H := rfl
end
/-! ### the written dict -/
def listO {α β : Type} (f : α → Option β) : List α → Option (List β)
  | [] => some []
  | x :: r => match f x with
    | none => none
    | some y => match listO f r with
      | none => none
      | some s => some (y :: s)
theorem listO_at {α β : Type} {f : α → Option β} : ∀ {l : List α} {r : List β}, listO f l = some r → l.length = r.length ∧ ∀ (i : Nat) (x : α), l[i]? = some x → ∃ y, r[i]? = some y ∧ f x = some y
  | [], r, h => by
    cases h
    exact ⟨rfl, fun i x e => by simp at e⟩
  | x :: l, r, h => by
    have h1 : (match f x with
      | none => none
      | some y => match listO f l with
        | none => none
        | some s => some (y :: s)) = some r := h
    cases e1 : f x with
    | none => rw [e1] at h1; cases h1
    | some y =>
      rw [e1] at h1
      cases e2 : listO f l with
      | none => rw [e2] at h1; cases h1
      | some s =>
        rw [e2] at h1
        cases h1
        obtain ⟨q1, q2⟩ := listO_at e2
        refine ⟨by simp [q1], fun i x' e => ?_⟩
        match i, e with
        | 0, e =>
          cases e
          exact ⟨y, rfl, e1⟩
        | i + 1, e =>
          obtain ⟨y', a1, a2⟩ := q2 i x' (by simpa using e)
          exact ⟨y', by simpa using a1, a2⟩
def tupK (K : PySem.W.Frag) (a : Addr) : Option (List Value) := match K.lookup a with
  | some ⟨.type "tuple", _, .seq its _, _⟩ => if its.size ≤ sizeLine then some its.toList else none
  | _ => none
def rowsK (K : PySem.W.Frag) (a : Addr) : Option (List (List Int)) := match tupK K a with
  | some vs => listO (fun v => match v with
    | .ref r => (match tupK K r with
      | some us => listO intOf us
      | none => none)
    | _ => none) vs
  | none => none
def dictK (K : PySem.W.Frag) (a : Addr) : Option (List (Int × List (List Int))) := match K.lookup a with
  | some ⟨.type "dict", none, .dict es _, ⟨[]⟩⟩ => listO (fun e => match e with
    | ⟨h, .int i _, .ref t⟩ => if h = hashInt i then (match rowsK K t with
      | some rs => some (i, rs)
      | none => none) else none
    | _ => none) es.toList
  | _ => none
/-- rows of ints, read by SqT -/
def RowsKt (K : PySem.W.Frag) (H : Hp) (t : Addr) (nss : List (List Int)) : Prop := ∃ rs : List Addr, SqT K H t (rs.map V.ref) ∧ rs.length = nss.length ∧ ∀ (i : Nat) (r : Addr) (ns : List Int), rs[i]? = some r → nss[i]? = some ns → SqT K H r (ns.map V.int)
theorem RowsKt.same {K : PySem.W.Frag} {H H' : Hp} {t : Addr} {nss : List (List Int)} (h : RowsKt K H t nss) (s : Same H H') : RowsKt K H' t nss := by
  obtain ⟨rs, h1, h2, h3⟩ := h
  exact ⟨rs, sqT_same h1 s, h2, fun i r ns e1 e2 => sqT_same (h3 i r ns e1 e2) s⟩
theorem tupK_sq {K : PySem.W.Frag} {a : Addr} {vs : List Value} (h : tupK K a = some vs) {xs : List V} (r : Vals xs vs) (H : Hp) : SqT K H a xs := by
  unfold tupK at h
  split at h
  · rename_i d its n sl e
    split at h
    · rename_i hz
      cases h
      exact .inr ⟨_, its, n, e, rfl, rfl, hz, r⟩
    · cases h
  · cases h
theorem vals_intO : ∀ {us : List Value} {ns : List Int}, listO intOf us = some ns → Vals (ns.map V.int) us
  | us, ns, h => by
    refine vals_ints ?_
    obtain ⟨h1, h2⟩ := listO_at h
    refine List.ext_getElem? fun i => ?_
    rw [List.getElem?_map, List.getElem?_map]
    by_cases c : i < us.length
    · obtain ⟨y, a1, a2⟩ := h2 i _ (List.getElem?_eq_getElem c)
      rw [a1, List.getElem?_eq_getElem c]
      exact congrArg some a2
    · rw [List.getElem?_eq_none (by omega), List.getElem?_eq_none (by omega)]
      rfl
theorem rowsK_at {K : PySem.W.Frag} {a : Addr} {nss : List (List Int)} (h : rowsK K a = some nss) (H : Hp) : RowsKt K H a nss := by
  unfold rowsK at h
  split at h
  · rename_i vs e
    obtain ⟨h1, h2⟩ := listO_at h
    have isr : ∀ v ∈ vs, ∃ r, v = Value.ref r := fun v hv => by
      obtain ⟨i, hi, rfl⟩ := List.getElem_of_mem hv
      obtain ⟨y, _, a2⟩ := h2 i _ (List.getElem?_eq_getElem hi)
      split at a2
      · exact ⟨_, by assumption⟩
      · cases a2
    obtain ⟨rs, hrs⟩ : ∃ rs : List Addr, vs = rs.map Value.ref := by
      clear h h1 h2 e
      induction vs with
      | nil => exact ⟨[], rfl⟩
      | cons v vs ih =>
        obtain ⟨rs, e⟩ := ih fun v hv => isr v (List.mem_cons_of_mem _ hv)
        obtain ⟨r, e2⟩ := isr v List.mem_cons_self
        exact ⟨r :: rs, by rw [e, e2]; rfl⟩
    subst hrs
    refine ⟨rs, tupK_sq e ?_ H, by rw [← h1, List.length_map], fun i r ns e1 e2 => ?_⟩
    · clear h h1 h2 e isr
      induction rs with
      | nil => exact .nil
      | cons r rs ih => exact .cons rfl ih
    · obtain ⟨y, a1, a2⟩ := h2 i (Value.ref r) (by rw [List.getElem?_map, e1]; rfl)
      rw [e2] at a1
      cases a1
      have a3 : (match tupK K r with
        | some us => listO intOf us
        | none => none) = some ns := a2
      split at a3
      · rename_i us eu
        exact tupK_sq eu (vals_intO a3) H
      · cases a3
  · cases h
/-- d[i] of the written dict d at p is the tuple at t -/
def KInt (K : PySem.W.Frag) (p : Addr) (i : Int) (t : Addr) : Prop := ∃ es n, K.lookup p = some ⟨.type "dict", none, .dict es n, #[]⟩ ∧ (∀ e ∈ es.toList, ∃ j u, e.key = .int j u ∧ e.hash = hashInt j) ∧ findBy Value.isInt es i = some (.ref t)
theorem dictK_at {K : PySem.W.Frag} {p : Addr} {l : List (Int × List (List Int))} (h : dictK K p = some l) {i : Int} {nss : List (List Int)} (hf : l.find? (fun q => q.1 == i) = some (i, nss)) : ∃ t, KInt K p i t ∧ ∀ H, RowsKt K H t nss := by
  unfold dictK at h
  split at h
  · rename_i es n e
    obtain ⟨es⟩ := es
    obtain ⟨h1, h2⟩ := listO_at h
    have keys : ∀ d ∈ es, ∃ j u t rs, d = ⟨hashInt j, .int j u, .ref t⟩ ∧ rowsK K t = some rs := fun d hd => by
      obtain ⟨k, hk, rfl⟩ := List.getElem_of_mem hd
      obtain ⟨y, _, a2⟩ := h2 k _ (List.getElem?_eq_getElem hk)
      generalize es[k] = d at a2 ⊢
      split at a2
      · rename_i hh j u t
        split at a2
        · rename_i eh
          subst eh
          split at a2
          · rename_i rs er
            exact ⟨j, u, t, rs, rfl, er⟩
          · cases a2
        · cases a2
      · cases a2
    have fnd : ∀ {es : List DictEntry} {l : List (Int × List (List Int))}, listO (fun e : DictEntry => match e with
        | ⟨h, .int i _, .ref t⟩ => if h = hashInt i then (match rowsK K t with
          | some rs => some (i, rs)
          | none => none) else none
        | _ => none) es = some l → l.find? (fun q => q.1 == i) = some (i, nss) → ∃ t d, es.find? (fun e => Value.isInt i e.key) = some d ∧ d.val = .ref t ∧ rowsK K t = some nss := by
      intro es
      induction es with
      | nil =>
        intro l h hf
        cases h
        cases hf
      | cons d es ih =>
        intro l h hf
        obtain ⟨q1, q2⟩ := listO_at h
        obtain ⟨y, a1, a2⟩ := q2 0 d rfl
        have hd : ∃ j u t rs, d = ⟨hashInt j, .int j u, .ref t⟩ ∧ rowsK K t = some rs ∧ y = (j, rs) := by
          split at a2
          · rename_i hh j u t
            split at a2
            · rename_i eh
              subst eh
              split at a2
              · rename_i rs er
                cases a2
                exact ⟨j, u, t, rs, rfl, er, rfl⟩
              · cases a2
            · cases a2
          · cases a2
        obtain ⟨j, u, t, rs, rfl, er, rfl⟩ := hd
        have h0 := h
        unfold listO at h0
        split at h0
        · cases h0
        · rename_i y' ey
          split at h0
          · cases h0
          · rename_i s es'
            cases h0
            cases a1
            by_cases c : j = i
            · subst c
              rw [List.find?_cons_of_pos (by simp)] at hf
              cases hf
              exact ⟨t, _, by rw [List.find?_cons_of_pos (by simp [Value.isInt])], rfl, er⟩
            · rw [List.find?_cons_of_neg (by simpa using c)] at hf
              obtain ⟨t', d', f1, f2, f3⟩ := ih es' hf
              exact ⟨t', d', by rw [List.find?_cons_of_neg (by simpa [Value.isInt] using c)]; exact f1, f2, f3⟩
    obtain ⟨t, d, f1, f2, f3⟩ := fnd h hf
    refine ⟨t, ⟨⟨es⟩, n, e, fun d hd => ?_, ?_⟩, rowsK_at f3⟩
    · obtain ⟨j, u, t, rs, rfl, _⟩ := keys d hd
      exact ⟨j, u, rfl, rfl⟩
    · unfold findBy
      rw [List.find?_toArray, f1]
      exact congrArg some f2
  · cases h
section
variable {X : Cx} {x y : V} {H : Hp} {Q : VK}
def rIxW (K : PySem.W.Frag) : R2 := fun x y H Q => ∃ p i, x = .ref p ∧ y = .int i ∧ ∃ t, KInt K p i t ∧ Q (.ref t) H
theorem ix_W : IxR X (rIxW X.K) := by
  intro value slice pins s σ H x y v u Q I rx ry h hs
  obtain ⟨p, i, rfl, rfl, t, ⟨es, n, hl, hk, e⟩, q⟩ := h
  obtain rfl : v = Value.ref p := rx
  obtain ⟨tk, rfl⟩ := ry
  have hm : s.heap.MapOf (intKind X.prog X.w) p (fun k => findBy Value.isInt es k) := ⟨_, es, n, I.kIn _ _ hl, ⟨rfl, rfl, rfl⟩, rfl, fun d hd => by
    obtain ⟨j, u, e1, e2⟩ := hk d (Array.mem_toList_iff.mpr hd)
    exact ⟨j, by rw [e1]; exact intKind_is X.prog X.w j u, e2⟩, fun _ => rfl⟩
  exact tail_any hm.typeIs slot_dict_getitem.lookup (wpAny_getItem_of (intKind_is X.prog X.w i tk) hm e ⟨.ref t, H, I.tok _, rfl, q⟩) hs
theorem ap_ixW {K : PySem.W.Frag} : rIxW K x y H Q = ∃ p i, x = .ref p ∧ y = .int i ∧ ∃ t, KInt K p i t ∧ Q (.ref t) H := rfl
end
end Pr

namespace Pr
open PySem PySem.Spec PyProof.Rows L2
/-! tuple(zip(list, list)) -/
theorem zt_nolen : typeLookup (.type "zip") "__len__" = pure none := by rw [typeLookup_type, builtinLookup_eq_fast]; kernel_rfl
theorem zt_nohint : typeLookup (.type "zip") "__length_hint__" = pure none := by rw [typeLookup_type, builtinLookup_eq_fast]; kernel_rfl
abbrev ztL (acc : Array Value) (c : Nat) : Obj := { cls := .type "list", dict := none, data := .seq acc c, slots := #[] }
def ZHd (h : Heap) (H : Hp) (z TI TO : Addr) : Prop := IsZip h z TI TO .none ∨ ∃ T f ps, IsZipHeld h z TI TO T f ∧ H T = some (.tup ps)
/-- the state of a zip that is collected -/
structure ZSt (X : Cx) (pins : List (Addr × Obj)) (σ : L2.St) (H : Hp) (s : Shared) (a b z TI TO i1 i2 S : Addr) (xs ys : List V) (i : Nat) : Prop where
  inv : Inv X pins σ H s
  la : SqL X.K H a xs
  lb : SqL X.K H b ys
  fp : ∀ c ∈ [S, z, TI, TO, i1, i2], FpOk X pins H c
  hd : ZHd s.heap H z TI TO
  ti : IsPair s.heap TI (.ref i1) (.ref i2)
  to : ∃ x y, IsPair s.heap TO x y
  h1 : s.heap.IsListIter i1 a i
  h2 : s.heap.IsListIter i2 b i
structure ZAcc (H : Hp) (xs ys : List V) (as : List Addr) (acc : Array Value) : Prop where
  eq : acc.toList = as.map Value.ref
  at_ : ∀ (j : Nat) (q : Addr), as[j]? = some q → ∃ x y, xs[j]? = some x ∧ ys[j]? = some y ∧ H q = some (.tup [x, y])
section
variable {X : Cx} {pins : List (Addr × Obj)} {σ : L2.St} {A : Around} {a b z TI TO i1 i2 S : Addr} {xs ys : List V} {res : Value}
theorem zt_turn {H : Hp} {s : Shared} {i : Nat} {x y : V} {E : Value → Shared → Prop} {Q : Option Value → Shared → Prop} (D : ZipApart z TI TO i1 i2 a b) (hS : S ∉ [z, TI, TO, i1, i2]) (st : ZSt X pins σ H s a b z TI TO i1 i2 S xs ys i)
    (hx : xs[i]? = some x) (hy : ys[i]? = some y) (hSl : S < s.heap.objs.size)
    (hQ : ∀ s', H s.heap.objs.size = none → ZSt X pins σ (upd H s.heap.objs.size (.tup [x, y])) s' a b z TI TO i1 i2 S xs ys (i + 1) → (∀ o, s.heap.get? S = some o → s'.heap.get? S = some o) → Q (some (.ref s.heap.objs.size)) s') :
    wpAny (model X.prog X.w) A (pyNext (.ref z)) Q E s := by
  obtain ⟨I, la, lb, fp, hd, ti, ⟨x0, y0, hTO⟩, h1, h2⟩ := st
  obtain ⟨its, rv, p, _⟩ := I.list la
  obtain ⟨its2, rv2, p2, _⟩ := I.list lb
  obtain ⟨u, hu, ru⟩ := rv.get hx
  obtain ⟨u2, hu2, ru2⟩ := rv2.get hy
  have hn : H s.heap.objs.size = none := I.hok.fresh (Nat.le_refl _)
  have cS : S ≠ z ∧ S ≠ TI ∧ S ≠ TO ∧ S ≠ i1 ∧ S ≠ i2 := by simpa using hS
  have fin : ∀ h', (ZHd h' (upd H s.heap.objs.size (.tup [x, y])) z TI TO) → (∃ x y, IsPair h' TO x y) → h'.IsListIter i1 a (i + 1) → h'.IsListIter i2 b (i + 1) → IsPair h' s.heap.objs.size u u2 →
      (∀ c o, c ≠ z → c ≠ TO → c ≠ i1 → c ≠ i2 → s.heap.get? c = some o → h'.get? c = some o) → Q (some (.ref s.heap.objs.size)) { s with heap := h' } := fun h' k1 k2 k3 k4 k5 k6 => by
    have new : ObjOk X.prog X.w (upd H s.heap.objs.size (.tup [x, y])) h' s.heap.objs.size (.tup [x, y]) :=
      ⟨by show 2 ≤ sizeLine; decide, [u, u2], .cons ru (.cons ru2 .nil), ⟨_, k5, rfl, _, rfl⟩⟩
    have I1 : Inv X pins σ (upd H s.heap.objs.size (.tup [x, y])) { s with heap := h' } :=
      I.turnedNew (t' := s.toks) (ch := [S, z, TI, TO, i1, i2]) (fun c o hb q => k6 c o (fun q' => hb (by simp [q'])) (fun q' => hb (by simp [q'])) (fun q' => hb (by simp [q'])) (fun q' => hb (by simp [q'])) q) fp (Nat.le_refl _) new
    have sm : Same H (upd H s.heap.objs.size (.tup [x, y])) := same_upd hn
    refine hQ _ hn ⟨I1, la.ext sm, lb.ext sm, fun c hc => ?_, k1, k6 _ _ D.TIz D.TITO D.TIi1 D.TIi2 ti, k2, k3, k4⟩ fun o e => k6 S o cS.1 cS.2.2.1 cS.2.2.2.1 cS.2.2.2.2 e
    obtain ⟨f0, f1⟩ := fp c hc
    refine ⟨?_, f1⟩
    by_cases ec : c = s.heap.objs.size
    · exfalso
      have e' : c = S ∨ c = z ∨ c = TI ∨ c = TO ∨ c = i1 ∨ c = i2 := by simpa using hc
      have lz : z < s.heap.objs.size := hd.elim (fun q => Heap.lt_size q) fun ⟨_, _, _, q, _⟩ => Heap.lt_size q
      have l1 := Heap.lt_size ti
      have l2 := Heap.lt_size hTO
      have l3 : i1 < s.heap.objs.size := let ⟨_, q, _⟩ := h1; Heap.lt_size q
      have l4 : i2 < s.heap.objs.size := let ⟨_, q, _⟩ := h2; Heap.lt_size q
      have lc : c < s.heap.objs.size := by
        rcases e' with q | q | q | q | q | q
        · rw [q]; exact hSl
        · rw [q]; exact lz
        · rw [q]; exact l1
        · rw [q]; exact l2
        · rw [q]; exact l3
        · rw [q]; exact l4
      exact Nat.lt_irrefl _ (by rwa [ec] at lc)
    · rw [upd_ne ec]; exact f0
  rcases hd with hz | ⟨T, f, ps, hz, hT⟩
  · exact wpAny_pyNext_zip_item D hz ti hTO h1 h2 p.isList p2.isList (by simpa using hu) (by simpa using hu2) fun h' z' TO' h1' h2' hT' hsz hk =>
      fin h' (.inr ⟨_, false, _, z', upd_same⟩) ⟨_, _, TO'⟩ h1' h2' hT' hk
  · obtain ⟨_, itsT, _, ⟨oT, hoT, _⟩⟩ := I.hok T _ hT
    exact wpAny_pyNext_zip_item_held D hz hoT ti h1 h2 p.isList p2.isList (by simpa using hu) (by simpa using hu2) fun h' z' h1' h2' hT' hsz hk =>
      fin h' (.inr ⟨_, true, _, z', (same_upd hn) _ _ hT⟩) ⟨_, _, hk _ _ D.TOz D.TOi1 D.TOi2 hTO⟩ h1' h2' hT' fun c o c1 _ c3 c4 e => hk c o c1 c3 c4 e
theorem zt_loop {H0 : Hp} {R : Result → Shared → Prop} (hh : A.handled = none) (D : ZipApart z TI TO i1 i2 a b) (hS : S ∉ [z, TI, TO, i1, i2]) (hl : xs.length = ys.length) (hn : xs.length ≤ sizeLine)
    (hR : ∀ s' H' as acc c, Inv X pins σ H' s' → Same H0 H' → as.length = xs.length → ZAcc H' xs ys as acc → s'.heap.get? S = some (ztL acc c) → FpOk X pins H' S → R (.ok (.ret res)) s') :
    ∀ (k i : Nat) (s : Shared) (H : Hp) (acc : Array Value) (c : Nat) (as : List Addr), xs.length - i = k → i ≤ xs.length → Same H0 H → ZSt X pins σ H s a b z TI TO i1 i2 S xs ys i → s.heap.get? S = some (ztL acc c) → as.length = i → ZAcc H xs ys as acc →
      codeAny (model X.prog X.w) A (.builtin "list.extend.loop" ⟨[.ref S, .ref z, res], []⟩) R s := by
  have cS : S ≠ z ∧ S ≠ TI ∧ S ≠ TO ∧ S ≠ i1 ∧ S ≠ i2 := by simpa using hS
  have hh1 : A.in1.handled = none := hh
  intro k
  induction k with
  | zero =>
    intro i s H acc c as hk hi sm st hL hal hG
    have hin : i = xs.length := by omega
    refine codeAny_builtin PySem.F.entry_extend_loop ?_
    rw [Around.under_plainId PySem.F.plain_extend_loop _]
    show wpAny _ A.in1 (pyNext (.ref z) >>= _) _ _ _
    refine wpAny_bind ?_
    obtain ⟨I, la, lb, fp, hd, ti, ⟨x0, y0, hTO⟩, h1, h2⟩ := st
    obtain ⟨its, rv, p, _⟩ := I.list la
    obtain ⟨its2, rv2, p2, _⟩ := I.list lb
    have hend : its.toArray[i]? = none ∨ its2.toArray[i]? = none := .inl (by have := rv.length; simp; omega)
    have fin : ∀ h', (∀ c o, c ≠ z → c ≠ TO → c ≠ i1 → c ≠ i2 → s.heap.get? c = some o → h'.get? c = some o) → R (.ok (.ret res)) { s with heap := h' } := fun h' k6 =>
      hR _ H as acc c (I.turnedL (t' := s.toks) (ch := [S, z, TI, TO, i1, i2]) (fun c o hb q => k6 c o (fun q' => hb (by simp [q'])) (fun q' => hb (by simp [q'])) (fun q' => hb (by simp [q'])) (fun q' => hb (by simp [q'])) q) fp) sm (by omega) hG (k6 S _ cS.1 cS.2.2.1 cS.2.2.2.1 cS.2.2.2.2 hL) (fp S (by simp))
    rcases hd with hz | ⟨T, f, ps, hz, hT⟩
    · exact wpAny_pyNext_zip_end hh1 D hz ti hTO h1 h2 p.isList p2.isList hend fun h' hk => wpAny_pure (fin h' hk)
    · obtain ⟨_, itsT, _, ⟨oT, hoT, _⟩⟩ := I.hok T _ hT
      exact wpAny_pyNext_zip_end_held hh1 D hz hoT ti h1 h2 p.isList p2.isList hend fun h' hk => wpAny_pure (fin h' fun c o c1 _ c3 c4 e => hk c o c1 c3 c4 e)
  | succ k ih =>
    intro i s H acc c as hk hi sm st hL hal hG
    have hlt : i < xs.length := by omega
    have hsz : acc.size = i := by rw [← Array.length_toList, hG.eq, List.length_map, hal]
    refine codeAny_builtin PySem.F.entry_extend_loop ?_
    rw [Around.under_plainId PySem.F.plain_extend_loop _]
    show wpAny _ A.in1 (pyNext (.ref z) >>= _) _ _ _
    refine wpAny_bind (zt_turn D hS st (x := xs[i]) (y := ys[i]) (List.getElem?_eq_getElem hlt) (List.getElem?_eq_getElem (by omega)) (Heap.lt_size hL) fun s' hn' st' hk' => ?_)
    have hS' := hk' _ hL
    show wpAny _ A.in1 (updateSeq S (·.push (Value.ref s.heap.objs.size)) >>= _) _ _ _
    refine wpAny_bind ?_
    have up : ∀ c o, c ≠ S → s'.heap.get? c = some o → (s'.heap.update S (Obj.mapSeq (·.push (Value.ref s.heap.objs.size)))).get? c = some o := fun c o hb e => (Heap.get?_update_other _ _ (Ne.symm hb)).trans e
    have sn : Same H (upd H s.heap.objs.size (.tup [xs[i], ys[i]])) := same_upd hn'
    refine wpAny_updateSeq hS' rfl (wpAny_pure ⟨plainId_quiet PySem.F.plain_extend_loop _, ih (i + 1) _ _ (acc.push (Value.ref s.heap.objs.size)) _ (as ++ [s.heap.objs.size]) (by omega) hlt (sm.trans sn) ?_ (Heap.get?_update_self _ hS' rfl) (by rw [List.length_append, hal]; rfl) ⟨by rw [Array.toList_push, hG.eq, List.map_append]; rfl, fun j q hj => ?_⟩⟩) (by rw [hsz]; omega) (by show (acc.push (Value.ref s.heap.objs.size)).size ≤ sizeLine + 1; rw [Array.size_push, hsz]; omega)
    · obtain ⟨I, la, lb, fp, hd, ti, ⟨x0, y0, hTO⟩, h1, h2⟩ := st'
      refine ⟨I.turnedL (t' := s'.toks) (ch := [S]) (fun c o hb q => up c o (fun q' => hb (by simp [q'])) q) (fun c hc => fp c (by rw [List.mem_singleton.mp hc]; simp)), la, lb, fp, ?_, up _ _ cS.2.1.symm ti, ⟨_, _, up _ _ cS.2.2.1.symm hTO⟩, h1.at fun o e => up _ o cS.2.2.2.1.symm e, h2.at fun o e => up _ o cS.2.2.2.2.symm e⟩
      exact hd.imp (fun q => up _ _ cS.1.symm q) fun ⟨T, f, ps, q, r⟩ => ⟨T, f, ps, up _ _ cS.1.symm q, r⟩
    · rcases Nat.lt_trichotomy j as.length with h1 | h1 | h1
      · rw [List.getElem?_append_left h1] at hj
        obtain ⟨x, y, e1, e2, e3⟩ := hG.at_ j q hj
        exact ⟨x, y, e1, e2, sn _ _ e3⟩
      · subst h1
        have hb : s.heap.objs.size = q := by simpa using hj
        subst hb
        exact ⟨xs[i], ys[i], by rw [hal]; exact List.getElem?_eq_getElem hlt, by rw [hal]; exact List.getElem?_eq_getElem (by omega), upd_same⟩
      · have hnone : (as ++ [s.heap.objs.size])[j]? = none := List.getElem?_eq_none (by rw [List.length_append, List.length_singleton]; omega)
        rw [hnone] at hj
        cases hj
/-- what a zip of two lists gives when it is collected -/
structure ZNew (H H' : Hp) (xs ys : List V) (as : List Addr) : Prop where
  same : Same H H'
  len : as.length = xs.length
  at_ : ∀ (j : Nat) (q : Addr), as[j]? = some q → ∃ x y, xs[j]? = some x ∧ ys[j]? = some y ∧ H' q = some (.tup [x, y])
/-- a zip that stands fresh -/
structure ZFr (X : Cx) (pins : List (Addr × Obj)) (σ : L2.St) (H : Hp) (s : Shared) (a b z TI TO i1 i2 : Addr) (xs ys : List V) : Prop where
  inv : Inv X pins σ H s
  la : SqL X.K H a xs
  lb : SqL X.K H b ys
  fp : ∀ c ∈ [z, TI, TO, i1, i2], FpOk X pins H c
  hz : IsZip s.heap z TI TO .none
  ti : IsPair s.heap TI (.ref i1) (.ref i2)
  to : ∃ x y, IsPair s.heap TO x y
  h1 : s.heap.IsListIter i1 a 0
  h2 : s.heap.IsListIter i2 b 0
theorem zt_collect {s : Shared} {H : Hp} {E : Value → Shared → Prop} {Q : List Value → Shared → Prop} (hh : A.handled = none) (D : ZipApart z TI TO i1 i2 a b) (hl : xs.length = ys.length) (hn : xs.length ≤ sizeLine)
    (Z : ZFr X pins σ H s a b z TI TO i1 i2 xs ys)
    (hQ : ∀ s' H' as, Inv X pins σ H' s' → ZNew H H' xs ys as → Q (as.map Value.ref) s') : wpAny (model X.prog X.w) A (collect (.ref z)) Q E s := by
  obtain ⟨I, la, lb, fp, hz, ti, ⟨x0, y0, hTO⟩, h1, h2⟩ := Z
  have lz := Heap.lt_size hz
  have l1 := Heap.lt_size ti
  have l2 := Heap.lt_size hTO
  have l3 : i1 < s.heap.objs.size := let ⟨_, q, _⟩ := h1; Heap.lt_size q
  have l4 : i2 < s.heap.objs.size := let ⟨_, q, _⟩ := h2; Heap.lt_size q
  have cS : s.heap.objs.size ∉ [z, TI, TO, i1, i2] := by simpa using ⟨Nat.ne_of_gt lz, Nat.ne_of_gt l1, Nat.ne_of_gt l2, Nat.ne_of_gt l3, Nat.ne_of_gt l4⟩
  have fS := I.fpOk (H' := H) (b := s.heap.objs.size) (Nat.le_refl _) (I.hok.fresh (Nat.le_refl _))
  unfold collect
  refine wpAny_bind (wpAny_runValue (codeAny_builtin PySem.F.entry_proto_collect ?_))
  rw [Around.under_plainId PySem.F.plain_proto_collect _]
  show wpAny _ A.in1 (newList [] >>= fun l => again (.builtin "list.__iadd__" ⟨[l, .ref z], []⟩)) _ _ s
  refine wpAny_bind (wpAny_newObj_type ?_)
  refine wpAny_pure ⟨plainId_quiet PySem.F.plain_list_iadd _, codeAny_builtin PySem.F.entry_list_iadd ?_⟩
  rw [Around.under_plainId PySem.F.plain_list_iadd _]
  have k0 : ∀ b o, s.heap.get? b = some o → (s.heap.push { cls := .type "list", data := .seq ([] : List Value).toArray }).get? b = some o := fun b o e => Heap.get?_push_of_some _ e
  have I1 : Inv X pins σ H { s with heap := s.heap.push { cls := .type "list", data := .seq ([] : List Value).toArray } } := I.kept (t' := s.toks) k0
  have hT1 : ({ s with heap := s.heap.push { cls := .type "list", data := .seq ([] : List Value).toArray } } : Shared).TypeIs (.ref z) "zip" := ⟨_, k0 _ _ hz, rfl⟩
  show wpAny _ A.in1 (Builtin.List.listExtendWith (.ref s.heap.objs.size) (.ref z) (.ref s.heap.objs.size)) _ _ _
  unfold Builtin.List.listExtendWith
  refine wpAny_bind (wpAny_typeOf hT1 ?_)
  have h1' : Builtin.List.listSameRef (.ref s.heap.objs.size) (.ref z) = false := by simp [Builtin.List.listSameRef, Nat.ne_of_gt lz]
  have h2' : (Value.type "zip" == Value.type "list") = false := by decide
  have h3' : (Value.type "zip" == Value.type "tuple") = false := by decide
  simp only [h1', h2', h3', Bool.or_false, Bool.false_eq_true, if_false]
  refine wpAny_bind (wpAny_pyIter_zip (k0 _ _ hz) ?_)
  refine wpAny_bind (wpAny_holding ?_)
  unfold Builtin.List.listLengthHint
  refine wpAny_bind (wpAny_specialOf hT1 zt_nolen ?_)
  show wpAny _ A.in1 (specialOf (Value.ref z) (Str.ofString "__length_hint__") >>= _) _ _ _
  refine wpAny_bind (wpAny_specialOf hT1 zt_nohint ?_)
  refine wpAny_pure ?_
  show wpAny _ A.in1 (rule "list.extend.makes-room" >>= fun _ => Builtin.List.listTouch (.ref s.heap.objs.size) >>= fun _ =>
    again (.builtin "list.extend.loop" ⟨[.ref s.heap.objs.size, .ref z, .ref s.heap.objs.size], []⟩)) _ _ _
  refine wpAny_bind (wpAny_rule ?_)
  have hS₁ : (s.heap.push { cls := .type "list", data := .seq ([] : List Value).toArray }).get? s.heap.objs.size = some { cls := .type "list", data := .seq ([] : List Value).toArray } := Heap.get?_push_size _ rfl
  refine wpAny_bind ?_
  show wpAny _ A.in1 (updateSeq s.heap.objs.size (·.push .none) >>= fun _ => updateSeq s.heap.objs.size (·.pop)) _ _ _
  refine wpAny_bind (wpAny_updateSeq hS₁ rfl ?_)
  have hS₂ := Heap.get?_update_self (Obj.mapSeq (·.push Value.none)) hS₁ rfl
  refine wpAny_updateSeq hS₂ rfl ?_
  have hS₃ := Heap.get?_update_self (Obj.mapSeq (·.pop)) hS₂ rfl
  have oth : ∀ b o, b ≠ s.heap.objs.size → (s.heap.push { cls := .type "list", data := .seq ([] : List Value).toArray }).get? b = some o →
      (((s.heap.push { cls := .type "list", data := .seq ([] : List Value).toArray }).update s.heap.objs.size (Obj.mapSeq (·.push Value.none))).update s.heap.objs.size (Obj.mapSeq (·.pop))).get? b = some o :=
    fun b o hb e => (Heap.get?_update_other _ _ (Ne.symm hb)).trans ((Heap.get?_update_other _ _ (Ne.symm hb)).trans e)
  have I3 : Inv X pins σ H { s with heap := ((s.heap.push { cls := .type "list", data := .seq ([] : List Value).toArray }).update s.heap.objs.size (Obj.mapSeq (·.push Value.none))).update s.heap.objs.size (Obj.mapSeq (·.pop)) } :=
    Inv.turnedL (s := { s with heap := s.heap.push { cls := .type "list", data := .seq ([] : List Value).toArray } }) I1 (t' := s.toks) (ch := [s.heap.objs.size]) (fun c o hb q => oth c o (fun q' => hb (by simp [q'])) q) (fun c hc => by rw [List.mem_singleton.mp hc]; exact fS)
  have all : ∀ b o, b ≠ s.heap.objs.size → s.heap.get? b = some o → _ := fun b o hb e => oth b o hb (k0 b o e)
  refine wpAny_pure ⟨plainId_quiet PySem.F.plain_extend_loop _, zt_loop (X := X) (pins := pins) (σ := σ) (H0 := H) (A := A) (S := s.heap.objs.size) (xs := xs) (ys := ys) hh D cS hl hn (fun s' H' as acc c I' sm hal hG hL hF => ?_) xs.length 0 _ H _ _ [] (Nat.sub_zero _) (Nat.zero_le _) (fun _ _ e => e) ?_ hS₃ rfl ⟨rfl, fun j q hj => by simp at hj⟩⟩
  · show wpAny _ A (load s.heap.objs.size >>= _) _ _ s'
    refine wpAny_bind (wpAny_load hL ?_)
    refine wpAny_pure ?_
    show Q acc.toList s'
    rw [hG.eq]
    exact hQ s' H' as I' ⟨sm, hal, hG.at_⟩
  · refine ⟨I3, la, lb, fun c hc => ?_, .inl (all _ _ (Nat.ne_of_lt lz) hz), all _ _ (Nat.ne_of_lt l1) ti, ⟨_, _, all _ _ (Nat.ne_of_lt l2) hTO⟩, h1.at fun o e => all _ o (Nat.ne_of_lt l3) e, h2.at fun o e => all _ o (Nat.ne_of_lt l4) e⟩
    rcases List.mem_cons.mp hc with rfl | hc
    · exact fS
    · exact fp c hc
theorem zt_code {s : Shared} {H : Hp} {E : Value → Shared → Prop} {Q₁ : Value → Shared → Prop} (hh : A.handled = none) (D : ZipApart z TI TO i1 i2 a b) (hl : xs.length = ys.length) (hn : xs.length ≤ sizeLine)
    (Z : ZFr X pins σ H s a b z TI TO i1 i2 xs ys)
    (h : ∀ s' H' as, Inv X pins σ H' s' → ZNew H H' xs ys as → Q₁ (.ref s'.heap.objs.size) { s' with heap := s'.heap.push { cls := .type "tuple", data := .seq (as.map Value.ref).toArray } }) :
    codeAny (model X.prog X.w) A (.call (.builtin "tuple.__new__") ⟨[.type "tuple", .ref z], []⟩) (wants Q₁ E) s := by
  refine codeAny_of_tree ?_
  show wpAny _ A.in1 (do checkBuiltinCall "tuple.__new__" ⟨[.type "tuple", .ref z], []⟩; again (.builtin "tuple.__new__" ⟨[.type "tuple", .ref z], []⟩)) _ _ s
  refine wpAny_bind (wpAny_of_eq (PySem.F.newCall_tuple_1 _) (wpAny_pure ⟨plainId_quiet PySem.F.plain_tuple_new _, codeAny_builtin PySem.F.entry_tuple_new ?_⟩))
  rw [Around.under_plainId PySem.F.plain_tuple_new _]
  have hsub := sub_tuple_self
  have hinit := init_tuple_lookup
  have hmh := madeHere_tuple
  have hTI : s.TypeIs (.ref z) "zip" := ⟨_, Z.hz, rfl⟩
  have hh1 : A.in1.handled = none := hh
  wp_walk using wpAny_typeOf hTI, zt_collect (A := A.in1) hh1 D hl hn Z
  intro s' H' as I' N
  show wpAny _ _ (Builtin.Tuple.tupleExact (as.map Value.ref).toArray >>= fun v => ret v) _ _ _
  unfold Builtin.Tuple.tupleExact
  refine wpAny_bind (wpAny_newObj_type ?_ (by show (as.map Value.ref).toArray.size ≤ sizeLine; rw [List.size_toArray, List.length_map, N.len]; exact hn))
  exact wpAny_pure (h s' H' as I' N)
theorem zt_call {s : Shared} {H : Hp} {E : Value → Shared → Prop} {Q : Value → Shared → Prop} (hh : A.handled = none) (D : ZipApart z TI TO i1 i2 a b) (hl : xs.length = ys.length) (hn : xs.length ≤ sizeLine)
    (Z : ZFr X pins σ H s a b z TI TO i1 i2 xs ys)
    (hQ : ∀ s' H' as, Inv X pins σ H' s' → ZNew H H' xs ys as → Q (.ref s'.heap.objs.size) { s' with heap := s'.heap.push { cls := .type "tuple", data := .seq (as.map Value.ref).toArray } }) :
    wpAny (model X.prog X.w) A (call (.type "tuple") [.ref z]) Q E s := by
  refine callType_codes (Q₁ := fun obj s₁ => s₁.TypeIs obj "tuple" ∧ Q obj s₁) PySem.F.called_tuple (PySem.F.typeCall_tuple_1 _) PySem.F.entry_object_init
    (zt_code (A := A.in1) hh D hl hn Z fun s' H' as I' N => ⟨⟨_, Heap.get?_push_size _ rfl, rfl⟩, hQ s' H' as I' N⟩) fun obj s₁ h₁ => ?_
  exact ⟨h₁.1, PySem.F.args_object_init_2 obj _, object_init_meets PySem.F.called_tuple.init.lookup PySem.F.called_tuple.made (by decide) X.prog X.w A.in1 _ s₁ ⟨h₁.1, rfl, h₁.2⟩⟩
end
def tTupZip (K : PySem.W.Frag) (ta : TA) : TE := fun σ H Q => ta σ H fun vs H1 => ∃ a b xs ys, vs = [.ref a, .ref b] ∧ SqL K H1 a xs ∧ SqL K H1 b ys ∧ xs.length = ys.length ∧ ∀ H2 as t, ZNew H1 H2 xs ys as → H2 t = none → Q (.ref t) (upd H2 t (.tup (as.map V.ref)))
theorem pe_tupZip {X : Cx} {e e2 : Expr} {ta : TA} {p p2 pos pos2 : Pos} (hc : X.calm = true) (hg : Gl X "tuple") (hm : X.mg "tuple" = none) (hg2 : Gl X "zip") (hm2 : X.mg "zip" = none) (ha : PA X [e, e2] ta)
    (hs : starEach [e, e2] X.env = (false, eval e X.env) :: starEach [e2] X.env := by rfl) (hpl : (backTo pos2 (starEach [e2] X.env)).any (·.1) = false := by rfl)
    (hs2 : starEach [.Call (.Name "zip" p2) [e, e2] [] pos2] X.env = (false, eval (.Call (.Name "zip" p2) [e, e2] [] pos2) X.env) :: starEach [] X.env := by rfl) :
    PE X (.Call (.Name "tuple" p) [.Call (.Name "zip" p2) [e, e2] [] pos2] [] pos) (tTupZip X.K ta) := by
  refine ⟨fun pins s σ H Q I h => ?_⟩
  refine Call_ (ld_blt I hg hm boot_tuple (PyProof.Rows.callWith_type1 (PyProof.Rows.args_cons (Call_ (ld_blt I hg2 hm2 PyProof.Rows.boot_zip (PyProof.Rows.callWith_type1 (thn (ha.run pos2 pins s σ H _ I h) fun us s1 ⟨vs, H1, I1, r1, q1⟩ => ?_) hs hpl))) hs2) hs2 rfl))
  obtain ⟨a, b, xs, ys, ex, hqx, hqy, hl, q⟩ := q1
  subst ex
  cases r1 with
  | cons r rr =>
    cases rr with
    | cons r' rr =>
      cases rr
      cases r
      cases r'
      have fresh5 : ∀ c, c ∈ [s1.heap.objs.size + 4, s1.heap.objs.size + 2, s1.heap.objs.size + 3, s1.heap.objs.size, s1.heap.objs.size + 1] → FpOk X pins H1 c := fun c hcm => by
        have e' : c = s1.heap.objs.size + 4 ∨ c = s1.heap.objs.size + 2 ∨ c = s1.heap.objs.size + 3 ∨ c = s1.heap.objs.size ∨ c = s1.heap.objs.size + 1 := by simpa using hcm
        have hle : s1.heap.objs.size ≤ c := by
          rcases e' with z | z | z | z | z
          · rw [z]; exact Nat.le_add_right _ _
          · rw [z]; exact Nat.le_add_right _ _
          · rw [z]; exact Nat.le_add_right _ _
          · rw [z]; exact Nat.le_refl _
          · rw [z]; exact Nat.le_add_right _ _
        exact I1.fpOk hle (I1.hok.fresh hle)
      obtain ⟨its, rv, p1, hz⟩ := I1.list hqx
      obtain ⟨its2, rv2, p3, _⟩ := I1.list hqy
      refine call_zip_2 p1.isList p3.isList fun h' hz' hTI hTO h1 h2 hsz hk => PyProof.Rows.args_nil ?_
      have I2 : Inv X pins σ H1 { s1 with heap := h' } := I1.kept (t' := s1.toks) hk
      refine zt_call (I1.ok.hd hc) (PySem.W.ktu_apart s1.heap.objs.size a b p1.lt p3.lt) hl hz ⟨I2, hqx, hqy, fresh5, hz', hTI, ⟨_, _, hTO⟩, h1, h2⟩ fun s' H' as I' N => ?_
      refine ⟨.ref s'.heap.objs.size, upd H' s'.heap.objs.size (.tup (as.map V.ref)), I'.laid (t' := s'.toks) (fun c o e => Heap.get?_push_of_some _ e) (Nat.le_refl _) (show ObjOk X.prog X.w _ _ _ (.tup (as.map V.ref)) from ⟨by rw [List.length_map, N.len]; exact hz, as.map Value.ref, ?_, IsTup.new _ _⟩), rfl, q _ _ _ N (I'.hok.fresh (Nat.le_refl _))⟩
      clear N
      induction as with
      | nil => exact .nil
      | cons c as ih => exact .cons rfl ih
theorem ap_tupZip {K : PySem.W.Frag} {ta : TA} {σ : L2.St} {H : Hp} {Q : VK} : tTupZip K ta σ H Q = ta σ H fun vs H1 => ∃ a b xs ys, vs = [.ref a, .ref b] ∧ SqL K H1 a xs ∧ SqL K H1 b ys ∧ xs.length = ys.length ∧ ∀ H2 as t, ZNew H1 H2 xs ys as → H2 t = none → Q (.ref t) (upd H2 t (.tup (as.map V.ref))) := rfl
section
variable {K : PySem.W.Frag} {H : Hp} {Q : VK} {σ : L2.St} {j : Nat} {te : TE} {vs : List Nat}
/-- Pre6's lc_tupV over a tuple that is read by SqT -/
theorem lc_tupVK {a : Addr} {xs : List V} (f : Nat → V) (hx : SqT K H a xs) (hn : xs.length < 1000000) (hw : ∀ x, wipe ((wipe σ vs).set j (some x)) vs = wipe σ vs)
    (he : ∀ (i : Nat) x H', xs[i]? = some x → Same H H' → ∀ Q' : VK, (∀ H'', Same H' H'' → Q' (f i) H'') → te ((wipe σ vs).set j (some x)) H' Q')
    (hq : ∀ p H', H p = none → Same H H' → H' p = some (.lst ((List.range xs.length).map f)) → Q (.ref p) H') :
    tLcIn (gName j) tYes te vs σ Q (Itt K a) H := fun Dl hD => by
  refine lc_tup (g := gName j) (xs := xs) (fun i H' => Same H H' ∧ H' Dl = some (.lst ((List.range i).map f))) ⟨same_upd hD, ?_⟩ (fun i H' hi hP => sqT_same hx hP.1) (fun i x H' hi hP => ?_) (fun H' hP => hq Dl H' hD hP.1 hP.2)
  · rw [upd_same]
    rfl
  · obtain ⟨sm, ed⟩ := hP
    have hl := (List.getElem?_eq_some_iff.mp hi).1
    refine ⟨hw _, he i x H' hi sm _ fun H'' sm' => ⟨_, sm' _ _ ed, sz (by simp; omega), same_mut (sm.trans sm') hD, ?_⟩⟩
    rw [upd_same, List.range_succ, List.map_append]
    simp
end
end Pr

namespace Pr
open PySem PySem.Spec PyProof.Rows L2
/-! {(..): v, ..}: a display with tuples of ints and texts as keys -/
def mergeT (kvs : List (List Key × V)) (more : List (List Key × V)) : List (List Key × V) := more.foldl (fun acc kv => putK acc kv.1 kv.2) kvs
abbrev PT : List (Addr × List Key × V) → List (List Key × Addr × Value) → Prop := Paired fun e x => e.2.1 = x.1 ∧ e.1 = x.2.1 ∧ RelV e.2.2 x.2.2
theorem mergeT_len : ∀ (more kvs : List (List Key × V)), (mergeT kvs more).length ≤ kvs.length + more.length
  | [], kvs => Nat.le_refl _
  | p :: r, kvs => by
    have h1 := mergeT_len r (putK kvs p.1 p.2)
    have h2 := length_putK kvs p.1 p.2
    show (mergeT (putK kvs p.1 p.2) r).length ≤ _
    rw [List.length_cons]
    omega
theorem pt_store {H : Hp} : ∀ {es : List (Addr × List Key × V)} {ps : List (List Key × Addr × Value)} {kvs : List (List Key × V)} {xs : List (List Key × Addr × Value)}, PT es ps → (∀ e ∈ es, H e.1 = some (.tup (e.2.1.map kV))) → KT H kvs xs →
    KT H (mergeT kvs (es.map (·.2))) (storedAllH xs ps)
  | [], [], kvs, xs, _, _, r => r
  | e :: es, x :: ps, kvs, xs, .cons h t, k, r => by
    obtain ⟨h1, h2, h3⟩ := h
    have r2 : KT H (putK kvs e.2.1 e.2.2) (storedH xs x.1 x.2.1 x.2.2) := by
      rw [← h1, ← h2]
      exact r.put e.2.1 (k e List.mem_cons_self) h3
    have r3 := pt_store (es := es) (ps := ps) t (fun e he => k e (List.mem_cons_of_mem _ he)) r2
    exact r3
theorem pt_carries {P : Program} {w : World} {H : Hp} {h : Heap} (ok : HOk P w H h) : ∀ {es : List (Addr × List Key × V)} {ws : List (Value × Value)}, VV (es.map fun e => (V.ref e.1, e.2.2)) ws → (∀ e ∈ es, H e.1 = some (.tup (e.2.1.map kV))) →
    ∃ ps, CarriesH (tupleKind (mixKind P w)) h ws ps ∧ PT es ps
  | [], _, r, _ => by
    rw [List.map_nil] at r
    cases r
    exact ⟨[], True.intro, .nil⟩
  | e :: es, _, r, k => by
    rw [List.map_cons] at r
    cases r with
    | @cons a b as bs h1 t =>
      obtain ⟨ps, c, q⟩ := pt_carries ok t (fun e he => k e (List.mem_cons_of_mem _ he))
      obtain ⟨b1, b2⟩ := b
      have e1 : b1 = Value.ref e.1 := h1.1
      subst e1
      exact ⟨(e.2.1, e.1, b2) :: ps, ⟨rfl, rfl, key_of ok (k e List.mem_cons_self), c⟩, .cons ⟨rfl, rfl, h1.2⟩ q⟩
def tDispT (trs : List (TE × TE)) : TE := fun σ H Q => ∀ p, H p = none → tPairs trs σ (upd H p (.dT [])) fun ps H2 => H2 p = some (.dT []) ∧ ∃ es : List (Addr × List Key × V), ps = es.map (fun e => (V.ref e.1, e.2.2)) ∧ (∀ e ∈ es, H2 e.1 = some (.tup (e.2.1.map kV))) ∧ es.length ≤ 15 ∧
  Q (.ref p) (upd H2 p (.dT (mergeT [] (es.map (·.2)))))
theorem pe_dispT {X : Cx} {pos : Pos} {keys : List (Option Expr)} {values : List Expr} {trs : List (TE × TE)} (hu : X.A.units + 1 < cLine) (h : PPs X pos keys values trs) (hall : keys.all (·.isSome) = true) (hl : keys.length = values.length) (h0 : keys ≠ [])
    (h15 : keys.length ≤ 15) : PE X (.Dict keys values pos) (tDispT trs) := by
  refine ⟨fun pins s σ H Q I q => ?_⟩
  have hn := I.hok.fresh (Nat.le_refl s.heap.objs.size)
  have I1 := I.laid (a := s.heap.objs.size) (o := .dT []) (h' := s.heap.push { cls := .type "dict", data := .dict #[] }) (t' := s.toks) (fun _ _ q => Heap.get?_push_of_some _ q) (Nat.le_refl _) (dt_empty s.heap I.big)
  refine wpAny_Dict_any hall hl h0 h15 (thn (h.run pins _ σ _ _ I1 (q _ hn)) fun ws s2 ⟨ps, H2, I2, rel, e, es, ep, ek, lk, q2⟩ => ?_)
  subst ep
  obtain ⟨psH, c, pt⟩ := pt_carries I2.hok rel ek
  obtain ⟨z, hd, xs0, r0, dd⟩ := dt_of I2.hok e
  cases r0
  have lp : psH.length = es.length := (Paired.length pt).symm
  refine wpAny_storeAllH (knd := tupleKind (mixKind X.prog X.w)) ?_ ws psH [] s2 _ c dd (by rw [List.length_nil, lp, sizeLine_eq]; omega) fun h' tk dd' hs => ⟨.ref s.heap.objs.size, _, ?_, rfl, q2⟩
  · exact Nat.lt_of_succ_lt hu
  · obtain ⟨o, es', ep', hq, h2, h3, h4, _, h5⟩ := dd'
    have hz : (mergeT [] (es.map (·.2))).length ≤ sizeLine := by
      have h1 := mergeT_len (es.map (·.2)) []
      rw [List.length_nil, List.length_map] at h1
      rw [sizeLine_eq]
      omega
    refine d_write I2 (by rw [e]; exact True.intro) hs ⟨o, hq⟩ ⟨hz, hd, _, (pt_store pt ek .nil).keeps fun c ys ec => ?_, o, es', ep', hq, h2, h3, h4, h5⟩
    rw [upd_ne (ne_of ec e (fun z => nomatch z))]
    exact ec
/-! a written dict of the module with whole numbers as keys, its values read by any reader -/
def dictG {α : Type} (rd : Addr → Option α) (K : PySem.W.Frag) (a : Addr) : Option (List (Int × α)) := match K.lookup a with
  | some ⟨.type "dict", none, .dict es _, ⟨[]⟩⟩ => listO (fun e => match e with
    | ⟨h, .int i _, .ref t⟩ => if h = hashInt i then (match rd t with
      | some rs => some (i, rs)
      | none => none) else none
    | _ => none) es.toList
  | _ => none
theorem dictG_at {α : Type} {rd : Addr → Option α} {K : PySem.W.Frag} {p : Addr} {l : List (Int × α)} (h : dictG rd K p = some l) {i : Int} {nss : α} (hf : l.find? (fun q => q.1 == i) = some (i, nss)) : ∃ t, KInt K p i t ∧ rd t = some nss := by
  unfold dictG at h
  split at h
  · rename_i es n e
    obtain ⟨es⟩ := es
    obtain ⟨h1, h2⟩ := listO_at h
    have keys : ∀ d ∈ es, ∃ j u t rs, d = ⟨hashInt j, .int j u, .ref t⟩ ∧ rd t = some rs := fun d hd => by
      obtain ⟨k, hk, rfl⟩ := List.getElem_of_mem hd
      obtain ⟨y, _, a2⟩ := h2 k _ (List.getElem?_eq_getElem hk)
      generalize es[k] = d at a2 ⊢
      split at a2
      · rename_i hh j u t
        split at a2
        · rename_i eh
          subst eh
          split at a2
          · rename_i rs er
            exact ⟨j, u, t, rs, rfl, er⟩
          · cases a2
        · cases a2
      · cases a2
    have fnd : ∀ {es : List DictEntry} {l : List (Int × α)}, listO (fun e : DictEntry => match e with
        | ⟨h, .int i _, .ref t⟩ => if h = hashInt i then (match rd t with
          | some rs => some (i, rs)
          | none => none) else none
        | _ => none) es = some l → l.find? (fun q => q.1 == i) = some (i, nss) → ∃ t d, es.find? (fun e => Value.isInt i e.key) = some d ∧ d.val = .ref t ∧ rd t = some nss := by
      intro es
      induction es with
      | nil =>
        intro l h hf
        cases h
        cases hf
      | cons d es ih =>
        intro l h hf
        obtain ⟨q1, q2⟩ := listO_at h
        obtain ⟨y, a1, a2⟩ := q2 0 d rfl
        have hd : ∃ j u t rs, d = ⟨hashInt j, .int j u, .ref t⟩ ∧ rd t = some rs ∧ y = (j, rs) := by
          split at a2
          · rename_i hh j u t
            split at a2
            · rename_i eh
              subst eh
              split at a2
              · rename_i rs er
                cases a2
                exact ⟨j, u, t, rs, rfl, er, rfl⟩
              · cases a2
            · cases a2
          · cases a2
        obtain ⟨j, u, t, rs, rfl, er, rfl⟩ := hd
        have h0 := h
        unfold listO at h0
        split at h0
        · cases h0
        · rename_i y' ey
          split at h0
          · cases h0
          · rename_i s es'
            cases h0
            cases a1
            by_cases c : j = i
            · subst c
              rw [List.find?_cons_of_pos (by simp)] at hf
              cases hf
              exact ⟨t, _, by rw [List.find?_cons_of_pos (by simp [Value.isInt])], rfl, er⟩
            · rw [List.find?_cons_of_neg (by simpa using c)] at hf
              obtain ⟨t', d', f1, f2, f3⟩ := ih es' hf
              exact ⟨t', d', by rw [List.find?_cons_of_neg (by simpa [Value.isInt] using c)]; exact f1, f2, f3⟩
    obtain ⟨t, d, f1, f2, f3⟩ := fnd h hf
    refine ⟨t, ⟨⟨es⟩, n, e, fun d hd => ?_, ?_⟩, f3⟩
    · obtain ⟨j, u, t, rs, rfl, _⟩ := keys d hd
      exact ⟨j, u, rfl, rfl⟩
    · unfold findBy
      rw [List.find?_toArray, f1]
      exact congrArg some f2
  · cases h
/-- tuples of pairs (a tuple of whole numbers, a whole number) -/
def intsK (K : PySem.W.Frag) (a : Addr) : Option (List Int) := match tupK K a with
  | some us => listO intOf us
  | none => none
def pairK (K : PySem.W.Frag) (v : Value) : Option (List Int × Int) := match v with
  | .ref r => (match tupK K r with
    | some [.ref k, .int n _] => (match intsK K k with
      | some ks => some (ks, n)
      | none => none)
    | _ => none)
  | _ => none
def pairsK0 (K : PySem.W.Frag) (a : Addr) : Option (List (List Int × Int)) := match tupK K a with
  | some vs => listO (pairK K) vs
  | none => none
/-- a tuple without a dict of its own -/
def PlainT (K : PySem.W.Frag) (a : Addr) : Prop := ∃ (o : Obj) (its : Array Value) (n : Nat), K.lookup a = some o ∧ o.cls = .type "tuple" ∧ o.dict = none ∧ o.data = .seq its n
def pairsK (K : PySem.W.Frag) (a : Addr) : Option (List (List Int × Int)) := match K.lookup a with
  | some ⟨.type "tuple", none, .seq _ _, _⟩ => pairsK0 K a
  | _ => none
def dictP (K : PySem.W.Frag) (a : Addr) : Option (List (Int × List (List Int × Int))) := dictG (pairsK K) K a
/-- such a tuple, read by SqT -/
def PairsKt (K : PySem.W.Frag) (H : Hp) (t : Addr) (l : List (List Int × Int)) : Prop := PlainT K t ∧ ∃ rs : List Addr, SqT K H t (rs.map V.ref) ∧ rs.length = l.length ∧
  ∀ (i : Nat) (r : Addr) (q : List Int × Int), rs[i]? = some r → l[i]? = some q → ∃ k, SqT K H r [.ref k, .int q.2] ∧ SqT K H k (q.1.map V.int)
theorem intsK_at {K : PySem.W.Frag} {a : Addr} {ns : List Int} (h : intsK K a = some ns) (H : Hp) : SqT K H a (ns.map V.int) := by
  unfold intsK at h
  split at h
  · rename_i us e
    exact tupK_sq e (vals_intO h) H
  · cases h
theorem pairK_at {K : PySem.W.Frag} {v : Value} {q : List Int × Int} (h : pairK K v = some q) : ∃ r, v = .ref r ∧ ∀ H, ∃ k, SqT K H r [.ref k, .int q.2] ∧ SqT K H k (q.1.map V.int) := by
  unfold pairK at h
  split at h
  · rename_i r
    split at h
    · rename_i k n u e
      split at h
      · rename_i ks e2
        cases h
        exact ⟨r, rfl, fun H => ⟨k, tupK_sq (xs := [V.ref k, V.int n]) e (.cons rfl (.cons ⟨_, rfl⟩ .nil)) H, intsK_at e2 H⟩⟩
      · cases h
    · cases h
  · cases h
theorem pairsK0_at {K : PySem.W.Frag} {a : Addr} {vs : List Value} {l : List (List Int × Int)} (e : tupK K a = some vs) (h : listO (pairK K) vs = some l) (H : Hp) : ∃ rs : List Addr, SqT K H a (rs.map V.ref) ∧ rs.length = l.length ∧
  ∀ (i : Nat) (r : Addr) (q : List Int × Int), rs[i]? = some r → l[i]? = some q → ∃ k, SqT K H r [.ref k, .int q.2] ∧ SqT K H k (q.1.map V.int) := by
    obtain ⟨h1, h2⟩ := listO_at h
    obtain ⟨rs, hrs⟩ : ∃ rs : List Addr, vs = rs.map Value.ref := by
      have isr : ∀ v ∈ vs, ∃ r, v = Value.ref r := fun v hv => by
        obtain ⟨i, hi, rfl⟩ := List.getElem_of_mem hv
        obtain ⟨y, _, a2⟩ := h2 i _ (List.getElem?_eq_getElem hi)
        obtain ⟨r, er, _⟩ := pairK_at a2
        exact ⟨r, er⟩
      clear h h1 h2 e
      induction vs with
      | nil => exact ⟨[], rfl⟩
      | cons v vs ih =>
        obtain ⟨rs, e⟩ := ih fun v hv => isr v (List.mem_cons_of_mem _ hv)
        obtain ⟨r, e2⟩ := isr v List.mem_cons_self
        exact ⟨r :: rs, by rw [e, e2]; rfl⟩
    subst hrs
    refine ⟨rs, tupK_sq e ?_ H, by rw [← h1, List.length_map], fun i r q e1 e2 => ?_⟩
    · clear h h1 h2 e
      induction rs with
      | nil => exact .nil
      | cons r rs ih => exact .cons rfl ih
    · obtain ⟨y, a1, a2⟩ := h2 i (Value.ref r) (by rw [List.getElem?_map, e1]; rfl)
      rw [e2] at a1
      cases a1
      obtain ⟨r', er, hk⟩ := pairK_at a2
      cases er
      exact hk H
theorem pairsK_at {K : PySem.W.Frag} {a : Addr} {l : List (List Int × Int)} (h : pairsK K a = some l) (H : Hp) : PairsKt K H a l := by
  unfold pairsK at h
  split at h
  · rename_i its n sl eo
    refine ⟨⟨_, its, n, eo, rfl, rfl, rfl⟩, ?_⟩
    clear eo
    unfold pairsK0 at h
    split at h
    · rename_i vs e
      exact pairsK0_at e h H
    · cases h
  · cases h
end Pr

namespace Pr
open PySem PySem.Spec PyProof.Rows L2
/-! readings of displays -/
theorem ap_disp {trs : List (TE × TE)} {σ : L2.St} {H : Hp} {Q : VK} : tDisp trs σ H Q = ∀ p, H p = none → tPairs trs σ (upd H p (.dK [])) fun ps H2 => H2 p = some (.dK []) ∧ ∃ kvs : List (Key × V), ps = kvs.map (fun kv => (kV kv.1, kv.2)) ∧ kvs.length ≤ 15 ∧ Q (.ref p) (upd H2 p (.dK (mergeK [] kvs))) := rfl
theorem ap_dispT {trs : List (TE × TE)} {σ : L2.St} {H : Hp} {Q : VK} : tDispT trs σ H Q = ∀ p, H p = none → tPairs trs σ (upd H p (.dT [])) fun ps H2 => H2 p = some (.dT []) ∧ ∃ es : List (Addr × List Key × V), ps = es.map (fun e => (V.ref e.1, e.2.2)) ∧ (∀ e ∈ es, H2 e.1 = some (.tup (e.2.1.map kV))) ∧ es.length ≤ 15 ∧
  Q (.ref p) (upd H2 p (.dT (mergeT [] (es.map (·.2))))) := rfl
theorem ap_pairs0 {σ : L2.St} {H : Hp} {Q : List (V × V) → Hp → Prop} : tPairs [] σ H Q = Q [] H := rfl
theorem ap_pairsC {tk tv : TE} {r : List (TE × TE)} {σ : L2.St} {H : Hp} {Q : List (V × V) → Hp → Prop} : tPairs ((tk, tv) :: r) σ H Q = tk σ H fun x H1 => tv σ H1 fun y H2 => tPairs r σ H2 fun ps H3 => Q ((x, y) :: ps) H3 := rfl
theorem ap_dget {td ty : TE} {σ : L2.St} {H : Hp} {Q : VK} : tDGet td ty σ H Q = td σ H fun x H1 => ty σ H1 fun y H2 => ∃ a v, x = .ref a ∧ DGet H2 a y (some v) ∧ Q v H2 := rfl
theorem hu_of8 {A : Around} (hr : A.units + 64 < cLine) : A.units + 1 < cLine := by omega
end Pr

namespace Pr
open PySem PySem.Spec PyProof.Rows L2
/-! dicts with tuples as keys: equal ones, dict(pairs), their items; zip of a list and a tuple -/
section
variable {prog : Program} {w : World} {K : Type} [DecidableEq K] {knd : HeapKind prog w K} {A : Around} {E : Value → Shared → Prop} {s : Shared}
theorem same_dictsH {nm : String} {a b : Addr} {xs ys : List (K × Addr × Value)} {Q : Bool → Shared → Prop} (ha : (a == sysModules) = false) (hb : (b == sysModules) = false) (hu : knd.room A)
    (da : s.heap.DictOfH knd a xs) (db : s.heap.DictOfH knd b ys) (hl : xs.length = ys.length) (all : ∀ x ∈ xs, ∃ q, (x.1, q) ∈ ys ∧ SeqAt.EqAt A s x.2.2 q.2 true) (h : Q true s) :
    wpAny (model prog w) A (Builtin.Dict.samePairs nm a b) Q E s := by
  obtain ⟨oa, es, ep, hoa, _, hda, hea, hisa, hna⟩ := da
  obtain ⟨ob, es', ep', hob, _, hdb, heb, hisb, hnb⟩ := db
  have hla := size_of_entries hea
  have hlb := size_of_entries heb
  have hsz : es.size = es'.size := by rw [hla, hlb, hl]
  unfold Builtin.Dict.samePairs Builtin.Dict.showsAll
  rw [if_neg (show ¬ (a == sysModules) = true by rw [ha]; exact Bool.false_ne_true), if_neg (show ¬ (b == sysModules) = true by rw [hb]; exact Bool.false_ne_true)]
  refine wpAny_bind (wpAny_pure (wpAny_bind (wpAny_pure ?_)))
  refine wpAny_bind (wpAny_dictEntries hoa hda ?_)
  dsimp only
  refine wpAny_bind (wpAny_dictEntries hob hdb ?_)
  rw [if_neg (by rw [hsz]; simp)]
  refine wpAny_bind (wpAny_dictEpoch hoa hda ?_)
  refine wpAny_bind ?_
  rw [Std.Legacy.Range.forIn_eq_forIn_range']
  simp only [Std.Legacy.Range.size, Nat.sub_zero, Nat.add_sub_cancel, Nat.div_one]
  refine wpAny_forIn_list _ (fun rest q s' => s' = s ∧ q = (none, ()) ∧ ∃ i, rest = List.range' i (es.size - i) ∧ i ≤ es.size) _ ?_ ?_ _ _ ⟨rfl, rfl, 0, by simp, Nat.zero_le _⟩
  · rintro x rest q s' ⟨rfl, rfl, i, hr, hi⟩
    have hlt : i < es.size := by
      rcases Nat.lt_or_ge i es.size with h | h
      · exact h
      · rw [Nat.sub_eq_zero_of_le h] at hr; simp at hr
    obtain ⟨rfl, hrest⟩ : x = i ∧ rest = List.range' (i + 1) (es.size - (i + 1)) := by
      have e : es.size - i = (es.size - (i + 1)) + 1 := by omega
      rw [e, List.range'_succ] at hr
      injection hr with h1 h2
      exact ⟨h1, h2⟩
    have hlt' : x < xs.length := by rw [← hla]; exact hlt
    refine wpAny_bind (wpAny_dictEntries hoa hda ?_)
    have een : es[x]? = some (entryOfKey knd xs[x]) := by rw [entry_at hea x, List.getElem?_eq_getElem hlt']; rfl
    rw [een]
    have hm : xs[x] ∈ xs := List.getElem_mem hlt'
    generalize xs[x] = t at een hm ⊢
    obtain ⟨q, hq, he⟩ := all t hm
    obtain ⟨j, hj⟩ := List.mem_iff_getElem?.mp hq
    show wpAny _ _ (holding [Value.ref t.2.1, t.2.2] _ >>= _) _ _ _
    refine wpAny_bind (wpAny_holding (wpAny_bind (wpAny_dictFind_heap hu (hisa t hm) hob hdb heb hisb hnb (fun hno => absurd hj (hno j q)) fun j' p hj' => ?_)))
    have epq : p = q := by
      have e1 : (ys.map (·.1))[j]? = some t.1 := by rw [List.getElem?_map, hj]; rfl
      have e2 : (ys.map (·.1))[j']? = some t.1 := by rw [List.getElem?_map, hj']; rfl
      have ej : j = j' := (List.getElem?_inj (List.getElem?_eq_some_iff.mp e1).1 hnb).mp (e1.trans e2.symm)
      subst ej
      rw [hj] at hj'
      cases hj'
      rfl
    subst epq
    refine wpAny_bind (wpAny_dictEntries hob hdb ?_)
    rw [entry_at heb j', hj']
    refine wpAny_holding (he prog w _ _ ?_)
    show wpAny _ _ (if (!true) = true then _ else _) _ _ _
    rw [if_neg (by decide)]
    refine wpAny_bind (wpAny_dictEpoch hoa hda ?_)
    rw [if_neg (by simp)]
    exact wpAny_pure ⟨rfl, rfl, x + 1, hrest, hlt⟩
  · rintro q s' ⟨rfl, rfl, i, hr, hi⟩
    exact wpAny_pure h
theorem ne_dictsH {a b : Addr} {xs ys : List (K × Addr × Value)} {Q : Value → Shared → Prop} (ha : (a == sysModules) = false) (hb : (b == sysModules) = false) (hk : knd.room A.in1)
    (da : s.heap.DictOfH knd a xs) (db : s.heap.DictOfH knd b ys) (hu : A.units < cLine) (hl : xs.length = ys.length) (all : ∀ x ∈ xs, ∃ q, (x.1, q) ∈ ys ∧ SeqAt.EqAt A.in1 s x.2.2 q.2 true) (h : Q (.bool false) s) :
    wpAny (model prog w) A (compareOp .NotEq (.ref a) (.ref b)) Q E s := by
  refine wpAny_richCompare_same_room (op := .NotEq) da.typeIs db.typeIs PySem.F.slot_dict_ne (wpAny_call_entry PySem.F.slot_dict_ne da.typeIs PySem.F.entry_dict_ne ?_ (PySem.F.args_dict_ne_2 _ _)) hu
  show wpAny _ _ (Builtin.Dict.dictSlotArgs "__ne__" ⟨[.ref a, .ref b], []⟩ >>= _) _ _ s
  refine wpAny_bind ?_
  unfold Builtin.Dict.dictSlotArgs
  refine wpAny_bind (wpAny_notOrdered_dict da.typeIs ?_)
  show wpAny _ _ (pure (Value.ref a, Value.ref b)) _ _ s
  refine wpAny_pure ?_
  refine wpAny_bind (wpAny_isInstance (T := "dict") db.typeIs PySem.F.sub_dict_dict ?_)
  simp only [Bool.not_true, Bool.false_eq_true, if_false]
  refine wpAny_bind (wpAny_pure (wpAny_bind (wpAny_pure ?_)))
  refine wpAny_bind (same_dictsH ha hb hk da db hl all ?_)
  refine wpAny_pure ⟨_, rfl, ?_, ?_⟩
  · exact fun x => nomatch x
  · simpa using h
theorem storedAll_nodup : ∀ (ps acc : List (K × Addr × Value)), ((acc ++ ps).map (·.1)).Nodup → storedAllH acc ps = acc ++ ps
  | [], acc, _ => (List.append_nil acc).symm
  | p :: ps, acc, nd => by
    have hn : atKey acc p.1 = none := by
      rw [List.map_append, List.nodup_append] at nd
      refine atKey_none_of_get fun j q hj => nd.2.2 p.1 (List.mem_map.mpr ⟨_, List.mem_of_getElem? hj, rfl⟩) p.1 (by simp) rfl
    show storedAllH (storedH acc p.1 p.2.1 p.2.2) ps = _
    rw [storedH_new hn, storedAll_nodup ps _ (by rw [List.append_assoc]; exact nd), List.append_assoc]
    rfl
end
/-- a dict of pairs (a tuple of whole numbers, a whole number), its keys anyone's tuples -/
def DPo (P : Program) (w : World) (a : Addr) (xs : List (List L2.Key × Addr × Value)) : HO := .ext fun h => (a == sysModules) = false ∧ (xs.map (·.1)).Nodup ∧ ∃ o es ep, h.get? a = some o ∧ o.ExactDict ∧ o.data = .dict es ep ∧ es.toList = xs.map (entryOfKey (tupleKind (mixKind P w)))
def DictP (P : Program) (w : World) (K : PySem.W.Frag) (H : Hp) (a : Addr) (l : List (List Int × Int)) : Prop := ∃ xs, H a = some (DPo P w a xs) ∧ xs.length = l.length ∧
  ∀ (i : Nat) (x : List L2.Key × Addr × Value) (q : List Int × Int), xs[i]? = some x → l[i]? = some q → x.1 = q.1.map Sum.inl ∧ SqT K H x.2.1 (q.1.map V.int) ∧ ∃ t, x.2.2 = .int q.2 t
theorem DictP.same {P : Program} {w : World} {K : PySem.W.Frag} {H H' : Hp} {a : Addr} {l : List (List Int × Int)} (h : DictP P w K H a l) (s : Same H H') : DictP P w K H' a l := by
  obtain ⟨xs, h1, h2, h3⟩ := h
  exact ⟨xs, s _ _ h1, h2, fun i x q e1 e2 => let ⟨a1, a2, a3⟩ := h3 i x q e1 e2; ⟨a1, sqT_same a2 s, a3⟩⟩
theorem kV_ints (ns : List Int) : (ns.map Sum.inl : List L2.Key).map kV = ns.map V.int := by rw [List.map_map]; rfl
def dtOf (l : List (List Int × Int)) : List (List L2.Key × V) := l.map fun q => (q.1.map Sum.inl, V.int q.2)
section
variable {X : Cx} {pins : List (Addr × Obj)} {σ : L2.St} {H : Hp} {s : Shared}
theorem key_ofK (I : Inv X pins σ H s) {b : Addr} {ns : List Int} (h : SqT X.K H b (ns.map V.int)) : (tupleKind (mixKind X.prog X.w)).is s.heap (ns.map Sum.inl) b := by
  obtain ⟨its, rv, ⟨o, ho, hc, n, hd⟩, _⟩ := I.tuple h
  rw [← kV_ints] at rv
  exact ⟨o, its.toArray, n, ho, hc, hd, by simpa using items_are rv⟩
theorem DictP.dictOf (I : Inv X pins σ H s) {a : Addr} {xs : List (List L2.Key × Addr × Value)} {l : List (List Int × Int)} (h1 : H a = some (DPo X.prog X.w a xs)) (h2 : xs.length = l.length)
    (h3 : ∀ (i : Nat) (x : List L2.Key × Addr × Value) (q : List Int × Int), xs[i]? = some x → l[i]? = some q → x.1 = q.1.map Sum.inl ∧ SqT X.K H x.2.1 (q.1.map V.int) ∧ ∃ t, x.2.2 = .int q.2 t) : (a == sysModules) = false ∧ s.heap.DictOfH (tupleKind (mixKind X.prog X.w)) a xs := by
  obtain ⟨⟨hs, nd, o, es, ep, ho, hx, hd, he⟩, _, _⟩ := (show ObjOk X.prog X.w H s.heap a (DPo X.prog X.w a xs) from I.hok a _ h1)
  refine ⟨hs, o, es, ep, ho, hx, hd, he, fun x hm => ?_, nd⟩
  obtain ⟨i, hi⟩ := List.mem_iff_getElem?.mp hm
  have hil := (List.getElem?_eq_some_iff.mp hi).1
  obtain ⟨e1, e2, _⟩ := h3 i x _ hi (List.getElem?_eq_getElem (by omega))
  rw [e1]
  exact key_ofK I e2
theorem pairs_xs (I : Inv X pins σ H s) : ∀ (rs : List Addr) (l : List (List Int × Int)), rs.length = l.length → (∀ (i : Nat) (r : Addr) (q : List Int × Int), rs[i]? = some r → l[i]? = some q → ∃ k, SqT X.K H r [.ref k, .int q.2] ∧ SqT X.K H k (q.1.map V.int)) →
    ∃ xs : List (List L2.Key × Addr × Value), xs.length = l.length ∧ xs.map (·.1) = l.map (fun q => q.1.map Sum.inl) ∧ ∀ (i : Nat) (r : Addr) (x : List L2.Key × Addr × Value) (q : List Int × Int), rs[i]? = some r → xs[i]? = some x → l[i]? = some q → x.1 = q.1.map Sum.inl ∧ SqT X.K H x.2.1 (q.1.map V.int) ∧ (∃ t, x.2.2 = .int q.2 t) ∧ IsTup s.heap r #[.ref x.2.1, x.2.2]
  | [], [], _, _ => ⟨[], rfl, rfl, fun i r x q e => by simp at e⟩
  | [], _ :: _, h, _ => by simp at h
  | _ :: _, [], h, _ => by simp at h
  | r :: rs, q :: l, h, hk => by
    obtain ⟨xs, h1, h0, h2⟩ := pairs_xs I rs l (by simpa using h) fun i r' q' e1 e2 => hk (i + 1) r' q' (by simpa using e1) (by simpa using e2)
    obtain ⟨k, k1, k2⟩ := hk 0 r q rfl rfl
    obtain ⟨its, rv, pt, _⟩ := I.tuple k1
    obtain ⟨u1, u2, rfl, r1, r2⟩ := vals2 rv
    cases r1
    obtain ⟨t, rfl⟩ := r2
    refine ⟨(q.1.map Sum.inl, k, .int q.2 t) :: xs, by rw [List.length_cons, List.length_cons, h1], by rw [List.map_cons, List.map_cons, h0], fun i r' x q' e1 e2 e3 => ?_⟩
    cases i with
    | zero =>
      cases e1
      cases e2
      cases e3
      exact ⟨rfl, k2, ⟨t, rfl⟩, pt⟩
    | succ i => exact h2 i r' x q' (by simpa using e1) (by simpa using e2) (by simpa using e3)
end
/-- dict(t), t a tuple of pairs of the module -/
def rDictKP (P : Program) (w : World) (K : PySem.W.Frag) : List V → Hp → VK → Prop := fun vs H Q => ∃ a, vs = [.ref a] ∧ ∃ l, PairsKt K H a l ∧ (l.map (·.1)).Nodup ∧ l.length ≤ 1000 ∧ ∀ p H', Same H H' → DictP P w K H' p l → Q (.ref p) H'
theorem map_inl_inj {a b : List Int} (h : (a.map Sum.inl : List L2.Key) = b.map Sum.inl) : a = b := List.map_inj_right (fun x y e => Sum.inl.inj e) |>.mp h
theorem cr_dictKP {X : Cx} (hc : X.calm = true) (hu : X.A.units + 64 < cLine) : CallR X (.type "dict") (rDictKP X.prog X.w X.K) := by
  intro pins s σ H vs us Q I rv h
  obtain ⟨a, rfl, l, ⟨⟨oa, ita, na, hKa, hca, hda, hdata⟩, rs, hq, hl, hr⟩, nd, hz, q⟩ := h
  obtain ⟨u, rfl, ru⟩ := rv.one
  cases ru
  obtain ⟨its, rvs, ⟨o, ho, hcl, n, hd⟩, _⟩ := I.tuple hq
  have ei := refs_at rvs
  subst ei
  have ea : oa = o := Option.some.inj ((I.kIn a oa hKa).symm.trans ho)
  subst ea
  obtain ⟨xs, x1, x0, x2⟩ := pairs_xs I rs l hl hr
  have lx : xs.length = rs.length := by rw [x1, hl]
  have ndx : (xs.map (·.1)).Nodup := by
    rw [x0, show (l.map fun q => (q.1.map Sum.inl : List L2.Key)) = (l.map (·.1)).map (List.map Sum.inl) by rw [List.map_map]; rfl]
    exact List.pairwise_map.mpr (List.Pairwise.imp (fun h e => h (map_inl_inj e)) nd)
  have get : ∀ (i : Nat) (x : List L2.Key × Addr × Value), xs[i]? = some x → ∃ (r : Addr) (q : List Int × Int), rs[i]? = some r ∧ l[i]? = some q ∧ x.1 = q.1.map Sum.inl ∧ SqT X.K H x.2.1 (q.1.map V.int) ∧ (∃ t, x.2.2 = .int q.2 t) ∧ IsTup s.heap r #[.ref x.2.1, x.2.2] := fun i x e => by
    have hi := (List.getElem?_eq_some_iff.mp e).1
    have e1 := List.getElem?_eq_getElem (show i < rs.length by omega)
    have e2 := List.getElem?_eq_getElem (show i < l.length by omega)
    exact ⟨_, _, e1, e2, x2 i _ x _ e1 e e2⟩
  have P := PairArg.tuple (prog := X.prog) (w := X.w) a (rs.map Value.ref).toArray (fun j => rs.getD j 0) (xs.map fun x => (Value.ref x.2.1, x.2.2))
  have hz' : (xs.map fun x => (Value.ref x.2.1, x.2.2)).length ≤ sizeLine := by rw [List.length_map, sizeLine_eq]; omega
  refine call_dict_pairsH (knd := tupleKind (mixKind X.prog X.w)) (ps := xs) P (I.ok.hd hc) ?_ ⟨⟨oa, n, ho, hcl, hda, hd⟩, ?_, fun j k v e => ?_⟩ ⟨by rw [List.length_map], fun i key v e => ?_⟩ (fun h' hk x hx => ?_) hz' fun h' tk hdo hk => ?_
  · show X.A.units + 1 + 1 < cLine
    omega
  · rw [List.size_toArray, List.length_map, List.length_map, lx]
  · rw [List.getElem?_map, Option.map_eq_some_iff] at e
    obtain ⟨x, ex, e2⟩ := e
    cases e2
    obtain ⟨r, q', er, eq, _, _, _, pt⟩ := get j x ex
    have eg : rs.getD j 0 = r := by rw [List.getD_eq_getElem?_getD, er]; rfl
    show (List.map Value.ref rs).toArray[j]? = some (Value.ref (rs.getD j 0)) ∧ PairAt s.heap (rs.getD j 0) (Value.ref x.2.1) x.2.2
    rw [eg]
    exact ⟨by rw [List.getElem?_toArray, List.getElem?_map, er]; rfl, .inl pt⟩
  · have e : (xs.map fun x => (Value.ref x.2.1, x.2.2))[i]? = some (key, v) := e
    rw [List.getElem?_map, Option.map_eq_some_iff] at e
    obtain ⟨x, ex, e2⟩ := e
    cases e2
    exact ⟨x.1, x.2.1, ex, rfl⟩
  · obtain ⟨i, hi⟩ := List.mem_iff_getElem?.mp hx
    obtain ⟨r, q', er, eq, e1, e2, _, _⟩ := get i x hi
    rw [e1]
    obtain ⟨o', its', n', g1, g2, g3, g4⟩ := key_ofK I e2
    exact ⟨o', its', n', hk _ _ (Nat.ne_of_lt (Heap.lt_size g1)) (by simp) g1, g2, g3, g4⟩
  · rw [storedAll_nodup xs [] (by simpa using ndx), List.nil_append] at hdo
    obtain ⟨o', es, ep, g1, g2, g3, g4, _, _⟩ := hdo
    have fr : H s.heap.objs.size = none := I.hok.fresh (Nat.le_refl _)
    have hm : (s.heap.objs.size == sysModules) = false := beq_eq_false_iff_ne.mpr (Nat.ne_of_gt I.big)
    have I2 : Inv X pins σ (upd H s.heap.objs.size (DPo X.prog X.w s.heap.objs.size xs)) { s with heap := h', toks := tk } := I.laid (t' := tk) (fun b o e => hk b o (by simp) e) (Nat.le_refl _)
      ⟨⟨hm, ndx, o', es, ep, g1, g2, g3, g4⟩, ⟨o', g1⟩, fun h1 h2 ⟨c1, c2, c3, c4, c5, d1, d2, d3, d4⟩ hk' => ⟨c1, c2, c3, c4, c5, hk' _ d1, d2, d3, d4⟩⟩
    refine ⟨.ref s.heap.objs.size, _, I2, rfl, q _ _ (same_upd fr) ⟨xs, upd_same, x1, fun i x q' e1 e2 => ?_⟩⟩
    obtain ⟨r, q2, er, eq, f1, f2, f3, _⟩ := get i x e1
    rw [eq] at e2
    cases e2
    exact ⟨f1, sqT_same f2 (same_upd fr), f3⟩
/-- dict(t) != d: the same pairs -/
def rNeDP (P : Program) (w : World) (K : PySem.W.Frag) : R2 := fun x y H Q => ∃ a b, x = .ref a ∧ y = .ref b ∧ ∃ l, DictP P w K H a l ∧ H b = some (.dT (dtOf l)) ∧ Q (.bl false) H
theorem op_neDP {X : Cx} (hu : X.A.units + 64 < cLine) : OpR X (compareOp .NotEq) (rNeDP X.prog X.w X.K) := by
  intro pins s σ H x y v u Q I rx ry h
  obtain ⟨a, b, rfl, rfl, l, ⟨xs, h1, h2, h3⟩, hb, q⟩ := h
  obtain rfl : v = Value.ref a := rx
  obtain rfl : u = Value.ref b := ry
  obtain ⟨sa, da⟩ := DictP.dictOf I h1 h2 h3
  obtain ⟨_, sb, ys, rel, db⟩ := dt_of I.hok hb
  have ly : (dtOf l).length = ys.length := Paired.length rel
  rw [dtOf, List.length_map] at ly
  refine ne_dictsH sa sb (by show X.A.units + 1 < cLine; omega) da db (by omega) (by omega) (fun x hx => ?_) (fin_bl I q rfl)
  obtain ⟨i, hi⟩ := List.mem_iff_getElem?.mp hx
  have hil := (List.getElem?_eq_some_iff.mp hi).1
  have el := List.getElem?_eq_getElem (show i < l.length by omega)
  have ey := List.getElem?_eq_getElem (show i < ys.length by omega)
  obtain ⟨e1, e2, t, e3⟩ := h3 i x _ hi el
  obtain ⟨z, hz, r1, r2, r3⟩ := L2.DX.pget rel ey
  rw [dtOf, List.getElem?_map, el] at hz
  cases hz
  obtain ⟨t2, r3⟩ := r3
  refine ⟨ys[i].2, ?_, ?_⟩
  · rw [e1, show (l[i].1.map Sum.inl : List L2.Key) = ys[i].1 from r1]
    exact List.getElem_mem _
  · rw [e3, r3]
    have := SeqAt.EqAt.int_int (A := X.A.in1) (s := s) l[i].2 t l[i].2 t2
    simpa using this
/-! d.items() of a dict with tuples as keys -/
def Itit (d : Addr) (o : Obj) (kvs : List (List L2.Key × V)) : It :=
  ⟨fun i H => H d = some (.frz o (.dT kvs)) ∧ i < kvs.length, fun i H x H' => ∃ T q k v, kvs[i]? = some (k, v) ∧ x = .ref T ∧ H T = none ∧ H q = some (.tup (k.map kV)) ∧ H' = upd H T (.tup [.ref q, v]), fun i H => H d = some (.frz o (.dT kvs)) ∧ kvs.length ≤ i⟩
section
variable {P : Program} {w : World} {K : PySem.W.Frag}
theorem frzT_at {X : Cx} {pins : List (Addr × Obj)} {σ : L2.St} {H : Hp} {s : Shared} {d : Addr} {o : Obj} {kvs : List (List L2.Key × V)} (I : Inv X pins σ H s) (h : H d = some (.frz o (.dT kvs))) :
    (d == sysModules) = false ∧ s.heap.get? d = some o ∧ o.ExactDict ∧ ∃ (es : Array DictEntry) (ep : Nat), o.data = .dict es ep ∧ es.size = kvs.length ∧
      ∀ (i : Nat) (k : List L2.Key) (v : V), kvs[i]? = some (k, v) → ∃ (en : DictEntry) (q : Addr), es[i]? = some en ∧ en.key = .ref q ∧ RelV v en.val ∧ H q = some (.tup (k.map kV)) := by
  obtain ⟨hd, z, hs, xs, pr, o', es, ep, ho, hx, hdt, he, _⟩ := I.hok d _ h
  rw [hd] at ho
  cases ho
  have l1 : es.size = xs.length := size_of_entries he
  have l2 : kvs.length = xs.length := Paired.length pr
  refine ⟨hs, hd, hx, es, ep, hdt, by omega, fun i k v e => ?_⟩
  have hi := (List.getElem?_eq_some_iff.mp e).1
  have ex := List.getElem?_eq_getElem (show i < xs.length by omega)
  obtain ⟨y, hy, r1, r2, r3⟩ := L2.DX.pget pr ex
  rw [e] at hy
  cases hy
  exact ⟨entryOfKey (tupleKind (mixKind X.prog X.w)) xs[i], xs[i].2.1, by rw [entry_at he i, ex]; rfl, rfl, r3, r2⟩
theorem turn_itemsT {d : Addr} {o : Obj} {es : Array DictEntry} {ep : Nat} {kvs : List (List L2.Key × V)} {elts : List Expr} {kk : Nat} {tpos : Pos} (it : Addr) (hod : o.data = .dict es ep) :
    Turn P w K (.Tuple elts kk tpos) (Itit d o kvs) [it] it (fun i h => ∃ ok ov, IsItemIter h it d i kvs.length ep ok ov) where
  mem := by simp
  obj := fun i h st b hb => by
    have e : b = it := by simpa using hb
    subst e
    obtain ⟨ok, ov, e⟩ := st
    exact ⟨_, e, fun v z => nomatch z⟩
  keep := fun i h h' st k => let ⟨ok, ov, e⟩ := st; ⟨ok, ov, k it (by simp) _ e⟩
  item := by
    intro X hP hw hK hc i pins s σ H E I hf st hg
    subst hP hw hK
    obtain ⟨hd, hi⟩ := hg
    obtain ⟨hs, hgd, hx, es', ep', hdt, hsz, ent⟩ := frzT_at I hd
    obtain ⟨rfl, rfl⟩ := dict_ep hod hdt
    obtain ⟨⟨k, v⟩, hkv⟩ : ∃ p, kvs[i]? = some p := ⟨kvs[i], List.getElem?_eq_getElem hi⟩
    obtain ⟨en, q, e1, e2, rv, hq⟩ := ent i k v hkv
    obtain ⟨ok, ov, he⟩ := st
    rw [← hsz] at he hi
    have een : es'[i] = en := by
      rw [Array.getElem?_eq_getElem hi] at e1
      exact Option.some.inj e1
    have hlt : it < s.heap.objs.size := Heap.lt_size he
    refine DT.nextI he ⟨o, hgd, hx, hdt⟩ hi fun h' ho hT hz hk => ?_
    rw [een, e2] at ho hT
    refine ⟨_, rfl, wpAny_letOwnedTupleGo_items (s := { s with heap := h' }) ho fun h'' he' sb => ?_⟩
    have hT2 : h''.get? s.heap.objs.size = some { cls := .type "tuple", data := .seq #[Value.ref q, en.val] } := (sb.2 _ (Nat.ne_of_gt hlt)).trans hT
    have new : ObjOk X.prog X.w (upd H s.heap.objs.size (.tup [.ref q, v])) h'' s.heap.objs.size (.tup [.ref q, v]) :=
      ⟨by show 2 ≤ sizeLine; decide, [.ref q, en.val], .cons rfl (.cons rv .nil), ⟨_, hT2, rfl, _, rfl⟩⟩
    have I1 : Inv X pins σ (upd H s.heap.objs.size (.tup [.ref q, v])) { s with heap := h'' } :=
      I.turnedNew (t' := s.toks) (ch := [it]) (fun b ob hb e => (sb.2 b (by simpa using hb)).trans (hk b ob (by simpa using hb) e)) hf (Nat.le_refl _) new
    refine ⟨.ref s.heap.objs.size, _, I1, rfl, ⟨_, q, k, v, hkv, rfl, I.hok.fresh (Nat.le_refl _), hq, rfl⟩, ⟨.ref q, en.val, ?_⟩, fun b hb => ?_⟩
    · rw [← hsz]; exact he'
    · have e : b = it := by simpa using hb
      rw [e, upd_ne (Nat.ne_of_lt hlt)]
      exact (hf it (by simp)).1
  done := by
    intro X hP hw hK hc i pins s σ H E I hf st hg
    subst hP hw hK
    obtain ⟨hd, hi⟩ := hg
    obtain ⟨f0, f1, f2, f3, f4, f5⟩ := hf it (by simp)
    obtain ⟨hs, hgd, hx, es', ep', hdt, hsz, ent⟩ := frzT_at I hd
    obtain ⟨rfl, rfl⟩ := dict_ep hod hdt
    obtain ⟨ok, ov, he⟩ := st
    rw [← hsz] at he hi
    exact DT.endI (I.ok.hd hc) he ⟨o, hgd, hx, hdt⟩ hi fun h' eb => ⟨rfl, I.turned (t' := s.toks) (fun b ob hb e => eb b ob hb e) f0 f1 f3 f4 f5⟩
  self := fun A i s Q E st h => let ⟨_, _, e⟩ := st; PySem.W.kcp_self e h
def iItemsT (td : TE) : L2.TI := fun σ H R => td σ H fun x H1 => ∃ d o kvs, x = .ref d ∧ H1 d = some (.frz o (.dT kvs)) ∧ R (Itit d o kvs) H1
theorem pi_itemsT {X : Cx} {e : Expr} {td : TE} {apos cpos tpos : Pos} {elts : List Expr} {kk : Nat} (he : PE X e td) (hbase : attributeBase e "items" X.env (eval e X.env) = eval e X.env := by rfl) (hline : (apos.endLine == cpos.line) = true := by rfl) :
    PI X (.Tuple elts kk tpos) (.Call (.Attribute e "items" apos) [] [] cpos) (iItemsT td) := by
  refine ⟨fun pins s σ H R I h => ?_⟩
  refine wpAny_Call_method (T := "dict") (id := "dict.items") hbase rfl hline F.plainAttrs_dict F.slot_dict_items F.type_dict_items (thn (he.run pins s σ H _ I h) fun u s1 ⟨x, H1, I1, rx, d, o, kvs, ex, hd, q⟩ => ?_)
  subst ex
  obtain rfl : u = Value.ref d := rx
  obtain ⟨hs, hgd, hx, es, ep, hdt, hsz, ent⟩ := frzT_at I1 hd
  have hm : DT.Raw s1.heap d es ep := ⟨o, hgd, hx, hdt⟩
  refine ⟨hm.typeIs, fun a ea => by cases ea; exact ⟨o, hgd, hx.2.1⟩, ?_⟩
  have I2 : Inv X pins σ H1 { s1 with heap := s1.heap.push { cls := .type "dict_items", data := .fields #[.ref d] } } := I1.kept (t' := s1.toks) fun b ob q => Heap.get?_push_of_some _ q
  have fin : wpAny (model X.prog X.w) X.A (pyIter (.ref s1.heap.objs.size)) (PIE X pins σ (.Tuple elts kk tpos) R) X.xe { s1 with heap := s1.heap.push { cls := .type "dict_items", data := .fields #[.ref d] } } := by
    refine DT.iterI (d := d) (es := es) (ep := ep) ⟨_, Heap.get?_push_size _ rfl, rfl, rfl⟩ (hm.push _) (pi_one (tk := s1.toks) I2 _ (turn_itemsT _ hdt) ⟨.none, .none, ?_⟩ q)
    rw [← hsz]
    exact Heap.get?_push_size _ rfl
  show wpAny _ _ (callWith cpos (.builtin "dict.items") [.ref d] [] []) _ X.xe s1
  exact method_meetsIn F.slot_dict_items F.entry_dict_items rfl (PySem.evalArgs_none ⟨rfl, hm.typeIs, F.args_dict_items_1 _, _, DT.meetsItems (es := es) (ep := ep) hs, hm, fin⟩)
theorem gives_itemsT {d : Addr} {o : Obj} {kvs : List (List L2.Key × V)} : Gives (Itit d o kvs) kvs.length (fun H => H d = some (.frz o (.dT kvs))) (fun i v H H' => ∃ t q k x, v = .ref t ∧ H t = none ∧ H' = upd H t (.tup [.ref q, x]) ∧ kvs[i]? = some (k, x) ∧ H q = some (.tup (k.map kV))) where
  go := fun i H lt f => ⟨f, lt⟩
  yld := fun i H v H' lt f y => by
    obtain ⟨T, q, k, x, e1, e2, e3, e4, e5⟩ := y
    exact ⟨T, q, k, x, e2, e3, e5, e1, e4⟩
  stop := fun H f => ⟨f, Nat.le_refl _⟩
/-! zip of a list and a tuple -/
def ItzM (K : PySem.W.Frag) (a b : Addr) : It :=
  ⟨fun i H => ∃ (xs ys : List V) (x y : V), SqL K H a xs ∧ SqT K H b ys ∧ xs[i]? = some x ∧ ys[i]? = some y,
    fun i H v H' => ∃ T x y, v = .ref T ∧ H T = none ∧ H' = upd H T (.tup [x, y]) ∧ (∀ xs, SqL K H a xs → xs[i]? = some x) ∧ ∀ ys, SqT K H b ys → ys[i]? = some y,
    fun i H => ∃ xs ys : List V, SqL K H a xs ∧ SqT K H b ys ∧ xs.length = i ∧ ys.length = i⟩
theorem zipM_sep {z TI TO i1 i2 a b : Addr} (D : ZipApart z TI TO i1 i2 a b) : ZipSep2 z TI TO i1 i2 [i1, a] [i2, b] where
  TIz := D.TIz
  TOz := D.TOz
  TITO := D.TITO
  TIi1 := D.TIi1
  mem1 := by simp
  zf1 := by simp [D.i1z.symm, D.l1z.symm]
  Tf1 := by simp [D.TOi1, D.l1TO.symm]
  TIi2 := D.TIi2
  mem2 := by simp
  zf2 := by simp [D.i2z.symm, D.l2z.symm]
  Tf2 := by simp [D.TOi2, D.l2TO.symm]
  sep1_2 := by simp [D.i12, D.l2i1.symm]
  sep2_1 := by simp [D.i12.symm, D.l1i2.symm]
theorem turn_zipM {elts : List Expr} {kk : Nat} {tpos : Pos} {a b z TI TO i1 i2 : Addr} (D : ZipApart z TI TO i1 i2 a b) :
    Turn P w K (.Tuple elts kk tpos) (ItzM K a b) [z, TI, TO, i1, i2] z (fun i h => IsZip h z TI TO .none ∧ IsPair h TI (.ref i1) (.ref i2) ∧ (∃ x y, IsPair h TO x y) ∧ h.IsListIter i1 a i ∧ h.IsTupleIter i2 b i) where
  mem := by simp
  obj := fun i h st c hc => by
    obtain ⟨hz, hTI, ⟨x, y, hTO⟩, ⟨o1, e1, _, d1⟩, ⟨o2, e2, _, d2⟩⟩ := st
    have e' : c = z ∨ c = TI ∨ c = TO ∨ c = i1 ∨ c = i2 := by simpa using hc
    rcases e' with q | q | q | q | q
    · rw [q]; exact ⟨_, hz, fun v q => nomatch q⟩
    · rw [q]; exact ⟨_, hTI, fun v q => nomatch q⟩
    · rw [q]; exact ⟨_, hTO, fun v q => nomatch q⟩
    · rw [q]; exact ⟨o1, e1, fun v q => by rw [d1] at q; cases q⟩
    · rw [q]; exact ⟨o2, e2, fun v q => by rw [d2] at q; cases q⟩
  keep := fun i h h' st k => by
    obtain ⟨hz, hTI, ⟨x, y, hTO⟩, h1, h2⟩ := st
    exact ⟨k z (by simp) _ hz, k TI (by simp) _ hTI, ⟨x, y, k TO (by simp) _ hTO⟩, h1.at fun o q => k i1 (by simp) o q, h2.at fun o q => k i2 (by simp) o q⟩
  item := by
    intro X hP hw hK hc i pins s σ H E I hf st hg
    subst hP hw hK
    obtain ⟨hz, hTI, ⟨x0, y0, hTO⟩, h1, h2⟩ := st
    obtain ⟨xs, ys, x, y, hqx, hqy, hx, hy⟩ := hg
    obtain ⟨its, rv, p, _⟩ := I.list hqx
    obtain ⟨its2, rv2, p2, _⟩ := I.tuple hqy
    obtain ⟨u, hu, ru⟩ := rv.get hx
    obtain ⟨u2, hu2, ru2⟩ := rv2.get hy
    have hzl : z < s.heap.objs.size := Heap.lt_size hz
    have hh : X.A.in1.handled = none := I.ok.hd hc
    refine wpAny_pyNext_zipD2_item (zipM_sep D) (Draws.list hh i1 a D.l1i1 its.toArray) (Draws.tuple hh i2 b D.l2i2 its2.toArray) hz hTI hTO ⟨h1, p.isList⟩ ⟨h2, p2⟩ (by rw [List.size_toArray]; exact (List.getElem?_eq_some_iff.mp hu).1) (by rw [List.size_toArray]; exact (List.getElem?_eq_some_iff.mp hu2).1)
      fun v1 v2 h' tk y1 y2 z' TO' h1' h2' hT hsz hk => ?_
    have e1 : v1 = u := by
      have := y1.symm.trans (show its.toArray[i]? = some u by simpa using hu)
      exact Option.some.inj this
    have e2 : v2 = u2 := by
      have := y2.symm.trans (show its2.toArray[i]? = some u2 by simpa using hu2)
      exact Option.some.inj this
    subst e1 e2
    refine ⟨_, rfl, wpAny_letOwnedTupleGo_zip (s := { s with heap := h', toks := tk }) z' fun h'' z'' sb => ?_⟩
    have hT2 : h''.get? s.heap.objs.size = some { cls := .type "tuple", data := .seq #[v1, v2] } := (sb.2 _ (Nat.ne_of_gt hzl)).trans hT
    have new : ObjOk X.prog X.w (upd H s.heap.objs.size (.tup [x, y])) h'' s.heap.objs.size (.tup [x, y]) :=
      ⟨by show 2 ≤ sizeLine; decide, [v1, v2], .cons ru (.cons ru2 .nil), ⟨_, hT2, rfl, _, rfl⟩⟩
    have I1 : Inv X pins σ (upd H s.heap.objs.size (.tup [x, y])) { s with heap := h'', toks := tk } :=
      I.turnedNew (t' := tk) (ch := [z, TI, TO, i1, i2]) (fun c o hb q => (sb.2 c (fun q' => hb (by simp [q']))).trans (hk c o (fun q' => hb (by simp [q'])) (fun q' => hb (by simp [q'])) (fun q' => hb (by simp [q'])) (fun q' => hb (by simp [q'])) q)) hf (Nat.le_refl _) new
    refine ⟨.ref s.heap.objs.size, _, I1, rfl, ⟨_, x, y, rfl, I.hok.fresh (Nat.le_refl _), rfl, fun l hl => by rw [I.list_inj hl hqx]; exact hx, fun l hl => by rw [I.tuple_inj hl hqy]; exact hy⟩, ⟨z'', ?_, ⟨v1, v2, ?_⟩, ?_, ?_⟩, fun c hcm => ?_⟩
    · exact (sb.2 _ D.TIz).trans (hk _ _ D.TIz D.TITO D.TIi1 D.TIi2 hTI)
    · exact (sb.2 _ D.TOz).trans TO'
    · exact h1'.1.at fun o q => (sb.2 _ D.i1z).trans q
    · exact h2'.1.at fun o q => (sb.2 _ D.i2z).trans q
    · have hlt : c < s.heap.objs.size := by
        have e' : c = z ∨ c = TI ∨ c = TO ∨ c = i1 ∨ c = i2 := by simpa using hcm
        rcases e' with q | q | q | q | q
        · rw [q]; exact hzl
        · rw [q]; exact Heap.lt_size hTI
        · rw [q]; exact Heap.lt_size hTO
        · rw [q]; obtain ⟨_, e1, _⟩ := h1; exact Heap.lt_size e1
        · rw [q]; obtain ⟨_, e2, _⟩ := h2; exact Heap.lt_size e2
      rw [upd_ne (Nat.ne_of_lt hlt)]
      exact (hf c hcm).1
  done := by
    intro X hP hw hK hc i pins s σ H E I hf st hg
    subst hP hw hK
    obtain ⟨hz, hTI, ⟨x0, y0, hTO⟩, h1, h2⟩ := st
    obtain ⟨xs, ys, hqx, hqy, e1, e2⟩ := hg
    obtain ⟨its, rv, p, _⟩ := I.list hqx
    obtain ⟨its2, rv2, p2, _⟩ := I.tuple hqy
    have l1 := rv.length
    have l2 := rv2.length
    have hh : X.A.in1.handled = none := I.ok.hd hc
    have n1 : i = its.toArray.size := by rw [List.size_toArray]; omega
    have n2 : i = its2.toArray.size := by rw [List.size_toArray]; omega
    exact wpAny_pyNext_zipD2_end (zipM_sep D) (Draws.list hh i1 a D.l1i1 its.toArray) (Draws.tuple hh i2 b D.l2i2 its2.toArray) hz hTI hTO ⟨h1, p.isList⟩ ⟨h2, p2⟩ (Nat.le_of_eq n1) (Nat.le_of_eq n2) (.inl n1) fun h' tk hk => ⟨rfl, I.turnedL (t' := tk) (ch := [z, TI, TO, i1, i2]) (fun c o hb q =>
      hk c o (fun q' => hb (by simp [q'])) (fun q' => hb (by simp [q'])) (fun q' => hb (by simp [q'])) (fun q' => hb (by simp [q'])) q) hf⟩
  self := fun A i s Q E st h => wpAny_pyIter_zip st.1 h
def iZipM (K : PySem.W.Frag) (ta : TA) : L2.TI := fun σ H R => ta σ H fun vs H1 => ∃ a b, vs = [.ref a, .ref b] ∧ ∃ xs, SqL K H1 a xs ∧ ∃ ys, SqT K H1 b ys ∧ R (ItzM K a b) H1
theorem pi_zipM {X : Cx} {e e2 : Expr} {ta : TA} {p pos tpos : Pos} {elts : List Expr} {kk : Nat} (hg : Gl X "zip") (hm : X.mg "zip" = none) (ha : PA X [e, e2] ta)
    (hs : starEach [e, e2] X.env = (false, eval e X.env) :: starEach [e2] X.env := by rfl) (hpl : (backTo pos (starEach [e2] X.env)).any (·.1) = false := by rfl) :
    PI X (.Tuple elts kk tpos) (.Call (.Name "zip" p) [e, e2] [] pos) (iZipM X.K ta) := by
  refine ⟨fun pins s σ H R I h => ?_⟩
  refine Call_ (ld_blt I hg hm PyProof.Rows.boot_zip (PyProof.Rows.callWith_type1 (thn (ha.run pos pins s σ H _ I h) fun us s1 ⟨vs, H1, I1, r1, q1⟩ => ?_) hs hpl))
  obtain ⟨a, b, ex, xs, hqx, ys, hqy, q⟩ := q1
  subst ex
  obtain ⟨u1, u2, rfl, r, r'⟩ := vals2 r1
  cases r
  cases r'
  have fresh5 : ∀ c, c ∈ [s1.heap.objs.size + 4, s1.heap.objs.size + 2, s1.heap.objs.size + 3, s1.heap.objs.size, s1.heap.objs.size + 1] → FpOk X pins H1 c := fun c hcm => by
    have hle : s1.heap.objs.size ≤ c := by
      have e' : c = s1.heap.objs.size + 4 ∨ c = s1.heap.objs.size + 2 ∨ c = s1.heap.objs.size + 3 ∨ c = s1.heap.objs.size ∨ c = s1.heap.objs.size + 1 := by simpa using hcm
      rcases e' with z | z | z | z | z <;> rw [z]
      · exact Nat.le_add_right _ _
      · exact Nat.le_add_right _ _
      · exact Nat.le_add_right _ _
      · exact Nat.le_refl _
      · exact Nat.le_add_right _ _
    exact I1.fpOk hle (I1.hok.fresh hle)
  obtain ⟨its, rv, p1, _⟩ := I1.list hqx
  obtain ⟨its2, rv2, p2, _⟩ := I1.tuple hqy
  obtain ⟨o2, ho2, _⟩ := id p2
  refine zip_begins2 (begins_list a its.toArray) (begins_tuple b its2.toArray) p1.isList p2 fun h' hz hTI hTO g1 g2 hsz hk => wpAny_pyIter_zip hz ?_
  have I2 : Inv X pins σ H1 { s1 with heap := h' } := I1.kept (t' := s1.toks) hk
  exact ⟨s1.heap.objs.size + 4, [s1.heap.objs.size + 4, s1.heap.objs.size + 2, s1.heap.objs.size + 3, s1.heap.objs.size, s1.heap.objs.size + 1], _, _, H1, rfl, I2, turn_zipM (PySem.W.ktu_apart s1.heap.objs.size a b p1.lt (Heap.lt_size ho2)), ⟨hz, hTI, ⟨_, _, hTO⟩, ⟨_, g1, rfl, rfl⟩, ⟨_, g2, rfl, rfl⟩⟩, fresh5, q⟩
theorem gives_zipM {a b : Addr} {xs ys : List V} (hl : xs.length = ys.length) : Gives (ItzM K a b) xs.length (fun H => SqL K H a xs ∧ SqT K H b ys) (PY fun i x y => xs[i]? = some x ∧ ys[i]? = some y) where
  go := fun i H lt f => ⟨xs, ys, xs[i], ys[i]'(hl ▸ lt), f.1, f.2, by simp [lt], by simp [hl ▸ lt]⟩
  yld := fun i H v H' lt f y => by
    obtain ⟨t, x, y, e1, e2, e3, e4, e5⟩ := y
    exact ⟨t, x, y, e1, e2, e3, e4 xs f.1, e5 ys f.2⟩
  stop := fun H f => ⟨xs, ys, f.1, f.2, rfl, hl.symm⟩
end
section
variable {σ : L2.St} {H : Hp} {Q : VK} {P : Program} {w : World} {K : PySem.W.Frag}
theorem ap_dictKP {vs : List V} : rDictKP P w K vs H Q = ∃ a, vs = [.ref a] ∧ ∃ l, PairsKt K H a l ∧ (l.map (·.1)).Nodup ∧ l.length ≤ 1000 ∧ ∀ p H', Same H H' → DictP P w K H' p l → Q (.ref p) H' := rfl
theorem ap_neDP {x y : V} : rNeDP P w K x y H Q = ∃ a b, x = .ref a ∧ y = .ref b ∧ ∃ l, DictP P w K H a l ∧ H b = some (.dT (dtOf l)) ∧ Q (.bl false) H := rfl
theorem ap_itemsT {td : TE} {R : It → Hp → Prop} : iItemsT td σ H R = td σ H fun x H1 => ∃ d o kvs, x = .ref d ∧ H1 d = some (.frz o (.dT kvs)) ∧ R (Itit d o kvs) H1 := rfl
theorem ap_zipM {ta : TA} {R : It → Hp → Prop} : iZipM K ta σ H R = ta σ H fun vs H1 => ∃ a b, vs = [.ref a, .ref b] ∧ ∃ xs, SqL K H1 a xs ∧ ∃ ys, SqT K H1 b ys ∧ R (ItzM K a b) H1 := rfl
theorem ap_dget2 {td ty tx : TE} : tDGet2 td ty tx σ H Q = td σ H fun x H1 => ∃ a, x = .ref a ∧ IsD H1 a ∧ ty σ H1 fun y H2 => tx σ H2 fun z H3 => ∃ o, DGet H3 a y o ∧ Q (o.getD z) H3 := rfl
theorem ap_dput {td ty tv : TE} {D : Ends} : sDPut td ty tv D σ H = tv σ H fun v H1 => td σ H1 fun x H2 => ty σ H2 fun y H3 => ∃ a H4, x = .ref a ∧ DPut H3 a y v H4 ∧ D.nx σ H4 := rfl
theorem ap_dnewT : tDNewT σ H Q = ∀ p, H p = none → Q (.ref p) (upd H p (.dT [])) := rfl
theorem ap_lockS {t : TS} {D : Ends} : tLock t D σ H = ∃ d u, H d = some u ∧ Mut (some u) ∧ ∀ od, t ⟨fun σ' H' => H' d = some (.frz od u) ∧ D.nx σ' (upd H' d u), fun v H' => H' d = some (.frz od u) ∧ D.rt v (upd H' d u), fun σ' H' => H' d = some (.frz od u) ∧ D.bk σ' (upd H' d u), fun σ' H' => H' d = some (.frz od u) ∧ D.ct σ' (upd H' d u)⟩ σ (upd H d (.frz od u)) := rfl
theorem ap_lockE {t : TE} : tLockE t σ H Q = ∃ d u, H d = some u ∧ Mut (some u) ∧ ∀ od, t σ (upd H d (.frz od u)) fun v H' => H' d = some (.frz od u) ∧ Q v (upd H' d u) := rfl
end
end Pr

namespace Pr
open PySem PySem.Spec PyProof.Rows L2
/-! a set of up to 102 unequal tuples of whole numbers: how many they are -/
def Mk (m : Nat) : Prop := m = 7 ∨ m = 31 ∨ m = 127 ∨ m = 511
def turn511 : List Nat := [0, 1, 326, 495, 412, 365, 2, 379, 376, 281, 254, 327, 404, 261, 58, 339, 496, 305, 438, 415, 140, 413, 370, 43, 360, 73, 366, 247, 132, 309, 426, 3, 480, 97, 38, 335, 380, 461, 226, 219, 344, 377, 478, 167, 372, 357, 282, 179, 464, 401, 150, 255, 108, 509, 82, 395, 328, 169, 78, 87, 100, 405, 138, 355, 448, 193, 262, 175, 348, 45, 450, 59, 312, 473, 190, 7, 340, 453, 506, 19, 432, 497, 374, 95, 76, 93, 306, 235, 296, 265, 302, 439, 68, 501, 362, 195, 416, 289, 486, 15, 316, 141, 162, 411, 280, 57, 414, 359, 308, 37, 218, 371, 400, 81, 86, 447, 44, 189, 18, 75, 264, 361, 14, 279, 36, 85, 74, 35, 384, 385, 198, 367, 284, 237, 386, 251, 248, 153, 126, 199, 276, 133, 442, 211, 368, 177, 310, 287, 12, 285, 242, 427, 232, 457, 238, 119, 4, 181, 298, 387, 352, 481, 422, 207, 252, 333, 98, 91, 216, 249, 350, 39, 244, 229, 154, 51, 336, 273, 22, 127, 492, 381, 466, 267, 200, 41, 462, 471, 484, 277, 10, 227, 320, 65, 134, 47, 220, 429, 322, 443, 184, 345, 62, 391, 212, 325, 378, 403, 304, 369, 246, 479, 460, 477, 178, 107, 168, 137, 174, 311, 452, 373, 234, 67, 288, 161, 358, 399, 188, 13, 34, 283, 152, 441, 286, 231, 180, 421, 90, 243, 272, 465, 470, 319, 428, 61, 402, 459, 136, 233, 398, 151, 420, 469, 458, 419, 256, 257, 70, 239, 156, 109, 258, 123, 120, 25, 510, 71, 148, 5, 314, 83, 240, 49, 182, 159, 396, 157, 114, 299, 104, 329, 110, 503, 388, 53, 170, 259, 224, 353, 294, 79, 124, 205, 482, 475, 88, 121, 222, 423, 116, 101, 26, 435, 208, 145, 406, 511, 364, 253, 338, 139, 72, 425, 334, 343, 356, 149, 394, 99, 192, 449, 6, 431, 92, 301, 194, 315, 56, 217, 446, 263, 84, 197, 250, 275, 176, 241, 118, 351, 332, 349, 50, 491, 40, 9, 46, 183, 324, 245, 106, 451, 160, 33, 230, 271, 60, 397, 418, 155, 24, 313, 158, 103, 52, 293, 474, 115, 144, 337, 342, 191, 300, 445, 274, 331, 8, 105, 270, 23, 292, 341, 330, 291, 128, 129, 454, 111, 28, 493, 130, 507, 504, 409, 382, 455, 20, 389, 186, 467, 112, 433, 54, 31, 268, 29, 498, 171, 488, 201, 494, 375, 260, 437, 42, 131, 96, 225, 166, 463, 508, 77, 354, 347, 472, 505, 94, 295, 500, 485, 410, 307, 80, 17, 278, 383, 236, 125, 210, 11, 456, 297, 206, 215, 228, 21, 266, 483, 64, 321, 390, 303, 476, 173, 66, 187, 440, 89, 318, 135, 468, 69, 122, 147, 48, 113, 502, 223, 204, 221, 434, 363, 424, 393, 430, 55, 196, 117, 490, 323, 32, 417, 102, 143, 444, 269, 290, 27, 408, 185, 30, 487, 436, 165, 346, 499, 16, 209, 214, 63, 172, 317, 146, 203, 392, 489, 142, 407, 164, 213, 202, 163]
theorem turn_ok : ((List.range 512).all fun j => decide (turn511.getD j 0 ≤ 511) && (lcgN 511 (turn511.getD j 0) == j)) = true := by decide +kernel
theorem mk_at {m : Nat} (hm : Mk m) {j : Nat} (hj : j ≤ m) : ∃ b, b ≤ m ∧ lcgN m b = j := by
  rcases hm with e | e | e | e
  · exact lcg_all (.inl e) hj
  · exact lcg_all (.inr (.inl e)) hj
  · exact lcg_all (.inr (.inr e)) hj
  · subst e
    have h := List.all_eq_true.mp turn_ok j (List.mem_range.mpr (by omega))
    simp only [Bool.and_eq_true, decide_eq_true_eq, beq_iff_eq] at h
    exact ⟨_, h.1, h.2⟩
theorem mk_round {m : Nat} (hm : Mk m) : lcgN m (m + 1) = 0 := by
  rcases hm with e | e | e | e
  · exact lcg_round (.inl e)
  · exact lcg_round (.inr (.inl e))
  · exact lcg_round (.inr (.inr e))
  · subst e
    decide +kernel
theorem mk_more {m : Nat} (hm : Mk m) : ∀ k, lcgN m (m + 1 + k) = lcgN m k
  | 0 => mk_round hm
  | k + 1 => by
    show (lcgN m (m + 1 + k) * 5 + 1) % (m + 1) = (lcgN m k * 5 + 1) % (m + 1)
    rw [mk_more hm k]
/-- each slot begins a run early enough -/
theorem mk_runs {m : Nat} (hm : Mk m) (h : Int) {j : Nat} (hj : j ≤ m) : ∃ n, n ≤ m + 12 ∧ runI m (SetTable.bits h) n = j := by
  obtain ⟨a, ha, ea⟩ := mk_at hm (runI_le m (SetTable.bits h) 12)
  obtain ⟨b, hb, eb⟩ := mk_at hm hj
  have go : ∃ k, k ≤ m ∧ lcgI m (runI m (SetTable.bits h) 12) k = j := by
    rw [← ea]
    by_cases c : b < a
    · refine ⟨b + (m + 1) - a, by omega, ?_⟩
      rw [lcgN_add, show a + (b + (m + 1) - a) = m + 1 + b by omega, mk_more hm, eb]
    · refine ⟨b - a, by omega, ?_⟩
      rw [lcgN_add, show a + (b - a) = b by omega, eb]
  obtain ⟨k, hk, e⟩ := go
  exact ⟨12 + k, by omega, by rw [runI_tail (bits_lt h)]; exact e⟩
theorem way_in (m : Nat) (h : Int) (k : Nat) : way m h k ≤ m := by
  have := nth_in (m := m) k (runAt m (SetTable.bits h % (m + 1)) (SetTable.bits h)) (by
    have h1 : SetTable.bits h % (m + 1) ≤ m := Nat.le_of_lt_succ (Nat.mod_lt _ (Nat.succ_pos _))
    have h2 := runEnd_bd h1
    show SetTable.bits h % (m + 1) + (SetTable.runEnd m (SetTable.bits h % (m + 1)) - SetTable.bits h % (m + 1)) ≤ m
    omega)
  show (nth m _ k).j ≤ m
  omega
/-- the first empty slot on the way -/
theorem mk_first {m : Nat} (hm : Mk m) {l : List Nat} (hl : l.length ≤ m) (h : Int) : ∃ K, K < 10 * SetTable.turns m ∧ way m h K ∉ l ∧ ∀ k, k < K → way m h k ∈ l := by
  obtain ⟨j, hj, hn⟩ := st_missing l (m + 1) (by omega)
  obtain ⟨n, hn1, e⟩ := mk_runs hm h (Nat.le_of_lt_succ hj)
  obtain ⟨k, hk, e2⟩ := run_nth m (SetTable.bits h) n
  have ew : way m h k = j := by
    show (nth m _ k).j = j
    rw [e2]
    exact e
  obtain ⟨K, h1, h2, h3⟩ := st_least (p := fun k => way m h k ∉ l) k (by show way m h k ∉ l; rw [ew]; exact hn)
  exact ⟨K, by unfold SetTable.turns; omega, h2, fun k' hk' => Classical.byContradiction fun c => h3 k' hk' c⟩
/-- a slot for one more, as laying anew finds it -/
theorem mk_free {m : Nat} (hm : Mk m) (owner : Array (Option Nat)) (h : Int) {j : Nat} (hj : j ≤ m) (hf : oAt owner j = none) :
    ∃ K, SetTable.layClean.free m owner (SetTable.turns m) (SetTable.bits h % (m + 1)) (SetTable.bits h) = some (way m h K) ∧ oAt owner (way m h K) = none := by
  obtain ⟨n, hn, e⟩ := mk_runs hm h hj
  have hw : way m h (off m (SetTable.bits h % (m + 1)) (SetTable.bits h) n) = j := by
    show (nth m (runAt m (SetTable.bits h % (m + 1)) (SetTable.bits h)) (off m (SetTable.bits h % (m + 1)) (SetTable.bits h) n)).j = j
    rw [nth_off, itL_run]
    exact e
  obtain ⟨K, k1, k2, k3⟩ := st_least (p := fun k => oAt owner (way m h k) = none) _ (show oAt owner (way m h (off m (SetTable.bits h % (m + 1)) (SetTable.bits h) n)) = none by rw [hw]; exact hf)
  refine ⟨K, free_spec m owner (SetTable.turns m) n _ _ K (by unfold SetTable.turns; omega) k1 (fun k hk => ?_) ?_, k2⟩
  · have q := k3 k hk
    show (oAt owner (way m h k)).isNone = false
    cases z : oAt owner (way m h k) with
    | none => exact absurd z q
    | some _ => rfl
  · show (oAt owner (way m h K)).isNone = true
    rw [k2]
    rfl
/-- so many have a place -/
structure Pl (m n : Nat) (owner : Array (Option Nat)) : Prop where
  sz : owner.size = m + 1
  lt : ∀ j k, j ≤ m → oAt owner j = some k → k < n
  all : ∀ k, k < n → ∃ j, j ≤ m ∧ oAt owner j = some k
  ps : ∃ ps : List Nat, ps.length = n ∧ ∀ j, j ≤ m → oAt owner j ≠ none → j ∈ ps
theorem pl_zero (m : Nat) : Pl m 0 (Array.replicate (m + 1) none) where
  sz := by simp
  lt := fun j k hj e => by
    rw [oAt_init hj] at e
    cases e
  all := fun k hk => absurd hk (Nat.not_lt_zero _)
  ps := ⟨[], rfl, fun j hj e => absurd (oAt_init hj) e⟩
theorem pl_next {m n : Nat} (hm : Mk m) {owner : Array (Option Nat)} (W : Pl m n owner) (hl : n ≤ m) (h : Int) :
    ∃ j, SetTable.layClean.free m owner (SetTable.turns m) (SetTable.bits h % (m + 1)) (SetTable.bits h) = some j ∧ Pl m (n + 1) (owner.setIfInBounds j (some n)) := by
  obtain ⟨ps, hps, hin⟩ := W.ps
  obtain ⟨j0, h0, hn0⟩ := st_missing ps (m + 1) (by omega)
  have hj0 : oAt owner j0 = none := Classical.byContradiction fun c => hn0 (hin j0 (by omega) c)
  obtain ⟨K, e1, e2⟩ := mk_free hm owner h (by omega) hj0
  have hjm := way_in m h K
  have hself := oAt_set_self (some n) (show way m h K < owner.size by rw [W.sz]; omega)
  refine ⟨way m h K, e1, by rw [Array.size_setIfInBounds]; exact W.sz, fun j k hj e => ?_, fun k hk => ?_, way m h K :: ps, by rw [List.length_cons, hps], fun j hj e => ?_⟩
  · by_cases c : j = way m h K
    · rw [c, hself] at e
      have := Option.some.inj e
      omega
    · rw [oAt_set_ne _ c] at e
      have := W.lt j k hj e
      omega
  · by_cases c : k < n
    · obtain ⟨j, hj, e⟩ := W.all k c
      exact ⟨j, hj, by rw [oAt_set_ne _ (fun z => by rw [z, e2] at e; cases e)]; exact e⟩
    · exact ⟨way m h K, hjm, by rw [show k = n by omega]; exact hself⟩
  · by_cases c : j = way m h K
    · rw [c]
      exact List.mem_cons_self
    · rw [oAt_set_ne _ c] at e
      exact List.mem_cons_of_mem _ (hin j hj e)
theorem pl_fold {m : Nat} (hm : Mk m) : ∀ (rest : List Int) (n : Nat) (owner : Array (Option Nat)), Pl m n owner → n + rest.length ≤ m →
    ∃ owner', rest.foldl (stepF m) (some (owner, n)) = some (owner', n + rest.length) ∧ Pl m (n + rest.length) owner'
  | [], n, owner, W, _ => ⟨owner, rfl, W⟩
  | h :: rest, n, owner, W, hl => by
    rw [List.length_cons] at hl ⊢
    obtain ⟨j, e, W'⟩ := pl_next hm W (by omega) h
    obtain ⟨owner', f, W2⟩ := pl_fold hm rest (n + 1) _ W' (by omega)
    rw [show n + 1 + rest.length = n + (rest.length + 1) by omega] at f W2
    refine ⟨owner', ?_, W2⟩
    rw [List.foldl_cons, stepF_some e]
    exact f
/-- laid anew -/
theorem mk_relaid (t : SetTable) {hs : Array Int} {wanted M : Nat} (hw : SetTable.sizeAbove wanted - 1 = M) (hM : Mk M) (hn : hs.size ≤ M) :
    ∃ t' order, t.relaid hs wanted = some (t', order) ∧ order.size = hs.size ∧ (∀ i ∈ order.toList, i < hs.size) ∧ t'.place.size = hs.size ∧ Ris t'.place.toList ∧ t'.mask = M ∧ t'.led = t.led ∧ t'.plain = t.plain ∧ t'.dummies = #[] := by
  obtain ⟨owner, f, W⟩ := pl_fold hM hs.toList 0 _ (pl_zero M) (by rw [Array.length_toList]; omega)
  have e : SetTable.layClean M hs = some owner := by
    rw [layClean_eq, f]
    rfl
  rw [Nat.zero_add, Array.length_toList] at W
  have ris := ris_live (fun j => owner.getD j none) (List.range (M + 1)) (by
    unfold Ris
    first | exact List.pairwise_lt_range | exact List.pairwise_lt_range _)
  have r1 : Ris ((liveOf M owner).map (·.1)) := ris.1
  have hlen : (liveOf M owner).length = hs.size := by
    obtain ⟨ps, p1, p2⟩ := W.ps
    have nd : ((liveOf M owner).map (·.1)).Nodup := List.Pairwise.imp (fun h => Nat.ne_of_lt h) r1
    have a := nat_nodup_len ((liveOf M owner).map (·.1)) ps nd fun x hx => by
      obtain ⟨⟨y, k⟩, hq, rfl⟩ := List.mem_map.mp hx
      obtain ⟨b1, b2⟩ := (mem_live W.sz).1 hq
      exact p2 y b1 (by rw [b2]; exact fun z => nomatch z)
    have b := nat_nodup_len (List.range hs.size) ((liveOf M owner).map (·.2)) List.nodup_range fun k hk => by
      obtain ⟨j, b1, b2⟩ := W.all k (List.mem_range.mp hk)
      exact List.mem_map.mpr ⟨(j, k), (mem_live W.sz).2 ⟨b1, b2⟩, rfl⟩
    rw [List.length_map, p1] at a
    rw [List.length_map, List.length_range] at b
    omega
  refine ⟨tabOf t M owner, ((liveOf M owner).map (·.2)).toArray, by rw [relaid_eq, hw, e]; rfl, by rw [List.size_toArray, List.length_map, hlen], fun i hi => ?_, ?_, r1, rfl, rfl, rfl, rfl⟩
  · have hi' : i ∈ (liveOf M owner).map (·.2) := hi
    obtain ⟨⟨j, k⟩, hq, rfl⟩ := List.mem_map.mp hi'
    obtain ⟨b1, b2⟩ := (mem_live W.sz).1 hq
    exact W.lt j k b1 b2
  · show ((liveOf M owner).map (·.1)).toArray.size = hs.size
    rw [List.size_toArray, List.length_map, hlen]
theorem picks (es : Array (Int × Value)) : ∀ l : List Nat, (∀ i ∈ l, i < es.size) → (l.filterMap (fun i => es[i]?)).length = l.length ∧ ∀ e ∈ l.filterMap (fun i => es[i]?), e ∈ es.toList
  | [], _ => ⟨rfl, fun e h => by cases h⟩
  | i :: l, h => by
    have hi := h i List.mem_cons_self
    obtain ⟨h1, h2⟩ := picks es l fun j hj => h j (List.mem_cons_of_mem _ hj)
    have e : es[i]? = some es[i] := Array.getElem?_eq_getElem hi
    rw [List.filterMap_cons_some e]
    refine ⟨by rw [List.length_cons, List.length_cons, h1], fun x hx => ?_⟩
    rcases List.mem_cons.mp hx with rfl | hx
    · exact Array.getElem_mem_toList _
    · exact h2 x hx
section
variable {P : Program} {w : World} {A : Around} {E : Value → Shared → Prop} {s : Shared}
/-- the set of the tuples ks, all unequal -/
structure SR (P : Program) (w : World) (D : Addr → Prop) (h : Heap) (a : Addr) (ks : List (List Int)) (es : Array (Int × Value)) (ep : Nat) (t : SetTable) : Prop where
  ob : ∃ o, h.get? a = some o ∧ o.ExactSet ∧ o.data = .set es ep t
  n : es.size = ks.length
  ent : ∀ e ∈ es.toList, ∃ k b, k ∈ ks ∧ e = (thash P w k, Value.ref b) ∧ IsT P w h k b ∧ D b
  sz : t.place.size = ks.length
  dm : t.dummies = #[]
  ris : Ris t.place.toList
  mok : Mk t.mask
  plain : t.plain = true
  led : w.params.followText "set-order" = true ∨ t.led = true
  room : ks.length * 5 < t.mask * 3
variable {D : Addr → Prop} {a : Addr} {ks : List (List Int)} {es : Array (Int × Value)} {ep : Nat} {t : SetTable}
theorem mk_odd {m : Nat} (h : Mk m) : m % 2 = 1 := by
  rcases h with e | e | e | e <;> subst e <;> rfl
theorem fits_of {n : Nat} (sz : t.place.size = n) (dm : t.dummies = #[]) (h : n ≤ t.mask) : t.fits n = true := by
  unfold SetTable.fits SetTable.fill
  rw [dm, Bool.and_eq_true, beq_iff_eq, decide_eq_true_eq]
  show t.place.size = n ∧ t.place.size + 0 ≤ t.mask
  omega
theorem SR.fits (R : SR P w D s.heap a ks es ep t) : t.fits es.size = true := by
  have h3 := R.room
  have h2 := R.n
  exact fits_of (by rw [R.sz, R.n]) R.dm (by omega)
theorem SR.keep {h h' : Heap} (R : SR P w D h a ks es ep t) (k : ∀ o, h.get? a = some o → h'.get? a = some o) (kd : ∀ b o, D b → h.get? b = some o → h'.get? b = some o) : SR P w D h' a ks es ep t := by
  obtain ⟨o, ho, r⟩ := R.ob
  exact ⟨⟨o, k _ ho, r⟩, R.n, fun e he => let ⟨k', b, a1, a2, ⟨o', its, n, g1, g⟩, a4⟩ := R.ent e he; ⟨k', b, a1, a2, ⟨o', its, n, kd _ _ a4 g1, g⟩, a4⟩, R.sz, R.dm, R.ris, R.mok, R.plain, R.led, R.room⟩
/-- the search for what is not in it -/
theorem SR.look (R : SR P w D s.heap a ks es ep t) {x : Addr} {k : List Int} (hx : IsT P w s.heap k x) (hk : k ∉ ks) (hu : A.units < cLine) {K : Nat} (hKf : K < 10 * SetTable.turns t.mask)
    (hK : way t.mask (thash P w k) K ∉ t.place.toList) (hKb : ∀ c, c < K → way t.mask (thash P w k) c ∈ t.place.toList) {Q : SetFound → Shared → Prop} (hq : Q (.free (way t.mask (thash P w k) K) false) s) :
    ∀ (f c : Nat) (stand : Option SetTable.Probe), stand.getD (t.probeStart (thash P w k)) = nth t.mask (runAt t.mask (SetTable.bits (thash P w k) % (t.mask + 1)) (SetTable.bits (thash P w k))) c → c ≤ K → K - c < f →
      wpAny (model P w) A (setSearchFrom a (.ref x) (thash P w k) true f stand) Q E s
  | 0, c, stand, _, _, hf => absurd hf (Nat.not_lt_zero _)
  | f + 1, c, stand, hst, hc, hf => by
    obtain ⟨o, ho, hex, hd⟩ := R.ob
    rw [setSearchFrom_succ]
    refine wpAny_bind (wpAny_setState_of ho hd R.fits ?_)
    dsimp only
    refine wp_if_neg (by unfold SetTable.gaveWay; rw [mk_odd R.mok]; decide) ?_
    try refine wpAny_bind (wpAny_pure ?_)
    have nd : ∀ (n : Nat) (p : SetTable.Probe), p.dummy = none → (nth t.mask p n).dummy = none := by
      intro n
      induction n with
      | zero => intro p h; exact h
      | succ n ih =>
        intro p h
        refine ih (adv t.mask p) ?_
        unfold adv
        split <;> exact h
    have sh : ∀ q, nth t.mask (nth t.mask (runAt t.mask (SetTable.bits (thash P w k) % (t.mask + 1)) (SetTable.bits (thash P w k))) c) q = nth t.mask (runAt t.mask (SetTable.bits (thash P w k) % (t.mask + 1)) (SetTable.bits (thash P w k))) (c + q) := fun q => (nth_add t.mask c _ q).symm
    have e1 : ∀ q, (nth t.mask (nth t.mask (runAt t.mask (SetTable.bits (thash P w k) % (t.mask + 1)) (SetTable.bits (thash P w k))) c) q).j = way t.mask (thash P w k) (c + q) := fun q => congrArg SetTable.Probe.j (sh q)
    have spec := go_spec t R.ris R.dm (fun i => (es[i]?.map (·.1)).getD 0) (thash P w k) (10 * SetTable.turns t.mask) (K - c) _ (nd c _ rfl) (by omega)
      (fun q hq => by rw [e1]; exact hKb (c + q) (by omega)) (by rw [e1, show c + (K - c) = K by omega]; exact hK)
    rcases spec with ⟨q, i, hq', hi, _, _, hpr⟩ | ⟨_, hpr⟩
    · have hpr' : t.probe (fun i => (es[i]?.map (·.1)).getD 0) (thash P w k) (stand.getD (t.probeStart (thash P w k))) = some (.candidate (way t.mask (thash P w k) (c + q)) i (nth t.mask (runAt t.mask (SetTable.bits (thash P w k) % (t.mask + 1)) (SetTable.bits (thash P w k))) (c + (q + 1)))) := by
        rw [hst, ← e1, ← sh]
        exact hpr
      rw [hpr']
      dsimp only
      rw [e1] at hi
      have hil : i < es.size := by
        have h1 : i < t.place.toList.length := (List.getElem?_eq_some_iff.mp hi).1
        rw [Array.length_toList, R.sz] at h1
        rw [R.n]
        exact h1
      have hei : es[i]? = some es[i] := Array.getElem?_eq_getElem hil
      obtain ⟨k', b, hk', ee, hb, _⟩ := R.ent es[i] (Array.getElem_mem_toList _)
      rw [ee] at hei
      have hne : k' ≠ k := fun z => hk (z ▸ hk')
      have rest : wpAny (model P w) A (searchRest a (.ref x) (thash P w k) true f es t (way t.mask (thash P w k) (c + q)) i (nth t.mask (runAt t.mask (SetTable.bits (thash P w k) % (t.mask + 1)) (SetTable.bits (thash P w k))) (c + (q + 1)))) Q E s := by
        unfold searchRest
        rw [hei]
        dsimp only
        refine wpAny_bind (wpAny_holding (wpAny_eqBool_tuple hu hb hx ?_))
        refine wpAny_bind (wpAny_setState_of ho hd R.fits ?_)
        dsimp only
        refine wp_if_neg (by simp [hne]) ?_
        try refine wpAny_bind (wpAny_pure ?_)
        rw [sameMem]
        dsimp only
        have hsl : t.slot (way t.mask (thash P w k) (c + q)) = .live i := slot_live R.ris hi
        simp only [if_true, hsl, hei]
        refine wpAny_bind (wpAny_isSame_ref_self (wpAny_bind (wpAny_pure ?_)))
        simp only [if_true]
        refine wp_if_neg (by simp [hne]) ?_
        exact SR.look R hx hk hu hKf hK hKb hq f (c + (q + 1)) _ rfl (by omega) (by omega)
      by_cases hl : t.led = true
      · refine wp_if_neg (by simp [hl]) ?_
        try refine wpAny_bind (wpAny_pure ?_)
        exact rest
      · refine wp_if_pos (by simp [hl]) ?_
        refine wpAny_bind (seen_tup hx (fun y hy => ?_) ?_)
        · obtain ⟨e, he, rfl⟩ := List.mem_map.mp hy
          have he1 : e ∈ es ∧ e.1 = thash P w k := by simpa using he
          obtain ⟨k2, b2, _, e2, hb2, _⟩ := R.ent e (by simpa using he1.1)
          exact ⟨k2, b2, by rw [e2], hb2⟩
        · refine wp_if_neg (by decide) ?_
          try refine wpAny_bind (wpAny_pure ?_)
          exact rest
    · have hpr' : t.probe (fun i => (es[i]?.map (·.1)).getD 0) (thash P w k) (stand.getD (t.probeStart (thash P w k))) = some (.empty (way t.mask (thash P w k) K) none) := by
        have e2 : way t.mask (thash P w k) K = (nth t.mask (nth t.mask (runAt t.mask (SetTable.bits (thash P w k) % (t.mask + 1)) (SetTable.bits (thash P w k))) c) (K - c)).j := by
          rw [e1, show c + (K - c) = K by omega]
        rw [hst, e2]
        exact hpr
      rw [hpr']
      dsimp only
      exact wpAny_pure hq
/-- the table laid anew -/
theorem sr_relay {o : Obj} (ho : s.heap.get? a = some o) (hex : o.ExactSet) (hd : o.data = .set es ep t) (hn : es.size = ks.length) (ent : ∀ e ∈ es.toList, ∃ k b, k ∈ ks ∧ e = (thash P w k, Value.ref b) ∧ IsT P w s.heap k b ∧ D b)
    (sz : t.place.size = ks.length) (dm : t.dummies = #[]) (hfl : ks.length ≤ t.mask) (pl : t.plain = true) (ld : w.params.followText "set-order" = true ∨ t.led = true) {wanted M : Nat}
    (hw : SetTable.sizeAbove wanted - 1 = M) (hM : Mk M) (hw2 : SetTable.sizeAbove wanted ≤ 512) (h102 : ks.length ≤ 1000) (hr : ks.length * 5 < M * 3) {Q : Unit → Shared → Prop}
    (hQ : ∀ h' es' ep' t', Heap.SameBut a s.heap h' → SR P w D h' a ks es' ep' t' → Q () { s with heap := h' }) : wpAny (model P w) A (setRelay a wanted) Q E s := by
  obtain ⟨t', order, e, o1, o2, p1, p2, em, el, ep', ed⟩ := mk_relaid t (hs := es.map (·.1)) (wanted := wanted) hw hM (by rw [Array.size_map, hn]; omega)
  rw [Array.size_map] at o1 p1
  have o2' : ∀ i ∈ order.toList, i < es.size := fun i hi => by
    have := o2 i hi
    rw [Array.size_map] at this
    exact this
  obtain ⟨f1, f2⟩ := picks es order.toList o2'
  have tl : (order.filterMap (es[·]?)).toList = order.toList.filterMap (fun i => es[i]?) := by first | exact Array.toList_filterMap .. | simp
  have hs2 : (order.filterMap (es[·]?)).size = es.size := by
    rw [← Array.length_toList, tl, f1, Array.length_toList, o1]
  rw [setRelay_eq]
  refine wpAny_bind (wpAny_setState_of ho hd (fits_of (by rw [sz, hn]) dm (by rw [hn]; exact hfl)) ?_)
  dsimp only
  refine wp_if_neg (by rw [sizeLine_eq]; omega) ?_
  try refine wpAny_bind (wpAny_pure ?_)
  rw [e]
  dsimp only
  refine wpAny_bind ?_
  refine wp_if_neg (by rw [hs2]; simp) ?_
  try refine wpAny_bind (wpAny_pure ?_)
  refine wpAny_pure ?_
  dsimp only
  refine wpAny_storeSet_of ho hd ?_ (by rw [hs2, hn, sizeLine_eq]; omega)
  have sb : Heap.SameBut a s.heap (s.heap.update a (Obj.putSet (order.filterMap (es[·]?)) t')) := Heap.SameBut.update ..
  refine hQ _ (order.filterMap (es[·]?)) (ep + 1) t' sb ⟨⟨_, store_at ho hd, ⟨hex.1, hex.2.1, hex.2.2⟩, rfl⟩, by rw [hs2, hn], fun x hx => ?_, by rw [p1, hn], ed, p2, by rw [em]; exact hM, by rw [ep']; exact pl, by rw [el]; exact ld, by rw [em]; exact hr⟩
  rw [tl] at hx
  obtain ⟨k, b, a1, a2, a3, a4⟩ := ent x (f2 x hx)
  exact ⟨k, b, a1, a2, isT_same a3 ho hd sb, a4⟩
theorem size_308 : SetTable.sizeAbove (SetTable.grown 77) = 512 := by decide +kernel
/-- one more -/
theorem SR.more (R : SR P w D s.heap a ks es ep t) {x : Addr} {k : List Int} (hx : IsT P w s.heap k x) (hD : D x) (hk : k ∉ ks) (hu : A.units < cLine) (hfew : ks.length < 200) {Q : Bool → Shared → Prop}
    (hQ : ∀ h' es' ep' t', Heap.SameBut a s.heap h' → SR P w D h' a (k :: ks) es' ep' t' → Q true { s with heap := h' }) :
    wpAny (model P w) A (setAddHashed a (.ref x) (thash P w k)) Q E s := by
  obtain ⟨o, ho, hex, hd⟩ := R.ob
  have hn := R.n
  have hroom := R.room
  have lp : t.place.toList.length ≤ t.mask := by
    rw [Array.length_toList, R.sz]
    omega
  obtain ⟨K, hKf, hK, hKb⟩ := mk_first R.mok lp (thash P w k)
  have hbig : K < 100000 := by
    have : 10 * SetTable.turns t.mask ≤ 5260 := by
      unfold SetTable.turns
      rcases R.mok with e | e | e | e <;> omega
    omega
  unfold setAddHashed
  refine wpAny_holding ?_
  rw [show (100000 : Nat) = 99999 + 1 from rfl, setAddHashedIn_succ]
  refine wpAny_bind (wpAny_setState_of ho hd R.fits ?_)
  dsimp only
  refine wp_if_neg (by simp [byScan, Value.scannable]) ?_
  try refine wpAny_bind (wpAny_pure ?_)
  refine wpAny_bind ?_
  unfold setSearch
  refine SR.look R hx hk hu hKf hK hKb ?_ 100000 0 none rfl (Nat.zero_le _) (by omega)
  dsimp only
  refine wpAny_bind (wpAny_setState_of ho hd R.fits ?_)
  dsimp only
  obtain ⟨c1, _, _⟩ := below_cut R.ris (way t.mask (thash P w k) K)
  have hnp : t.place[SetTable.below t.place (way t.mask (thash P w k) K)]? ≠ some (way t.mask (thash P w k) K) := fun e => hK (List.mem_of_getElem? (by rw [Array.getElem?_toList]; exact e))
  have hpp := put_place t (way t.mask (thash P w k) K)
  have hpl : SetTable.below t.place (way t.mask (thash P w k) K) ≤ t.place.toList.length := by rw [Array.length_toList]; exact c1
  have q1 : (t.put (way t.mask (thash P w k) K)).2 = SetTable.below t.place (way t.mask (thash P w k) K) := rfl
  have q2 : (t.put (way t.mask (thash P w k) K)).1.place.size = ks.length + 1 := by
    rw [← Array.length_toList, hpp, len_ins _ hpl, Array.length_toList, R.sz]
  have q3 : Ris (t.put (way t.mask (thash P w k) K)).1.place.toList := ris_insert R.ris hnp
  have q4 : (t.put (way t.mask (thash P w k) K)).1.dummies = #[] := put_dm R.dm _
  have q5 : (t.put (way t.mask (thash P w k) K)).1.mask = t.mask := rfl
  have q6 : (t.put (way t.mask (thash P w k) K)).1.led = t.led := rfl
  have q7 : (t.put (way t.mask (thash P w k) K)).1.plain = true := R.plain
  have q9 : (t.put (way t.mask (thash P w k) K)).1.fill = ks.length + 1 := by
    show (t.put (way t.mask (thash P w k) K)).1.place.size + (t.put (way t.mask (thash P w k) K)).1.dummies.size = ks.length + 1
    rw [q2, q4]
    rfl
  have hp2 : SetTable.below t.place (way t.mask (thash P w k) K) ≤ es.toList.length := by
    rw [Array.length_toList, hn, ← R.sz]
    exact c1
  generalize t.put (way t.mask (thash P w k) K) = pt at q1 q2 q3 q4 q5 q6 q7 q9 ⊢
  obtain ⟨t1, p⟩ := pt
  dsimp only at q1 q2 q3 q4 q5 q6 q7 q9 ⊢
  subst q1
  first
    | (refine wpAny_bind ?_; refine wp_if_pos q7 ?_; refine hashBy_tup hx ?_)
    | refine wp_if_pos q7 (wpAny_bind (hashBy_tup hx ?_))
  simp only [if_true]
  generalize SetTable.below t.place (way t.mask (thash P w k) K) = p at hp2 ⊢
  have hin : (SetTable.insertAt es p (thash P w k, Value.ref x)).toList = es.toList.take p ++ (thash P w k, Value.ref x) :: es.toList.drop p := SetTable.toList_insertAt _ _ _
  have hes : (SetTable.insertAt es p (thash P w k, Value.ref x)).size = ks.length + 1 := by
    rw [← Array.length_toList, hin, len_ins _ hp2, Array.length_toList, hn]
  have hent : ∀ e ∈ (SetTable.insertAt es p (thash P w k, Value.ref x)).toList, ∃ k' b, k' ∈ k :: ks ∧ e = (thash P w k', Value.ref b) ∧ IsT P w s.heap k' b ∧ D b := fun e he => by
    rw [hin] at he
    rcases mem_ins.1 he with rfl | he
    · exact ⟨k, x, List.mem_cons_self, rfl, hx, hD⟩
    · obtain ⟨k', b, a1, a2, a3, a4⟩ := R.ent e he
      exact ⟨k', b, List.mem_cons_of_mem _ a1, a2, a3, a4⟩
  generalize SetTable.insertAt es p (thash P w k, Value.ref x) = es1 at hes hent ⊢
  refine wpAny_bind (wpAny_storeSet_of ho hd ?_ (by rw [hes, sizeLine_eq]; omega))
  have sb : Heap.SameBut a s.heap (s.heap.update a (Obj.putSet es1 t1)) := Heap.SameBut.update ..
  have ho1 := store_at (es' := es1) (t' := t1) ho hd
  generalize s.heap.update a (Obj.putSet es1 t1) = h1 at sb ho1 ⊢
  have ent1 : ∀ e ∈ es1.toList, ∃ k' b, k' ∈ k :: ks ∧ e = (thash P w k', Value.ref b) ∧ IsT P w h1 k' b ∧ D b := fun e he => by
    obtain ⟨k', b, a1, a2, a3, a4⟩ := hent e he
    exact ⟨k', b, a1, a2, isT_same a3 ho hd sb, a4⟩
  have ld1 : w.params.followText "set-order" = true ∨ t1.led = true := by rw [q6]; exact R.led
  by_cases hf : t1.tooFull = true
  · first
      | (refine wpAny_bind ?_; refine wp_if_pos (by simp [hf]) ?_)
      | (refine wp_if_pos (by simp [hf]) ?_; refine wpAny_bind ?_)
    have hfull : (ks.length + 1) * 5 ≥ t1.mask * 3 := by
      have h := hf
      unfold SetTable.tooFull at h
      rw [decide_eq_true_eq, q9] at h
      exact h
    rw [q5] at hfull
    rw [hn]
    have go : ∀ M, SetTable.sizeAbove (SetTable.grown (ks.length + 1)) - 1 = M → Mk M → SetTable.sizeAbove (SetTable.grown (ks.length + 1)) ≤ 512 → (ks.length + 1) * 5 < M * 3 → ks.length + 1 ≤ t.mask →
        wpAny (model P w) A (setRelay a (SetTable.grown (ks.length + 1))) (fun _ s' => wpAny (model P w) A (pure true) Q E s') E { s with heap := h1 } := fun M h1' h2' h3' h4' h5' => by
      refine sr_relay (s := { s with heap := h1 }) (ks := k :: ks) ho1 ⟨hex.1, hex.2.1, hex.2.2⟩ rfl hes ent1 q2 q4 (by rw [q5]; exact h5') q7 ld1 h1' h2' h3' (by rw [List.length_cons]; omega) h4' ?_
      intro h2 es2 ep2 t2 sb2 R2
      exact wpAny_pure (hQ h2 es2 ep2 t2 (sb.trans sb2) R2)
    rcases R.mok with e | e | e | e
    · have e2 : ks.length = 4 := by omega
      exact go 31 (by rw [e2, size_20]) (.inr (.inl rfl)) (by rw [e2, size_20]; decide) (by omega) (by omega)
    · have e2 : ks.length = 18 := by omega
      exact go 127 (by rw [e2, size_76]) (.inr (.inr (.inl rfl))) (by rw [e2, size_76]; decide) (by omega) (by omega)
    · have e2 : ks.length = 76 := by omega
      exact go 511 (by rw [e2, size_308]) (.inr (.inr (.inr rfl))) (by rw [e2, size_308]; decide) (by omega) (by omega)
    · exfalso
      omega
  · first
      | refine wp_if_neg (by simp [hf]) ?_
      | (refine wpAny_bind ?_; refine wp_if_neg (by simp [hf]) ?_; refine wpAny_pure ?_)
    refine wpAny_pure (hQ h1 es1 (ep + 1) t1 sb ⟨⟨_, ho1, ⟨hex.1, hex.2.1, hex.2.2⟩, rfl⟩, hes, ent1, q2, q4, q3, by rw [q5]; exact R.mok, q7, ld1, ?_⟩)
    have h := hf
    unfold SetTable.tooFull at h
    rw [decide_eq_true_eq, q9] at h
    rw [List.length_cons]
    omega
end
end Pr

namespace Pr
open PySem PySem.Spec PyProof.Rows L2
/-! len(set(xs)) of unequal tuples of whole numbers -/
section
variable {P : Program} {w : World} {A : Around} {E : Value → Shared → Prop} {s : Shared}
/-- the keys of the first i, the last one ahead -/
def upTo (ks : List (Addr × List Int)) (i : Nat) : List (List Int) := ((ks.take i).map (·.2)).reverse
theorem upTo_next {ks : List (Addr × List Int)} {i : Nat} {p : Addr × List Int} (h : ks[i]? = some p) : upTo ks (i + 1) = p.2 :: upTo ks i := by
  unfold upTo
  rw [List.take_succ, h, Option.toList_some, List.map_append, List.reverse_append]
  rfl
theorem upTo_new {ks : List (Addr × List Int)} (nd : (ks.map (·.2)).Nodup) {i : Nat} {p : Addr × List Int} (h : ks[i]? = some p) : p.2 ∉ upTo ks i := fun hm => by
  unfold upTo at hm
  rw [List.mem_reverse, List.map_take] at hm
  obtain ⟨j, hj⟩ := List.mem_iff_getElem?.mp hm
  have hji : j < i := by
    have := (List.getElem?_eq_some_iff.mp hj).1
    rw [List.length_take] at this
    omega
  rw [List.getElem?_take_of_lt hji] at hj
  have hi : (ks.map (·.2))[i]? = some p.2 := by rw [List.getElem?_map, h]; rfl
  have := (List.getElem?_inj (List.getElem?_eq_some_iff.mp hj).1 nd).mp (hj.trans hi.symm)
  omega
theorem upTo_len (ks : List (Addr × List Int)) (i : Nat) : (upTo ks i).length ≤ ks.length := by
  unfold upTo
  rw [List.length_reverse, List.length_map, List.length_take]
  exact Nat.min_le_right _ _
/-- the loop of set.update -/
theorem sr_loop {I : Addr} {fp wr : List Addr} {G : Array GenState → Array GenState → Prop} {n : Nat} {Pv : Nat → Value → Prop} {St : Nat → Shared → Prop} {R : Result → Shared → Prop}
    (W : WalksS P w A.in1 I fp wr G n Pv St) (S : Addr) (hSf : S ∉ fp) (ks : List (Addr × List Int)) (hn : n = ks.length) (hfew : ks.length < 200) (nd : (ks.map (·.2)).Nodup) (hval : ∀ i v, Pv i v → ∃ p, ks[i]? = some p ∧ v = .ref p.1)
    (h0 : Heap) (hk : ∀ p ∈ ks, IsT P w h0 p.2 p.1) (hS0 : h0.get? S = none) (hw0 : ∀ b ∈ wr, h0.get? b = none) (hu : A.in1.units < cLine) :
    ∀ (k i : Nat) (s : Shared), n - i = k → i ≤ n → St i s → (∀ b o, h0.get? b = some o → s.heap.get? b = some o) → (∃ es ep t, SR P w (fun b => ∃ o, h0.get? b = some o) s.heap S (upTo ks i) es ep t) →
      (∀ s' es ep t, Moved (S :: wr) G s s' → SR P w (fun b => ∃ o, h0.get? b = some o) s'.heap S (upTo ks n) es ep t → (∀ b o, h0.get? b = some o → s'.heap.get? b = some o) → R (.ok (.ret .none)) s') →
      codeAny (model P w) A (.builtin "set.update.loop" ⟨[.ref S, .ref I], []⟩) R s := by
  have hSw : S ∉ wr := fun h => hSf (W.sub _ h)
  have hsub : ∀ b ∈ wr, b ∈ S :: wr := fun b hb => List.mem_cons_of_mem _ hb
  have keepM : ∀ {s s' : Shared}, Moved wr G s s' → (∀ b o, h0.get? b = some o → s.heap.get? b = some o) → ∀ b o, h0.get? b = some o → s'.heap.get? b = some o := fun hm hkp b o e =>
    hm.heap b o (fun hb => by rw [hw0 b hb] at e; cases e) (hkp b o e)
  have keepR : ∀ {s s' : Shared} {i : Nat} {es : Array (Int × Value)} {ep : Nat} {t : SetTable}, Moved wr G s s' → (∀ b o, h0.get? b = some o → s.heap.get? b = some o) → SR P w (fun b => ∃ o, h0.get? b = some o) s.heap S (upTo ks i) es ep t →
      SR P w (fun b => ∃ o, h0.get? b = some o) s'.heap S (upTo ks i) es ep t := fun hm hkp R => R.keep (fun o e => hm.heap S o hSw e) fun b o ⟨o', d⟩ e => hm.heap b o (fun hb => by rw [hw0 b hb] at d; cases d) e
  intro k
  induction k with
  | zero =>
    intro i s hk' hi hst hkp ⟨es, ep, t, hS⟩ hR
    have hin : i = n := by omega
    subst hin
    refine codeAny_builtin F.entry_set_update_loop ?_
    rw [Around.under_plainId F.plain_set_update_loop _]
    show wpAny _ A.in1 (pyNext (.ref I) >>= _) _ _ s
    refine wpAny_bind (W.done s _ _ hst fun s' hm => ?_)
    show wpAny _ A.in1 (ret Value.none) _ _ s'
    exact wpAny_pure (hR s' es ep t (hm.mono hsub) (keepR hm hkp hS) (keepM hm hkp))
  | succ k ih =>
    intro i s hk' hi hst hkp ⟨es, ep, t, hS⟩ hR
    have hlt : i < n := by omega
    refine codeAny_builtin F.entry_set_update_loop ?_
    rw [Around.under_plainId F.plain_set_update_loop _]
    show wpAny _ A.in1 (pyNext (.ref I) >>= _) _ _ s
    refine wpAny_bind (W.item i s _ _ hlt hst fun v s' hP hst' hm => ?_)
    obtain ⟨p, hp, rfl⟩ := hval i v hP
    have hkp' := keepM hm hkp
    have hS' := keepR hm hkp hS
    have hk0 := hk p (List.mem_of_getElem? hp)
    have hx : IsT P w s'.heap p.2 p.1 := isT_keep hk0 hkp'
    show wpAny _ A.in1 (holding [Value.ref p.1] (setAdd S (.ref p.1)) >>= _) _ _ s'
    refine wpAny_bind (wpAny_holding ?_)
    unfold setAdd
    refine wpAny_holding ?_
    refine wpAny_bind (wpAny_pyHash_tuple hu hx ?_)
    have few := upTo_len ks i
    refine SR.more (s := { s' with toks := s'.toks + (p.2.length + 1) }) hS' hx (let ⟨o, _, _, g, _⟩ := hk0; ⟨o, g⟩) (upTo_new nd hp) hu (by omega) fun h' es' ep' t' hsb hS2 => ?_
    rw [← upTo_next hp] at hS2
    have hkp2 : ∀ b o, h0.get? b = some o → h'.get? b = some o := fun b o e => (hsb.2 b (fun z => by rw [z, hS0] at e; cases e)).trans (hkp' b o e)
    refine wpAny_pure ⟨plainId_quiet F.plain_set_update_loop _, ih (i + 1) _ (by omega) hlt (W.frame _ s' _ _ hst' (Nat.le_add_right _ _) fun b hb o e => ?_) hkp2 ⟨es', ep', t', hS2⟩ fun s'' es2 ep2 t2 hm'' hS'' hkp'' => ?_⟩
    · rw [hsb.2 b (fun h : b = S => hSf (by rw [← h]; exact hb))]
      exact e
    · refine hR s'' es2 ep2 t2 (Moved.trans W.gtrans ((hm.mono hsub).then_heap (Nat.le_add_right _ _) fun b o hb e => ?_) hm'') hS'' hkp''
      rw [hsb.2 b (fun h : b = S => hb (by rw [h]; exact List.mem_cons_self))]
      exact e
/-- a new set -/
theorem sr_fresh {D : Addr → Prop} {h : Heap} {a : Addr} (ho : h.get? a = some { cls := .type "set", dict := none, data := .set #[] 0 (.fresh 0 0 (!w.params.followText "set-order")) }) : SR P w D h a [] #[] 0 (.fresh 0 0 (!w.params.followText "set-order")) where
  ob := ⟨_, ho, ⟨rfl, rfl, rfl⟩, rfl⟩
  n := rfl
  ent := fun e he => by cases he
  sz := rfl
  dm := rfl
  ris := List.Pairwise.nil
  mok := .inl rfl
  plain := rfl
  led := by
    show _ ∨ (!w.params.followText "set-order") = true
    cases w.params.followText "set-order"
    · exact .inr rfl
    · exact .inl rfl
  room := by
    show 0 * 5 < 7 * 3
    decide
set_option maxHeartbeats 6400000 in
/-- set(xs) -/
theorem sr_call {l : Addr} {items : Array Value} (ks : List (Addr × List Int)) {Q : Value → Shared → Prop} (hh : A.handled = none) (hl : s.heap.IsList l items) (hit : items.toList = ks.map fun p => Value.ref p.1)
    (hk : ∀ p ∈ ks, IsT P w s.heap p.2 p.1) (nd : (ks.map (·.2)).Nodup) (hfew : ks.length < 200) (hu : A.units + 3 < cLine)
    (h : ∀ (h' : Heap) (tk : Nat) es ep t, SR P w (fun b => ∃ o, s.heap.get? b = some o) h' s.heap.objs.size (upTo ks ks.length) es ep t → (∀ b o, s.heap.get? b = some o → h'.get? b = some o) → Q (.ref s.heap.objs.size) { s with heap := h', toks := tk }) :
    wpAny (model P w) A (call (.type "set") [.ref l]) Q E s := by
  have hisz : items.size = ks.length := by
    have q := congrArg List.length hit
    rw [Array.length_toList, List.length_map] at q
    exact q
  obtain ⟨c, tl, hmro⟩ := F.called_set.mro
  have hmade := F.called_set.made
  have hsub := F.called_set.sub
  refine wpAny_call (codeAny_of_tree ?_)
  show wpAny _ _ (callAny (.type "set") _) _ _ _
  refine wpAny_pure ⟨Code.quiet_builtin _ (by decide +kernel), codeAny_builtin F.entry_type_call ?_⟩
  rw [Around.under_plain (weight_type_call_type "set" [.ref l] []) rfl]
  have h1 := F.called_set.notType
  have h2 := F.called_set.canCreate
  have hct := F.typeCall_set_1 (.ref l)
  repeat (any_goals (first | assumption | wp_step))
  refine codeAny_mono (code_set_led1 (.ref l) (E := E) (Q₁ := fun obj s₁ => obj = .ref s.heap.objs.size ∧ s₁ = { s with heap := s.heap.push { cls := .type "set", dict := none, data := .set #[] 0 (.fresh 0 0 (!w.params.followText "set-order")) } }) ⟨rfl, rfl⟩) fun r s₁ hr => ?_
  cases r with
  | error e => exact hr
  | ok fl =>
    cases fl with
    | ret obj =>
      obtain ⟨rfl, rfl⟩ := hr
      have hS : (s.heap.push { cls := .type "set", dict := none, data := .set #[] 0 (.fresh 0 0 (!w.params.followText "set-order")) }).get? s.heap.objs.size = some { cls := .type "set", dict := none, data := .set #[] 0 (.fresh 0 0 (!w.params.followText "set-order")) } := Heap.get?_push_size _ rfl
      have hT : Shared.TypeIs { s with heap := s.heap.push { cls := .type "set", dict := none, data := .set #[] 0 (.fresh 0 0 (!w.params.followText "set-order")) } } (.ref s.heap.objs.size) "set" := ⟨_, hS, rfl⟩
      have hli := F.called_set.init.lookup
      have hbi := F.called_set.init.bind (.ref s.heap.objs.size)
      repeat (any_goals (first | assumption | wp_step))
      refine codeAny_mono (codeAny_call_builtin (R := wants (fun r s₂ => r = .none ∧ ∃ h' tk es ep t, s₂ = { s with heap := h', toks := tk } ∧ SR P w (fun b => ∃ o, s.heap.get? b = some o) h' s.heap.objs.size (upTo ks ks.length) es ep t ∧
          (∀ b o, s.heap.get? b = some o → h'.get? b = some o)) E) F.called_set.init.plain F.entry_set_init (check_set_init_1 hT ?_)) fun r₂ s₂ hr₂ => ?_
      · obtain ⟨ol, hol, hcl, nl, hdl⟩ := hl
        obtain ⟨ocls, odict, odata, oslots⟩ := ol
        simp only at hcl hdl
        subst hcl; subst hdl
        have hol' : (s.heap.push { cls := .type "set", dict := none, data := .set #[] 0 (.fresh 0 0 (!w.params.followText "set-order")) }).get? l = some { cls := .type "list", dict := odict, data := .seq items nl, slots := oslots } := Heap.get?_push_of_some _ hol
        have hsls := F.sub_list_set
        have hslf := F.sub_list_frozenset
        have hne : (Value.type "list" == Value.type "dict") = false := by decide
        have hl1 : (s.heap.push { cls := .type "set", dict := none, data := .set #[] 0 (.fresh 0 0 (!w.params.followText "set-order")) }).IsList l items := ⟨_, hol', rfl, nl, rfl⟩
        unfold Builtin.«set.__init__» noKeywords Builtin.Frozenset.updateFrom
        generalize hPI : pyIter = PI
        wp_walk
        subst hPI
        refine wpAny_pyIter_list hl1 ?_
        refine wpAny_bind (wpAny_runValue ?_)
        have hlS : l < s.heap.objs.size := Heap.lt_size hol
        have hh3 : A.in1.in1.in1.handled = none := by simp [hh]
        have hneI : l ≠ (s.heap.push { cls := .type "set", dict := none, data := .set #[] 0 (.fresh 0 0 (!w.params.followText "set-order")) }).objs.size := by
          rw [Heap.size_push]; exact Nat.ne_of_lt (Nat.lt_succ_of_lt hlS)
        have hSf : s.heap.objs.size ∉ [(s.heap.push { cls := .type "set", dict := none, data := .set #[] 0 (.fresh 0 0 (!w.params.followText "set-order")) }).objs.size, l] := by
          rw [Heap.size_push]; simp only [List.mem_cons, List.not_mem_nil, or_false, not_or]
          exact ⟨Nat.ne_of_lt (Nat.lt_succ_self _), Nat.ne_of_gt hlS⟩
        have hval : ∀ (i : Nat) (v : Value), items[i]? = some v → ∃ p, ks[i]? = some p ∧ v = .ref p.1 := fun i v hv => by
          have q : items.toList[i]? = some v := by rw [Array.getElem?_toList]; exact hv
          rw [hit, List.getElem?_map, Option.map_eq_some_iff] at q
          obtain ⟨p, hp, e⟩ := q
          exact ⟨p, hp, e.symm⟩
        have none_of : ∀ b, s.heap.objs.size ≤ b → s.heap.get? b = none := fun b hb => by
          cases q : s.heap.get? b with
          | none => rfl
          | some o => exact absurd (Nat.lt_of_lt_of_le (Heap.lt_size q) hb) (Nat.lt_irrefl _)
        refine sr_loop ((Walks.list hh3 _ l hneI items).toS) s.heap.objs.size hSf ks hisz hfew nd hval s.heap hk (none_of _ (Nat.le_refl _)) (fun b hb => none_of b (by
            rw [List.mem_singleton.mp hb, Heap.size_push]
            exact Nat.le_succ _)) hu (items.size - 0) 0 _ (by omega) (Nat.zero_le _)
          ⟨⟨_, Heap.get?_push_size _ rfl, rfl, rfl⟩, (hl1.push _)⟩ (fun b o e => Heap.get?_push_of_some _ (Heap.get?_push_of_some _ e)) ?hS0 ?hR
        case hS0 => exact ⟨#[], 0, _, sr_fresh (Heap.get?_push_of_some _ hS)⟩
        case hR =>
          intro s' es ep t hm hS' hkp
          obtain ⟨h', g2, d', tk', os'⟩ := s'
          have eg : g2 = s.gens := hm.gens
          have ed : d' = s.drawn := hm.drawn
          have eo : os' = s.os := hm.os
          subst eg; subst ed; subst eo
          show wpAny _ _ _ _ _ _
          refine wpAny_pure ?_
          show wpAny _ _ (ret Value.none) _ _ _
          rw [hisz] at hS'
          exact wpAny_pure ⟨rfl, h', tk', es, ep, t, rfl, hS', hkp⟩
      · cases r₂ with
        | error e => exact hr₂
        | ok fl₂ =>
          cases fl₂ with
          | ret r =>
            obtain ⟨rfl, h', tk, es, ep, t, rfl, hS', hk'⟩ := hr₂
            repeat (any_goals (first | assumption | wp_step))
            exact h _ _ _ _ _ hS' hk'
          | _ => exact hr₂.elim
    | _ => exact hr.elim
end
/-- len(set(xs)), xs a list of unequal tuples of whole numbers -/
def tLenSetT (K : PySem.W.Frag) (ta : TE) : TE := fun σ H Q => ta σ H fun x H1 => ∃ l, x = .ref l ∧ ∃ ks : List (Addr × List Int), SqL K H1 l (ks.map fun p => V.ref p.1) ∧ (∀ p ∈ ks, SqT K H1 p.1 (p.2.map V.int)) ∧ (ks.map (·.2)).Nodup ∧ ks.length < 200 ∧ Q (.int (ks.length : Nat)) H1
theorem pe_lenSetT {X : Cx} {a : Expr} {ta : TE} {p p2 q pos : Pos} (hc : X.calm = true) (hu : X.A.units + 64 < cLine) (hg : Gl X "len") (hm : X.mg "len" = none) (hg2 : Gl X "set") (hm2 : X.mg "set" = none) (ha : PE X a ta)
    (na : starEach [a] X.env = (false, eval a X.env) :: starEach [] X.env := by rfl) : PE X (.Call (.Name "len" p) [.Call (.Name "set" p2) [a] [] q] [] pos) (tLenSetT X.K ta) := by
  refine ⟨fun pins s σ H Q I h => ?_⟩
  refine Call_ (ld_blt I hg hm PySem.boot_len ?_)
  refine PyProof.Rows.callWith_builtin1 (PyProof.Rows.args_cons ?_ rfl) rfl rfl
  refine Call_ (ld_blt I hg2 hm2 PyProof.Rows.boot_set ?_)
  refine PyProof.Rows.callWith_type1 (PyProof.Rows.args_cons (thn (ha.run pins s σ H _ I h) fun v s1 ⟨x, H1, I1, r1, q1⟩ => PyProof.Rows.args_nil ?_) na) na rfl
  obtain ⟨l, rfl, ks, hl, hk, nd, hf, q1⟩ := q1
  cases r1
  obtain ⟨its, rv, pl, hz⟩ := I1.list hl
  refine sr_call (P := X.prog) (w := X.w) ks (I1.ok.hd hc) pl.isList (by simpa using refs_of_vals rv) (fun p hp => I1.isT (hk p hp)) nd hf (by omega) fun h' tk es ep t R k => ?_
  refine PyProof.Rows.args_nil ?_
  have hn : es.size = ks.length := by
    rw [R.n]
    unfold upTo
    rw [List.length_reverse, List.length_map, List.take_length]
  have hfit := R.fits (s := { s1 with heap := h', toks := tk })
  obtain ⟨o, ho, hex, hd⟩ := R.ob
  have I2 : Inv X pins σ H1 { s1 with heap := h', toks := tk } := I1.kept k
  refine call_len_set ho hex hd hfit (by rw [hn] <;> omega) ⟨.int (ks.length : Nat), H1, I2.tok _, ⟨_, by rw [hn]⟩, q1⟩
theorem ap_lenSetT {K : PySem.W.Frag} {ta : TE} {σ : L2.St} {H : Hp} {Q : VK} : tLenSetT K ta σ H Q = ta σ H fun x H1 => ∃ l, x = .ref l ∧ ∃ ks : List (Addr × List Int), SqL K H1 l (ks.map fun p => V.ref p.1) ∧ (∀ p ∈ ks, SqT K H1 p.1 (p.2.map V.int)) ∧ (ks.map (·.2)).Nodup ∧ ks.length < 200 ∧ Q (.int (ks.length : Nat)) H1 := rfl
end Pr

namespace My
open PySem PySem.Spec PyProof.Rows L2 Pr
def topS (i : Nat) : Stmt := PySem.Challenge.pw_sourceforms_k50_whole_prime_points_and_t.main.body.getD i (.Pass ⟨0, 0, 0, 0⟩)
abbrev s_is_integer : Stmt := topS 7
abbrev n_is_integer : List Str := ["value"]
abbrev p_is_integer : List Str := ["value"]
theorem st_is_integer {v0 : V} : L2.start n_is_integer [v0] = [some v0] := rfl
theorem sc_is_integer : FnScope n_is_integer p_is_integer (defScope s_is_integer) := ⟨rfl, rfl, rfl, by decide +kernel, rfl, by decide +kernel, by decide +kernel⟩
abbrev s_is_row : Stmt := topS 9
abbrev n_is_row : List Str := ["value", "part"]
abbrev p_is_row : List Str := ["value"]
theorem st_is_row {v0 : V} : L2.start n_is_row [v0] = [some v0, none] := rfl
theorem sc_is_row : FnScope n_is_row p_is_row (defScope s_is_row) := ⟨rfl, rfl, rfl, by decide +kernel, rfl, by decide +kernel, by decide +kernel⟩
abbrev s_is_pair : Stmt := topS 10
abbrev n_is_pair : List Str := ["value"]
abbrev p_is_pair : List Str := ["value"]
theorem st_is_pair {v0 : V} : L2.start n_is_pair [v0] = [some v0] := rfl
theorem sc_is_pair : FnScope n_is_pair p_is_pair (defScope s_is_pair) := ⟨rfl, rfl, rfl, by decide +kernel, rfl, by decide +kernel, by decide +kernel⟩
abbrev s_is_change : Stmt := topS 11
abbrev n_is_change : List Str := ["value", "row"]
abbrev p_is_change : List Str := ["value"]
theorem st_is_change {v0 : V} : L2.start n_is_change [v0] = [some v0, none] := rfl
theorem sc_is_change : FnScope n_is_change p_is_change (defScope s_is_change) := ⟨rfl, rfl, rfl, by decide +kernel, rfl, by decide +kernel, by decide +kernel⟩
abbrev s_lead_of : Stmt := topS 12
abbrev n_lead_of : List Str := ["row", "index", "number"]
abbrev p_lead_of : List Str := ["row"]
theorem st_lead_of {v0 : V} : L2.start n_lead_of [v0] = [some v0, none, none] := rfl
theorem sc_lead_of : FnScope n_lead_of p_lead_of (defScope s_lead_of) := ⟨rfl, rfl, rfl, by decide +kernel, rfl, by decide +kernel, by decide +kernel⟩
abbrev s_modulo : Stmt := topS 14
abbrev n_modulo : List Str := ["row", "prime", "number"]
abbrev p_modulo : List Str := ["row", "prime"]
theorem st_modulo {v0 : V} {v1 : V} : L2.start n_modulo [v0, v1] = [some v0, some v1, none] := rfl
theorem sc_modulo : FnScope n_modulo p_modulo (defScope s_modulo) := ⟨rfl, rfl, rfl, by decide +kernel, rfl, by decide +kernel, by decide +kernel⟩
abbrev s_power_of : Stmt := topS 15
abbrev n_power_of : List Str := ["number", "exponent", "prime", "found", "square", "left"]
abbrev p_power_of : List Str := ["number", "exponent", "prime"]
theorem st_power_of {v0 : V} {v1 : V} {v2 : V} : L2.start n_power_of [v0, v1, v2] = [some v0, some v1, some v2, none, none, none] := rfl
theorem sc_power_of : FnScope n_power_of p_power_of (defScope s_power_of) := ⟨rfl, rfl, rfl, by decide +kernel, rfl, by decide +kernel, by decide +kernel⟩
abbrev s_inverse_of : Stmt := topS 16
abbrev n_inverse_of : List Str := ["number", "prime"]
abbrev p_inverse_of : List Str := ["number", "prime"]
theorem st_inverse_of {v0 : V} {v1 : V} : L2.start n_inverse_of [v0, v1] = [some v0, some v1] := rfl
theorem sc_inverse_of : FnScope n_inverse_of p_inverse_of (defScope s_inverse_of) := ⟨rfl, rfl, rfl, by decide +kernel, rfl, by decide +kernel, by decide +kernel⟩
abbrev s_plain_row : Stmt := topS 17
abbrev n_plain_row : List Str := ["row", "prime", "lead", "factor", "number"]
abbrev p_plain_row : List Str := ["row", "prime"]
theorem st_plain_row {v0 : V} {v1 : V} : L2.start n_plain_row [v0, v1] = [some v0, some v1, none, none, none] := rfl
theorem sc_plain_row : FnScope n_plain_row p_plain_row (defScope s_plain_row) := ⟨rfl, rfl, rfl, by decide +kernel, rfl, by decide +kernel, by decide +kernel⟩
abbrev s_need_prime : Stmt := topS 20
abbrev n_need_prime : List Str := ["value"]
abbrev p_need_prime : List Str := ["value"]
theorem st_need_prime {v0 : V} : L2.start n_need_prime [v0] = [some v0] := rfl
theorem sc_need_prime : FnScope n_need_prime p_need_prime (defScope s_need_prime) := ⟨rfl, rfl, rfl, by decide +kernel, rfl, by decide +kernel, by decide +kernel⟩
abbrev s_is_prime_point : Stmt := topS 21
abbrev n_is_prime_point : List Str := ["value", "prime", "lead", "part"]
abbrev p_is_prime_point : List Str := ["value", "prime"]
theorem st_is_prime_point {v0 : V} {v1 : V} : L2.start n_is_prime_point [v0, v1] = [some v0, some v1, none, none] := rfl
theorem sc_is_prime_point : FnScope n_is_prime_point p_is_prime_point (defScope s_is_prime_point) := ⟨rfl, rfl, rfl, by decide +kernel, rfl, by decide +kernel, by decide +kernel⟩
abbrev s_need_prime_point : Stmt := topS 22
abbrev n_need_prime_point : List Str := ["value", "prime"]
abbrev p_need_prime_point : List Str := ["value", "prime"]
theorem st_need_prime_point {v0 : V} {v1 : V} : L2.start n_need_prime_point [v0, v1] = [some v0, some v1] := rfl
theorem sc_need_prime_point : FnScope n_need_prime_point p_need_prime_point (defScope s_need_prime_point) := ⟨rfl, rfl, rfl, by decide +kernel, rfl, by decide +kernel, by decide +kernel⟩
abbrev s_determinant_of : Stmt := topS 23
abbrev n_determinant_of : List Str := ["table"]
abbrev p_determinant_of : List Str := ["table"]
theorem st_determinant_of {v0 : V} : L2.start n_determinant_of [v0] = [some v0] := rfl
theorem sc_determinant_of : FnScope n_determinant_of p_determinant_of (defScope s_determinant_of) := ⟨rfl, rfl, rfl, by decide +kernel, rfl, by decide +kernel, by decide +kernel⟩
abbrev s_need_prime_table : Stmt := topS 24
abbrev n_need_prime_table : List Str := ["value", "prime"]
abbrev p_need_prime_table : List Str := ["value", "prime"]
theorem st_need_prime_table {v0 : V} {v1 : V} : L2.start n_need_prime_table [v0, v1] = [some v0, some v1] := rfl
theorem sc_need_prime_table : FnScope n_need_prime_table p_need_prime_table (defScope s_need_prime_table) := ⟨rfl, rfl, rfl, by decide +kernel, rfl, by decide +kernel, by decide +kernel⟩
abbrev s_all_points : Stmt := topS 25
abbrev n_all_points : List Str := ["prime", "b"]
abbrev p_all_points : List Str := ["prime"]
theorem st_all_points {v0 : V} : L2.start n_all_points [v0] = [some v0, none] := rfl
theorem sc_all_points : FnScope n_all_points p_all_points (defScope s_all_points) := ⟨rfl, rfl, rfl, by decide +kernel, rfl, by decide +kernel, by decide +kernel⟩
abbrev s_led_row : Stmt := topS 26
abbrev n_led_row : List Str := ["table", "point", "prime", "row"]
abbrev p_led_row : List Str := ["table", "point", "prime"]
theorem st_led_row {v0 : V} {v1 : V} {v2 : V} : L2.start n_led_row [v0, v1, v2] = [some v0, some v1, some v2, none] := rfl
theorem sc_led_row : FnScope n_led_row p_led_row (defScope s_led_row) := ⟨rfl, rfl, rfl, by decide +kernel, rfl, by decide +kernel, by decide +kernel⟩
abbrev s_led_point : Stmt := topS 27
abbrev n_led_point : List Str := ["prime", "table", "point"]
abbrev p_led_point : List Str := ["prime", "table", "point"]
theorem st_led_point {v0 : V} {v1 : V} {v2 : V} : L2.start n_led_point [v0, v1, v2] = [some v0, some v1, some v2] := rfl
theorem sc_led_point : FnScope n_led_point p_led_point (defScope s_led_point) := ⟨rfl, rfl, rfl, by decide +kernel, rfl, by decide +kernel, by decide +kernel⟩
abbrev s_plain_change : Stmt := topS 28
abbrev n_plain_change : List Str := ["table", "prime", "row"]
abbrev p_plain_change : List Str := ["table", "prime"]
theorem st_plain_change {v0 : V} {v1 : V} : L2.start n_plain_change [v0, v1] = [some v0, some v1, none] := rfl
theorem sc_plain_change : FnScope n_plain_change p_plain_change (defScope s_plain_change) := ⟨rfl, rfl, rfl, by decide +kernel, rfl, by decide +kernel, by decide +kernel⟩
abbrev s_plain_table : Stmt := topS 29
abbrev n_plain_table : List Str := ["prime", "table"]
abbrev p_plain_table : List Str := ["prime", "table"]
theorem st_plain_table {v0 : V} {v1 : V} : L2.start n_plain_table [v0, v1] = [some v0, some v1] := rfl
theorem sc_plain_table : FnScope n_plain_table p_plain_table (defScope s_plain_table) := ⟨rfl, rfl, rfl, by decide +kernel, rfl, by decide +kernel, by decide +kernel⟩
abbrev s_product_of_changes : Stmt := topS 30
abbrev n_product_of_changes : List Str := ["one", "other", "row", "j"]
abbrev p_product_of_changes : List Str := ["one", "other"]
theorem st_product_of_changes {v0 : V} {v1 : V} : L2.start n_product_of_changes [v0, v1] = [some v0, some v1, none, none] := rfl
theorem sc_product_of_changes : FnScope n_product_of_changes p_product_of_changes (defScope s_product_of_changes) := ⟨rfl, rfl, rfl, by decide +kernel, rfl, by decide +kernel, by decide +kernel⟩
abbrev s_undone_change : Stmt := topS 31
abbrev n_undone_change : List Str := ["table"]
abbrev p_undone_change : List Str := ["table"]
theorem st_undone_change {v0 : V} : L2.start n_undone_change [v0] = [some v0] := rfl
theorem sc_undone_change : FnScope n_undone_change p_undone_change (defScope s_undone_change) := ⟨rfl, rfl, rfl, by decide +kernel, rfl, by decide +kernel, by decide +kernel⟩
abbrev s_frame_of : Stmt := topS 32
abbrev n_frame_of : List Str := ["three", "a", "b", "c", "d", "e", "f", "first", "second"]
abbrev p_frame_of : List Str := ["three"]
theorem st_frame_of {v0 : V} : L2.start n_frame_of [v0] = [some v0, none, none, none, none, none, none, none, none] := rfl
theorem sc_frame_of : FnScope n_frame_of p_frame_of (defScope s_frame_of) := ⟨rfl, rfl, rfl, by decide +kernel, rfl, by decide +kernel, by decide +kernel⟩
abbrev s_need_three : Stmt := topS 33
abbrev n_need_three : List Str := ["value", "prime", "point"]
abbrev p_need_three : List Str := ["value", "prime"]
theorem st_need_three {v0 : V} {v1 : V} : L2.start n_need_three [v0, v1] = [some v0, some v1, none] := rfl
theorem sc_need_three : FnScope n_need_three p_need_three (defScope s_need_three) := ⟨rfl, rfl, rfl, by decide +kernel, rfl, by decide +kernel, by decide +kernel⟩
abbrev s_table_by_three : Stmt := topS 34
abbrev n_table_by_three : List Str := ["prime", "three", "other"]
abbrev p_table_by_three : List Str := ["prime", "three", "other"]
theorem st_table_by_three {v0 : V} {v1 : V} {v2 : V} : L2.start n_table_by_three [v0, v1, v2] = [some v0, some v1, some v2] := rfl
theorem sc_table_by_three : FnScope n_table_by_three p_table_by_three (defScope s_table_by_three) := ⟨rfl, rfl, rfl, by decide +kernel, rfl, by decide +kernel, by decide +kernel⟩
abbrev s_law_dice : Stmt := topS 36
abbrev n_law_dice : List Str := ["_law_script", "_law_spot", "_law_cell", "_law_left"]
abbrev p_law_dice : List Str := ["_law_script", "_law_spot"]
theorem st_law_dice {v0 : V} {v1 : V} : L2.start n_law_dice [v0, v1] = [some v0, some v1, none, none] := rfl
theorem sc_law_dice : FnScope n_law_dice p_law_dice (defScope s_law_dice) := ⟨rfl, rfl, rfl, by decide +kernel, rfl, by decide +kernel, by decide +kernel⟩
abbrev s_law_roll : Stmt := topS 37
abbrev n_law_roll : List Str := ["_law_dice_here", "_law_total", "_law_found", "_law_one", "_law_two"]
abbrev p_law_roll : List Str := ["_law_dice_here", "_law_total"]
theorem st_law_roll {v0 : V} {v1 : V} : L2.start n_law_roll [v0, v1] = [some v0, some v1, none, none, none] := rfl
theorem sc_law_roll : FnScope n_law_roll p_law_roll (defScope s_law_roll) := ⟨rfl, rfl, rfl, by decide +kernel, rfl, by decide +kernel, by decide +kernel⟩
abbrev s_law_pick : Stmt := topS 38
abbrev n_law_pick : List Str := ["_law_dice_here", "_law_items"]
abbrev p_law_pick : List Str := ["_law_dice_here", "_law_items"]
theorem st_law_pick {v0 : V} {v1 : V} : L2.start n_law_pick [v0, v1] = [some v0, some v1] := rfl
theorem sc_law_pick : FnScope n_law_pick p_law_pick (defScope s_law_pick) := ⟨rfl, rfl, rfl, by decide +kernel, rfl, by decide +kernel, by decide +kernel⟩
abbrev s_law_mixed : Stmt := topS 39
abbrev n_law_mixed : List Str := ["_law_dice_here", "_law_items", "_law_left", "_law_found", "_law_turn"]
abbrev p_law_mixed : List Str := ["_law_dice_here", "_law_items"]
theorem st_law_mixed {v0 : V} {v1 : V} : L2.start n_law_mixed [v0, v1] = [some v0, some v1, none, none, none] := rfl
theorem sc_law_mixed : FnScope n_law_mixed p_law_mixed (defScope s_law_mixed) := ⟨rfl, rfl, rfl, by decide +kernel, rfl, by decide +kernel, by decide +kernel⟩
abbrev s_law_near : Stmt := topS 40
abbrev n_law_near : List Str := ["_law_dice_here", "_law_most"]
abbrev p_law_near : List Str := ["_law_dice_here", "_law_most"]
theorem st_law_near {v0 : V} {v1 : V} : L2.start n_law_near [v0, v1] = [some v0, some v1] := rfl
theorem sc_law_near : FnScope n_law_near p_law_near (defScope s_law_near) := ⟨rfl, rfl, rfl, by decide +kernel, rfl, by decide +kernel, by decide +kernel⟩
abbrev s_law_scaled : Stmt := topS 41
abbrev n_law_scaled : List Str := ["_law_form", "_law_factor", "_law_entry"]
abbrev p_law_scaled : List Str := ["_law_form", "_law_factor"]
theorem st_law_scaled {v0 : V} {v1 : V} : L2.start n_law_scaled [v0, v1] = [some v0, some v1, none] := rfl
theorem sc_law_scaled : FnScope n_law_scaled p_law_scaled (defScope s_law_scaled) := ⟨rfl, rfl, rfl, by decide +kernel, rfl, by decide +kernel, by decide +kernel⟩
abbrev s_law_joined : Stmt := topS 42
abbrev n_law_joined : List Str := ["_law_one", "_law_other", "_law_rows", "_law_first", "_law_second", "_law_at"]
abbrev p_law_joined : List Str := ["_law_one", "_law_other"]
theorem st_law_joined {v0 : V} {v1 : V} : L2.start n_law_joined [v0, v1] = [some v0, some v1, none, none, none, none] := rfl
theorem sc_law_joined : FnScope n_law_joined p_law_joined (defScope s_law_joined) := ⟨rfl, rfl, rfl, by decide +kernel, rfl, by decide +kernel, by decide +kernel⟩
abbrev s_law_det : Stmt := topS 43
abbrev n_law_det : List Str := ["_law_table"]
abbrev p_law_det : List Str := ["_law_table"]
theorem st_law_det {v0 : V} : L2.start n_law_det [v0] = [some v0] := rfl
theorem sc_law_det : FnScope n_law_det p_law_det (defScope s_law_det) := ⟨rfl, rfl, rfl, by decide +kernel, rfl, by decide +kernel, by decide +kernel⟩
abbrev s_law_left_by : Stmt := topS 44
abbrev n_law_left_by : List Str := ["_law_entries", "_law_prime", "_law_entry"]
abbrev p_law_left_by : List Str := ["_law_entries", "_law_prime"]
theorem st_law_left_by {v0 : V} {v1 : V} : L2.start n_law_left_by [v0, v1] = [some v0, some v1, none] := rfl
theorem sc_law_left_by : FnScope n_law_left_by p_law_left_by (defScope s_law_left_by) := ⟨rfl, rfl, rfl, by decide +kernel, rfl, by decide +kernel, by decide +kernel⟩
abbrev s_law_undo_by : Stmt := topS 45
abbrev n_law_undo_by : List Str := ["_law_number", "_law_prime", "_law_found", "_law_base", "_law_left"]
abbrev p_law_undo_by : List Str := ["_law_number", "_law_prime"]
theorem st_law_undo_by {v0 : V} {v1 : V} : L2.start n_law_undo_by [v0, v1] = [some v0, some v1, none, none, none] := rfl
theorem sc_law_undo_by : FnScope n_law_undo_by p_law_undo_by (defScope s_law_undo_by) := ⟨rfl, rfl, rfl, by decide +kernel, rfl, by decide +kernel, by decide +kernel⟩
abbrev s_law_first_one : Stmt := topS 46
abbrev n_law_first_one : List Str := ["_law_entries", "_law_prime", "_law_some", "_law_entry"]
abbrev p_law_first_one : List Str := ["_law_entries", "_law_prime"]
theorem st_law_first_one {v0 : V} {v1 : V} : L2.start n_law_first_one [v0, v1] = [some v0, some v1, none, none] := rfl
theorem sc_law_first_one : FnScope n_law_first_one p_law_first_one (defScope s_law_first_one) := ⟨rfl, rfl, rfl, by decide +kernel, rfl, by decide +kernel, by decide +kernel⟩
abbrev s_law_some_prime : Stmt := topS 47
abbrev n_law_some_prime : List Str := ["_law_dice_here"]
abbrev p_law_some_prime : List Str := ["_law_dice_here"]
theorem st_law_some_prime {v0 : V} : L2.start n_law_some_prime [v0] = [some v0] := rfl
theorem sc_law_some_prime : FnScope n_law_some_prime p_law_some_prime (defScope s_law_some_prime) := ⟨rfl, rfl, rfl, by decide +kernel, rfl, by decide +kernel, by decide +kernel⟩
abbrev s_law_prime_point : Stmt := topS 48
abbrev n_law_prime_point : List Str := ["_law_dice_here", "_law_prime", "_law_number"]
abbrev p_law_prime_point : List Str := ["_law_dice_here", "_law_prime"]
theorem st_law_prime_point {v0 : V} {v1 : V} : L2.start n_law_prime_point [v0, v1] = [some v0, some v1, none] := rfl
theorem sc_law_prime_point : FnScope n_law_prime_point p_law_prime_point (defScope s_law_prime_point) := ⟨rfl, rfl, rfl, by decide +kernel, rfl, by decide +kernel, by decide +kernel⟩
abbrev s_law_prime_table : Stmt := topS 49
abbrev n_law_prime_table : List Str := ["_law_dice_here", "_law_prime", "_law_most", "_law_found", "_law_row"]
abbrev p_law_prime_table : List Str := ["_law_dice_here", "_law_prime"]
theorem st_law_prime_table {v0 : V} {v1 : V} : L2.start n_law_prime_table [v0, v1] = [some v0, some v1, none, none, none] := rfl
theorem sc_law_prime_table : FnScope n_law_prime_table p_law_prime_table (defScope s_law_prime_table) := ⟨rfl, rfl, rfl, by decide +kernel, rfl, by decide +kernel, by decide +kernel⟩
abbrev s_law_led_by : Stmt := topS 50
abbrev n_law_led_by : List Str := ["_law_table", "_law_point", "_law_prime", "_law_row"]
abbrev p_law_led_by : List Str := ["_law_table", "_law_point", "_law_prime"]
theorem st_law_led_by {v0 : V} {v1 : V} {v2 : V} : L2.start n_law_led_by [v0, v1, v2] = [some v0, some v1, some v2, none] := rfl
theorem sc_law_led_by : FnScope n_law_led_by p_law_led_by (defScope s_law_led_by) := ⟨rfl, rfl, rfl, by decide +kernel, rfl, by decide +kernel, by decide +kernel⟩
abbrev s_law_points_by : Stmt := topS 51
abbrev n_law_points_by : List Str := ["_law_prime", "_law_number"]
abbrev p_law_points_by : List Str := ["_law_prime"]
theorem st_law_points_by {v0 : V} : L2.start n_law_points_by [v0] = [some v0, none] := rfl
theorem sc_law_points_by : FnScope n_law_points_by p_law_points_by (defScope s_law_points_by) := ⟨rfl, rfl, rfl, by decide +kernel, rfl, by decide +kernel, by decide +kernel⟩
abbrev s_law_plain_table : Stmt := topS 52
abbrev n_law_plain_table : List Str := ["_law_table", "_law_prime", "_law_found"]
abbrev p_law_plain_table : List Str := ["_law_table", "_law_prime"]
theorem st_law_plain_table {v0 : V} {v1 : V} : L2.start n_law_plain_table [v0, v1] = [some v0, some v1, none] := rfl
theorem sc_law_plain_table : FnScope n_law_plain_table p_law_plain_table (defScope s_law_plain_table) := ⟨rfl, rfl, rfl, by decide +kernel, rfl, by decide +kernel, by decide +kernel⟩
abbrev s_law_three : Stmt := topS 53
abbrev n_law_three : List Str := ["_law_dice_here", "_law_prime", "_law_points"]
abbrev p_law_three : List Str := ["_law_dice_here", "_law_prime"]
theorem st_law_three {v0 : V} {v1 : V} : L2.start n_law_three [v0, v1] = [some v0, some v1, none] := rfl
theorem sc_law_three : FnScope n_law_three p_law_three (defScope s_law_three) := ⟨rfl, rfl, rfl, by decide +kernel, rfl, by decide +kernel, by decide +kernel⟩
abbrev s_law_leads_three : Stmt := topS 54
abbrev n_law_leads_three : List Str := ["_law_table", "_law_prime", "_law_three_here", "_law_other", "_law_one", "_law_goal"]
abbrev p_law_leads_three : List Str := ["_law_table", "_law_prime", "_law_three_here", "_law_other"]
theorem st_law_leads_three {v0 : V} {v1 : V} {v2 : V} {v3 : V} : L2.start n_law_leads_three [v0, v1, v2, v3] = [some v0, some v1, some v2, some v3, none, none] := rfl
theorem sc_law_leads_three : FnScope n_law_leads_three p_law_leads_three (defScope s_law_leads_three) := ⟨rfl, rfl, rfl, by decide +kernel, rfl, by decide +kernel, by decide +kernel⟩
abbrev s_law_all_between : Stmt := topS 55
abbrev n_law_all_between : List Str := ["_law_prime", "_law_three_here", "_law_other", "_law_found", "_law_place", "_law_some", "_law_table", "_law_first"]
abbrev p_law_all_between : List Str := ["_law_prime", "_law_three_here", "_law_other"]
theorem st_law_all_between {v0 : V} {v1 : V} {v2 : V} : L2.start n_law_all_between [v0, v1, v2] = [some v0, some v1, some v2, none, none, none, none, none] := rfl
theorem sc_law_all_between : FnScope n_law_all_between p_law_all_between (defScope s_law_all_between) := ⟨rfl, rfl, rfl, by decide +kernel, rfl, by decide +kernel, by decide +kernel⟩
abbrev s_law_right : Stmt := topS 56
abbrev n_law_right : List Str := ["_law_dice_here", "_law_prime", "_law_one", "_law_other", "_law_factor", "_law_many", "_law_turn", "_law_point", "_law_told", "_law_three_here", "_law_goals", "_law_row", "_law_entry"]
abbrev p_law_right : List Str := ["_law_dice_here"]
theorem st_law_right {v0 : V} : L2.start n_law_right [v0] = [some v0, none, none, none, none, none, none, none, none, none, none, none, none] := rfl
theorem sc_law_right : FnScope n_law_right p_law_right (defScope s_law_right) := ⟨rfl, rfl, rfl, by decide +kernel, rfl, by decide +kernel, by decide +kernel⟩
abbrev s_law : Stmt := topS 57
abbrev n_law : List Str := ["_law_script", "_law_spot", "_law_dice_here", "_law_three_here", "_law_other", "_law_told"]
abbrev p_law : List Str := ["_law_script"]
theorem st_law {v0 : V} : L2.start n_law [v0] = [some v0, none, none, none, none, none] := rfl
theorem sc_law : FnScope n_law p_law (defScope s_law) := ⟨rfl, rfl, rfl, by decide +kernel, rfl, by decide +kernel, by decide +kernel⟩
set_option genInjectivity false in
set_option genSizeOf false in
structure Tx (K : PySem.W.Frag) (mg : Str → Option Value) where
  f_is_integer : Addr
  d_is_integer : FuncData
  F_is_integer : Fun K "is_integer" "is_integer" s_is_integer f_is_integer d_is_integer
  b_is_integer : Binds K d_is_integer p_is_integer []
  m_is_integer : mg "is_integer" = some (.ref f_is_integer)
  f_is_row : Addr
  d_is_row : FuncData
  F_is_row : Fun K "is_row" "is_row" s_is_row f_is_row d_is_row
  b_is_row : Binds K d_is_row p_is_row []
  m_is_row : mg "is_row" = some (.ref f_is_row)
  f_is_pair : Addr
  d_is_pair : FuncData
  F_is_pair : Fun K "is_pair" "is_pair" s_is_pair f_is_pair d_is_pair
  b_is_pair : Binds K d_is_pair p_is_pair []
  m_is_pair : mg "is_pair" = some (.ref f_is_pair)
  f_is_change : Addr
  d_is_change : FuncData
  F_is_change : Fun K "is_change" "is_change" s_is_change f_is_change d_is_change
  b_is_change : Binds K d_is_change p_is_change []
  m_is_change : mg "is_change" = some (.ref f_is_change)
  f_lead_of : Addr
  d_lead_of : FuncData
  F_lead_of : Fun K "lead_of" "lead_of" s_lead_of f_lead_of d_lead_of
  b_lead_of : Binds K d_lead_of p_lead_of []
  m_lead_of : mg "lead_of" = some (.ref f_lead_of)
  f_modulo : Addr
  d_modulo : FuncData
  F_modulo : Fun K "modulo" "modulo" s_modulo f_modulo d_modulo
  b_modulo : Binds K d_modulo p_modulo []
  m_modulo : mg "modulo" = some (.ref f_modulo)
  f_power_of : Addr
  d_power_of : FuncData
  F_power_of : Fun K "power_of" "power_of" s_power_of f_power_of d_power_of
  b_power_of : Binds K d_power_of p_power_of []
  m_power_of : mg "power_of" = some (.ref f_power_of)
  f_inverse_of : Addr
  d_inverse_of : FuncData
  F_inverse_of : Fun K "inverse_of" "inverse_of" s_inverse_of f_inverse_of d_inverse_of
  b_inverse_of : Binds K d_inverse_of p_inverse_of []
  m_inverse_of : mg "inverse_of" = some (.ref f_inverse_of)
  f_plain_row : Addr
  d_plain_row : FuncData
  F_plain_row : Fun K "plain_row" "plain_row" s_plain_row f_plain_row d_plain_row
  b_plain_row : Binds K d_plain_row p_plain_row []
  m_plain_row : mg "plain_row" = some (.ref f_plain_row)
  f_need_prime : Addr
  d_need_prime : FuncData
  F_need_prime : Fun K "need_prime" "need_prime" s_need_prime f_need_prime d_need_prime
  b_need_prime : Binds K d_need_prime p_need_prime []
  m_need_prime : mg "need_prime" = some (.ref f_need_prime)
  f_is_prime_point : Addr
  d_is_prime_point : FuncData
  F_is_prime_point : Fun K "is_prime_point" "is_prime_point" s_is_prime_point f_is_prime_point d_is_prime_point
  b_is_prime_point : Binds K d_is_prime_point p_is_prime_point []
  m_is_prime_point : mg "is_prime_point" = some (.ref f_is_prime_point)
  f_need_prime_point : Addr
  d_need_prime_point : FuncData
  F_need_prime_point : Fun K "need_prime_point" "need_prime_point" s_need_prime_point f_need_prime_point d_need_prime_point
  b_need_prime_point : Binds K d_need_prime_point p_need_prime_point []
  m_need_prime_point : mg "need_prime_point" = some (.ref f_need_prime_point)
  f_determinant_of : Addr
  d_determinant_of : FuncData
  F_determinant_of : Fun K "determinant_of" "determinant_of" s_determinant_of f_determinant_of d_determinant_of
  b_determinant_of : Binds K d_determinant_of p_determinant_of []
  m_determinant_of : mg "determinant_of" = some (.ref f_determinant_of)
  f_need_prime_table : Addr
  d_need_prime_table : FuncData
  F_need_prime_table : Fun K "need_prime_table" "need_prime_table" s_need_prime_table f_need_prime_table d_need_prime_table
  b_need_prime_table : Binds K d_need_prime_table p_need_prime_table []
  m_need_prime_table : mg "need_prime_table" = some (.ref f_need_prime_table)
  f_all_points : Addr
  d_all_points : FuncData
  F_all_points : Fun K "all_points" "all_points" s_all_points f_all_points d_all_points
  b_all_points : Binds K d_all_points p_all_points []
  m_all_points : mg "all_points" = some (.ref f_all_points)
  f_led_row : Addr
  d_led_row : FuncData
  F_led_row : Fun K "led_row" "led_row" s_led_row f_led_row d_led_row
  b_led_row : Binds K d_led_row p_led_row []
  m_led_row : mg "led_row" = some (.ref f_led_row)
  f_led_point : Addr
  d_led_point : FuncData
  F_led_point : Fun K "led_point" "led_point" s_led_point f_led_point d_led_point
  b_led_point : Binds K d_led_point p_led_point []
  m_led_point : mg "led_point" = some (.ref f_led_point)
  f_plain_change : Addr
  d_plain_change : FuncData
  F_plain_change : Fun K "plain_change" "plain_change" s_plain_change f_plain_change d_plain_change
  b_plain_change : Binds K d_plain_change p_plain_change []
  m_plain_change : mg "plain_change" = some (.ref f_plain_change)
  f_plain_table : Addr
  d_plain_table : FuncData
  F_plain_table : Fun K "plain_table" "plain_table" s_plain_table f_plain_table d_plain_table
  b_plain_table : Binds K d_plain_table p_plain_table []
  m_plain_table : mg "plain_table" = some (.ref f_plain_table)
  f_product_of_changes : Addr
  d_product_of_changes : FuncData
  F_product_of_changes : Fun K "product_of_changes" "product_of_changes" s_product_of_changes f_product_of_changes d_product_of_changes
  b_product_of_changes : Binds K d_product_of_changes p_product_of_changes []
  m_product_of_changes : mg "product_of_changes" = some (.ref f_product_of_changes)
  f_undone_change : Addr
  d_undone_change : FuncData
  F_undone_change : Fun K "undone_change" "undone_change" s_undone_change f_undone_change d_undone_change
  b_undone_change : Binds K d_undone_change p_undone_change []
  m_undone_change : mg "undone_change" = some (.ref f_undone_change)
  f_frame_of : Addr
  d_frame_of : FuncData
  F_frame_of : Fun K "frame_of" "frame_of" s_frame_of f_frame_of d_frame_of
  b_frame_of : Binds K d_frame_of p_frame_of []
  m_frame_of : mg "frame_of" = some (.ref f_frame_of)
  f_need_three : Addr
  d_need_three : FuncData
  F_need_three : Fun K "need_three" "need_three" s_need_three f_need_three d_need_three
  b_need_three : Binds K d_need_three p_need_three []
  m_need_three : mg "need_three" = some (.ref f_need_three)
  f_table_by_three : Addr
  d_table_by_three : FuncData
  F_table_by_three : Fun K "table_by_three" "table_by_three" s_table_by_three f_table_by_three d_table_by_three
  b_table_by_three : Binds K d_table_by_three p_table_by_three []
  m_table_by_three : mg "table_by_three" = some (.ref f_table_by_three)
  f_law_dice : Addr
  d_law_dice : FuncData
  F_law_dice : Fun K "_law_dice" "_law_dice" s_law_dice f_law_dice d_law_dice
  b_law_dice : Binds K d_law_dice p_law_dice []
  m_law_dice : mg "_law_dice" = some (.ref f_law_dice)
  f_law_roll : Addr
  d_law_roll : FuncData
  F_law_roll : Fun K "_law_roll" "_law_roll" s_law_roll f_law_roll d_law_roll
  b_law_roll : Binds K d_law_roll p_law_roll []
  m_law_roll : mg "_law_roll" = some (.ref f_law_roll)
  f_law_pick : Addr
  d_law_pick : FuncData
  F_law_pick : Fun K "_law_pick" "_law_pick" s_law_pick f_law_pick d_law_pick
  b_law_pick : Binds K d_law_pick p_law_pick []
  m_law_pick : mg "_law_pick" = some (.ref f_law_pick)
  f_law_mixed : Addr
  d_law_mixed : FuncData
  F_law_mixed : Fun K "_law_mixed" "_law_mixed" s_law_mixed f_law_mixed d_law_mixed
  b_law_mixed : Binds K d_law_mixed p_law_mixed []
  m_law_mixed : mg "_law_mixed" = some (.ref f_law_mixed)
  f_law_near : Addr
  d_law_near : FuncData
  F_law_near : Fun K "_law_near" "_law_near" s_law_near f_law_near d_law_near
  b_law_near : Binds K d_law_near p_law_near []
  m_law_near : mg "_law_near" = some (.ref f_law_near)
  f_law_scaled : Addr
  d_law_scaled : FuncData
  F_law_scaled : Fun K "_law_scaled" "_law_scaled" s_law_scaled f_law_scaled d_law_scaled
  b_law_scaled : Binds K d_law_scaled p_law_scaled []
  m_law_scaled : mg "_law_scaled" = some (.ref f_law_scaled)
  f_law_joined : Addr
  d_law_joined : FuncData
  F_law_joined : Fun K "_law_joined" "_law_joined" s_law_joined f_law_joined d_law_joined
  b_law_joined : Binds K d_law_joined p_law_joined []
  m_law_joined : mg "_law_joined" = some (.ref f_law_joined)
  f_law_det : Addr
  d_law_det : FuncData
  F_law_det : Fun K "_law_det" "_law_det" s_law_det f_law_det d_law_det
  b_law_det : Binds K d_law_det p_law_det []
  m_law_det : mg "_law_det" = some (.ref f_law_det)
  f_law_left_by : Addr
  d_law_left_by : FuncData
  F_law_left_by : Fun K "_law_left_by" "_law_left_by" s_law_left_by f_law_left_by d_law_left_by
  b_law_left_by : Binds K d_law_left_by p_law_left_by []
  m_law_left_by : mg "_law_left_by" = some (.ref f_law_left_by)
  f_law_undo_by : Addr
  d_law_undo_by : FuncData
  F_law_undo_by : Fun K "_law_undo_by" "_law_undo_by" s_law_undo_by f_law_undo_by d_law_undo_by
  b_law_undo_by : Binds K d_law_undo_by p_law_undo_by []
  m_law_undo_by : mg "_law_undo_by" = some (.ref f_law_undo_by)
  f_law_first_one : Addr
  d_law_first_one : FuncData
  F_law_first_one : Fun K "_law_first_one" "_law_first_one" s_law_first_one f_law_first_one d_law_first_one
  b_law_first_one : Binds K d_law_first_one p_law_first_one []
  m_law_first_one : mg "_law_first_one" = some (.ref f_law_first_one)
  f_law_some_prime : Addr
  d_law_some_prime : FuncData
  F_law_some_prime : Fun K "_law_some_prime" "_law_some_prime" s_law_some_prime f_law_some_prime d_law_some_prime
  b_law_some_prime : Binds K d_law_some_prime p_law_some_prime []
  m_law_some_prime : mg "_law_some_prime" = some (.ref f_law_some_prime)
  f_law_prime_point : Addr
  d_law_prime_point : FuncData
  F_law_prime_point : Fun K "_law_prime_point" "_law_prime_point" s_law_prime_point f_law_prime_point d_law_prime_point
  b_law_prime_point : Binds K d_law_prime_point p_law_prime_point []
  m_law_prime_point : mg "_law_prime_point" = some (.ref f_law_prime_point)
  f_law_prime_table : Addr
  d_law_prime_table : FuncData
  F_law_prime_table : Fun K "_law_prime_table" "_law_prime_table" s_law_prime_table f_law_prime_table d_law_prime_table
  b_law_prime_table : Binds K d_law_prime_table p_law_prime_table []
  m_law_prime_table : mg "_law_prime_table" = some (.ref f_law_prime_table)
  f_law_led_by : Addr
  d_law_led_by : FuncData
  F_law_led_by : Fun K "_law_led_by" "_law_led_by" s_law_led_by f_law_led_by d_law_led_by
  b_law_led_by : Binds K d_law_led_by p_law_led_by []
  m_law_led_by : mg "_law_led_by" = some (.ref f_law_led_by)
  f_law_points_by : Addr
  d_law_points_by : FuncData
  F_law_points_by : Fun K "_law_points_by" "_law_points_by" s_law_points_by f_law_points_by d_law_points_by
  b_law_points_by : Binds K d_law_points_by p_law_points_by []
  m_law_points_by : mg "_law_points_by" = some (.ref f_law_points_by)
  f_law_plain_table : Addr
  d_law_plain_table : FuncData
  F_law_plain_table : Fun K "_law_plain_table" "_law_plain_table" s_law_plain_table f_law_plain_table d_law_plain_table
  b_law_plain_table : Binds K d_law_plain_table p_law_plain_table []
  m_law_plain_table : mg "_law_plain_table" = some (.ref f_law_plain_table)
  f_law_three : Addr
  d_law_three : FuncData
  F_law_three : Fun K "_law_three" "_law_three" s_law_three f_law_three d_law_three
  b_law_three : Binds K d_law_three p_law_three []
  m_law_three : mg "_law_three" = some (.ref f_law_three)
  f_law_leads_three : Addr
  d_law_leads_three : FuncData
  F_law_leads_three : Fun K "_law_leads_three" "_law_leads_three" s_law_leads_three f_law_leads_three d_law_leads_three
  b_law_leads_three : Binds K d_law_leads_three p_law_leads_three []
  m_law_leads_three : mg "_law_leads_three" = some (.ref f_law_leads_three)
  f_law_all_between : Addr
  d_law_all_between : FuncData
  F_law_all_between : Fun K "_law_all_between" "_law_all_between" s_law_all_between f_law_all_between d_law_all_between
  b_law_all_between : Binds K d_law_all_between p_law_all_between []
  m_law_all_between : mg "_law_all_between" = some (.ref f_law_all_between)
  f_law_right : Addr
  d_law_right : FuncData
  F_law_right : Fun K "_law_right" "_law_right" s_law_right f_law_right d_law_right
  b_law_right : Binds K d_law_right p_law_right []
  m_law_right : mg "_law_right" = some (.ref f_law_right)
  f_law : Addr
  d_law : FuncData
  F_law : Fun K "law" "law" s_law f_law d_law
  b_law : Binds K d_law p_law []
  m_law : mg "law" = some (.ref f_law)
  z_abs : mg "abs" = none
  z_all : mg "all" = none
  z_bool : mg "bool" = none
  z_enumerate : mg "enumerate" = none
  z_int : mg "int" = none
  z_isinstance : mg "isinstance" = none
  z_len : mg "len" = none
  z_list : mg "list" = none
  z_max : mg "max" = none
  z_min : mg "min" = none
  z_range : mg "range" = none
  z_set : mg "set" = none
  z_tuple : mg "tuple" = none
  z_zip : mg "zip" = none
  t_TOO_LONG : Tok
  c_TOO_LONG : mg "TOO_LONG" = some (.int 1000000000000000000000000000000000000000000000000000000000000 t_TOO_LONG)
  o_PRIMES : Addr
  c_PRIMES : mg "PRIMES" = some (.ref o_PRIMES)
  v_PRIMES : ∀ H, SqT K H o_PRIMES (([13, 17, 19, 23, 29, 31, 37, 41, 43, 47, 53, 59, 61, 67, 71, 73, 79, 83, 89, 97, 101] : List Int).map V.int)
end My

namespace My
open PySem PySem.Spec PyProof.Rows L2 Pr
section
variable {P : Program} {w : World} {K : PySem.W.Frag} {mg : Str → Option Value} {base : Heap}
def isI : V → Bool
  | .int i => decide (-(10 ^ 60) < i ∧ i < 10 ^ 60)
  | _ => false
def sp_is_integer : Sp := fun vs H Q _ => ∃ x, vs = [x] ∧ (∃ t, tyOf x H = some t) ∧ Q (.bl (isI x)) H
theorem kit_ii : kitB "int" "int" = some true := by decide +kernel
theorem kit_ib : kitB "int" "bool" = some false := by decide +kernel
theorem kit_bi : kitB "bool" "int" = some true := by decide +kernel
theorem kit_bb : kitB "bool" "bool" = some true := by decide +kernel
theorem kit_ni : kitB "NoneType" "int" = some false := by decide +kernel
theorem kit_si : kitB "str" "int" = some false := by decide +kernel
theorem kit_li : kitB "list" "int" = some false := by decide +kernel
theorem kit_ti : kitB "tuple" "int" = some false := by decide +kernel
theorem kit_di : kitB "dict" "int" = some false := by decide +kernel
theorem kit_nt : kitB "NoneType" "tuple" = some false := by decide +kernel
theorem kit_it : kitB "int" "tuple" = some false := by decide +kernel
theorem kit_bt : kitB "bool" "tuple" = some false := by decide +kernel
theorem kit_st : kitB "str" "tuple" = some false := by decide +kernel
theorem kit_lt : kitB "list" "tuple" = some false := by decide +kernel
theorem kit_tt : kitB "tuple" "tuple" = some true := by decide +kernel
theorem kit_dt : kitB "dict" "tuple" = some false := by decide +kernel
theorem ok_is_integer (T : Tx K mg) : FnOk P w K mg base CX0 1 T.f_is_integer T.d_is_integer p_is_integer sp_is_integer := by
  refine T.F_is_integer.ok sc_is_integer (fun vs H Q E h => ?_) (fun cdv A outer s H vs Q E hr h => ?_)
  · obtain ⟨i, rfl, _⟩ := h
    rfl
  · obtain ⟨x, rfl, ⟨t, ht⟩, q⟩ := h
    refine ⟨_, (pss_cons (ps_if (PW.pt (pw_or (pt_not (pt_val (pe_callB cr_isiS (by rfl) T.z_isinstance (by decide +kernel) (pa_cons (pv 0) (pa_cons (pe_bltn (v := .ty "int") (by rfl) T.z_int (by decide +kernel) rfl) pa_nil))))) (pw_or1 (pt_val (pe_callB cr_isiS (by rfl) T.z_isinstance (by decide +kernel) (pa_cons (pv 0) (pa_cons (pe_bltn (v := .ty "bool") (by rfl) T.z_bool (by decide +kernel) rfl) pa_nil))))))) (pss_one (ps_ret pe_bl)) pss_nil)
      (pss_one (ps_ret (pe_chain op_lt op_lt (pe_un un_neg (pe_glob (v := .int 1000000000000000000000000000000000000000000000000000000000000) (by rfl) T.c_TOO_LONG ⟨_, rfl⟩)) (pv 0) (pe_glob (v := .int 1000000000000000000000000000000000000000000000000000000000000) (by rfl) T.c_TOO_LONG ⟨_, rfl⟩))))), ?_⟩
    rw [st_is_integer]
    rcases ty_cases ht with rfl | ⟨b, rfl⟩ | ⟨i, rfl⟩ | ⟨x, rfl⟩ | ⟨a, rfl, ht2⟩
    · simp only [ap_seq, ap_next, ap_asg, ap_gName, ap_ret, ap_retN, ap_drop, ap_ifS, ap_break, ap_cont, ap_par, ap_aug, ap_ip, ap_gSub, ap_gTup, ap_gNil, ap_gCons, ap_var, ap_c, ap_op, ap_un, ap_if, ap_test, ap_B, ap_and, ap_or, ap_not, ap_andV, ap_orV, ap_notV, ap_nil, ap_cons, ap_tup, ap_lst, ap_cb, ap_bm, ap_call, ap_chain, ap_rI, ap_rI0, ap_rU, ap_rEq, ap_rNe, ap_revT, ap_sl, ap_part, ap_noPart, ap_ixLI, ap_ixTI, ap_ixLV, ap_ixTV, ap_len, ap_setLI, ap_setLV, ap_appI, ap_appV, ap_tupL, ap_listS, ap_sumLI, ap_sumTI, ap_repLI, ap_intI, ap_intB, ap_eqTI, ap_neTI, ap_eqLI, ap_neLI, ap_isi, ap_for, ap_rng1, ap_rng2, ap_iList, ap_iTup, ap_lc, ap_yes, ap_cut, ap_gTupH, ap_fmt, ap_jsn, ap_jsc, ap_gcd, ap_isqrt, ap_ixL, tyV_l, wipe_nil, wipe_cons, upd_same, ap_iEnT, ap_iEnL, ap_iZipA, ap_all, ap_tupT, ap_lenSetT, ap_slI, ap_catI, ap_perm, ap_lenO, ap_strO, ap_listO, ap_reprB, ap_iterT, ap_neT, ap_negO, ap_binI, ap_catL, ap_tM1, ap_repTI, ap_popN, ap_par3, ap_catTT, ap_countT, ap_notInT, ap_repL1, ap_shl, ap_shr, ap_mask, ap_comb, ap_bits, ap_rng3, List.set_cons_zero, List.set_cons_succ, List.getElem?_cons_zero, List.getElem?_cons_succ, List.cons_append, List.nil_append, List.append_nil, Option.some.injEq, V.int.injEq, V.ref.injEq, V.bl.injEq, V.str.injEq, V.ty.injEq, Bool.not_true, Bool.not_false, HO.lst.injEq, HO.tup.injEq, reduceCtorEq, Int.reduceToNat, Int.reduceLT, Int.reduceLE, Nat.reduceAdd, Int.cast_ofNat_Int, gi_c0, gi_c1, gi_c2, gi_c3, Int.natCast_inj, map_int_inj, map_nil_iff, List.cons.injEq, exists_eq_left, exists_eq_left', exists_eq, exists_eq', exists_and_left, exists_and_right, exists_const, and_assoc, and_true, true_and, and_false, false_and, or_false, false_or, or_true, true_or, ite_true, ite_false, if_true, if_false, Bool.false_eq_true, own_cons, own_nil, le1, le2, le3, le4, me_cons, me_nil, List.length_map, List.length_cons, List.length_nil, ne_eq, not_false_eq_true, not_true_eq_false, decide_eq_true_eq, ty_non, kit_ni]
      exact q
    · simp only [ap_seq, ap_next, ap_asg, ap_gName, ap_ret, ap_retN, ap_drop, ap_ifS, ap_break, ap_cont, ap_par, ap_aug, ap_ip, ap_gSub, ap_gTup, ap_gNil, ap_gCons, ap_var, ap_c, ap_op, ap_un, ap_if, ap_test, ap_B, ap_and, ap_or, ap_not, ap_andV, ap_orV, ap_notV, ap_nil, ap_cons, ap_tup, ap_lst, ap_cb, ap_bm, ap_call, ap_chain, ap_rI, ap_rI0, ap_rU, ap_rEq, ap_rNe, ap_revT, ap_sl, ap_part, ap_noPart, ap_ixLI, ap_ixTI, ap_ixLV, ap_ixTV, ap_len, ap_setLI, ap_setLV, ap_appI, ap_appV, ap_tupL, ap_listS, ap_sumLI, ap_sumTI, ap_repLI, ap_intI, ap_intB, ap_eqTI, ap_neTI, ap_eqLI, ap_neLI, ap_isi, ap_for, ap_rng1, ap_rng2, ap_iList, ap_iTup, ap_lc, ap_yes, ap_cut, ap_gTupH, ap_fmt, ap_jsn, ap_jsc, ap_gcd, ap_isqrt, ap_ixL, tyV_l, wipe_nil, wipe_cons, upd_same, ap_iEnT, ap_iEnL, ap_iZipA, ap_all, ap_tupT, ap_lenSetT, ap_slI, ap_catI, ap_perm, ap_lenO, ap_strO, ap_listO, ap_reprB, ap_iterT, ap_neT, ap_negO, ap_binI, ap_catL, ap_tM1, ap_repTI, ap_popN, ap_par3, ap_catTT, ap_countT, ap_notInT, ap_repL1, ap_shl, ap_shr, ap_mask, ap_comb, ap_bits, ap_rng3, List.set_cons_zero, List.set_cons_succ, List.getElem?_cons_zero, List.getElem?_cons_succ, List.cons_append, List.nil_append, List.append_nil, Option.some.injEq, V.int.injEq, V.ref.injEq, V.bl.injEq, V.str.injEq, V.ty.injEq, Bool.not_true, Bool.not_false, HO.lst.injEq, HO.tup.injEq, reduceCtorEq, Int.reduceToNat, Int.reduceLT, Int.reduceLE, Nat.reduceAdd, Int.cast_ofNat_Int, gi_c0, gi_c1, gi_c2, gi_c3, Int.natCast_inj, map_int_inj, map_nil_iff, List.cons.injEq, exists_eq_left, exists_eq_left', exists_eq, exists_eq', exists_and_left, exists_and_right, exists_const, and_assoc, and_true, true_and, and_false, false_and, or_false, false_or, or_true, true_or, ite_true, ite_false, if_true, if_false, Bool.false_eq_true, own_cons, own_nil, le1, le2, le3, le4, me_cons, me_nil, List.length_map, List.length_cons, List.length_nil, ne_eq, not_false_eq_true, not_true_eq_false, decide_eq_true_eq, ty_bl, kit_bi, kit_bb]
      exact q
    · simp only [ap_seq, ap_next, ap_asg, ap_gName, ap_ret, ap_retN, ap_drop, ap_ifS, ap_break, ap_cont, ap_par, ap_aug, ap_ip, ap_gSub, ap_gTup, ap_gNil, ap_gCons, ap_var, ap_c, ap_op, ap_un, ap_if, ap_test, ap_B, ap_and, ap_or, ap_not, ap_andV, ap_orV, ap_notV, ap_nil, ap_cons, ap_tup, ap_lst, ap_cb, ap_bm, ap_call, ap_chain, ap_rI, ap_rI0, ap_rU, ap_rEq, ap_rNe, ap_revT, ap_sl, ap_part, ap_noPart, ap_ixLI, ap_ixTI, ap_ixLV, ap_ixTV, ap_len, ap_setLI, ap_setLV, ap_appI, ap_appV, ap_tupL, ap_listS, ap_sumLI, ap_sumTI, ap_repLI, ap_intI, ap_intB, ap_eqTI, ap_neTI, ap_eqLI, ap_neLI, ap_isi, ap_for, ap_rng1, ap_rng2, ap_iList, ap_iTup, ap_lc, ap_yes, ap_cut, ap_gTupH, ap_fmt, ap_jsn, ap_jsc, ap_gcd, ap_isqrt, ap_ixL, tyV_l, wipe_nil, wipe_cons, upd_same, ap_iEnT, ap_iEnL, ap_iZipA, ap_all, ap_tupT, ap_lenSetT, ap_slI, ap_catI, ap_perm, ap_lenO, ap_strO, ap_listO, ap_reprB, ap_iterT, ap_neT, ap_negO, ap_binI, ap_catL, ap_tM1, ap_repTI, ap_popN, ap_par3, ap_catTT, ap_countT, ap_notInT, ap_repL1, ap_shl, ap_shr, ap_mask, ap_comb, ap_bits, ap_rng3, List.set_cons_zero, List.set_cons_succ, List.getElem?_cons_zero, List.getElem?_cons_succ, List.cons_append, List.nil_append, List.append_nil, Option.some.injEq, V.int.injEq, V.ref.injEq, V.bl.injEq, V.str.injEq, V.ty.injEq, Bool.not_true, Bool.not_false, HO.lst.injEq, HO.tup.injEq, reduceCtorEq, Int.reduceToNat, Int.reduceLT, Int.reduceLE, Nat.reduceAdd, Int.cast_ofNat_Int, gi_c0, gi_c1, gi_c2, gi_c3, Int.natCast_inj, map_int_inj, map_nil_iff, List.cons.injEq, exists_eq_left, exists_eq_left', exists_eq, exists_eq', exists_and_left, exists_and_right, exists_const, and_assoc, and_true, true_and, and_false, false_and, or_false, false_or, or_true, true_or, ite_true, ite_false, if_true, if_false, Bool.false_eq_true, own_cons, own_nil, le1, le2, le3, le4, me_cons, me_nil, List.length_map, List.length_cons, List.length_nil, ne_eq, not_false_eq_true, not_true_eq_false, decide_eq_true_eq, ty_int, kit_ii, kit_ib]
      have e : isI (.int i) = decide (-(10 ^ 60) < i ∧ i < 10 ^ 60) := rfl
      refine iteC (fun c => ?_) (fun c => ?_)
      · have : decide (i < 1000000000000000000000000000000000000000000000000000000000000) = isI (.int i) := by
          rw [e]
          exact decide_eq_decide.mpr (by omega)
        rw [this]
        exact q
      · have : false = isI (.int i) := by
          rw [e, decide_eq_false (by omega)]
        rw [this]
        exact q
    · simp only [ap_seq, ap_next, ap_asg, ap_gName, ap_ret, ap_retN, ap_drop, ap_ifS, ap_break, ap_cont, ap_par, ap_aug, ap_ip, ap_gSub, ap_gTup, ap_gNil, ap_gCons, ap_var, ap_c, ap_op, ap_un, ap_if, ap_test, ap_B, ap_and, ap_or, ap_not, ap_andV, ap_orV, ap_notV, ap_nil, ap_cons, ap_tup, ap_lst, ap_cb, ap_bm, ap_call, ap_chain, ap_rI, ap_rI0, ap_rU, ap_rEq, ap_rNe, ap_revT, ap_sl, ap_part, ap_noPart, ap_ixLI, ap_ixTI, ap_ixLV, ap_ixTV, ap_len, ap_setLI, ap_setLV, ap_appI, ap_appV, ap_tupL, ap_listS, ap_sumLI, ap_sumTI, ap_repLI, ap_intI, ap_intB, ap_eqTI, ap_neTI, ap_eqLI, ap_neLI, ap_isi, ap_for, ap_rng1, ap_rng2, ap_iList, ap_iTup, ap_lc, ap_yes, ap_cut, ap_gTupH, ap_fmt, ap_jsn, ap_jsc, ap_gcd, ap_isqrt, ap_ixL, tyV_l, wipe_nil, wipe_cons, upd_same, ap_iEnT, ap_iEnL, ap_iZipA, ap_all, ap_tupT, ap_lenSetT, ap_slI, ap_catI, ap_perm, ap_lenO, ap_strO, ap_listO, ap_reprB, ap_iterT, ap_neT, ap_negO, ap_binI, ap_catL, ap_tM1, ap_repTI, ap_popN, ap_par3, ap_catTT, ap_countT, ap_notInT, ap_repL1, ap_shl, ap_shr, ap_mask, ap_comb, ap_bits, ap_rng3, List.set_cons_zero, List.set_cons_succ, List.getElem?_cons_zero, List.getElem?_cons_succ, List.cons_append, List.nil_append, List.append_nil, Option.some.injEq, V.int.injEq, V.ref.injEq, V.bl.injEq, V.str.injEq, V.ty.injEq, Bool.not_true, Bool.not_false, HO.lst.injEq, HO.tup.injEq, reduceCtorEq, Int.reduceToNat, Int.reduceLT, Int.reduceLE, Nat.reduceAdd, Int.cast_ofNat_Int, gi_c0, gi_c1, gi_c2, gi_c3, Int.natCast_inj, map_int_inj, map_nil_iff, List.cons.injEq, exists_eq_left, exists_eq_left', exists_eq, exists_eq', exists_and_left, exists_and_right, exists_const, and_assoc, and_true, true_and, and_false, false_and, or_false, false_or, or_true, true_or, ite_true, ite_false, if_true, if_false, Bool.false_eq_true, own_cons, own_nil, le1, le2, le3, le4, me_cons, me_nil, List.length_map, List.length_cons, List.length_nil, ne_eq, not_false_eq_true, not_true_eq_false, decide_eq_true_eq, ty_str, kit_si]
      exact q
    · rcases ht2 with rfl | rfl | rfl
      · simp only [ap_seq, ap_next, ap_asg, ap_gName, ap_ret, ap_retN, ap_drop, ap_ifS, ap_break, ap_cont, ap_par, ap_aug, ap_ip, ap_gSub, ap_gTup, ap_gNil, ap_gCons, ap_var, ap_c, ap_op, ap_un, ap_if, ap_test, ap_B, ap_and, ap_or, ap_not, ap_andV, ap_orV, ap_notV, ap_nil, ap_cons, ap_tup, ap_lst, ap_cb, ap_bm, ap_call, ap_chain, ap_rI, ap_rI0, ap_rU, ap_rEq, ap_rNe, ap_revT, ap_sl, ap_part, ap_noPart, ap_ixLI, ap_ixTI, ap_ixLV, ap_ixTV, ap_len, ap_setLI, ap_setLV, ap_appI, ap_appV, ap_tupL, ap_listS, ap_sumLI, ap_sumTI, ap_repLI, ap_intI, ap_intB, ap_eqTI, ap_neTI, ap_eqLI, ap_neLI, ap_isi, ap_for, ap_rng1, ap_rng2, ap_iList, ap_iTup, ap_lc, ap_yes, ap_cut, ap_gTupH, ap_fmt, ap_jsn, ap_jsc, ap_gcd, ap_isqrt, ap_ixL, tyV_l, wipe_nil, wipe_cons, upd_same, ap_iEnT, ap_iEnL, ap_iZipA, ap_all, ap_tupT, ap_lenSetT, ap_slI, ap_catI, ap_perm, ap_lenO, ap_strO, ap_listO, ap_reprB, ap_iterT, ap_neT, ap_negO, ap_binI, ap_catL, ap_tM1, ap_repTI, ap_popN, ap_par3, ap_catTT, ap_countT, ap_notInT, ap_repL1, ap_shl, ap_shr, ap_mask, ap_comb, ap_bits, ap_rng3, List.set_cons_zero, List.set_cons_succ, List.getElem?_cons_zero, List.getElem?_cons_succ, List.cons_append, List.nil_append, List.append_nil, Option.some.injEq, V.int.injEq, V.ref.injEq, V.bl.injEq, V.str.injEq, V.ty.injEq, Bool.not_true, Bool.not_false, HO.lst.injEq, HO.tup.injEq, reduceCtorEq, Int.reduceToNat, Int.reduceLT, Int.reduceLE, Nat.reduceAdd, Int.cast_ofNat_Int, gi_c0, gi_c1, gi_c2, gi_c3, Int.natCast_inj, map_int_inj, map_nil_iff, List.cons.injEq, exists_eq_left, exists_eq_left', exists_eq, exists_eq', exists_and_left, exists_and_right, exists_const, and_assoc, and_true, true_and, and_false, false_and, or_false, false_or, or_true, true_or, ite_true, ite_false, if_true, if_false, Bool.false_eq_true, own_cons, own_nil, le1, le2, le3, le4, me_cons, me_nil, List.length_map, List.length_cons, List.length_nil, ne_eq, not_false_eq_true, not_true_eq_false, decide_eq_true_eq, ht, kit_li]
        exact q
      · simp only [ap_seq, ap_next, ap_asg, ap_gName, ap_ret, ap_retN, ap_drop, ap_ifS, ap_break, ap_cont, ap_par, ap_aug, ap_ip, ap_gSub, ap_gTup, ap_gNil, ap_gCons, ap_var, ap_c, ap_op, ap_un, ap_if, ap_test, ap_B, ap_and, ap_or, ap_not, ap_andV, ap_orV, ap_notV, ap_nil, ap_cons, ap_tup, ap_lst, ap_cb, ap_bm, ap_call, ap_chain, ap_rI, ap_rI0, ap_rU, ap_rEq, ap_rNe, ap_revT, ap_sl, ap_part, ap_noPart, ap_ixLI, ap_ixTI, ap_ixLV, ap_ixTV, ap_len, ap_setLI, ap_setLV, ap_appI, ap_appV, ap_tupL, ap_listS, ap_sumLI, ap_sumTI, ap_repLI, ap_intI, ap_intB, ap_eqTI, ap_neTI, ap_eqLI, ap_neLI, ap_isi, ap_for, ap_rng1, ap_rng2, ap_iList, ap_iTup, ap_lc, ap_yes, ap_cut, ap_gTupH, ap_fmt, ap_jsn, ap_jsc, ap_gcd, ap_isqrt, ap_ixL, tyV_l, wipe_nil, wipe_cons, upd_same, ap_iEnT, ap_iEnL, ap_iZipA, ap_all, ap_tupT, ap_lenSetT, ap_slI, ap_catI, ap_perm, ap_lenO, ap_strO, ap_listO, ap_reprB, ap_iterT, ap_neT, ap_negO, ap_binI, ap_catL, ap_tM1, ap_repTI, ap_popN, ap_par3, ap_catTT, ap_countT, ap_notInT, ap_repL1, ap_shl, ap_shr, ap_mask, ap_comb, ap_bits, ap_rng3, List.set_cons_zero, List.set_cons_succ, List.getElem?_cons_zero, List.getElem?_cons_succ, List.cons_append, List.nil_append, List.append_nil, Option.some.injEq, V.int.injEq, V.ref.injEq, V.bl.injEq, V.str.injEq, V.ty.injEq, Bool.not_true, Bool.not_false, HO.lst.injEq, HO.tup.injEq, reduceCtorEq, Int.reduceToNat, Int.reduceLT, Int.reduceLE, Nat.reduceAdd, Int.cast_ofNat_Int, gi_c0, gi_c1, gi_c2, gi_c3, Int.natCast_inj, map_int_inj, map_nil_iff, List.cons.injEq, exists_eq_left, exists_eq_left', exists_eq, exists_eq', exists_and_left, exists_and_right, exists_const, and_assoc, and_true, true_and, and_false, false_and, or_false, false_or, or_true, true_or, ite_true, ite_false, if_true, if_false, Bool.false_eq_true, own_cons, own_nil, le1, le2, le3, le4, me_cons, me_nil, List.length_map, List.length_cons, List.length_nil, ne_eq, not_false_eq_true, not_true_eq_false, decide_eq_true_eq, ht, kit_ti]
        exact q
      · simp only [ap_seq, ap_next, ap_asg, ap_gName, ap_ret, ap_retN, ap_drop, ap_ifS, ap_break, ap_cont, ap_par, ap_aug, ap_ip, ap_gSub, ap_gTup, ap_gNil, ap_gCons, ap_var, ap_c, ap_op, ap_un, ap_if, ap_test, ap_B, ap_and, ap_or, ap_not, ap_andV, ap_orV, ap_notV, ap_nil, ap_cons, ap_tup, ap_lst, ap_cb, ap_bm, ap_call, ap_chain, ap_rI, ap_rI0, ap_rU, ap_rEq, ap_rNe, ap_revT, ap_sl, ap_part, ap_noPart, ap_ixLI, ap_ixTI, ap_ixLV, ap_ixTV, ap_len, ap_setLI, ap_setLV, ap_appI, ap_appV, ap_tupL, ap_listS, ap_sumLI, ap_sumTI, ap_repLI, ap_intI, ap_intB, ap_eqTI, ap_neTI, ap_eqLI, ap_neLI, ap_isi, ap_for, ap_rng1, ap_rng2, ap_iList, ap_iTup, ap_lc, ap_yes, ap_cut, ap_gTupH, ap_fmt, ap_jsn, ap_jsc, ap_gcd, ap_isqrt, ap_ixL, tyV_l, wipe_nil, wipe_cons, upd_same, ap_iEnT, ap_iEnL, ap_iZipA, ap_all, ap_tupT, ap_lenSetT, ap_slI, ap_catI, ap_perm, ap_lenO, ap_strO, ap_listO, ap_reprB, ap_iterT, ap_neT, ap_negO, ap_binI, ap_catL, ap_tM1, ap_repTI, ap_popN, ap_par3, ap_catTT, ap_countT, ap_notInT, ap_repL1, ap_shl, ap_shr, ap_mask, ap_comb, ap_bits, ap_rng3, List.set_cons_zero, List.set_cons_succ, List.getElem?_cons_zero, List.getElem?_cons_succ, List.cons_append, List.nil_append, List.append_nil, Option.some.injEq, V.int.injEq, V.ref.injEq, V.bl.injEq, V.str.injEq, V.ty.injEq, Bool.not_true, Bool.not_false, HO.lst.injEq, HO.tup.injEq, reduceCtorEq, Int.reduceToNat, Int.reduceLT, Int.reduceLE, Nat.reduceAdd, Int.cast_ofNat_Int, gi_c0, gi_c1, gi_c2, gi_c3, Int.natCast_inj, map_int_inj, map_nil_iff, List.cons.injEq, exists_eq_left, exists_eq_left', exists_eq, exists_eq', exists_and_left, exists_and_right, exists_const, and_assoc, and_true, true_and, and_false, false_and, or_false, false_or, or_true, true_or, ite_true, ite_false, if_true, if_false, Bool.false_eq_true, own_cons, own_nil, le1, le2, le3, le4, me_cons, me_nil, List.length_map, List.length_cons, List.length_nil, ne_eq, not_false_eq_true, not_true_eq_false, decide_eq_true_eq, ht, kit_di]
        exact q
/-- an int of less than sixty digits -/
def Sm (n : Int) : Prop := -(10 ^ 60) < n ∧ n < 10 ^ 60
def sp_is_row : Sp := fun vs H Q _ => ∃ (p : Addr) (ns : List Int), vs = [.ref p] ∧ H p = some (TI ns) ∧ ns.length < 1000 ∧ (∀ n ∈ ns, Sm n) ∧ ∀ H', Same H H' → Q (.bl true) H'
theorem ok_is_row (T : Tx K mg) : FnOk P w K mg base CX0 2 T.f_is_row T.d_is_row p_is_row sp_is_row := by
  refine T.F_is_row.ok sc_is_row (fun vs H Q E h => ?_) (fun cdv A outer s H vs Q E hr h => ?_)
  · obtain ⟨p, ns, rfl, _⟩ := h
    rfl
  · obtain ⟨p, ns, rfl, hp, hl, hn, q⟩ := h
    refine ⟨_, (pss_one (ps_ret (pe_and (pe_callB cr_isiS (by rfl) T.z_isinstance (by decide +kernel) (pa_cons (pv 0) (pa_cons (pe_bltn (v := .ty "tuple") (by rfl) T.z_tuple (by decide +kernel) rfl) pa_nil))) (pe_one (pe_callB (cr_all rfl) (by rfl) T.z_all (by decide +kernel) (pa_cons (pe_lc (own := [("part", 1)]) (g := gName 1) (tt := tYes) rfl sc_is_row.nd (pi_tup (pv 0)) (blkOk_by (N := n_is_row) (sc := defScope s_is_row) (by decide +kernel)) (fun _ _ _ _ _ => (pg_name (i := 1) sc_is_row.nd rfl (by first | exact .inl rfl | exact .inr rfl))) (fun _ _ _ _ _ => pts_nil) (fun _ _ _ _ _ => (pe_call (ok_is_integer T) (hr.mono (by decide)) (by rfl) T.m_is_integer T.F_is_integer.kp T.b_is_integer .nil pass0 (pa_cons (pv 1) pa_nil)))) pa_nil)))))), ?_⟩
    rw [st_is_row]
    have ht := ty_tup hp
    simp only [ap_seq, ap_next, ap_asg, ap_gName, ap_ret, ap_retN, ap_drop, ap_ifS, ap_break, ap_cont, ap_par, ap_aug, ap_ip, ap_gSub, ap_gTup, ap_gNil, ap_gCons, ap_var, ap_c, ap_op, ap_un, ap_if, ap_test, ap_B, ap_and, ap_or, ap_not, ap_andV, ap_orV, ap_notV, ap_nil, ap_cons, ap_tup, ap_lst, ap_cb, ap_bm, ap_call, ap_chain, ap_rI, ap_rI0, ap_rU, ap_rEq, ap_rNe, ap_revT, ap_sl, ap_part, ap_noPart, ap_ixLI, ap_ixTI, ap_ixLV, ap_ixTV, ap_len, ap_setLI, ap_setLV, ap_appI, ap_appV, ap_tupL, ap_listS, ap_sumLI, ap_sumTI, ap_repLI, ap_intI, ap_intB, ap_eqTI, ap_neTI, ap_eqLI, ap_neLI, ap_isi, ap_for, ap_rng1, ap_rng2, ap_iList, ap_iTup, ap_lc, ap_yes, ap_cut, ap_gTupH, ap_fmt, ap_jsn, ap_jsc, ap_gcd, ap_isqrt, ap_ixL, tyV_l, wipe_nil, wipe_cons, upd_same, ap_iEnT, ap_iEnL, ap_iZipA, ap_all, ap_tupT, ap_lenSetT, ap_slI, ap_catI, ap_perm, ap_lenO, ap_strO, ap_listO, ap_reprB, ap_iterT, ap_neT, ap_negO, ap_binI, ap_catL, ap_tM1, ap_repTI, ap_popN, ap_par3, ap_catTT, ap_countT, ap_notInT, ap_repL1, ap_shl, ap_shr, ap_mask, ap_comb, ap_bits, ap_rng3, List.set_cons_zero, List.set_cons_succ, List.getElem?_cons_zero, List.getElem?_cons_succ, List.cons_append, List.nil_append, List.append_nil, Option.some.injEq, V.int.injEq, V.ref.injEq, V.bl.injEq, V.str.injEq, V.ty.injEq, Bool.not_true, Bool.not_false, HO.lst.injEq, HO.tup.injEq, reduceCtorEq, Int.reduceToNat, Int.reduceLT, Int.reduceLE, Nat.reduceAdd, Int.cast_ofNat_Int, gi_c0, gi_c1, gi_c2, gi_c3, Int.natCast_inj, map_int_inj, map_nil_iff, List.cons.injEq, exists_eq_left, exists_eq_left', exists_eq, exists_eq', exists_and_left, exists_and_right, exists_const, and_assoc, and_true, true_and, and_false, false_and, or_false, false_or, or_true, true_or, ite_true, ite_false, if_true, if_false, Bool.false_eq_true, own_cons, own_nil, le1, le2, le3, le4, me_cons, me_nil, List.length_map, List.length_cons, List.length_nil, ne_eq, not_false_eq_true, not_true_eq_false, decide_eq_true_eq, ht, kit_tt, sp_is_integer]
    refine ⟨⟨_, sqT_of hp⟩, lc_tupV (fun _ => .bl true) hp (by rw [List.length_map]; omega) (fun x => rfl) (fun i x G hx sm Q' hq => ?_) (fun D G nD sm eD => ?_)⟩
    · obtain ⟨n, hn1, rfl⟩ : ∃ n, n ∈ ns ∧ x = .int n := by
        rw [List.getElem?_map, Option.map_eq_some_iff] at hx
        obtain ⟨n, e1, e2⟩ := hx
        exact ⟨n, List.mem_of_getElem? e1, e2.symm⟩
      simp only [ap_seq, ap_next, ap_asg, ap_gName, ap_ret, ap_retN, ap_drop, ap_ifS, ap_break, ap_cont, ap_par, ap_aug, ap_ip, ap_gSub, ap_gTup, ap_gNil, ap_gCons, ap_var, ap_c, ap_op, ap_un, ap_if, ap_test, ap_B, ap_and, ap_or, ap_not, ap_andV, ap_orV, ap_notV, ap_nil, ap_cons, ap_tup, ap_lst, ap_cb, ap_bm, ap_call, ap_chain, ap_rI, ap_rI0, ap_rU, ap_rEq, ap_rNe, ap_revT, ap_sl, ap_part, ap_noPart, ap_ixLI, ap_ixTI, ap_ixLV, ap_ixTV, ap_len, ap_setLI, ap_setLV, ap_appI, ap_appV, ap_tupL, ap_listS, ap_sumLI, ap_sumTI, ap_repLI, ap_intI, ap_intB, ap_eqTI, ap_neTI, ap_eqLI, ap_neLI, ap_isi, ap_for, ap_rng1, ap_rng2, ap_iList, ap_iTup, ap_lc, ap_yes, ap_cut, ap_gTupH, ap_fmt, ap_jsn, ap_jsc, ap_gcd, ap_isqrt, ap_ixL, tyV_l, wipe_nil, wipe_cons, upd_same, ap_iEnT, ap_iEnL, ap_iZipA, ap_all, ap_tupT, ap_lenSetT, ap_slI, ap_catI, ap_perm, ap_lenO, ap_strO, ap_listO, ap_reprB, ap_iterT, ap_neT, ap_negO, ap_binI, ap_catL, ap_tM1, ap_repTI, ap_popN, ap_par3, ap_catTT, ap_countT, ap_notInT, ap_repL1, ap_shl, ap_shr, ap_mask, ap_comb, ap_bits, ap_rng3, List.set_cons_zero, List.set_cons_succ, List.getElem?_cons_zero, List.getElem?_cons_succ, List.cons_append, List.nil_append, List.append_nil, Option.some.injEq, V.int.injEq, V.ref.injEq, V.bl.injEq, V.str.injEq, V.ty.injEq, Bool.not_true, Bool.not_false, HO.lst.injEq, HO.tup.injEq, reduceCtorEq, Int.reduceToNat, Int.reduceLT, Int.reduceLE, Nat.reduceAdd, Int.cast_ofNat_Int, gi_c0, gi_c1, gi_c2, gi_c3, Int.natCast_inj, map_int_inj, map_nil_iff, List.cons.injEq, exists_eq_left, exists_eq_left', exists_eq, exists_eq', exists_and_left, exists_and_right, exists_const, and_assoc, and_true, true_and, and_false, false_and, or_false, false_or, or_true, true_or, ite_true, ite_false, if_true, if_false, Bool.false_eq_true, own_cons, own_nil, le1, le2, le3, le4, me_cons, me_nil, List.length_map, List.length_cons, List.length_nil, ne_eq, not_false_eq_true, not_true_eq_false, decide_eq_true_eq]
      have e : isI (.int n) = true := decide_eq_true (hn n hn1)
      refine ⟨_, rfl, ⟨_, rfl⟩, ?_⟩
      rw [e]
      exact hq G (Same.refl G)
    · refine ⟨_, rfl, (List.range ns.length).map fun _ => true, sqL_of ?_, ?_⟩
      · rw [eD, List.length_map, List.map_map]
        rfl
      · have e : ((List.range ns.length).map fun _ => true).all id = true := by simp
        rw [e]
        exact q G sm
/-- the place of the first entry other than 0 -/
def leadV (ns : List Int) : V := match ns.findIdx? (fun n => decide (n ≠ 0)) with
  | none => .non
  | some i => .int (i : Nat)
theorem free_of {H H' : Hp} {l : Addr} (s : Same H H') (n : H' l = none) : H l = none := by
  rcases e : H l with _ | o
  · rfl
  · rw [s _ _ e] at n
    cases n
theorem leadV_none {ns : List Int} (h : ∀ n ∈ ns.take ns.length, n = 0) : leadV ns = .non := by
  rw [List.take_length] at h
  have e : ns.findIdx? (fun n => decide (n ≠ 0)) = none := by
    rw [List.findIdx?_eq_none_iff]
    intro n hn
    simp [h n hn]
  unfold leadV
  rw [e]
theorem leadV_some {ns : List Int} {i : Nat} {n : Int} (h : ∀ n ∈ ns.take i, n = 0) (e : ns[i]? = some n) (hn : n ≠ 0) : leadV ns = .int (i : Nat) := by
  obtain ⟨hi, e2⟩ := List.getElem?_eq_some_iff.mp e
  have e : ns.findIdx? (fun n => decide (n ≠ 0)) = some i := by
    rw [List.findIdx?_eq_some_iff_getElem]
    refine ⟨hi, by simp [e2, hn], fun j hj => ?_⟩
    have : ns[j] = 0 := h _ (List.mem_take_iff_getElem.mpr ⟨j, by omega, rfl⟩)
    simp [this]
  unfold leadV
  rw [e]
theorem at_int {ns : List Int} {i : Nat} {x : V} (h : (ns.map V.int)[i]? = some x) : ∃ n, x = .int n ∧ ns[i]? = some n := by
  rw [List.getElem?_map, Option.map_eq_some_iff] at h
  obtain ⟨n, e1, e2⟩ := h
  exact ⟨n, e2.symm, e1⟩
theorem take_step {ns : List Int} {i : Nat} {n : Int} {p : Int → Prop} (h : ∀ m ∈ ns.take i, p m) (e : ns[i]? = some n) (hn : p n) : ∀ m ∈ ns.take (i + 1), p m := by
  rw [List.take_succ, e]
  intro m hm
  rcases List.mem_append.mp hm with h1 | h1
  · exact h m h1
  · rw [show m = n by simpa using h1]
    exact hn
def sp_lead_of : Sp := fun vs H Q _ => ∃ (p : Addr) (ns : List Int), vs = [.ref p] ∧ H p = some (TI ns) ∧ ∀ H', Same H H' → Q (leadV ns) H'
theorem ok_lead_of (T : Tx K mg) : FnOk P w K mg base CX0 1 T.f_lead_of T.d_lead_of p_lead_of sp_lead_of := by
  refine T.F_lead_of.ok sc_lead_of (fun vs H Q E h => ?_) (fun cdv A outer s H vs Q E hr h => ?_)
  · obtain ⟨p, ns, rfl, _⟩ := h
    rfl
  · obtain ⟨p, ns, rfl, hp, q⟩ := h
    refine ⟨_, (pss_cons (ps_for PassesOwn.never rfl (pi_enT (by rfl) T.z_enumerate (pa_cons (pv 0) pa_nil)) (pg_tupH (n := 2) (by rfl) (pgs_cons (pg_name (i := 1) sc_lead_of.nd rfl (by first | exact .inl rfl | exact .inr rfl)) (pgs_cons (pg_name (i := 2) sc_lead_of.nd rfl (by first | exact .inl rfl | exact .inr rfl)) pgs_nil)))
      (pss_one (ps_if (pt_cmpR op_ne (pv 2) pe_int (nomark _)) (pss_one (ps_ret (pv 1))) pss_nil)))
      (pss_one (ps_ret pe_non))), ?_⟩
    rw [st_lead_of]
    simp only [ap_seq, ap_next, ap_asg, ap_gName, ap_ret, ap_retN, ap_drop, ap_ifS, ap_break, ap_cont, ap_par, ap_aug, ap_ip, ap_gSub, ap_gTup, ap_gNil, ap_gCons, ap_var, ap_c, ap_op, ap_un, ap_if, ap_test, ap_B, ap_and, ap_or, ap_not, ap_andV, ap_orV, ap_notV, ap_nil, ap_cons, ap_tup, ap_lst, ap_cb, ap_bm, ap_call, ap_chain, ap_rI, ap_rI0, ap_rU, ap_rEq, ap_rNe, ap_revT, ap_sl, ap_part, ap_noPart, ap_ixLI, ap_ixTI, ap_ixLV, ap_ixTV, ap_len, ap_setLI, ap_setLV, ap_appI, ap_appV, ap_tupL, ap_listS, ap_sumLI, ap_sumTI, ap_repLI, ap_intI, ap_intB, ap_eqTI, ap_neTI, ap_eqLI, ap_neLI, ap_isi, ap_for, ap_rng1, ap_rng2, ap_iList, ap_iTup, ap_lc, ap_yes, ap_cut, ap_gTupH, ap_fmt, ap_jsn, ap_jsc, ap_gcd, ap_isqrt, ap_ixL, tyV_l, wipe_nil, wipe_cons, upd_same, ap_iEnT, ap_iEnL, ap_iZipA, ap_all, ap_tupT, ap_lenSetT, ap_slI, ap_catI, ap_perm, ap_lenO, ap_strO, ap_listO, ap_reprB, ap_iterT, ap_neT, ap_negO, ap_binI, ap_catL, ap_tM1, ap_repTI, ap_popN, ap_par3, ap_catTT, ap_countT, ap_notInT, ap_repL1, ap_shl, ap_shr, ap_mask, ap_comb, ap_bits, ap_rng3, List.set_cons_zero, List.set_cons_succ, List.getElem?_cons_zero, List.getElem?_cons_succ, List.cons_append, List.nil_append, List.append_nil, Option.some.injEq, V.int.injEq, V.ref.injEq, V.bl.injEq, V.str.injEq, V.ty.injEq, Bool.not_true, Bool.not_false, HO.lst.injEq, HO.tup.injEq, reduceCtorEq, Int.reduceToNat, Int.reduceLT, Int.reduceLE, Nat.reduceAdd, Int.cast_ofNat_Int, gi_c0, gi_c1, gi_c2, gi_c3, Int.natCast_inj, map_int_inj, map_nil_iff, List.cons.injEq, exists_eq_left, exists_eq_left', exists_eq, exists_eq', exists_and_left, exists_and_right, exists_const, and_assoc, and_true, true_and, and_false, false_and, or_false, false_or, or_true, true_or, ite_true, ite_false, if_true, if_false, Bool.false_eq_true, own_cons, own_nil, le1, le2, le3, le4, me_cons, me_nil, List.length_map, List.length_cons, List.length_nil, ne_eq, not_false_eq_true, not_true_eq_false, decide_eq_true_eq]
    refine ⟨⟨_, sqT_of hp⟩, loop_pair gives_en (fun i σ' H' => (∃ y z, σ' = [some (V.ref p), y, z]) ∧ Same H H' ∧ ∀ n ∈ ns.take i, n = 0) ⟨⟨_, _, rfl⟩, Same.refl H, by simp⟩ (fun i σ' H' hi hP => hP.2.1 _ _ hp) (fun i v x t σ' G hi hP nt hy => ?_) (fun σ' G hP => ?_)⟩
    · obtain ⟨⟨y, z, e⟩, sm, hz⟩ := hP
      obtain ⟨rfl, hx⟩ := hy
      obtain ⟨n, rfl, en⟩ := at_int hx
      subst e
      simp only [ap_seq, ap_next, ap_asg, ap_gName, ap_ret, ap_retN, ap_drop, ap_ifS, ap_break, ap_cont, ap_par, ap_aug, ap_ip, ap_gSub, ap_gTup, ap_gNil, ap_gCons, ap_var, ap_c, ap_op, ap_un, ap_if, ap_test, ap_B, ap_and, ap_or, ap_not, ap_andV, ap_orV, ap_notV, ap_nil, ap_cons, ap_tup, ap_lst, ap_cb, ap_bm, ap_call, ap_chain, ap_rI, ap_rI0, ap_rU, ap_rEq, ap_rNe, ap_revT, ap_sl, ap_part, ap_noPart, ap_ixLI, ap_ixTI, ap_ixLV, ap_ixTV, ap_len, ap_setLI, ap_setLV, ap_appI, ap_appV, ap_tupL, ap_listS, ap_sumLI, ap_sumTI, ap_repLI, ap_intI, ap_intB, ap_eqTI, ap_neTI, ap_eqLI, ap_neLI, ap_isi, ap_for, ap_rng1, ap_rng2, ap_iList, ap_iTup, ap_lc, ap_yes, ap_cut, ap_gTupH, ap_fmt, ap_jsn, ap_jsc, ap_gcd, ap_isqrt, ap_ixL, tyV_l, wipe_nil, wipe_cons, upd_same, ap_iEnT, ap_iEnL, ap_iZipA, ap_all, ap_tupT, ap_lenSetT, ap_slI, ap_catI, ap_perm, ap_lenO, ap_strO, ap_listO, ap_reprB, ap_iterT, ap_neT, ap_negO, ap_binI, ap_catL, ap_tM1, ap_repTI, ap_popN, ap_par3, ap_catTT, ap_countT, ap_notInT, ap_repL1, ap_shl, ap_shr, ap_mask, ap_comb, ap_bits, ap_rng3, List.set_cons_zero, List.set_cons_succ, List.getElem?_cons_zero, List.getElem?_cons_succ, List.cons_append, List.nil_append, List.append_nil, Option.some.injEq, V.int.injEq, V.ref.injEq, V.bl.injEq, V.str.injEq, V.ty.injEq, Bool.not_true, Bool.not_false, HO.lst.injEq, HO.tup.injEq, reduceCtorEq, Int.reduceToNat, Int.reduceLT, Int.reduceLE, Nat.reduceAdd, Int.cast_ofNat_Int, gi_c0, gi_c1, gi_c2, gi_c3, Int.natCast_inj, map_int_inj, map_nil_iff, List.cons.injEq, exists_eq_left, exists_eq_left', exists_eq, exists_eq', exists_and_left, exists_and_right, exists_const, and_assoc, and_true, true_and, and_false, false_and, or_false, false_or, or_true, true_or, ite_true, ite_false, if_true, if_false, Bool.false_eq_true, own_cons, own_nil, le1, le2, le3, le4, me_cons, me_nil, List.length_map, List.length_cons, List.length_nil, ne_eq, not_false_eq_true, not_true_eq_false, decide_eq_true_eq]
      have s2 := sm.trans (same_upd (o := HO.tup [V.int (i : Nat), V.int n]) nt)
      refine ⟨rfl, iteC (fun c => ?_) (fun c => ⟨s2, take_step hz en (by simpa using c)⟩)⟩
      have q2 := q _ s2
      rw [leadV_some hz en (by simpa using c)] at q2
      exact q2
    · obtain ⟨⟨y, z, e⟩, sm, hz⟩ := hP
      subst e
      rw [List.length_map] at hz
      simp only [ap_seq, ap_next, ap_asg, ap_gName, ap_ret, ap_retN, ap_drop, ap_ifS, ap_break, ap_cont, ap_par, ap_aug, ap_ip, ap_gSub, ap_gTup, ap_gNil, ap_gCons, ap_var, ap_c, ap_op, ap_un, ap_if, ap_test, ap_B, ap_and, ap_or, ap_not, ap_andV, ap_orV, ap_notV, ap_nil, ap_cons, ap_tup, ap_lst, ap_cb, ap_bm, ap_call, ap_chain, ap_rI, ap_rI0, ap_rU, ap_rEq, ap_rNe, ap_revT, ap_sl, ap_part, ap_noPart, ap_ixLI, ap_ixTI, ap_ixLV, ap_ixTV, ap_len, ap_setLI, ap_setLV, ap_appI, ap_appV, ap_tupL, ap_listS, ap_sumLI, ap_sumTI, ap_repLI, ap_intI, ap_intB, ap_eqTI, ap_neTI, ap_eqLI, ap_neLI, ap_isi, ap_for, ap_rng1, ap_rng2, ap_iList, ap_iTup, ap_lc, ap_yes, ap_cut, ap_gTupH, ap_fmt, ap_jsn, ap_jsc, ap_gcd, ap_isqrt, ap_ixL, tyV_l, wipe_nil, wipe_cons, upd_same, ap_iEnT, ap_iEnL, ap_iZipA, ap_all, ap_tupT, ap_lenSetT, ap_slI, ap_catI, ap_perm, ap_lenO, ap_strO, ap_listO, ap_reprB, ap_iterT, ap_neT, ap_negO, ap_binI, ap_catL, ap_tM1, ap_repTI, ap_popN, ap_par3, ap_catTT, ap_countT, ap_notInT, ap_repL1, ap_shl, ap_shr, ap_mask, ap_comb, ap_bits, ap_rng3, List.set_cons_zero, List.set_cons_succ, List.getElem?_cons_zero, List.getElem?_cons_succ, List.cons_append, List.nil_append, List.append_nil, Option.some.injEq, V.int.injEq, V.ref.injEq, V.bl.injEq, V.str.injEq, V.ty.injEq, Bool.not_true, Bool.not_false, HO.lst.injEq, HO.tup.injEq, reduceCtorEq, Int.reduceToNat, Int.reduceLT, Int.reduceLE, Nat.reduceAdd, Int.cast_ofNat_Int, gi_c0, gi_c1, gi_c2, gi_c3, Int.natCast_inj, map_int_inj, map_nil_iff, List.cons.injEq, exists_eq_left, exists_eq_left', exists_eq, exists_eq', exists_and_left, exists_and_right, exists_const, and_assoc, and_true, true_and, and_false, false_and, or_false, false_or, or_true, true_or, ite_true, ite_false, if_true, if_false, Bool.false_eq_true, own_cons, own_nil, le1, le2, le3, le4, me_cons, me_nil, List.length_map, List.length_cons, List.length_nil, ne_eq, not_false_eq_true, not_true_eq_false, decide_eq_true_eq]
      have q2 := q _ sm
      rw [leadV_none hz] at q2
      exact q2
end
end My

namespace My
open PySem PySem.Spec PyProof.Rows L2 Pr
section
variable {P : Program} {w : World} {K : PySem.W.Frag} {mg : Str → Option Value} {base : Heap}
def Dc (H : Hp) (d : Addr) : Prop := ∃ l m c : Int, H d = some (LI [l, m, c])
/-- all but d stands -/
def Exc (d : Addr) (H H' : Hp) : Prop := ∀ q o, q ≠ d → H q = some o → H' q = some o
theorem Exc.refl {d : Addr} {H : Hp} : Exc d H H := fun _ _ _ h => h
theorem Exc.trans {d : Addr} {H H1 H2 : Hp} (a : Exc d H H1) (b : Exc d H1 H2) : Exc d H H2 := fun q o n h => b q o n (a q o n h)
theorem Exc.same {d : Addr} {H H1 : Hp} (a : Same H H1) : Exc d H H1 := fun q o _ h => a q o h
theorem Exc.upd {d : Addr} {H : Hp} {o : HO} : Exc d H (upd H d o) := fun q o n h => by
  rw [upd_ne n]
  exact h
theorem Dc.same {d : Addr} {H H' : Hp} (a : Same H H') (h : Dc H d) : Dc H' d := by
  obtain ⟨l, m, c, h⟩ := h
  exact ⟨l, m, c, a _ _ h⟩
def sp_law_dice (K : PySem.W.Frag) : Sp := fun vs H Q _ => ∃ (a : Addr) (ns : List Int) (i : Nat), vs = [.ref a, .int i] ∧ SqL K H a (ns.map V.int) ∧ i < 64 ∧
  ∀ H' p, Same H H' → H p = none → Dc H' p → Q (.ref p) H'
theorem ok_law_dice (T : Tx K mg) : FnOk P w K mg base CX0 1 T.f_law_dice T.d_law_dice p_law_dice (sp_law_dice K) := by
  refine T.F_law_dice.ok sc_law_dice (fun vs H Q E h => ?_) (fun cdv A outer s H vs Q E hr h => ?_)
  · obtain ⟨a, ns, i, rfl, _⟩ := h
    rfl
  · obtain ⟨a, ns, i, rfl, hS, hi, q⟩ := h
    refine ⟨_, (pss_cons (ps_set (i := 2) sc_law_dice.nd rfl (Or.inl rfl) (pe_ifExp (pt_cmpR op_lt (pv 1) (pe_callB call_len_seq (by rfl) T.z_len PySem.boot_len (pa_cons (pv 0) pa_nil)) (nomark _)) (pe_callTy cr_intI (by rfl) T.z_int (by decide +kernel) (pa_cons (pe_ix ix_list (pv 0) (pv 1) (fun _ _ => rfl)) pa_nil)) (pe_op op_add (pe_op op_mul pe_int (pv 1)) pe_int)))
      (pss_cons (ps_set (i := 3) sc_law_dice.nd rfl (Or.inl rfl) (pe_op op_mod (pe_callB (call_max2 rfl) (by rfl) T.z_max (by decide +kernel) (pa_cons pe_int (pa_cons (pe_op op_sub (pe_callB call_abs (by rfl) T.z_abs (by decide +kernel) (pa_cons (pv 2) pa_nil)) (pe_op op_pow pe_int pe_int)) pa_nil))) (pe_op op_mulW (pe_op op_pow pe_int pe_int) (pe_op op_pow pe_int pe_int))))
      (pss_one (ps_ret (pe_lst (pa_cons (pv 3) (pa_cons (pe_op op_add (pe_op op_add (pe_op op_add (pe_op op_mul (pe_op op_mod (pe_callB call_abs (by rfl) T.z_abs (by decide +kernel) (pa_cons (pv 2) pa_nil)) pe_int) pe_int) (pe_op op_mul pe_int (pv 1))) (pe_op op_mul pe_int (pe_callTy cr_intB (by rfl) T.z_int (by decide +kernel) (pa_cons (pe_cmpR op_lt (pv 2) pe_int (nomark _)) pa_nil)))) pe_int) (pa_cons pe_int pa_nil)))))))), ?_⟩
    rw [st_law_dice]
    simp only [ap_seq, ap_next, ap_asg, ap_gName, ap_ret, ap_retN, ap_drop, ap_ifS, ap_break, ap_cont, ap_par, ap_aug, ap_ip, ap_gSub, ap_gTup, ap_gNil, ap_gCons, ap_var, ap_c, ap_op, ap_un, ap_if, ap_test, ap_B, ap_and, ap_or, ap_not, ap_andV, ap_orV, ap_notV, ap_nil, ap_cons, ap_tup, ap_lst, ap_cb, ap_bm, ap_call, ap_chain, ap_rI, ap_rI0, ap_rU, ap_rEq, ap_rNe, ap_revT, ap_sl, ap_part, ap_noPart, ap_ixLI, ap_ixTI, ap_ixLV, ap_ixTV, ap_len, ap_setLI, ap_setLV, ap_appI, ap_appV, ap_tupL, ap_listS, ap_sumLI, ap_sumTI, ap_repLI, ap_intI, ap_intB, ap_eqTI, ap_neTI, ap_eqLI, ap_neLI, ap_isi, ap_for, ap_rng1, ap_rng2, ap_iList, ap_iTup, ap_lc, ap_yes, ap_cut, ap_gTupH, ap_fmt, ap_jsn, ap_jsc, ap_gcd, ap_isqrt, ap_ixL, tyV_l, wipe_nil, wipe_cons, upd_same, ap_iEnT, ap_iEnL, ap_iZipA, ap_all, ap_tupT, ap_lenSetT, ap_slI, ap_catI, ap_perm, ap_lenO, ap_strO, ap_listO, ap_reprB, ap_iterT, ap_neT, ap_negO, ap_binI, ap_catL, ap_tM1, ap_repTI, ap_popN, ap_par3, ap_catTT, ap_countT, ap_notInT, ap_repL1, ap_shl, ap_shr, ap_mask, ap_comb, ap_bits, ap_rng3, List.set_cons_zero, List.set_cons_succ, List.getElem?_cons_zero, List.getElem?_cons_succ, List.cons_append, List.nil_append, List.append_nil, Option.some.injEq, V.int.injEq, V.ref.injEq, V.bl.injEq, V.str.injEq, V.ty.injEq, Bool.not_true, Bool.not_false, HO.lst.injEq, HO.tup.injEq, reduceCtorEq, Int.reduceToNat, Int.reduceLT, Int.reduceLE, Nat.reduceAdd, Int.cast_ofNat_Int, gi_c0, gi_c1, gi_c2, gi_c3, Int.natCast_inj, map_int_inj, map_nil_iff, List.cons.injEq, exists_eq_left, exists_eq_left', exists_eq, exists_eq', exists_and_left, exists_and_right, exists_const, and_assoc, and_true, true_and, and_false, false_and, or_false, false_or, or_true, true_or, ite_true, ite_false, if_true, if_false, Bool.false_eq_true, own_cons, own_nil, le1, le2, le3, le4, me_cons, me_nil, List.length_map, List.length_cons, List.length_nil, ne_eq, not_false_eq_true, not_true_eq_false, decide_eq_true_eq]
    refine ⟨_, .inl hS, ?_⟩
    have hl : (ns.map V.int).length = ns.length := List.length_map ..
    have c1 : CPow 10 16 := ⟨by decide, by decide, by decide⟩
    have c2 : CPow 10 60 := ⟨by decide, by decide, by decide⟩
    have c3 : CMulW ((10 : Int) ^ 60) ((10 : Int) ^ 60) := by
      show ((10 : Int) ^ 60).natAbs.log2 + ((10 : Int) ^ 60).natAbs.log2 < 1000000
      decide +kernel
    have c4 : (0 : Int) < 10 ^ 60 * 10 ^ 60 := by decide +kernel
    by_cases c : (i : Int) < ((ns.map V.int).length : Int)
    · rw [if_pos c]
      refine ⟨_, hS, _, at_gi (by omega) (by omega), _, rfl, c1, c2, c2, c3, c4, .inr (by omega), .inl (by omega), .inl (by omega), by decide, fun p np => ?_⟩
      exact q _ p (same_upd np) np ⟨_, _, _, upd_same⟩
    · rw [if_neg c]
      refine ⟨.inl (by omega), c1, c2, c2, c3, c4, .inr (by omega), .inl (by omega), .inl (by omega), by decide, fun p np => ?_⟩
      exact q _ p (same_upd np) np ⟨_, _, _, upd_same⟩
def sp_law_roll : Sp := fun vs H Q _ => ∃ (d : Addr) (t : Int), vs = [.ref d, .int t] ∧ Dc H d ∧ 0 < t ∧ t < 10 ^ 60 ∧
  ∀ H' r, Exc d H H' → Dc H' d → 0 ≤ r → r < t → Q (.int r) H'
theorem ok_law_roll (T : Tx K mg) : FnOk P w K mg base CX0 1 T.f_law_roll T.d_law_roll p_law_roll sp_law_roll := by
  refine T.F_law_roll.ok sc_law_roll (fun vs H Q E h => ?_) (fun cdv A outer s H vs Q E hr h => ?_)
  · obtain ⟨d, t, rfl, _⟩ := h
    rfl
  · obtain ⟨d, t, rfl, ⟨l, m, c, hD⟩, h0, h1, q⟩ := h
    refine ⟨_, (pss_cons (ps_if (pt_cmpR op_gt (pe_ix ix_LI (pv 0) pe_int (fun _ _ => rfl)) pe_int (nomark _)) (pss_cons (ps_set (i := 2) sc_law_roll.nd rfl (Or.inl rfl) (pe_op op_mod (pe_callTy cr_intI (by rfl) T.z_int (by decide +kernel) (pa_cons (pe_ix ix_LI (pv 0) pe_int (fun _ _ => rfl)) pa_nil)) (pv 1)))
      (pss_cons (ps_asg (pe_op op_fdivP (pe_ix ix_LI (pv 0) pe_int (fun _ _ => rfl)) (pv 1)) (pg_sub (pv 0) pe_int set_LI))
      (pss_one (ps_ret (pv 2))))) pss_nil)
      (pss_cons (ps_asg (pe_op op_add (pe_ix ix_LI (pv 0) pe_int (fun _ _ => rfl)) pe_int) (pg_sub (pv 0) pe_int set_LI))
      (pss_cons (ps_set (i := 3) sc_law_roll.nd rfl (Or.inl rfl) (pe_op op_mod (pe_callTy cr_intI (by rfl) T.z_int (by decide +kernel) (pa_cons (pe_op op_add (pe_ix ix_LI (pv 0) pe_int (fun _ _ => rfl)) (pe_op op_mul pe_int (pe_ix ix_LI (pv 0) pe_int (fun _ _ => rfl)))) pa_nil)) pe_int))
      (pss_cons (ps_set (i := 4) sc_law_roll.nd rfl (Or.inl rfl) (pe_op op_add (pe_op op_mul (pe_op op_mod (pe_callTy cr_intI (by rfl) T.z_int (by decide +kernel) (pa_cons (pe_op op_add (pe_op op_mul (pv 3) (pv 3)) (pe_op op_mul pe_int (pe_ix ix_LI (pv 0) pe_int (fun _ _ => rfl)))) pa_nil)) pe_int) pe_int) (pv 3)))
      (pss_one (ps_ret (pe_op op_mod (pe_callTy cr_intI (by rfl) T.z_int (by decide +kernel) (pa_cons (pe_op op_fdiv (pv 4) pe_int) pa_nil)) (pv 1)))))))), ?_⟩
    rw [st_law_roll]
    simp only [ap_seq, ap_next, ap_asg, ap_gName, ap_ret, ap_retN, ap_drop, ap_ifS, ap_break, ap_cont, ap_par, ap_aug, ap_ip, ap_gSub, ap_gTup, ap_gNil, ap_gCons, ap_var, ap_c, ap_op, ap_un, ap_if, ap_test, ap_B, ap_and, ap_or, ap_not, ap_andV, ap_orV, ap_notV, ap_nil, ap_cons, ap_tup, ap_lst, ap_cb, ap_bm, ap_call, ap_chain, ap_rI, ap_rI0, ap_rU, ap_rEq, ap_rNe, ap_revT, ap_sl, ap_part, ap_noPart, ap_ixLI, ap_ixTI, ap_ixLV, ap_ixTV, ap_len, ap_setLI, ap_setLV, ap_appI, ap_appV, ap_tupL, ap_listS, ap_sumLI, ap_sumTI, ap_repLI, ap_intI, ap_intB, ap_eqTI, ap_neTI, ap_eqLI, ap_neLI, ap_isi, ap_for, ap_rng1, ap_rng2, ap_iList, ap_iTup, ap_lc, ap_yes, ap_cut, ap_gTupH, ap_fmt, ap_jsn, ap_jsc, ap_gcd, ap_isqrt, ap_ixL, tyV_l, wipe_nil, wipe_cons, upd_same, ap_iEnT, ap_iEnL, ap_iZipA, ap_all, ap_tupT, ap_lenSetT, ap_slI, ap_catI, ap_perm, ap_lenO, ap_strO, ap_listO, ap_reprB, ap_iterT, ap_neT, ap_negO, ap_binI, ap_catL, ap_tM1, ap_repTI, ap_popN, ap_par3, ap_catTT, ap_countT, ap_notInT, ap_repL1, ap_shl, ap_shr, ap_mask, ap_comb, ap_bits, ap_rng3, List.set_cons_zero, List.set_cons_succ, List.getElem?_cons_zero, List.getElem?_cons_succ, List.cons_append, List.nil_append, List.append_nil, Option.some.injEq, V.int.injEq, V.ref.injEq, V.bl.injEq, V.str.injEq, V.ty.injEq, Bool.not_true, Bool.not_false, HO.lst.injEq, HO.tup.injEq, reduceCtorEq, Int.reduceToNat, Int.reduceLT, Int.reduceLE, Nat.reduceAdd, Int.cast_ofNat_Int, gi_c0, gi_c1, gi_c2, gi_c3, Int.natCast_inj, map_int_inj, map_nil_iff, List.cons.injEq, exists_eq_left, exists_eq_left', exists_eq, exists_eq', exists_and_left, exists_and_right, exists_const, and_assoc, and_true, true_and, and_false, false_and, or_false, false_or, or_true, true_or, ite_true, ite_false, if_true, if_false, Bool.false_eq_true, own_cons, own_nil, le1, le2, le3, le4, me_cons, me_nil, List.length_map, List.length_cons, List.length_nil, ne_eq, not_false_eq_true, not_true_eq_false, decide_eq_true_eq, hD, CDp]
    by_cases c1 : 0 < l
    · rw [if_pos c1]
      exact ⟨h0, h0, by omega, q _ _ Exc.upd ⟨_, _, _, upd_same⟩ (Int.emod_nonneg _ (by omega)) (Int.emod_lt_of_pos _ h0)⟩
    · rw [if_neg c1]
      have r1 : ∀ x : Int, CMul (x % 2305843009213691579) (x % 2305843009213691579) := fun x => .inl (by omega)
      exact ⟨.inl (by omega), r1 _, .inl (by omega), .inr (by omega), ⟨by decide, by decide⟩, h0, q _ _ Exc.upd ⟨_, _, _, upd_same⟩ (Int.emod_nonneg _ (by omega)) (Int.emod_lt_of_pos _ h0)⟩
/-- one of the ints of a list -/
def sp_law_pick : Sp := fun vs H Q _ => ∃ (d a : Addr) (ns : List Int), vs = [.ref d, .ref a] ∧ Dc H d ∧ H a = some (LI ns) ∧ a ≠ d ∧ 0 < ns.length ∧ ns.length < 1000 ∧
  ∀ H' (i : Nat), Exc d H H' → Dc H' d → i < ns.length → Q (.int (ns.getD i 0)) H'
theorem ok_law_pick (T : Tx K mg) : FnOk P w K mg base CX0 2 T.f_law_pick T.d_law_pick p_law_pick sp_law_pick := by
  refine T.F_law_pick.ok sc_law_pick (fun vs H Q E h => ?_) (fun cdv A outer s H vs Q E hr h => ?_)
  · obtain ⟨d, a, ns, rfl, _⟩ := h
    rfl
  · obtain ⟨d, a, ns, rfl, hD, ha, nad, h0, h1, q⟩ := h
    refine ⟨_, (pss_one (ps_ret (pe_ix ix_LI (pv 1) (pe_call (ok_law_roll T) (hr.mono (by decide)) (by rfl) T.m_law_roll T.F_law_roll.kp T.b_law_roll .nil pass0 (pa_cons (pv 0) (pa_cons (pe_callB cr_len (by rfl) T.z_len PySem.boot_len (pa_cons (pv 1) pa_nil)) pa_nil))) (fun _ _ => rfl)))), ?_⟩
    rw [st_law_pick]
    simp only [ap_seq, ap_next, ap_asg, ap_gName, ap_ret, ap_retN, ap_drop, ap_ifS, ap_break, ap_cont, ap_par, ap_aug, ap_ip, ap_gSub, ap_gTup, ap_gNil, ap_gCons, ap_var, ap_c, ap_op, ap_un, ap_if, ap_test, ap_B, ap_and, ap_or, ap_not, ap_andV, ap_orV, ap_notV, ap_nil, ap_cons, ap_tup, ap_lst, ap_cb, ap_bm, ap_call, ap_chain, ap_rI, ap_rI0, ap_rU, ap_rEq, ap_rNe, ap_revT, ap_sl, ap_part, ap_noPart, ap_ixLI, ap_ixTI, ap_ixLV, ap_ixTV, ap_len, ap_setLI, ap_setLV, ap_appI, ap_appV, ap_tupL, ap_listS, ap_sumLI, ap_sumTI, ap_repLI, ap_intI, ap_intB, ap_eqTI, ap_neTI, ap_eqLI, ap_neLI, ap_isi, ap_for, ap_rng1, ap_rng2, ap_iList, ap_iTup, ap_lc, ap_yes, ap_cut, ap_gTupH, ap_fmt, ap_jsn, ap_jsc, ap_gcd, ap_isqrt, ap_ixL, tyV_l, wipe_nil, wipe_cons, upd_same, ap_iEnT, ap_iEnL, ap_iZipA, ap_all, ap_tupT, ap_lenSetT, ap_slI, ap_catI, ap_perm, ap_lenO, ap_strO, ap_listO, ap_reprB, ap_iterT, ap_neT, ap_negO, ap_binI, ap_catL, ap_tM1, ap_repTI, ap_popN, ap_par3, ap_catTT, ap_countT, ap_notInT, ap_repL1, ap_shl, ap_shr, ap_mask, ap_comb, ap_bits, ap_rng3, List.set_cons_zero, List.set_cons_succ, List.getElem?_cons_zero, List.getElem?_cons_succ, List.cons_append, List.nil_append, List.append_nil, Option.some.injEq, V.int.injEq, V.ref.injEq, V.bl.injEq, V.str.injEq, V.ty.injEq, Bool.not_true, Bool.not_false, HO.lst.injEq, HO.tup.injEq, reduceCtorEq, Int.reduceToNat, Int.reduceLT, Int.reduceLE, Nat.reduceAdd, Int.cast_ofNat_Int, gi_c0, gi_c1, gi_c2, gi_c3, Int.natCast_inj, map_int_inj, map_nil_iff, List.cons.injEq, exists_eq_left, exists_eq_left', exists_eq, exists_eq', exists_and_left, exists_and_right, exists_const, and_assoc, and_true, true_and, and_false, false_and, or_false, false_or, or_true, true_or, ite_true, ite_false, if_true, if_false, Bool.false_eq_true, own_cons, own_nil, le1, le2, le3, le4, me_cons, me_nil, List.length_map, List.length_cons, List.length_nil, ne_eq, not_false_eq_true, not_true_eq_false, decide_eq_true_eq, sp_law_roll, ha]
    refine ⟨hD, by omega, by omega, fun H2 r ex dc r0 r1 => ?_⟩
    have ha2 := ex _ _ nad ha
    simp only [ap_seq, ap_next, ap_asg, ap_gName, ap_ret, ap_retN, ap_drop, ap_ifS, ap_break, ap_cont, ap_par, ap_aug, ap_ip, ap_gSub, ap_gTup, ap_gNil, ap_gCons, ap_var, ap_c, ap_op, ap_un, ap_if, ap_test, ap_B, ap_and, ap_or, ap_not, ap_andV, ap_orV, ap_notV, ap_nil, ap_cons, ap_tup, ap_lst, ap_cb, ap_bm, ap_call, ap_chain, ap_rI, ap_rI0, ap_rU, ap_rEq, ap_rNe, ap_revT, ap_sl, ap_part, ap_noPart, ap_ixLI, ap_ixTI, ap_ixLV, ap_ixTV, ap_len, ap_setLI, ap_setLV, ap_appI, ap_appV, ap_tupL, ap_listS, ap_sumLI, ap_sumTI, ap_repLI, ap_intI, ap_intB, ap_eqTI, ap_neTI, ap_eqLI, ap_neLI, ap_isi, ap_for, ap_rng1, ap_rng2, ap_iList, ap_iTup, ap_lc, ap_yes, ap_cut, ap_gTupH, ap_fmt, ap_jsn, ap_jsc, ap_gcd, ap_isqrt, ap_ixL, tyV_l, wipe_nil, wipe_cons, upd_same, ap_iEnT, ap_iEnL, ap_iZipA, ap_all, ap_tupT, ap_lenSetT, ap_slI, ap_catI, ap_perm, ap_lenO, ap_strO, ap_listO, ap_reprB, ap_iterT, ap_neT, ap_negO, ap_binI, ap_catL, ap_tM1, ap_repTI, ap_popN, ap_par3, ap_catTT, ap_countT, ap_notInT, ap_repL1, ap_shl, ap_shr, ap_mask, ap_comb, ap_bits, ap_rng3, List.set_cons_zero, List.set_cons_succ, List.getElem?_cons_zero, List.getElem?_cons_succ, List.cons_append, List.nil_append, List.append_nil, Option.some.injEq, V.int.injEq, V.ref.injEq, V.bl.injEq, V.str.injEq, V.ty.injEq, Bool.not_true, Bool.not_false, HO.lst.injEq, HO.tup.injEq, reduceCtorEq, Int.reduceToNat, Int.reduceLT, Int.reduceLE, Nat.reduceAdd, Int.cast_ofNat_Int, gi_c0, gi_c1, gi_c2, gi_c3, Int.natCast_inj, map_int_inj, map_nil_iff, List.cons.injEq, exists_eq_left, exists_eq_left', exists_eq, exists_eq', exists_and_left, exists_and_right, exists_const, and_assoc, and_true, true_and, and_false, false_and, or_false, false_or, or_true, true_or, ite_true, ite_false, if_true, if_false, Bool.false_eq_true, own_cons, own_nil, le1, le2, le3, le4, me_cons, me_nil, List.length_map, List.length_cons, List.length_nil, ne_eq, not_false_eq_true, not_true_eq_false, decide_eq_true_eq, ha2]
    refine ⟨r0, r1, ?_⟩
    have e : gi ns r = ns.getD r.toNat 0 := rfl
    rw [e]
    exact q H2 r.toNat ex dc (by omega)

def sp_law_near : Sp := fun vs H Q _ => ∃ (d : Addr) (m : Int), vs = [.ref d, .int m] ∧ Dc H d ∧ 0 ≤ m ∧ m < 10 ^ 50 ∧ ∀ H' r, Exc d H H' → Dc H' d → -m ≤ r → r ≤ m → Q (.int r) H'
theorem ok_law_near (T : Tx K mg) : FnOk P w K mg base CX0 2 T.f_law_near T.d_law_near p_law_near sp_law_near := by
  refine T.F_law_near.ok sc_law_near (fun vs H Q E h => ?_) (fun cdv A outer s H vs Q E hr h => ?_)
  · obtain ⟨d, m, rfl, _⟩ := h
    rfl
  · obtain ⟨d, m, rfl, hD, h0, h1, q⟩ := h
    refine ⟨_, (pss_one (ps_ret (pe_op op_sub (pe_call (ok_law_roll T) (hr.mono (by decide)) (by rfl) T.m_law_roll T.F_law_roll.kp T.b_law_roll .nil pass0 (pa_cons (pv 0) (pa_cons (pe_op op_add (pe_op op_mulB pe_int (pv 1)) pe_int) pa_nil))) (pv 1)))), ?_⟩
    rw [st_law_near]
    simp only [ap_seq, ap_next, ap_asg, ap_gName, ap_ret, ap_retN, ap_drop, ap_ifS, ap_break, ap_cont, ap_par, ap_aug, ap_ip, ap_gSub, ap_gTup, ap_gNil, ap_gCons, ap_var, ap_c, ap_op, ap_un, ap_if, ap_test, ap_B, ap_and, ap_or, ap_not, ap_andV, ap_orV, ap_notV, ap_nil, ap_cons, ap_tup, ap_lst, ap_cb, ap_bm, ap_call, ap_chain, ap_rI, ap_rI0, ap_rU, ap_rEq, ap_rNe, ap_revT, ap_sl, ap_part, ap_noPart, ap_ixLI, ap_ixTI, ap_ixLV, ap_ixTV, ap_len, ap_setLI, ap_setLV, ap_appI, ap_appV, ap_tupL, ap_listS, ap_sumLI, ap_sumTI, ap_repLI, ap_intI, ap_intB, ap_eqTI, ap_neTI, ap_eqLI, ap_neLI, ap_isi, ap_for, ap_rng1, ap_rng2, ap_iList, ap_iTup, ap_lc, ap_yes, ap_cut, ap_gTupH, ap_fmt, ap_jsn, ap_jsc, ap_gcd, ap_isqrt, ap_ixL, tyV_l, wipe_nil, wipe_cons, upd_same, ap_iEnT, ap_iEnL, ap_iZipA, ap_all, ap_tupT, ap_lenSetT, ap_slI, ap_catI, ap_perm, ap_lenO, ap_strO, ap_listO, ap_reprB, ap_iterT, ap_neT, ap_negO, ap_binI, ap_catL, ap_tM1, ap_repTI, ap_popN, ap_par3, ap_catTT, ap_countT, ap_notInT, ap_repL1, ap_shl, ap_shr, ap_mask, ap_comb, ap_bits, ap_rng3, List.set_cons_zero, List.set_cons_succ, List.getElem?_cons_zero, List.getElem?_cons_succ, List.cons_append, List.nil_append, List.append_nil, Option.some.injEq, V.int.injEq, V.ref.injEq, V.bl.injEq, V.str.injEq, V.ty.injEq, Bool.not_true, Bool.not_false, HO.lst.injEq, HO.tup.injEq, reduceCtorEq, Int.reduceToNat, Int.reduceLT, Int.reduceLE, Nat.reduceAdd, Int.cast_ofNat_Int, gi_c0, gi_c1, gi_c2, gi_c3, Int.natCast_inj, map_int_inj, map_nil_iff, List.cons.injEq, exists_eq_left, exists_eq_left', exists_eq, exists_eq', exists_and_left, exists_and_right, exists_const, and_assoc, and_true, true_and, and_false, false_and, or_false, false_or, or_true, true_or, ite_true, ite_false, if_true, if_false, Bool.false_eq_true, own_cons, own_nil, le1, le2, le3, le4, me_cons, me_nil, List.length_map, List.length_cons, List.length_nil, ne_eq, not_false_eq_true, not_true_eq_false, decide_eq_true_eq, sp_law_roll, CMu]
    refine ⟨by omega, by omega, by omega, by omega, hD, by omega, by omega, fun H2 r x D2 a b => ?_⟩
    exact q H2 _ x D2 (by omega) (by omega)
theorem while_a {α : Type} {c : TT} {tb : TS} {D : Ends} {σ : L2.St} {H : Hp} (W : α → L2.St → Hp → Prop) (t : α → Bool) (μ : α → Nat) (a0 : α) (h0 : W a0 σ H)
    (hc : ∀ a σ H, W a σ H → ∀ Q : Bool → Hp → Prop, Q (t a) H → c σ H Q)
    (hs : ∀ a σ H, W a σ H → t a = true → tb { D with nx := fun σ' H' => ∃ a', μ a' < μ a ∧ W a' σ' H', ct := fun σ' H' => ∃ a', μ a' < μ a ∧ W a' σ' H', bk := D.nx } σ H)
    (hd : ∀ a σ H, W a σ H → t a = false → D.nx σ H) : tWhile c tb D σ H := by
  refine ⟨fun m σ H => ∃ a, μ a = m ∧ W a σ H, ⟨_, a0, rfl, h0⟩, ?_⟩
  rintro m σ H ⟨a, rfl, hw⟩
  refine hc a σ H hw _ ?_
  cases e : t a with
  | true => exact ⟨fun σ' H' => ∃ a', μ a' < μ a ∧ W a' σ' H', fun σ' H' ⟨a', h1, h2⟩ => ⟨_, h1, a', rfl, h2⟩, hs a σ H hw e⟩
  | false => exact hd a σ H hw e
end
end My

namespace My
open PySem PySem.Spec PyProof.Rows L2 Pr
section
variable {P : Program} {w : World} {K : PySem.W.Frag} {mg : Str → Option Value} {base : Heap}
def sp_is_pair : Sp := fun vs H Q _ => ∃ (p : Addr) (a b : Int), vs = [.ref p] ∧ H p = some (TI [a, b]) ∧ Sm a ∧ Sm b ∧ ∀ H', Same H H' → Q (.bl true) H'
theorem ok_is_pair (T : Tx K mg) : FnOk P w K mg base CX0 3 T.f_is_pair T.d_is_pair p_is_pair sp_is_pair := by
  refine T.F_is_pair.ok sc_is_pair (fun vs H Q E h => ?_) (fun cdv A outer s H vs Q E hr h => ?_)
  · obtain ⟨p, a, b, rfl, _⟩ := h
    rfl
  · obtain ⟨p, a, b, rfl, hp, ba, bb, q⟩ := h
    refine ⟨_, (pss_one (ps_ret (pe_and (pe_call (ok_is_row T) (hr.mono (by decide)) (by rfl) T.m_is_row T.F_is_row.kp T.b_is_row .nil pass0 (pa_cons (pv 0) pa_nil)) (pe_one (pe_cmpR op_eq (pe_callB cr_len (by rfl) T.z_len PySem.boot_len (pa_cons (pv 0) pa_nil)) pe_int (nomark _)))))), ?_⟩
    rw [st_is_pair]
    simp only [ap_seq, ap_next, ap_asg, ap_gName, ap_ret, ap_retN, ap_drop, ap_ifS, ap_break, ap_cont, ap_par, ap_aug, ap_ip, ap_gSub, ap_gTup, ap_gNil, ap_gCons, ap_var, ap_c, ap_op, ap_un, ap_if, ap_test, ap_B, ap_and, ap_or, ap_not, ap_andV, ap_orV, ap_notV, ap_nil, ap_cons, ap_tup, ap_lst, ap_cb, ap_bm, ap_call, ap_chain, ap_rI, ap_rI0, ap_rU, ap_rEq, ap_rNe, ap_revT, ap_sl, ap_part, ap_noPart, ap_ixLI, ap_ixTI, ap_ixLV, ap_ixTV, ap_len, ap_setLI, ap_setLV, ap_appI, ap_appV, ap_tupL, ap_listS, ap_sumLI, ap_sumTI, ap_repLI, ap_intI, ap_intB, ap_eqTI, ap_neTI, ap_eqLI, ap_neLI, ap_isi, ap_for, ap_rng1, ap_rng2, ap_iList, ap_iTup, ap_lc, ap_yes, ap_cut, ap_gTupH, ap_fmt, ap_jsn, ap_jsc, ap_gcd, ap_isqrt, ap_ixL, tyV_l, wipe_nil, wipe_cons, upd_same, ap_iEnT, ap_iEnL, ap_iZipA, ap_all, ap_tupT, ap_lenSetT, ap_slI, ap_catI, ap_perm, ap_lenO, ap_strO, ap_listO, ap_reprB, ap_iterT, ap_neT, ap_negO, ap_binI, ap_catL, ap_tM1, ap_repTI, ap_popN, ap_par3, ap_catTT, ap_countT, ap_notInT, ap_repL1, ap_shl, ap_shr, ap_mask, ap_comb, ap_bits, ap_rng3, List.set_cons_zero, List.set_cons_succ, List.getElem?_cons_zero, List.getElem?_cons_succ, List.cons_append, List.nil_append, List.append_nil, Option.some.injEq, V.int.injEq, V.ref.injEq, V.bl.injEq, V.str.injEq, V.ty.injEq, Bool.not_true, Bool.not_false, HO.lst.injEq, HO.tup.injEq, reduceCtorEq, Int.reduceToNat, Int.reduceLT, Int.reduceLE, Nat.reduceAdd, Int.cast_ofNat_Int, gi_c0, gi_c1, gi_c2, gi_c3, Int.natCast_inj, map_int_inj, map_nil_iff, List.cons.injEq, exists_eq_left, exists_eq_left', exists_eq, exists_eq', exists_and_left, exists_and_right, exists_const, and_assoc, and_true, true_and, and_false, false_and, or_false, false_or, or_true, true_or, ite_true, ite_false, if_true, if_false, Bool.false_eq_true, own_cons, own_nil, le1, le2, le3, le4, me_cons, me_nil, List.length_map, List.length_cons, List.length_nil, ne_eq, not_false_eq_true, not_true_eq_false, decide_eq_true_eq, sp_is_row]
    refine ⟨[a, b], hp, by simp, fun n hn => ?_, fun H1 s1 => ?_⟩
    · simp at hn
      rcases hn with rfl | rfl
      · exact ba
      · exact bb
    · have h1 := s1 _ _ hp
      simp only [ap_seq, ap_next, ap_asg, ap_gName, ap_ret, ap_retN, ap_drop, ap_ifS, ap_break, ap_cont, ap_par, ap_aug, ap_ip, ap_gSub, ap_gTup, ap_gNil, ap_gCons, ap_var, ap_c, ap_op, ap_un, ap_if, ap_test, ap_B, ap_and, ap_or, ap_not, ap_andV, ap_orV, ap_notV, ap_nil, ap_cons, ap_tup, ap_lst, ap_cb, ap_bm, ap_call, ap_chain, ap_rI, ap_rI0, ap_rU, ap_rEq, ap_rNe, ap_revT, ap_sl, ap_part, ap_noPart, ap_ixLI, ap_ixTI, ap_ixLV, ap_ixTV, ap_len, ap_setLI, ap_setLV, ap_appI, ap_appV, ap_tupL, ap_listS, ap_sumLI, ap_sumTI, ap_repLI, ap_intI, ap_intB, ap_eqTI, ap_neTI, ap_eqLI, ap_neLI, ap_isi, ap_for, ap_rng1, ap_rng2, ap_iList, ap_iTup, ap_lc, ap_yes, ap_cut, ap_gTupH, ap_fmt, ap_jsn, ap_jsc, ap_gcd, ap_isqrt, ap_ixL, tyV_l, wipe_nil, wipe_cons, upd_same, ap_iEnT, ap_iEnL, ap_iZipA, ap_all, ap_tupT, ap_lenSetT, ap_slI, ap_catI, ap_perm, ap_lenO, ap_strO, ap_listO, ap_reprB, ap_iterT, ap_neT, ap_negO, ap_binI, ap_catL, ap_tM1, ap_repTI, ap_popN, ap_par3, ap_catTT, ap_countT, ap_notInT, ap_repL1, ap_shl, ap_shr, ap_mask, ap_comb, ap_bits, ap_rng3, List.set_cons_zero, List.set_cons_succ, List.getElem?_cons_zero, List.getElem?_cons_succ, List.cons_append, List.nil_append, List.append_nil, Option.some.injEq, V.int.injEq, V.ref.injEq, V.bl.injEq, V.str.injEq, V.ty.injEq, Bool.not_true, Bool.not_false, HO.lst.injEq, HO.tup.injEq, reduceCtorEq, Int.reduceToNat, Int.reduceLT, Int.reduceLE, Nat.reduceAdd, Int.cast_ofNat_Int, gi_c0, gi_c1, gi_c2, gi_c3, Int.natCast_inj, map_int_inj, map_nil_iff, List.cons.injEq, exists_eq_left, exists_eq_left', exists_eq, exists_eq', exists_and_left, exists_and_right, exists_const, and_assoc, and_true, true_and, and_false, false_and, or_false, false_or, or_true, true_or, ite_true, ite_false, if_true, if_false, Bool.false_eq_true, own_cons, own_nil, le1, le2, le3, le4, me_cons, me_nil, List.length_map, List.length_cons, List.length_nil, ne_eq, not_false_eq_true, not_true_eq_false, decide_eq_true_eq, h1]
      exact ⟨rfl, by rw [decide_eq_true trivial]; exact q H1 s1⟩

/-- two rows of two numbers at p -/
def TabAt (H : Hp) (p : Addr) (a b c d : Int) : Prop := ∃ r s, H p = some (.tup [.ref r, .ref s]) ∧ H r = some (TI [a, b]) ∧ H s = some (TI [c, d])
theorem TabAt.same {H H' : Hp} {p : Addr} {a b c d : Int} (h : TabAt H p a b c d) (s : Same H H') : TabAt H' p a b c d := by
  obtain ⟨r, t, h1, h2, h3⟩ := h
  exact ⟨r, t, s _ _ h1, s _ _ h2, s _ _ h3⟩
def sp_is_change : Sp := fun vs H Q _ => ∃ (p : Addr) (a b c d : Int), vs = [.ref p] ∧ TabAt H p a b c d ∧ Sm a ∧ Sm b ∧ Sm c ∧ Sm d ∧ ∀ H', Same H H' → Q (.bl true) H'
theorem ok_is_change (T : Tx K mg) : FnOk P w K mg base CX0 4 T.f_is_change T.d_is_change p_is_change sp_is_change := by
  refine T.F_is_change.ok sc_is_change (fun vs H Q E h => ?_) (fun cdv A outer s H vs Q E hr h => ?_)
  · obtain ⟨p, a, b, c, d, rfl, _⟩ := h
    rfl
  · obtain ⟨p, a, b, c, d, rfl, ⟨r, s', h1, h2, h3⟩, ba, bb, bc, bd, q⟩ := h
    refine ⟨_, (pss_one (ps_ret (pe_and (pe_callB cr_isiS (by rfl) T.z_isinstance (by decide +kernel) (pa_cons (pv 0) (pa_cons (pe_bltn (v := .ty "tuple") (by rfl) T.z_tuple (by decide +kernel) rfl) pa_nil))) (pe_and (pe_cmpR op_eq (pe_callB cr_len (by rfl) T.z_len PySem.boot_len (pa_cons (pv 0) pa_nil)) pe_int (nomark _)) (pe_one (pe_callB (cr_all rfl) (by rfl) T.z_all (by decide +kernel) (pa_cons (pe_lc (own := [("row", 1)]) (g := gName 1) (tt := tYes) rfl sc_is_change.nd (pi_tup (pv 0)) (blkOk_by (N := n_is_change) (sc := defScope s_is_change) (by decide +kernel)) (fun _ _ _ _ _ => (pg_name (i := 1) sc_is_change.nd rfl (by first | exact .inl rfl | exact .inr rfl))) (fun _ _ _ _ _ => pts_nil) (fun _ _ _ _ _ => (pe_call (ok_is_pair T) (hr.mono (by decide)) (by rfl) T.m_is_pair T.F_is_pair.kp T.b_is_pair .nil pass0 (pa_cons (pv 1) pa_nil)))) pa_nil))))))), ?_⟩
    rw [st_is_change]
    simp only [ap_seq, ap_next, ap_asg, ap_gName, ap_ret, ap_retN, ap_drop, ap_ifS, ap_break, ap_cont, ap_par, ap_aug, ap_ip, ap_gSub, ap_gTup, ap_gNil, ap_gCons, ap_var, ap_c, ap_op, ap_un, ap_if, ap_test, ap_B, ap_and, ap_or, ap_not, ap_andV, ap_orV, ap_notV, ap_nil, ap_cons, ap_tup, ap_lst, ap_cb, ap_bm, ap_call, ap_chain, ap_rI, ap_rI0, ap_rU, ap_rEq, ap_rNe, ap_revT, ap_sl, ap_part, ap_noPart, ap_ixLI, ap_ixTI, ap_ixLV, ap_ixTV, ap_len, ap_setLI, ap_setLV, ap_appI, ap_appV, ap_tupL, ap_listS, ap_sumLI, ap_sumTI, ap_repLI, ap_intI, ap_intB, ap_eqTI, ap_neTI, ap_eqLI, ap_neLI, ap_isi, ap_for, ap_rng1, ap_rng2, ap_iList, ap_iTup, ap_lc, ap_yes, ap_cut, ap_gTupH, ap_fmt, ap_jsn, ap_jsc, ap_gcd, ap_isqrt, ap_ixL, tyV_l, wipe_nil, wipe_cons, upd_same, ap_iEnT, ap_iEnL, ap_iZipA, ap_all, ap_tupT, ap_lenSetT, ap_slI, ap_catI, ap_perm, ap_lenO, ap_strO, ap_listO, ap_reprB, ap_iterT, ap_neT, ap_negO, ap_binI, ap_catL, ap_tM1, ap_repTI, ap_popN, ap_par3, ap_catTT, ap_countT, ap_notInT, ap_repL1, ap_shl, ap_shr, ap_mask, ap_comb, ap_bits, ap_rng3, List.set_cons_zero, List.set_cons_succ, List.getElem?_cons_zero, List.getElem?_cons_succ, List.cons_append, List.nil_append, List.append_nil, Option.some.injEq, V.int.injEq, V.ref.injEq, V.bl.injEq, V.str.injEq, V.ty.injEq, Bool.not_true, Bool.not_false, HO.lst.injEq, HO.tup.injEq, reduceCtorEq, Int.reduceToNat, Int.reduceLT, Int.reduceLE, Nat.reduceAdd, Int.cast_ofNat_Int, gi_c0, gi_c1, gi_c2, gi_c3, Int.natCast_inj, map_int_inj, map_nil_iff, List.cons.injEq, exists_eq_left, exists_eq_left', exists_eq, exists_eq', exists_and_left, exists_and_right, exists_const, and_assoc, and_true, true_and, and_false, false_and, or_false, false_or, or_true, true_or, ite_true, ite_false, if_true, if_false, Bool.false_eq_true, own_cons, own_nil, le1, le2, le3, le4, me_cons, me_nil, List.length_map, List.length_cons, List.length_nil, ne_eq, not_false_eq_true, not_true_eq_false, decide_eq_true_eq]
    have ht := ty_tup h1
    refine ⟨_, ht, _, kit_tt, ?_⟩
    rw [if_pos rfl]
    refine ⟨_, .inr h1, rfl, ?_⟩
    rw [if_pos (show ((([V.ref r, V.ref s'] : List V).length : Nat) : Int) = 2 from rfl)]
    refine ⟨⟨_, sqT_of h1⟩, lc_tupV (fun _ => .bl true) h1 (by show 2 < 1000000; omega) (fun x => rfl) (fun i x G hx sm Q' hq => ?_) (fun D G nD sm eD => ?_)⟩
    · have hG2 := sm _ _ h2
      have hG3 := sm _ _ h3
      have hx2 : x = .ref r ∨ x = .ref s' := by
        have := List.mem_of_getElem? hx
        simpa using this
      rcases hx2 with rfl | rfl
      · simp only [ap_seq, ap_next, ap_asg, ap_gName, ap_ret, ap_retN, ap_drop, ap_ifS, ap_break, ap_cont, ap_par, ap_aug, ap_ip, ap_gSub, ap_gTup, ap_gNil, ap_gCons, ap_var, ap_c, ap_op, ap_un, ap_if, ap_test, ap_B, ap_and, ap_or, ap_not, ap_andV, ap_orV, ap_notV, ap_nil, ap_cons, ap_tup, ap_lst, ap_cb, ap_bm, ap_call, ap_chain, ap_rI, ap_rI0, ap_rU, ap_rEq, ap_rNe, ap_revT, ap_sl, ap_part, ap_noPart, ap_ixLI, ap_ixTI, ap_ixLV, ap_ixTV, ap_len, ap_setLI, ap_setLV, ap_appI, ap_appV, ap_tupL, ap_listS, ap_sumLI, ap_sumTI, ap_repLI, ap_intI, ap_intB, ap_eqTI, ap_neTI, ap_eqLI, ap_neLI, ap_isi, ap_for, ap_rng1, ap_rng2, ap_iList, ap_iTup, ap_lc, ap_yes, ap_cut, ap_gTupH, ap_fmt, ap_jsn, ap_jsc, ap_gcd, ap_isqrt, ap_ixL, tyV_l, wipe_nil, wipe_cons, upd_same, ap_iEnT, ap_iEnL, ap_iZipA, ap_all, ap_tupT, ap_lenSetT, ap_slI, ap_catI, ap_perm, ap_lenO, ap_strO, ap_listO, ap_reprB, ap_iterT, ap_neT, ap_negO, ap_binI, ap_catL, ap_tM1, ap_repTI, ap_popN, ap_par3, ap_catTT, ap_countT, ap_notInT, ap_repL1, ap_shl, ap_shr, ap_mask, ap_comb, ap_bits, ap_rng3, List.set_cons_zero, List.set_cons_succ, List.getElem?_cons_zero, List.getElem?_cons_succ, List.cons_append, List.nil_append, List.append_nil, Option.some.injEq, V.int.injEq, V.ref.injEq, V.bl.injEq, V.str.injEq, V.ty.injEq, Bool.not_true, Bool.not_false, HO.lst.injEq, HO.tup.injEq, reduceCtorEq, Int.reduceToNat, Int.reduceLT, Int.reduceLE, Nat.reduceAdd, Int.cast_ofNat_Int, gi_c0, gi_c1, gi_c2, gi_c3, Int.natCast_inj, map_int_inj, map_nil_iff, List.cons.injEq, exists_eq_left, exists_eq_left', exists_eq, exists_eq', exists_and_left, exists_and_right, exists_const, and_assoc, and_true, true_and, and_false, false_and, or_false, false_or, or_true, true_or, ite_true, ite_false, if_true, if_false, Bool.false_eq_true, own_cons, own_nil, le1, le2, le3, le4, me_cons, me_nil, List.length_map, List.length_cons, List.length_nil, ne_eq, not_false_eq_true, not_true_eq_false, decide_eq_true_eq]
        exact ⟨r, a, b, rfl, hG2, ba, bb, fun H1 s1 => hq H1 s1⟩
      · simp only [ap_seq, ap_next, ap_asg, ap_gName, ap_ret, ap_retN, ap_drop, ap_ifS, ap_break, ap_cont, ap_par, ap_aug, ap_ip, ap_gSub, ap_gTup, ap_gNil, ap_gCons, ap_var, ap_c, ap_op, ap_un, ap_if, ap_test, ap_B, ap_and, ap_or, ap_not, ap_andV, ap_orV, ap_notV, ap_nil, ap_cons, ap_tup, ap_lst, ap_cb, ap_bm, ap_call, ap_chain, ap_rI, ap_rI0, ap_rU, ap_rEq, ap_rNe, ap_revT, ap_sl, ap_part, ap_noPart, ap_ixLI, ap_ixTI, ap_ixLV, ap_ixTV, ap_len, ap_setLI, ap_setLV, ap_appI, ap_appV, ap_tupL, ap_listS, ap_sumLI, ap_sumTI, ap_repLI, ap_intI, ap_intB, ap_eqTI, ap_neTI, ap_eqLI, ap_neLI, ap_isi, ap_for, ap_rng1, ap_rng2, ap_iList, ap_iTup, ap_lc, ap_yes, ap_cut, ap_gTupH, ap_fmt, ap_jsn, ap_jsc, ap_gcd, ap_isqrt, ap_ixL, tyV_l, wipe_nil, wipe_cons, upd_same, ap_iEnT, ap_iEnL, ap_iZipA, ap_all, ap_tupT, ap_lenSetT, ap_slI, ap_catI, ap_perm, ap_lenO, ap_strO, ap_listO, ap_reprB, ap_iterT, ap_neT, ap_negO, ap_binI, ap_catL, ap_tM1, ap_repTI, ap_popN, ap_par3, ap_catTT, ap_countT, ap_notInT, ap_repL1, ap_shl, ap_shr, ap_mask, ap_comb, ap_bits, ap_rng3, List.set_cons_zero, List.set_cons_succ, List.getElem?_cons_zero, List.getElem?_cons_succ, List.cons_append, List.nil_append, List.append_nil, Option.some.injEq, V.int.injEq, V.ref.injEq, V.bl.injEq, V.str.injEq, V.ty.injEq, Bool.not_true, Bool.not_false, HO.lst.injEq, HO.tup.injEq, reduceCtorEq, Int.reduceToNat, Int.reduceLT, Int.reduceLE, Nat.reduceAdd, Int.cast_ofNat_Int, gi_c0, gi_c1, gi_c2, gi_c3, Int.natCast_inj, map_int_inj, map_nil_iff, List.cons.injEq, exists_eq_left, exists_eq_left', exists_eq, exists_eq', exists_and_left, exists_and_right, exists_const, and_assoc, and_true, true_and, and_false, false_and, or_false, false_or, or_true, true_or, ite_true, ite_false, if_true, if_false, Bool.false_eq_true, own_cons, own_nil, le1, le2, le3, le4, me_cons, me_nil, List.length_map, List.length_cons, List.length_nil, ne_eq, not_false_eq_true, not_true_eq_false, decide_eq_true_eq]
        exact ⟨s', c, d, rfl, hG3, bc, bd, fun H1 s1 => hq H1 s1⟩
    · refine ⟨_, rfl, [true, true], sqL_of eD, ?_⟩
      exact q G sm
/-- an int within the model's plain products -/
def Wd (n : Int) : Prop := -(2 ^ 250) ^ 16 < n ∧ n < (2 ^ 250) ^ 16
theorem Sm.wd {n : Int} (h : Sm n) : Wd n := by
  unfold Sm at h
  unfold Wd
  have : ((2 : Int) ^ 250) ^ 16 > 10 ^ 60 := by decide +kernel
  omega
def sp_determinant_of : Sp := fun vs H Q _ => ∃ (p : Addr) (a b c d : Int), vs = [.ref p] ∧ TabAt H p a b c d ∧ Sm a ∧ Sm b ∧ Sm c ∧ Sm d ∧ Q (.int (a * d - b * c)) H
theorem ok_determinant_of (T : Tx K mg) : FnOk P w K mg base CX0 1 T.f_determinant_of T.d_determinant_of p_determinant_of sp_determinant_of := by
  refine T.F_determinant_of.ok sc_determinant_of (fun vs H Q E h => ?_) (fun cdv A outer s H vs Q E hr h => ?_)
  · obtain ⟨p, a, b, c, d, rfl, _⟩ := h
    rfl
  · obtain ⟨p, a, b, c, d, rfl, ⟨r, s', h1, h2, h3⟩, ba, bb, bc, bd, q⟩ := h
    refine ⟨_, (pss_one (ps_ret (pe_op op_sub (pe_op op_mulB (pe_ix ix_TI (pe_ix ix_TV (pv 0) pe_int (fun _ _ => rfl)) pe_int (fun _ _ => rfl)) (pe_ix ix_TI (pe_ix ix_TV (pv 0) pe_int (fun _ _ => rfl)) pe_int (fun _ _ => rfl))) (pe_op op_mulB (pe_ix ix_TI (pe_ix ix_TV (pv 0) pe_int (fun _ _ => rfl)) pe_int (fun _ _ => rfl)) (pe_ix ix_TI (pe_ix ix_TV (pv 0) pe_int (fun _ _ => rfl)) pe_int (fun _ _ => rfl)))))), ?_⟩
    rw [st_determinant_of]
    simp only [ap_seq, ap_next, ap_asg, ap_gName, ap_ret, ap_retN, ap_drop, ap_ifS, ap_break, ap_cont, ap_par, ap_aug, ap_ip, ap_gSub, ap_gTup, ap_gNil, ap_gCons, ap_var, ap_c, ap_op, ap_un, ap_if, ap_test, ap_B, ap_and, ap_or, ap_not, ap_andV, ap_orV, ap_notV, ap_nil, ap_cons, ap_tup, ap_lst, ap_cb, ap_bm, ap_call, ap_chain, ap_rI, ap_rI0, ap_rU, ap_rEq, ap_rNe, ap_revT, ap_sl, ap_part, ap_noPart, ap_ixLI, ap_ixTI, ap_ixLV, ap_ixTV, ap_len, ap_setLI, ap_setLV, ap_appI, ap_appV, ap_tupL, ap_listS, ap_sumLI, ap_sumTI, ap_repLI, ap_intI, ap_intB, ap_eqTI, ap_neTI, ap_eqLI, ap_neLI, ap_isi, ap_for, ap_rng1, ap_rng2, ap_iList, ap_iTup, ap_lc, ap_yes, ap_cut, ap_gTupH, ap_fmt, ap_jsn, ap_jsc, ap_gcd, ap_isqrt, ap_ixL, tyV_l, wipe_nil, wipe_cons, upd_same, ap_iEnT, ap_iEnL, ap_iZipA, ap_all, ap_tupT, ap_lenSetT, ap_slI, ap_catI, ap_perm, ap_lenO, ap_strO, ap_listO, ap_reprB, ap_iterT, ap_neT, ap_negO, ap_binI, ap_catL, ap_tM1, ap_repTI, ap_popN, ap_par3, ap_catTT, ap_countT, ap_notInT, ap_repL1, ap_shl, ap_shr, ap_mask, ap_comb, ap_bits, ap_rng3, List.set_cons_zero, List.set_cons_succ, List.getElem?_cons_zero, List.getElem?_cons_succ, List.cons_append, List.nil_append, List.append_nil, Option.some.injEq, V.int.injEq, V.ref.injEq, V.bl.injEq, V.str.injEq, V.ty.injEq, Bool.not_true, Bool.not_false, HO.lst.injEq, HO.tup.injEq, reduceCtorEq, Int.reduceToNat, Int.reduceLT, Int.reduceLE, Nat.reduceAdd, Int.cast_ofNat_Int, gi_c0, gi_c1, gi_c2, gi_c3, Int.natCast_inj, map_int_inj, map_nil_iff, List.cons.injEq, exists_eq_left, exists_eq_left', exists_eq, exists_eq', exists_and_left, exists_and_right, exists_const, and_assoc, and_true, true_and, and_false, false_and, or_false, false_or, or_true, true_or, ite_true, ite_false, if_true, if_false, Bool.false_eq_true, own_cons, own_nil, le1, le2, le3, le4, me_cons, me_nil, List.length_map, List.length_cons, List.length_nil, ne_eq, not_false_eq_true, not_true_eq_false, decide_eq_true_eq, h1]
    exact ⟨_, rfl, r, rfl, _, h2, by show (0 : Int) < 2; omega, _, rfl, s', rfl, _, h3, by show (1 : Int) < 2; omega, ⟨ba.wd, bd.wd⟩, _, rfl, r, rfl, _, h2, by show (1 : Int) < 2; omega, _, rfl, s', rfl, _, h3, by show (0 : Int) < 2; omega, ⟨bb.wd, bc.wd⟩, q⟩
def sp_law_det : Sp := fun vs H Q _ => ∃ (p : Addr) (a b c d : Int), vs = [.ref p] ∧ TabAt H p a b c d ∧ Sm a ∧ Sm b ∧ Sm c ∧ Sm d ∧ Q (.int (a * d - b * c)) H
theorem ok_law_det (T : Tx K mg) : FnOk P w K mg base CX0 1 T.f_law_det T.d_law_det p_law_det sp_law_det := by
  refine T.F_law_det.ok sc_law_det (fun vs H Q E h => ?_) (fun cdv A outer s H vs Q E hr h => ?_)
  · obtain ⟨p, a, b, c, d, rfl, _⟩ := h
    rfl
  · obtain ⟨p, a, b, c, d, rfl, ⟨r, s', h1, h2, h3⟩, ba, bb, bc, bd, q⟩ := h
    refine ⟨_, (pss_one (ps_ret (pe_op op_sub (pe_op op_mulB (pe_ix ix_TI (pe_ix ix_TV (pv 0) pe_int (fun _ _ => rfl)) pe_int (fun _ _ => rfl)) (pe_ix ix_TI (pe_ix ix_TV (pv 0) pe_int (fun _ _ => rfl)) pe_int (fun _ _ => rfl))) (pe_op op_mulB (pe_ix ix_TI (pe_ix ix_TV (pv 0) pe_int (fun _ _ => rfl)) pe_int (fun _ _ => rfl)) (pe_ix ix_TI (pe_ix ix_TV (pv 0) pe_int (fun _ _ => rfl)) pe_int (fun _ _ => rfl)))))), ?_⟩
    rw [st_law_det]
    simp only [ap_seq, ap_next, ap_asg, ap_gName, ap_ret, ap_retN, ap_drop, ap_ifS, ap_break, ap_cont, ap_par, ap_aug, ap_ip, ap_gSub, ap_gTup, ap_gNil, ap_gCons, ap_var, ap_c, ap_op, ap_un, ap_if, ap_test, ap_B, ap_and, ap_or, ap_not, ap_andV, ap_orV, ap_notV, ap_nil, ap_cons, ap_tup, ap_lst, ap_cb, ap_bm, ap_call, ap_chain, ap_rI, ap_rI0, ap_rU, ap_rEq, ap_rNe, ap_revT, ap_sl, ap_part, ap_noPart, ap_ixLI, ap_ixTI, ap_ixLV, ap_ixTV, ap_len, ap_setLI, ap_setLV, ap_appI, ap_appV, ap_tupL, ap_listS, ap_sumLI, ap_sumTI, ap_repLI, ap_intI, ap_intB, ap_eqTI, ap_neTI, ap_eqLI, ap_neLI, ap_isi, ap_for, ap_rng1, ap_rng2, ap_iList, ap_iTup, ap_lc, ap_yes, ap_cut, ap_gTupH, ap_fmt, ap_jsn, ap_jsc, ap_gcd, ap_isqrt, ap_ixL, tyV_l, wipe_nil, wipe_cons, upd_same, ap_iEnT, ap_iEnL, ap_iZipA, ap_all, ap_tupT, ap_lenSetT, ap_slI, ap_catI, ap_perm, ap_lenO, ap_strO, ap_listO, ap_reprB, ap_iterT, ap_neT, ap_negO, ap_binI, ap_catL, ap_tM1, ap_repTI, ap_popN, ap_par3, ap_catTT, ap_countT, ap_notInT, ap_repL1, ap_shl, ap_shr, ap_mask, ap_comb, ap_bits, ap_rng3, List.set_cons_zero, List.set_cons_succ, List.getElem?_cons_zero, List.getElem?_cons_succ, List.cons_append, List.nil_append, List.append_nil, Option.some.injEq, V.int.injEq, V.ref.injEq, V.bl.injEq, V.str.injEq, V.ty.injEq, Bool.not_true, Bool.not_false, HO.lst.injEq, HO.tup.injEq, reduceCtorEq, Int.reduceToNat, Int.reduceLT, Int.reduceLE, Nat.reduceAdd, Int.cast_ofNat_Int, gi_c0, gi_c1, gi_c2, gi_c3, Int.natCast_inj, map_int_inj, map_nil_iff, List.cons.injEq, exists_eq_left, exists_eq_left', exists_eq, exists_eq', exists_and_left, exists_and_right, exists_const, and_assoc, and_true, true_and, and_false, false_and, or_false, false_or, or_true, true_or, ite_true, ite_false, if_true, if_false, Bool.false_eq_true, own_cons, own_nil, le1, le2, le3, le4, me_cons, me_nil, List.length_map, List.length_cons, List.length_nil, ne_eq, not_false_eq_true, not_true_eq_false, decide_eq_true_eq, h1]
    exact ⟨_, rfl, r, rfl, _, h2, by show (0 : Int) < 2; omega, _, rfl, s', rfl, _, h3, by show (1 : Int) < 2; omega, ⟨ba.wd, bd.wd⟩, _, rfl, r, rfl, _, h2, by show (1 : Int) < 2; omega, _, rfl, s', rfl, _, h3, by show (0 : Int) < 2; omega, ⟨bb.wd, bc.wd⟩, q⟩
end
end My

namespace My
open PySem PySem.Spec PyProof.Rows L2 Pr
section
variable {P : Program} {w : World} {K : PySem.W.Frag} {mg : Str → Option Value} {base : Heap}
theorem range_getD (g : Int → Int) (ns : List Int) : (List.range ns.length).map (fun i => g (ns.getD i 0)) = ns.map g := by
  refine List.ext_getElem (by simp) fun i h1 h2 => ?_
  rw [List.length_map, List.length_range] at h1
  rw [List.getElem_map, List.getElem_map, List.getElem_range, List.getD_eq_getElem?_getD, List.getElem?_eq_getElem h1]
  rfl
section
variable {σ : L2.St} {H : Hp} {vs : List Nat} {te : TE} {Q : VK} {j : Nat}
theorem lc_mapT {a : Addr} {ns : List Int} (g : Int → Int) (hx : H a = some (TI ns)) (hn : ns.length < 1000000) (hw : ∀ x, wipe ((wipe σ vs).set j (some x)) vs = wipe σ vs)
    (he : ∀ n, n ∈ ns → ∀ H', Same H H' → ∀ Q' : VK, (∀ H'', Same H' H'' → Q' (.int (g n)) H'') → te ((wipe σ vs).set j (some (.int n))) H' Q')
    (hq : ∀ p H', H p = none → Same H H' → H' p = some (LI (ns.map g)) → Q (.ref p) H') : tLcIn (gName j) tYes te vs σ Q (Itt K a) H := by
  refine lc_tupI (fun i => g (ns.getD i 0)) hx (by rw [List.length_map]; exact hn) hw (fun i x H' hx sm Q' k' => ?_) (fun A H' hA sm e => ?_)
  · obtain ⟨n, rfl, en⟩ := at_int hx
    refine he n (List.mem_of_getElem? en) H' sm Q' ?_
    rw [List.getD_eq_getElem?_getD, en] at k'
    exact k'
  · rw [List.length_map, range_getD] at e
    exact hq A H' hA sm e
theorem lc_mapL {a : Addr} {ns : List Int} (g : Int → Int) (hx : H a = some (LI ns)) (hn : ns.length < 1000000) (hw : ∀ x, wipe ((wipe σ vs).set j (some x)) vs = wipe σ vs)
    (he : ∀ n, n ∈ ns → ∀ H', Same H H' → ∀ Q' : VK, (∀ H'', Same H' H'' → Q' (.int (g n)) H'') → te ((wipe σ vs).set j (some (.int n))) H' Q')
    (hq : ∀ p H', H p = none → Same H H' → H' p = some (LI (ns.map g)) → Q (.ref p) H') : tLcIn (gName j) tYes te vs σ Q (Itl K a) H := by
  refine lc_listI (fun i => g (ns.getD i 0)) hx (by rw [List.length_map]; exact hn) hw (fun i x H' hx sm Q' k' => ?_) (fun A H' hA sm e => ?_)
  · obtain ⟨n, rfl, en⟩ := at_int hx
    refine he n (List.mem_of_getElem? en) H' sm Q' ?_
    rw [List.getD_eq_getElem?_getD, en] at k'
    exact k'
  · rw [List.length_map, range_getD] at e
    exact hq A H' hA sm e
end
/-- a row: a list or a tuple of ints -/
def RowAt (H : Hp) (a : Addr) (ns : List Int) : Prop := H a = some (LI ns) ∨ H a = some (TI ns)
theorem RowAt.same {H H' : Hp} {a : Addr} {ns : List Int} (h : RowAt H a ns) (s : Same H H') : RowAt H' a ns := h.imp (s _ _) (s _ _)
def sp_modulo : Sp := fun vs H Q _ => ∃ (a : Addr) (ns : List Int) (p : Int), vs = [.ref a, .int p] ∧ RowAt H a ns ∧ ns.length < 1000 ∧ (∀ n ∈ ns, Wd n) ∧ 0 < p ∧ p < 1000 ∧
  ∀ H' r, Same H H' → H r = none → H' r = some (TI (ns.map (· % p))) → Q (.ref r) H'
theorem ok_modulo (T : Tx K mg) : FnOk P w K mg base CX0 1 T.f_modulo T.d_modulo p_modulo sp_modulo := by
  refine T.F_modulo.ok sc_modulo (fun vs H Q E h => ?_) (fun cdv A outer s H vs Q E hr h => ?_)
  · obtain ⟨a, ns, p, rfl, _⟩ := h
    rfl
  · obtain ⟨a, ns, p, rfl, ha, hl, hn, p0, p1, k⟩ := h
    rcases ha with ha | ha
    · refine ⟨_, (pss_one (ps_ret (pe_callTy cr_tupL (by rfl) T.z_tuple (by decide +kernel) (pa_cons (pe_lc (own := [("number", 2)]) (g := gName 2) (tt := tYes) rfl sc_modulo.nd (pi_list (pv 0)) (blkOk_by (N := n_modulo) (sc := defScope s_modulo) (by decide +kernel)) (fun _ _ _ _ _ => (pg_name (i := 2) sc_modulo.nd rfl (by first | exact .inl rfl | exact .inr rfl))) (fun _ _ _ _ _ => pts_nil) (fun _ _ _ _ _ => (pe_op op_mod (pv 2) (pv 1)))) pa_nil)))), ?_⟩
      rw [st_modulo]
      simp only [ap_seq, ap_next, ap_asg, ap_gName, ap_ret, ap_retN, ap_drop, ap_ifS, ap_break, ap_cont, ap_par, ap_aug, ap_ip, ap_gSub, ap_gTup, ap_gNil, ap_gCons, ap_var, ap_c, ap_op, ap_un, ap_if, ap_test, ap_B, ap_and, ap_or, ap_not, ap_andV, ap_orV, ap_notV, ap_nil, ap_cons, ap_tup, ap_lst, ap_cb, ap_bm, ap_call, ap_chain, ap_rI, ap_rI0, ap_rU, ap_rEq, ap_rNe, ap_revT, ap_sl, ap_part, ap_noPart, ap_ixLI, ap_ixTI, ap_ixLV, ap_ixTV, ap_len, ap_setLI, ap_setLV, ap_appI, ap_appV, ap_tupL, ap_listS, ap_sumLI, ap_sumTI, ap_repLI, ap_intI, ap_intB, ap_eqTI, ap_neTI, ap_eqLI, ap_neLI, ap_isi, ap_for, ap_rng1, ap_rng2, ap_iList, ap_iTup, ap_lc, ap_yes, ap_cut, ap_gTupH, ap_fmt, ap_jsn, ap_jsc, ap_gcd, ap_isqrt, ap_ixL, tyV_l, wipe_nil, wipe_cons, upd_same, ap_iEnT, ap_iEnL, ap_iZipA, ap_all, ap_tupT, ap_lenSetT, ap_slI, ap_catI, ap_perm, ap_lenO, ap_strO, ap_listO, ap_reprB, ap_iterT, ap_neT, ap_negO, ap_binI, ap_catL, ap_tM1, ap_repTI, ap_popN, ap_par3, ap_catTT, ap_countT, ap_notInT, ap_repL1, ap_shl, ap_shr, ap_mask, ap_comb, ap_bits, ap_rng3, List.set_cons_zero, List.set_cons_succ, List.getElem?_cons_zero, List.getElem?_cons_succ, List.cons_append, List.nil_append, List.append_nil, Option.some.injEq, V.int.injEq, V.ref.injEq, V.bl.injEq, V.str.injEq, V.ty.injEq, Bool.not_true, Bool.not_false, HO.lst.injEq, HO.tup.injEq, reduceCtorEq, Int.reduceToNat, Int.reduceLT, Int.reduceLE, Nat.reduceAdd, Int.cast_ofNat_Int, gi_c0, gi_c1, gi_c2, gi_c3, Int.natCast_inj, map_int_inj, map_nil_iff, List.cons.injEq, exists_eq_left, exists_eq_left', exists_eq, exists_eq', exists_and_left, exists_and_right, exists_const, and_assoc, and_true, true_and, and_false, false_and, or_false, false_or, or_true, true_or, ite_true, ite_false, if_true, if_false, Bool.false_eq_true, own_cons, own_nil, le1, le2, le3, le4, me_cons, me_nil, List.length_map, List.length_cons, List.length_nil, ne_eq, not_false_eq_true, not_true_eq_false, decide_eq_true_eq]
      refine ⟨⟨_, sqL_of ha⟩, lc_mapL (· % p) ha (by omega) (fun x => rfl) (fun n hm H' sm Q' k' => ?_) (fun A H' hA sm e => ?_)⟩
      · have b := hn n hm
        simp only [ap_seq, ap_next, ap_asg, ap_gName, ap_ret, ap_retN, ap_drop, ap_ifS, ap_break, ap_cont, ap_par, ap_aug, ap_ip, ap_gSub, ap_gTup, ap_gNil, ap_gCons, ap_var, ap_c, ap_op, ap_un, ap_if, ap_test, ap_B, ap_and, ap_or, ap_not, ap_andV, ap_orV, ap_notV, ap_nil, ap_cons, ap_tup, ap_lst, ap_cb, ap_bm, ap_call, ap_chain, ap_rI, ap_rI0, ap_rU, ap_rEq, ap_rNe, ap_revT, ap_sl, ap_part, ap_noPart, ap_ixLI, ap_ixTI, ap_ixLV, ap_ixTV, ap_len, ap_setLI, ap_setLV, ap_appI, ap_appV, ap_tupL, ap_listS, ap_sumLI, ap_sumTI, ap_repLI, ap_intI, ap_intB, ap_eqTI, ap_neTI, ap_eqLI, ap_neLI, ap_isi, ap_for, ap_rng1, ap_rng2, ap_iList, ap_iTup, ap_lc, ap_yes, ap_cut, ap_gTupH, ap_fmt, ap_jsn, ap_jsc, ap_gcd, ap_isqrt, ap_ixL, tyV_l, wipe_nil, wipe_cons, upd_same, ap_iEnT, ap_iEnL, ap_iZipA, ap_all, ap_tupT, ap_lenSetT, ap_slI, ap_catI, ap_perm, ap_lenO, ap_strO, ap_listO, ap_reprB, ap_iterT, ap_neT, ap_negO, ap_binI, ap_catL, ap_tM1, ap_repTI, ap_popN, ap_par3, ap_catTT, ap_countT, ap_notInT, ap_repL1, ap_shl, ap_shr, ap_mask, ap_comb, ap_bits, ap_rng3, List.set_cons_zero, List.set_cons_succ, List.getElem?_cons_zero, List.getElem?_cons_succ, List.cons_append, List.nil_append, List.append_nil, Option.some.injEq, V.int.injEq, V.ref.injEq, V.bl.injEq, V.str.injEq, V.ty.injEq, Bool.not_true, Bool.not_false, HO.lst.injEq, HO.tup.injEq, reduceCtorEq, Int.reduceToNat, Int.reduceLT, Int.reduceLE, Nat.reduceAdd, Int.cast_ofNat_Int, gi_c0, gi_c1, gi_c2, gi_c3, Int.natCast_inj, map_int_inj, map_nil_iff, List.cons.injEq, exists_eq_left, exists_eq_left', exists_eq, exists_eq', exists_and_left, exists_and_right, exists_const, and_assoc, and_true, true_and, and_false, false_and, or_false, false_or, or_true, true_or, ite_true, ite_false, if_true, if_false, Bool.false_eq_true, own_cons, own_nil, le1, le2, le3, le4, me_cons, me_nil, List.length_map, List.length_cons, List.length_nil, ne_eq, not_false_eq_true, not_true_eq_false, decide_eq_true_eq]
        exact ⟨p0, k' _ (Same.refl _)⟩
      · exact ⟨A, rfl, _, e, fun l nl => k _ l (sm.trans (same_upd nl)) (free_of sm nl) upd_same⟩
    · refine ⟨_, (pss_one (ps_ret (pe_callTy cr_tupL (by rfl) T.z_tuple (by decide +kernel) (pa_cons (pe_lc (own := [("number", 2)]) (g := gName 2) (tt := tYes) rfl sc_modulo.nd (pi_tup (pv 0)) (blkOk_by (N := n_modulo) (sc := defScope s_modulo) (by decide +kernel)) (fun _ _ _ _ _ => (pg_name (i := 2) sc_modulo.nd rfl (by first | exact .inl rfl | exact .inr rfl))) (fun _ _ _ _ _ => pts_nil) (fun _ _ _ _ _ => (pe_op op_mod (pv 2) (pv 1)))) pa_nil)))), ?_⟩
      rw [st_modulo]
      simp only [ap_seq, ap_next, ap_asg, ap_gName, ap_ret, ap_retN, ap_drop, ap_ifS, ap_break, ap_cont, ap_par, ap_aug, ap_ip, ap_gSub, ap_gTup, ap_gNil, ap_gCons, ap_var, ap_c, ap_op, ap_un, ap_if, ap_test, ap_B, ap_and, ap_or, ap_not, ap_andV, ap_orV, ap_notV, ap_nil, ap_cons, ap_tup, ap_lst, ap_cb, ap_bm, ap_call, ap_chain, ap_rI, ap_rI0, ap_rU, ap_rEq, ap_rNe, ap_revT, ap_sl, ap_part, ap_noPart, ap_ixLI, ap_ixTI, ap_ixLV, ap_ixTV, ap_len, ap_setLI, ap_setLV, ap_appI, ap_appV, ap_tupL, ap_listS, ap_sumLI, ap_sumTI, ap_repLI, ap_intI, ap_intB, ap_eqTI, ap_neTI, ap_eqLI, ap_neLI, ap_isi, ap_for, ap_rng1, ap_rng2, ap_iList, ap_iTup, ap_lc, ap_yes, ap_cut, ap_gTupH, ap_fmt, ap_jsn, ap_jsc, ap_gcd, ap_isqrt, ap_ixL, tyV_l, wipe_nil, wipe_cons, upd_same, ap_iEnT, ap_iEnL, ap_iZipA, ap_all, ap_tupT, ap_lenSetT, ap_slI, ap_catI, ap_perm, ap_lenO, ap_strO, ap_listO, ap_reprB, ap_iterT, ap_neT, ap_negO, ap_binI, ap_catL, ap_tM1, ap_repTI, ap_popN, ap_par3, ap_catTT, ap_countT, ap_notInT, ap_repL1, ap_shl, ap_shr, ap_mask, ap_comb, ap_bits, ap_rng3, List.set_cons_zero, List.set_cons_succ, List.getElem?_cons_zero, List.getElem?_cons_succ, List.cons_append, List.nil_append, List.append_nil, Option.some.injEq, V.int.injEq, V.ref.injEq, V.bl.injEq, V.str.injEq, V.ty.injEq, Bool.not_true, Bool.not_false, HO.lst.injEq, HO.tup.injEq, reduceCtorEq, Int.reduceToNat, Int.reduceLT, Int.reduceLE, Nat.reduceAdd, Int.cast_ofNat_Int, gi_c0, gi_c1, gi_c2, gi_c3, Int.natCast_inj, map_int_inj, map_nil_iff, List.cons.injEq, exists_eq_left, exists_eq_left', exists_eq, exists_eq', exists_and_left, exists_and_right, exists_const, and_assoc, and_true, true_and, and_false, false_and, or_false, false_or, or_true, true_or, ite_true, ite_false, if_true, if_false, Bool.false_eq_true, own_cons, own_nil, le1, le2, le3, le4, me_cons, me_nil, List.length_map, List.length_cons, List.length_nil, ne_eq, not_false_eq_true, not_true_eq_false, decide_eq_true_eq]
      refine ⟨⟨_, sqT_of ha⟩, lc_mapT (· % p) ha (by omega) (fun x => rfl) (fun n hm H' sm Q' k' => ?_) (fun A H' hA sm e => ?_)⟩
      · have b := hn n hm
        simp only [ap_seq, ap_next, ap_asg, ap_gName, ap_ret, ap_retN, ap_drop, ap_ifS, ap_break, ap_cont, ap_par, ap_aug, ap_ip, ap_gSub, ap_gTup, ap_gNil, ap_gCons, ap_var, ap_c, ap_op, ap_un, ap_if, ap_test, ap_B, ap_and, ap_or, ap_not, ap_andV, ap_orV, ap_notV, ap_nil, ap_cons, ap_tup, ap_lst, ap_cb, ap_bm, ap_call, ap_chain, ap_rI, ap_rI0, ap_rU, ap_rEq, ap_rNe, ap_revT, ap_sl, ap_part, ap_noPart, ap_ixLI, ap_ixTI, ap_ixLV, ap_ixTV, ap_len, ap_setLI, ap_setLV, ap_appI, ap_appV, ap_tupL, ap_listS, ap_sumLI, ap_sumTI, ap_repLI, ap_intI, ap_intB, ap_eqTI, ap_neTI, ap_eqLI, ap_neLI, ap_isi, ap_for, ap_rng1, ap_rng2, ap_iList, ap_iTup, ap_lc, ap_yes, ap_cut, ap_gTupH, ap_fmt, ap_jsn, ap_jsc, ap_gcd, ap_isqrt, ap_ixL, tyV_l, wipe_nil, wipe_cons, upd_same, ap_iEnT, ap_iEnL, ap_iZipA, ap_all, ap_tupT, ap_lenSetT, ap_slI, ap_catI, ap_perm, ap_lenO, ap_strO, ap_listO, ap_reprB, ap_iterT, ap_neT, ap_negO, ap_binI, ap_catL, ap_tM1, ap_repTI, ap_popN, ap_par3, ap_catTT, ap_countT, ap_notInT, ap_repL1, ap_shl, ap_shr, ap_mask, ap_comb, ap_bits, ap_rng3, List.set_cons_zero, List.set_cons_succ, List.getElem?_cons_zero, List.getElem?_cons_succ, List.cons_append, List.nil_append, List.append_nil, Option.some.injEq, V.int.injEq, V.ref.injEq, V.bl.injEq, V.str.injEq, V.ty.injEq, Bool.not_true, Bool.not_false, HO.lst.injEq, HO.tup.injEq, reduceCtorEq, Int.reduceToNat, Int.reduceLT, Int.reduceLE, Nat.reduceAdd, Int.cast_ofNat_Int, gi_c0, gi_c1, gi_c2, gi_c3, Int.natCast_inj, map_int_inj, map_nil_iff, List.cons.injEq, exists_eq_left, exists_eq_left', exists_eq, exists_eq', exists_and_left, exists_and_right, exists_const, and_assoc, and_true, true_and, and_false, false_and, or_false, false_or, or_true, true_or, ite_true, ite_false, if_true, if_false, Bool.false_eq_true, own_cons, own_nil, le1, le2, le3, le4, me_cons, me_nil, List.length_map, List.length_cons, List.length_nil, ne_eq, not_false_eq_true, not_true_eq_false, decide_eq_true_eq]
        exact ⟨p0, k' _ (Same.refl _)⟩
      · exact ⟨A, rfl, _, e, fun l nl => k _ l (sm.trans (same_upd nl)) (free_of sm nl) upd_same⟩
def sp_law_left_by : Sp := fun vs H Q _ => ∃ (a : Addr) (ns : List Int) (p : Int), vs = [.ref a, .int p] ∧ RowAt H a ns ∧ ns.length < 1000 ∧ (∀ n ∈ ns, Wd n) ∧ 0 < p ∧ p < 1000 ∧
  ∀ H' r, Same H H' → H r = none → H' r = some (TI (ns.map (· % p))) → Q (.ref r) H'
theorem ok_law_left_by (T : Tx K mg) : FnOk P w K mg base CX0 1 T.f_law_left_by T.d_law_left_by p_law_left_by sp_law_left_by := by
  refine T.F_law_left_by.ok sc_law_left_by (fun vs H Q E h => ?_) (fun cdv A outer s H vs Q E hr h => ?_)
  · obtain ⟨a, ns, p, rfl, _⟩ := h
    rfl
  · obtain ⟨a, ns, p, rfl, ha, hl, hn, p0, p1, k⟩ := h
    rcases ha with ha | ha
    · refine ⟨_, (pss_one (ps_ret (pe_callTy cr_tupL (by rfl) T.z_tuple (by decide +kernel) (pa_cons (pe_lc (own := [("_law_entry", 2)]) (g := gName 2) (tt := tYes) rfl sc_law_left_by.nd (pi_list (pv 0)) (blkOk_by (N := n_law_left_by) (sc := defScope s_law_left_by) (by decide +kernel)) (fun _ _ _ _ _ => (pg_name (i := 2) sc_law_left_by.nd rfl (by first | exact .inl rfl | exact .inr rfl))) (fun _ _ _ _ _ => pts_nil) (fun _ _ _ _ _ => (pe_op op_mod (pe_callTy cr_intI (by rfl) T.z_int (by decide +kernel) (pa_cons (pv 2) pa_nil)) (pv 1)))) pa_nil)))), ?_⟩
      rw [st_law_left_by]
      simp only [ap_seq, ap_next, ap_asg, ap_gName, ap_ret, ap_retN, ap_drop, ap_ifS, ap_break, ap_cont, ap_par, ap_aug, ap_ip, ap_gSub, ap_gTup, ap_gNil, ap_gCons, ap_var, ap_c, ap_op, ap_un, ap_if, ap_test, ap_B, ap_and, ap_or, ap_not, ap_andV, ap_orV, ap_notV, ap_nil, ap_cons, ap_tup, ap_lst, ap_cb, ap_bm, ap_call, ap_chain, ap_rI, ap_rI0, ap_rU, ap_rEq, ap_rNe, ap_revT, ap_sl, ap_part, ap_noPart, ap_ixLI, ap_ixTI, ap_ixLV, ap_ixTV, ap_len, ap_setLI, ap_setLV, ap_appI, ap_appV, ap_tupL, ap_listS, ap_sumLI, ap_sumTI, ap_repLI, ap_intI, ap_intB, ap_eqTI, ap_neTI, ap_eqLI, ap_neLI, ap_isi, ap_for, ap_rng1, ap_rng2, ap_iList, ap_iTup, ap_lc, ap_yes, ap_cut, ap_gTupH, ap_fmt, ap_jsn, ap_jsc, ap_gcd, ap_isqrt, ap_ixL, tyV_l, wipe_nil, wipe_cons, upd_same, ap_iEnT, ap_iEnL, ap_iZipA, ap_all, ap_tupT, ap_lenSetT, ap_slI, ap_catI, ap_perm, ap_lenO, ap_strO, ap_listO, ap_reprB, ap_iterT, ap_neT, ap_negO, ap_binI, ap_catL, ap_tM1, ap_repTI, ap_popN, ap_par3, ap_catTT, ap_countT, ap_notInT, ap_repL1, ap_shl, ap_shr, ap_mask, ap_comb, ap_bits, ap_rng3, List.set_cons_zero, List.set_cons_succ, List.getElem?_cons_zero, List.getElem?_cons_succ, List.cons_append, List.nil_append, List.append_nil, Option.some.injEq, V.int.injEq, V.ref.injEq, V.bl.injEq, V.str.injEq, V.ty.injEq, Bool.not_true, Bool.not_false, HO.lst.injEq, HO.tup.injEq, reduceCtorEq, Int.reduceToNat, Int.reduceLT, Int.reduceLE, Nat.reduceAdd, Int.cast_ofNat_Int, gi_c0, gi_c1, gi_c2, gi_c3, Int.natCast_inj, map_int_inj, map_nil_iff, List.cons.injEq, exists_eq_left, exists_eq_left', exists_eq, exists_eq', exists_and_left, exists_and_right, exists_const, and_assoc, and_true, true_and, and_false, false_and, or_false, false_or, or_true, true_or, ite_true, ite_false, if_true, if_false, Bool.false_eq_true, own_cons, own_nil, le1, le2, le3, le4, me_cons, me_nil, List.length_map, List.length_cons, List.length_nil, ne_eq, not_false_eq_true, not_true_eq_false, decide_eq_true_eq]
      refine ⟨⟨_, sqL_of ha⟩, lc_mapL (· % p) ha (by omega) (fun x => rfl) (fun n hm H' sm Q' k' => ?_) (fun A H' hA sm e => ?_)⟩
      · have b := hn n hm
        simp only [ap_seq, ap_next, ap_asg, ap_gName, ap_ret, ap_retN, ap_drop, ap_ifS, ap_break, ap_cont, ap_par, ap_aug, ap_ip, ap_gSub, ap_gTup, ap_gNil, ap_gCons, ap_var, ap_c, ap_op, ap_un, ap_if, ap_test, ap_B, ap_and, ap_or, ap_not, ap_andV, ap_orV, ap_notV, ap_nil, ap_cons, ap_tup, ap_lst, ap_cb, ap_bm, ap_call, ap_chain, ap_rI, ap_rI0, ap_rU, ap_rEq, ap_rNe, ap_revT, ap_sl, ap_part, ap_noPart, ap_ixLI, ap_ixTI, ap_ixLV, ap_ixTV, ap_len, ap_setLI, ap_setLV, ap_appI, ap_appV, ap_tupL, ap_listS, ap_sumLI, ap_sumTI, ap_repLI, ap_intI, ap_intB, ap_eqTI, ap_neTI, ap_eqLI, ap_neLI, ap_isi, ap_for, ap_rng1, ap_rng2, ap_iList, ap_iTup, ap_lc, ap_yes, ap_cut, ap_gTupH, ap_fmt, ap_jsn, ap_jsc, ap_gcd, ap_isqrt, ap_ixL, tyV_l, wipe_nil, wipe_cons, upd_same, ap_iEnT, ap_iEnL, ap_iZipA, ap_all, ap_tupT, ap_lenSetT, ap_slI, ap_catI, ap_perm, ap_lenO, ap_strO, ap_listO, ap_reprB, ap_iterT, ap_neT, ap_negO, ap_binI, ap_catL, ap_tM1, ap_repTI, ap_popN, ap_par3, ap_catTT, ap_countT, ap_notInT, ap_repL1, ap_shl, ap_shr, ap_mask, ap_comb, ap_bits, ap_rng3, List.set_cons_zero, List.set_cons_succ, List.getElem?_cons_zero, List.getElem?_cons_succ, List.cons_append, List.nil_append, List.append_nil, Option.some.injEq, V.int.injEq, V.ref.injEq, V.bl.injEq, V.str.injEq, V.ty.injEq, Bool.not_true, Bool.not_false, HO.lst.injEq, HO.tup.injEq, reduceCtorEq, Int.reduceToNat, Int.reduceLT, Int.reduceLE, Nat.reduceAdd, Int.cast_ofNat_Int, gi_c0, gi_c1, gi_c2, gi_c3, Int.natCast_inj, map_int_inj, map_nil_iff, List.cons.injEq, exists_eq_left, exists_eq_left', exists_eq, exists_eq', exists_and_left, exists_and_right, exists_const, and_assoc, and_true, true_and, and_false, false_and, or_false, false_or, or_true, true_or, ite_true, ite_false, if_true, if_false, Bool.false_eq_true, own_cons, own_nil, le1, le2, le3, le4, me_cons, me_nil, List.length_map, List.length_cons, List.length_nil, ne_eq, not_false_eq_true, not_true_eq_false, decide_eq_true_eq]
        exact ⟨p0, k' _ (Same.refl _)⟩
      · exact ⟨A, rfl, _, e, fun l nl => k _ l (sm.trans (same_upd nl)) (free_of sm nl) upd_same⟩
    · refine ⟨_, (pss_one (ps_ret (pe_callTy cr_tupL (by rfl) T.z_tuple (by decide +kernel) (pa_cons (pe_lc (own := [("_law_entry", 2)]) (g := gName 2) (tt := tYes) rfl sc_law_left_by.nd (pi_tup (pv 0)) (blkOk_by (N := n_law_left_by) (sc := defScope s_law_left_by) (by decide +kernel)) (fun _ _ _ _ _ => (pg_name (i := 2) sc_law_left_by.nd rfl (by first | exact .inl rfl | exact .inr rfl))) (fun _ _ _ _ _ => pts_nil) (fun _ _ _ _ _ => (pe_op op_mod (pe_callTy cr_intI (by rfl) T.z_int (by decide +kernel) (pa_cons (pv 2) pa_nil)) (pv 1)))) pa_nil)))), ?_⟩
      rw [st_law_left_by]
      simp only [ap_seq, ap_next, ap_asg, ap_gName, ap_ret, ap_retN, ap_drop, ap_ifS, ap_break, ap_cont, ap_par, ap_aug, ap_ip, ap_gSub, ap_gTup, ap_gNil, ap_gCons, ap_var, ap_c, ap_op, ap_un, ap_if, ap_test, ap_B, ap_and, ap_or, ap_not, ap_andV, ap_orV, ap_notV, ap_nil, ap_cons, ap_tup, ap_lst, ap_cb, ap_bm, ap_call, ap_chain, ap_rI, ap_rI0, ap_rU, ap_rEq, ap_rNe, ap_revT, ap_sl, ap_part, ap_noPart, ap_ixLI, ap_ixTI, ap_ixLV, ap_ixTV, ap_len, ap_setLI, ap_setLV, ap_appI, ap_appV, ap_tupL, ap_listS, ap_sumLI, ap_sumTI, ap_repLI, ap_intI, ap_intB, ap_eqTI, ap_neTI, ap_eqLI, ap_neLI, ap_isi, ap_for, ap_rng1, ap_rng2, ap_iList, ap_iTup, ap_lc, ap_yes, ap_cut, ap_gTupH, ap_fmt, ap_jsn, ap_jsc, ap_gcd, ap_isqrt, ap_ixL, tyV_l, wipe_nil, wipe_cons, upd_same, ap_iEnT, ap_iEnL, ap_iZipA, ap_all, ap_tupT, ap_lenSetT, ap_slI, ap_catI, ap_perm, ap_lenO, ap_strO, ap_listO, ap_reprB, ap_iterT, ap_neT, ap_negO, ap_binI, ap_catL, ap_tM1, ap_repTI, ap_popN, ap_par3, ap_catTT, ap_countT, ap_notInT, ap_repL1, ap_shl, ap_shr, ap_mask, ap_comb, ap_bits, ap_rng3, List.set_cons_zero, List.set_cons_succ, List.getElem?_cons_zero, List.getElem?_cons_succ, List.cons_append, List.nil_append, List.append_nil, Option.some.injEq, V.int.injEq, V.ref.injEq, V.bl.injEq, V.str.injEq, V.ty.injEq, Bool.not_true, Bool.not_false, HO.lst.injEq, HO.tup.injEq, reduceCtorEq, Int.reduceToNat, Int.reduceLT, Int.reduceLE, Nat.reduceAdd, Int.cast_ofNat_Int, gi_c0, gi_c1, gi_c2, gi_c3, Int.natCast_inj, map_int_inj, map_nil_iff, List.cons.injEq, exists_eq_left, exists_eq_left', exists_eq, exists_eq', exists_and_left, exists_and_right, exists_const, and_assoc, and_true, true_and, and_false, false_and, or_false, false_or, or_true, true_or, ite_true, ite_false, if_true, if_false, Bool.false_eq_true, own_cons, own_nil, le1, le2, le3, le4, me_cons, me_nil, List.length_map, List.length_cons, List.length_nil, ne_eq, not_false_eq_true, not_true_eq_false, decide_eq_true_eq]
      refine ⟨⟨_, sqT_of ha⟩, lc_mapT (· % p) ha (by omega) (fun x => rfl) (fun n hm H' sm Q' k' => ?_) (fun A H' hA sm e => ?_)⟩
      · have b := hn n hm
        simp only [ap_seq, ap_next, ap_asg, ap_gName, ap_ret, ap_retN, ap_drop, ap_ifS, ap_break, ap_cont, ap_par, ap_aug, ap_ip, ap_gSub, ap_gTup, ap_gNil, ap_gCons, ap_var, ap_c, ap_op, ap_un, ap_if, ap_test, ap_B, ap_and, ap_or, ap_not, ap_andV, ap_orV, ap_notV, ap_nil, ap_cons, ap_tup, ap_lst, ap_cb, ap_bm, ap_call, ap_chain, ap_rI, ap_rI0, ap_rU, ap_rEq, ap_rNe, ap_revT, ap_sl, ap_part, ap_noPart, ap_ixLI, ap_ixTI, ap_ixLV, ap_ixTV, ap_len, ap_setLI, ap_setLV, ap_appI, ap_appV, ap_tupL, ap_listS, ap_sumLI, ap_sumTI, ap_repLI, ap_intI, ap_intB, ap_eqTI, ap_neTI, ap_eqLI, ap_neLI, ap_isi, ap_for, ap_rng1, ap_rng2, ap_iList, ap_iTup, ap_lc, ap_yes, ap_cut, ap_gTupH, ap_fmt, ap_jsn, ap_jsc, ap_gcd, ap_isqrt, ap_ixL, tyV_l, wipe_nil, wipe_cons, upd_same, ap_iEnT, ap_iEnL, ap_iZipA, ap_all, ap_tupT, ap_lenSetT, ap_slI, ap_catI, ap_perm, ap_lenO, ap_strO, ap_listO, ap_reprB, ap_iterT, ap_neT, ap_negO, ap_binI, ap_catL, ap_tM1, ap_repTI, ap_popN, ap_par3, ap_catTT, ap_countT, ap_notInT, ap_repL1, ap_shl, ap_shr, ap_mask, ap_comb, ap_bits, ap_rng3, List.set_cons_zero, List.set_cons_succ, List.getElem?_cons_zero, List.getElem?_cons_succ, List.cons_append, List.nil_append, List.append_nil, Option.some.injEq, V.int.injEq, V.ref.injEq, V.bl.injEq, V.str.injEq, V.ty.injEq, Bool.not_true, Bool.not_false, HO.lst.injEq, HO.tup.injEq, reduceCtorEq, Int.reduceToNat, Int.reduceLT, Int.reduceLE, Nat.reduceAdd, Int.cast_ofNat_Int, gi_c0, gi_c1, gi_c2, gi_c3, Int.natCast_inj, map_int_inj, map_nil_iff, List.cons.injEq, exists_eq_left, exists_eq_left', exists_eq, exists_eq', exists_and_left, exists_and_right, exists_const, and_assoc, and_true, true_and, and_false, false_and, or_false, false_or, or_true, true_or, ite_true, ite_false, if_true, if_false, Bool.false_eq_true, own_cons, own_nil, le1, le2, le3, le4, me_cons, me_nil, List.length_map, List.length_cons, List.length_nil, ne_eq, not_false_eq_true, not_true_eq_false, decide_eq_true_eq]
        exact ⟨p0, k' _ (Same.refl _)⟩
      · exact ⟨A, rfl, _, e, fun l nl => k _ l (sm.trans (same_upd nl)) (free_of sm nl) upd_same⟩
def sp_law_scaled : Sp := fun vs H Q _ => ∃ (a : Addr) (ns : List Int) (m : Int), vs = [.ref a, .int m] ∧ RowAt H a ns ∧ ns.length < 1000 ∧ (∀ n ∈ ns, Wd n) ∧ Wd m ∧
  ∀ H' r, Same H H' → H r = none → H' r = some (TI (ns.map (m * ·))) → Q (.ref r) H'
theorem ok_law_scaled (T : Tx K mg) : FnOk P w K mg base CX0 1 T.f_law_scaled T.d_law_scaled p_law_scaled sp_law_scaled := by
  refine T.F_law_scaled.ok sc_law_scaled (fun vs H Q E h => ?_) (fun cdv A outer s H vs Q E hr h => ?_)
  · obtain ⟨a, ns, m, rfl, _⟩ := h
    rfl
  · obtain ⟨a, ns, m, rfl, ha, hl, hn, hm2, k⟩ := h
    rcases ha with ha | ha
    · refine ⟨_, (pss_one (ps_ret (pe_callTy cr_tupL (by rfl) T.z_tuple (by decide +kernel) (pa_cons (pe_lc (own := [("_law_entry", 2)]) (g := gName 2) (tt := tYes) rfl sc_law_scaled.nd (pi_list (pv 0)) (blkOk_by (N := n_law_scaled) (sc := defScope s_law_scaled) (by decide +kernel)) (fun _ _ _ _ _ => (pg_name (i := 2) sc_law_scaled.nd rfl (by first | exact .inl rfl | exact .inr rfl))) (fun _ _ _ _ _ => pts_nil) (fun _ _ _ _ _ => (pe_op op_mulB (pv 1) (pv 2)))) pa_nil)))), ?_⟩
      rw [st_law_scaled]
      simp only [ap_seq, ap_next, ap_asg, ap_gName, ap_ret, ap_retN, ap_drop, ap_ifS, ap_break, ap_cont, ap_par, ap_aug, ap_ip, ap_gSub, ap_gTup, ap_gNil, ap_gCons, ap_var, ap_c, ap_op, ap_un, ap_if, ap_test, ap_B, ap_and, ap_or, ap_not, ap_andV, ap_orV, ap_notV, ap_nil, ap_cons, ap_tup, ap_lst, ap_cb, ap_bm, ap_call, ap_chain, ap_rI, ap_rI0, ap_rU, ap_rEq, ap_rNe, ap_revT, ap_sl, ap_part, ap_noPart, ap_ixLI, ap_ixTI, ap_ixLV, ap_ixTV, ap_len, ap_setLI, ap_setLV, ap_appI, ap_appV, ap_tupL, ap_listS, ap_sumLI, ap_sumTI, ap_repLI, ap_intI, ap_intB, ap_eqTI, ap_neTI, ap_eqLI, ap_neLI, ap_isi, ap_for, ap_rng1, ap_rng2, ap_iList, ap_iTup, ap_lc, ap_yes, ap_cut, ap_gTupH, ap_fmt, ap_jsn, ap_jsc, ap_gcd, ap_isqrt, ap_ixL, tyV_l, wipe_nil, wipe_cons, upd_same, ap_iEnT, ap_iEnL, ap_iZipA, ap_all, ap_tupT, ap_lenSetT, ap_slI, ap_catI, ap_perm, ap_lenO, ap_strO, ap_listO, ap_reprB, ap_iterT, ap_neT, ap_negO, ap_binI, ap_catL, ap_tM1, ap_repTI, ap_popN, ap_par3, ap_catTT, ap_countT, ap_notInT, ap_repL1, ap_shl, ap_shr, ap_mask, ap_comb, ap_bits, ap_rng3, List.set_cons_zero, List.set_cons_succ, List.getElem?_cons_zero, List.getElem?_cons_succ, List.cons_append, List.nil_append, List.append_nil, Option.some.injEq, V.int.injEq, V.ref.injEq, V.bl.injEq, V.str.injEq, V.ty.injEq, Bool.not_true, Bool.not_false, HO.lst.injEq, HO.tup.injEq, reduceCtorEq, Int.reduceToNat, Int.reduceLT, Int.reduceLE, Nat.reduceAdd, Int.cast_ofNat_Int, gi_c0, gi_c1, gi_c2, gi_c3, Int.natCast_inj, map_int_inj, map_nil_iff, List.cons.injEq, exists_eq_left, exists_eq_left', exists_eq, exists_eq', exists_and_left, exists_and_right, exists_const, and_assoc, and_true, true_and, and_false, false_and, or_false, false_or, or_true, true_or, ite_true, ite_false, if_true, if_false, Bool.false_eq_true, own_cons, own_nil, le1, le2, le3, le4, me_cons, me_nil, List.length_map, List.length_cons, List.length_nil, ne_eq, not_false_eq_true, not_true_eq_false, decide_eq_true_eq]
      refine ⟨⟨_, sqL_of ha⟩, lc_mapL (m * ·) ha (by omega) (fun x => rfl) (fun n hm H' sm Q' k' => ?_) (fun A H' hA sm e => ?_)⟩
      · have b := hn n hm
        simp only [ap_seq, ap_next, ap_asg, ap_gName, ap_ret, ap_retN, ap_drop, ap_ifS, ap_break, ap_cont, ap_par, ap_aug, ap_ip, ap_gSub, ap_gTup, ap_gNil, ap_gCons, ap_var, ap_c, ap_op, ap_un, ap_if, ap_test, ap_B, ap_and, ap_or, ap_not, ap_andV, ap_orV, ap_notV, ap_nil, ap_cons, ap_tup, ap_lst, ap_cb, ap_bm, ap_call, ap_chain, ap_rI, ap_rI0, ap_rU, ap_rEq, ap_rNe, ap_revT, ap_sl, ap_part, ap_noPart, ap_ixLI, ap_ixTI, ap_ixLV, ap_ixTV, ap_len, ap_setLI, ap_setLV, ap_appI, ap_appV, ap_tupL, ap_listS, ap_sumLI, ap_sumTI, ap_repLI, ap_intI, ap_intB, ap_eqTI, ap_neTI, ap_eqLI, ap_neLI, ap_isi, ap_for, ap_rng1, ap_rng2, ap_iList, ap_iTup, ap_lc, ap_yes, ap_cut, ap_gTupH, ap_fmt, ap_jsn, ap_jsc, ap_gcd, ap_isqrt, ap_ixL, tyV_l, wipe_nil, wipe_cons, upd_same, ap_iEnT, ap_iEnL, ap_iZipA, ap_all, ap_tupT, ap_lenSetT, ap_slI, ap_catI, ap_perm, ap_lenO, ap_strO, ap_listO, ap_reprB, ap_iterT, ap_neT, ap_negO, ap_binI, ap_catL, ap_tM1, ap_repTI, ap_popN, ap_par3, ap_catTT, ap_countT, ap_notInT, ap_repL1, ap_shl, ap_shr, ap_mask, ap_comb, ap_bits, ap_rng3, List.set_cons_zero, List.set_cons_succ, List.getElem?_cons_zero, List.getElem?_cons_succ, List.cons_append, List.nil_append, List.append_nil, Option.some.injEq, V.int.injEq, V.ref.injEq, V.bl.injEq, V.str.injEq, V.ty.injEq, Bool.not_true, Bool.not_false, HO.lst.injEq, HO.tup.injEq, reduceCtorEq, Int.reduceToNat, Int.reduceLT, Int.reduceLE, Nat.reduceAdd, Int.cast_ofNat_Int, gi_c0, gi_c1, gi_c2, gi_c3, Int.natCast_inj, map_int_inj, map_nil_iff, List.cons.injEq, exists_eq_left, exists_eq_left', exists_eq, exists_eq', exists_and_left, exists_and_right, exists_const, and_assoc, and_true, true_and, and_false, false_and, or_false, false_or, or_true, true_or, ite_true, ite_false, if_true, if_false, Bool.false_eq_true, own_cons, own_nil, le1, le2, le3, le4, me_cons, me_nil, List.length_map, List.length_cons, List.length_nil, ne_eq, not_false_eq_true, not_true_eq_false, decide_eq_true_eq]
        exact ⟨⟨hm2, b⟩, k' _ (Same.refl _)⟩
      · exact ⟨A, rfl, _, e, fun l nl => k _ l (sm.trans (same_upd nl)) (free_of sm nl) upd_same⟩
    · refine ⟨_, (pss_one (ps_ret (pe_callTy cr_tupL (by rfl) T.z_tuple (by decide +kernel) (pa_cons (pe_lc (own := [("_law_entry", 2)]) (g := gName 2) (tt := tYes) rfl sc_law_scaled.nd (pi_tup (pv 0)) (blkOk_by (N := n_law_scaled) (sc := defScope s_law_scaled) (by decide +kernel)) (fun _ _ _ _ _ => (pg_name (i := 2) sc_law_scaled.nd rfl (by first | exact .inl rfl | exact .inr rfl))) (fun _ _ _ _ _ => pts_nil) (fun _ _ _ _ _ => (pe_op op_mulB (pv 1) (pv 2)))) pa_nil)))), ?_⟩
      rw [st_law_scaled]
      simp only [ap_seq, ap_next, ap_asg, ap_gName, ap_ret, ap_retN, ap_drop, ap_ifS, ap_break, ap_cont, ap_par, ap_aug, ap_ip, ap_gSub, ap_gTup, ap_gNil, ap_gCons, ap_var, ap_c, ap_op, ap_un, ap_if, ap_test, ap_B, ap_and, ap_or, ap_not, ap_andV, ap_orV, ap_notV, ap_nil, ap_cons, ap_tup, ap_lst, ap_cb, ap_bm, ap_call, ap_chain, ap_rI, ap_rI0, ap_rU, ap_rEq, ap_rNe, ap_revT, ap_sl, ap_part, ap_noPart, ap_ixLI, ap_ixTI, ap_ixLV, ap_ixTV, ap_len, ap_setLI, ap_setLV, ap_appI, ap_appV, ap_tupL, ap_listS, ap_sumLI, ap_sumTI, ap_repLI, ap_intI, ap_intB, ap_eqTI, ap_neTI, ap_eqLI, ap_neLI, ap_isi, ap_for, ap_rng1, ap_rng2, ap_iList, ap_iTup, ap_lc, ap_yes, ap_cut, ap_gTupH, ap_fmt, ap_jsn, ap_jsc, ap_gcd, ap_isqrt, ap_ixL, tyV_l, wipe_nil, wipe_cons, upd_same, ap_iEnT, ap_iEnL, ap_iZipA, ap_all, ap_tupT, ap_lenSetT, ap_slI, ap_catI, ap_perm, ap_lenO, ap_strO, ap_listO, ap_reprB, ap_iterT, ap_neT, ap_negO, ap_binI, ap_catL, ap_tM1, ap_repTI, ap_popN, ap_par3, ap_catTT, ap_countT, ap_notInT, ap_repL1, ap_shl, ap_shr, ap_mask, ap_comb, ap_bits, ap_rng3, List.set_cons_zero, List.set_cons_succ, List.getElem?_cons_zero, List.getElem?_cons_succ, List.cons_append, List.nil_append, List.append_nil, Option.some.injEq, V.int.injEq, V.ref.injEq, V.bl.injEq, V.str.injEq, V.ty.injEq, Bool.not_true, Bool.not_false, HO.lst.injEq, HO.tup.injEq, reduceCtorEq, Int.reduceToNat, Int.reduceLT, Int.reduceLE, Nat.reduceAdd, Int.cast_ofNat_Int, gi_c0, gi_c1, gi_c2, gi_c3, Int.natCast_inj, map_int_inj, map_nil_iff, List.cons.injEq, exists_eq_left, exists_eq_left', exists_eq, exists_eq', exists_and_left, exists_and_right, exists_const, and_assoc, and_true, true_and, and_false, false_and, or_false, false_or, or_true, true_or, ite_true, ite_false, if_true, if_false, Bool.false_eq_true, own_cons, own_nil, le1, le2, le3, le4, me_cons, me_nil, List.length_map, List.length_cons, List.length_nil, ne_eq, not_false_eq_true, not_true_eq_false, decide_eq_true_eq]
      refine ⟨⟨_, sqT_of ha⟩, lc_mapT (m * ·) ha (by omega) (fun x => rfl) (fun n hm H' sm Q' k' => ?_) (fun A H' hA sm e => ?_)⟩
      · have b := hn n hm
        simp only [ap_seq, ap_next, ap_asg, ap_gName, ap_ret, ap_retN, ap_drop, ap_ifS, ap_break, ap_cont, ap_par, ap_aug, ap_ip, ap_gSub, ap_gTup, ap_gNil, ap_gCons, ap_var, ap_c, ap_op, ap_un, ap_if, ap_test, ap_B, ap_and, ap_or, ap_not, ap_andV, ap_orV, ap_notV, ap_nil, ap_cons, ap_tup, ap_lst, ap_cb, ap_bm, ap_call, ap_chain, ap_rI, ap_rI0, ap_rU, ap_rEq, ap_rNe, ap_revT, ap_sl, ap_part, ap_noPart, ap_ixLI, ap_ixTI, ap_ixLV, ap_ixTV, ap_len, ap_setLI, ap_setLV, ap_appI, ap_appV, ap_tupL, ap_listS, ap_sumLI, ap_sumTI, ap_repLI, ap_intI, ap_intB, ap_eqTI, ap_neTI, ap_eqLI, ap_neLI, ap_isi, ap_for, ap_rng1, ap_rng2, ap_iList, ap_iTup, ap_lc, ap_yes, ap_cut, ap_gTupH, ap_fmt, ap_jsn, ap_jsc, ap_gcd, ap_isqrt, ap_ixL, tyV_l, wipe_nil, wipe_cons, upd_same, ap_iEnT, ap_iEnL, ap_iZipA, ap_all, ap_tupT, ap_lenSetT, ap_slI, ap_catI, ap_perm, ap_lenO, ap_strO, ap_listO, ap_reprB, ap_iterT, ap_neT, ap_negO, ap_binI, ap_catL, ap_tM1, ap_repTI, ap_popN, ap_par3, ap_catTT, ap_countT, ap_notInT, ap_repL1, ap_shl, ap_shr, ap_mask, ap_comb, ap_bits, ap_rng3, List.set_cons_zero, List.set_cons_succ, List.getElem?_cons_zero, List.getElem?_cons_succ, List.cons_append, List.nil_append, List.append_nil, Option.some.injEq, V.int.injEq, V.ref.injEq, V.bl.injEq, V.str.injEq, V.ty.injEq, Bool.not_true, Bool.not_false, HO.lst.injEq, HO.tup.injEq, reduceCtorEq, Int.reduceToNat, Int.reduceLT, Int.reduceLE, Nat.reduceAdd, Int.cast_ofNat_Int, gi_c0, gi_c1, gi_c2, gi_c3, Int.natCast_inj, map_int_inj, map_nil_iff, List.cons.injEq, exists_eq_left, exists_eq_left', exists_eq, exists_eq', exists_and_left, exists_and_right, exists_const, and_assoc, and_true, true_and, and_false, false_and, or_false, false_or, or_true, true_or, ite_true, ite_false, if_true, if_false, Bool.false_eq_true, own_cons, own_nil, le1, le2, le3, le4, me_cons, me_nil, List.length_map, List.length_cons, List.length_nil, ne_eq, not_false_eq_true, not_true_eq_false, decide_eq_true_eq]
        exact ⟨⟨hm2, b⟩, k' _ (Same.refl _)⟩
      · exact ⟨A, rfl, _, e, fun l nl => k _ l (sm.trans (same_upd nl)) (free_of sm nl) upd_same⟩
end
end My

namespace My
open PySem PySem.Spec PyProof.Rows L2 Pr
section
variable {P : Program} {w : World} {K : PySem.W.Frag} {mg : Str → Option Value} {base : Heap}
theorem pow_mod (a p : Int) : ∀ k : Nat, (a % p) ^ k % p = a ^ k % p
  | 0 => by rw [Int.pow_zero, Int.pow_zero]
  | k + 1 => by
    rw [Int.pow_succ, Int.pow_succ, Int.mul_emod, pow_mod a p k, Int.emod_emod, ← Int.mul_emod]
theorem pow_half (s : Int) {l : Int} (h : 0 < l) : s ^ l.toNat = (if l % 2 = 1 then s else 1) * (s * s) ^ (l / 2).toNat := by
  have e : l.toNat = (if l % 2 = 1 then 1 else 0) + 2 * (l / 2).toNat := by split <;> omega
  rw [e, Int.pow_add, Int.pow_mul, Int.pow_succ, Int.pow_succ, Int.pow_zero, Int.one_mul]
  congr 1
  split
  · rw [Int.pow_succ, Int.pow_zero, Int.one_mul]
  · rw [Int.pow_zero]
/-- one turn of the powers: the invariant -/
def Pw (n p : Int) (e : Nat) (f s l : Int) : Prop := 0 ≤ f ∧ f < p ∧ 0 ≤ s ∧ s < p ∧ 0 ≤ l ∧ l < 1000 ∧ f * s ^ l.toNat % p = n ^ e % p
theorem Pw.odd {n p : Int} {e : Nat} {f s l : Int} (h : Pw n p e f s l) (hp : 0 < p) (hl : 0 < l) (ho : l % 2 = 1) : Pw n p e (f * s % p) (s * s % p) (l / 2) := by
  obtain ⟨h1, h2, h3, h4, h5, h6, h7⟩ := h
  refine ⟨Int.emod_nonneg _ (by omega), Int.emod_lt_of_pos _ hp, Int.emod_nonneg _ (by omega), Int.emod_lt_of_pos _ hp, by omega, by omega, ?_⟩
  rw [← h7, pow_half s hl, if_pos ho, Int.mul_emod, pow_mod, Int.emod_emod, ← Int.mul_emod, Int.mul_assoc]
theorem Pw.even {n p : Int} {e : Nat} {f s l : Int} (h : Pw n p e f s l) (hp : 0 < p) (hl : 0 < l) (ho : ¬ l % 2 = 1) : Pw n p e f (s * s % p) (l / 2) := by
  obtain ⟨h1, h2, h3, h4, h5, h6, h7⟩ := h
  refine ⟨h1, h2, Int.emod_nonneg _ (by omega), Int.emod_lt_of_pos _ hp, by omega, by omega, ?_⟩
  rw [← h7, pow_half s hl, if_neg ho, Int.one_mul, Int.mul_emod, pow_mod, ← Int.mul_emod]
theorem Pw.done {n p : Int} {e : Nat} {f s l : Int} (h : Pw n p e f s l) (hl : ¬ 0 < l) : f = n ^ e % p := by
  obtain ⟨h1, h2, h3, h4, h5, h6, h7⟩ := h
  have e0 : l = 0 := by omega
  subst e0
  rw [← h7]
  show f = f * s ^ 0 % p
  rw [Int.pow_zero, Int.mul_one, Int.emod_eq_of_lt h1 h2]
theorem Pw.start (n p : Int) {e : Int} (h0 : 0 ≤ e) (h1 : e < 1000) (hp : 1 < p) : Pw n p e.toNat 1 (n % p) e :=
  ⟨by omega, hp, Int.emod_nonneg _ (by omega), Int.emod_lt_of_pos _ (by omega), h0, h1, by rw [Int.one_mul, pow_mod]⟩
theorem Pw.wd {n p : Int} {e : Nat} {f s l : Int} (h : Pw n p e f s l) (hp : p < 1000) : CMu f s ∧ CMu s s := by
  obtain ⟨h1, h2, h3, h4, _⟩ := h
  have a : Wd f := Sm.wd (by unfold Sm; omega)
  have b : Wd s := Sm.wd (by unfold Sm; omega)
  exact ⟨⟨a, b⟩, b, b⟩
def sp_power_of : Sp := fun vs H Q _ => ∃ (n e p : Int), vs = [.int n, .int e, .int p] ∧ 0 ≤ e ∧ e < 1000 ∧ 1 < p ∧ p < 1000 ∧ Q (.int (n ^ e.toNat % p)) H
theorem ok_power_of (T : Tx K mg) : FnOk P w K mg base CX0 1 T.f_power_of T.d_power_of p_power_of sp_power_of := by
  refine T.F_power_of.ok sc_power_of (fun vs H Q E h => ?_) (fun cdv A outer s H vs Q E hr h => ?_)
  · obtain ⟨n, e, p, rfl, _⟩ := h
    rfl
  · obtain ⟨n, e, p, rfl, h0, h1, p0, p1, q⟩ := h
    refine ⟨_, (pss_cons (ps_par3 (i := 3) (j := 4) (l := 5) (by rfl) sc_power_of.nd rfl rfl rfl (by decide) (by decide) (by decide) rfl rfl rfl (pa_cons pe_int (pa_cons (pe_op op_mod (pv 0) (pv 2)) (pa_cons (pv 1) pa_nil))) (by rfl))
      (pss_cons (ps_while PassesOwn.never (pt_cmpR op_gt (pv 5) pe_int (nomark _))
      (pss_cons (ps_if (pt_cmpR op_eq (pe_op op_mod (pv 5) pe_int) pe_int (nomark _)) (pss_one (ps_set (i := 3) sc_power_of.nd rfl (Or.inl rfl) (pe_op op_mod (pe_op op_mulB (pv 3) (pv 4)) (pv 2)))) pss_nil)
      (pss_cons (ps_set (i := 4) sc_power_of.nd rfl (Or.inl rfl) (pe_op op_mod (pe_op op_mulB (pv 4) (pv 4)) (pv 2)))
      (pss_one (ps_set (i := 5) sc_power_of.nd rfl (Or.inl rfl) (pe_op op_fdivP (pv 5) pe_int))))))
      (pss_one (ps_ret (pv 3))))), ?_⟩
    rw [st_power_of]
    simp only [ap_seq, ap_next, ap_asg, ap_gName, ap_ret, ap_retN, ap_drop, ap_ifS, ap_break, ap_cont, ap_par, ap_aug, ap_ip, ap_gSub, ap_gTup, ap_gNil, ap_gCons, ap_var, ap_c, ap_op, ap_un, ap_if, ap_test, ap_B, ap_and, ap_or, ap_not, ap_andV, ap_orV, ap_notV, ap_nil, ap_cons, ap_tup, ap_lst, ap_cb, ap_bm, ap_call, ap_chain, ap_rI, ap_rI0, ap_rU, ap_rEq, ap_rNe, ap_revT, ap_sl, ap_part, ap_noPart, ap_ixLI, ap_ixTI, ap_ixLV, ap_ixTV, ap_len, ap_setLI, ap_setLV, ap_appI, ap_appV, ap_tupL, ap_listS, ap_sumLI, ap_sumTI, ap_repLI, ap_intI, ap_intB, ap_eqTI, ap_neTI, ap_eqLI, ap_neLI, ap_isi, ap_for, ap_rng1, ap_rng2, ap_iList, ap_iTup, ap_lc, ap_yes, ap_cut, ap_gTupH, ap_fmt, ap_jsn, ap_jsc, ap_gcd, ap_isqrt, ap_ixL, tyV_l, wipe_nil, wipe_cons, upd_same, ap_iEnT, ap_iEnL, ap_iZipA, ap_all, ap_tupT, ap_lenSetT, ap_slI, ap_catI, ap_perm, ap_lenO, ap_strO, ap_listO, ap_reprB, ap_iterT, ap_neT, ap_negO, ap_binI, ap_catL, ap_tM1, ap_repTI, ap_popN, ap_par3, ap_catTT, ap_countT, ap_notInT, ap_repL1, ap_shl, ap_shr, ap_mask, ap_comb, ap_bits, ap_rng3, List.set_cons_zero, List.set_cons_succ, List.getElem?_cons_zero, List.getElem?_cons_succ, List.cons_append, List.nil_append, List.append_nil, Option.some.injEq, V.int.injEq, V.ref.injEq, V.bl.injEq, V.str.injEq, V.ty.injEq, Bool.not_true, Bool.not_false, HO.lst.injEq, HO.tup.injEq, reduceCtorEq, Int.reduceToNat, Int.reduceLT, Int.reduceLE, Nat.reduceAdd, Int.cast_ofNat_Int, gi_c0, gi_c1, gi_c2, gi_c3, Int.natCast_inj, map_int_inj, map_nil_iff, List.cons.injEq, exists_eq_left, exists_eq_left', exists_eq, exists_eq', exists_and_left, exists_and_right, exists_const, and_assoc, and_true, true_and, and_false, false_and, or_false, false_or, or_true, true_or, ite_true, ite_false, if_true, if_false, Bool.false_eq_true, own_cons, own_nil, le1, le2, le3, le4, me_cons, me_nil, List.length_map, List.length_cons, List.length_nil, ne_eq, not_false_eq_true, not_true_eq_false, decide_eq_true_eq]
    refine ⟨by omega, while_a (fun (z : Int × Int × Int) σ' H' => σ' = [some (.int n), some (.int e), some (.int p), some (.int z.1), some (.int z.2.1), some (.int z.2.2)] ∧ H' = H ∧ Pw n p e.toNat z.1 z.2.1 z.2.2) (fun z => decide (0 < z.2.2)) (fun z => z.2.2.toNat) (_, _, _) ⟨rfl, rfl, Pw.start n p h0 h1 p0⟩ (fun z σ' H' hP Q1 hQ => ?_) (fun z σ' H' hP ht => ?_) (fun z σ' H' hP ht => ?_)⟩
    · obtain ⟨e1, e2, hw⟩ := hP
      subst e1 e2
      simp only [ap_seq, ap_next, ap_asg, ap_gName, ap_ret, ap_retN, ap_drop, ap_ifS, ap_break, ap_cont, ap_par, ap_aug, ap_ip, ap_gSub, ap_gTup, ap_gNil, ap_gCons, ap_var, ap_c, ap_op, ap_un, ap_if, ap_test, ap_B, ap_and, ap_or, ap_not, ap_andV, ap_orV, ap_notV, ap_nil, ap_cons, ap_tup, ap_lst, ap_cb, ap_bm, ap_call, ap_chain, ap_rI, ap_rI0, ap_rU, ap_rEq, ap_rNe, ap_revT, ap_sl, ap_part, ap_noPart, ap_ixLI, ap_ixTI, ap_ixLV, ap_ixTV, ap_len, ap_setLI, ap_setLV, ap_appI, ap_appV, ap_tupL, ap_listS, ap_sumLI, ap_sumTI, ap_repLI, ap_intI, ap_intB, ap_eqTI, ap_neTI, ap_eqLI, ap_neLI, ap_isi, ap_for, ap_rng1, ap_rng2, ap_iList, ap_iTup, ap_lc, ap_yes, ap_cut, ap_gTupH, ap_fmt, ap_jsn, ap_jsc, ap_gcd, ap_isqrt, ap_ixL, tyV_l, wipe_nil, wipe_cons, upd_same, ap_iEnT, ap_iEnL, ap_iZipA, ap_all, ap_tupT, ap_lenSetT, ap_slI, ap_catI, ap_perm, ap_lenO, ap_strO, ap_listO, ap_reprB, ap_iterT, ap_neT, ap_negO, ap_binI, ap_catL, ap_tM1, ap_repTI, ap_popN, ap_par3, ap_catTT, ap_countT, ap_notInT, ap_repL1, ap_shl, ap_shr, ap_mask, ap_comb, ap_bits, ap_rng3, List.set_cons_zero, List.set_cons_succ, List.getElem?_cons_zero, List.getElem?_cons_succ, List.cons_append, List.nil_append, List.append_nil, Option.some.injEq, V.int.injEq, V.ref.injEq, V.bl.injEq, V.str.injEq, V.ty.injEq, Bool.not_true, Bool.not_false, HO.lst.injEq, HO.tup.injEq, reduceCtorEq, Int.reduceToNat, Int.reduceLT, Int.reduceLE, Nat.reduceAdd, Int.cast_ofNat_Int, gi_c0, gi_c1, gi_c2, gi_c3, Int.natCast_inj, map_int_inj, map_nil_iff, List.cons.injEq, exists_eq_left, exists_eq_left', exists_eq, exists_eq', exists_and_left, exists_and_right, exists_const, and_assoc, and_true, true_and, and_false, false_and, or_false, false_or, or_true, true_or, ite_true, ite_false, if_true, if_false, Bool.false_eq_true, own_cons, own_nil, le1, le2, le3, le4, me_cons, me_nil, List.length_map, List.length_cons, List.length_nil, ne_eq, not_false_eq_true, not_true_eq_false, decide_eq_true_eq]
      exact hQ
    · obtain ⟨e1, e2, hw⟩ := hP
      subst e1 e2
      have hp : 0 < z.2.2 := of_decide_eq_true ht
      obtain ⟨c1, c2⟩ := hw.wd p1
      simp only [ap_seq, ap_next, ap_asg, ap_gName, ap_ret, ap_retN, ap_drop, ap_ifS, ap_break, ap_cont, ap_par, ap_aug, ap_ip, ap_gSub, ap_gTup, ap_gNil, ap_gCons, ap_var, ap_c, ap_op, ap_un, ap_if, ap_test, ap_B, ap_and, ap_or, ap_not, ap_andV, ap_orV, ap_notV, ap_nil, ap_cons, ap_tup, ap_lst, ap_cb, ap_bm, ap_call, ap_chain, ap_rI, ap_rI0, ap_rU, ap_rEq, ap_rNe, ap_revT, ap_sl, ap_part, ap_noPart, ap_ixLI, ap_ixTI, ap_ixLV, ap_ixTV, ap_len, ap_setLI, ap_setLV, ap_appI, ap_appV, ap_tupL, ap_listS, ap_sumLI, ap_sumTI, ap_repLI, ap_intI, ap_intB, ap_eqTI, ap_neTI, ap_eqLI, ap_neLI, ap_isi, ap_for, ap_rng1, ap_rng2, ap_iList, ap_iTup, ap_lc, ap_yes, ap_cut, ap_gTupH, ap_fmt, ap_jsn, ap_jsc, ap_gcd, ap_isqrt, ap_ixL, tyV_l, wipe_nil, wipe_cons, upd_same, ap_iEnT, ap_iEnL, ap_iZipA, ap_all, ap_tupT, ap_lenSetT, ap_slI, ap_catI, ap_perm, ap_lenO, ap_strO, ap_listO, ap_reprB, ap_iterT, ap_neT, ap_negO, ap_binI, ap_catL, ap_tM1, ap_repTI, ap_popN, ap_par3, ap_catTT, ap_countT, ap_notInT, ap_repL1, ap_shl, ap_shr, ap_mask, ap_comb, ap_bits, ap_rng3, List.set_cons_zero, List.set_cons_succ, List.getElem?_cons_zero, List.getElem?_cons_succ, List.cons_append, List.nil_append, List.append_nil, Option.some.injEq, V.int.injEq, V.ref.injEq, V.bl.injEq, V.str.injEq, V.ty.injEq, Bool.not_true, Bool.not_false, HO.lst.injEq, HO.tup.injEq, reduceCtorEq, Int.reduceToNat, Int.reduceLT, Int.reduceLE, Nat.reduceAdd, Int.cast_ofNat_Int, gi_c0, gi_c1, gi_c2, gi_c3, Int.natCast_inj, map_int_inj, map_nil_iff, List.cons.injEq, exists_eq_left, exists_eq_left', exists_eq, exists_eq', exists_and_left, exists_and_right, exists_const, and_assoc, and_true, true_and, and_false, false_and, or_false, false_or, or_true, true_or, ite_true, ite_false, if_true, if_false, Bool.false_eq_true, own_cons, own_nil, le1, le2, le3, le4, me_cons, me_nil, List.length_map, List.length_cons, List.length_nil, ne_eq, not_false_eq_true, not_true_eq_false, decide_eq_true_eq]
      obtain ⟨b1, b2, b3, b4, b5, b6, b7⟩ := id hw
      refine ⟨rfl, iteC (fun co => ⟨c1, by omega, c2, by omega, by unfold CDp; omega, (_, _, _), ?_, rfl, rfl, rfl, hw.odd (by omega) hp co⟩) (fun co => ⟨c2, by omega, by unfold CDp; omega, (z.1, z.2.1 * z.2.1 % p, z.2.2 / 2), ?_, rfl, rfl, rfl, hw.even (by omega) hp co⟩)⟩
      · show (z.2.2 / 2).toNat < z.2.2.toNat
        omega
      · show (z.2.2 / 2).toNat < z.2.2.toNat
        omega
    · obtain ⟨e1, e2, hw⟩ := hP
      subst e1 e2
      have hp : ¬ 0 < z.2.2 := of_decide_eq_false ht
      simp only [ap_seq, ap_next, ap_asg, ap_gName, ap_ret, ap_retN, ap_drop, ap_ifS, ap_break, ap_cont, ap_par, ap_aug, ap_ip, ap_gSub, ap_gTup, ap_gNil, ap_gCons, ap_var, ap_c, ap_op, ap_un, ap_if, ap_test, ap_B, ap_and, ap_or, ap_not, ap_andV, ap_orV, ap_notV, ap_nil, ap_cons, ap_tup, ap_lst, ap_cb, ap_bm, ap_call, ap_chain, ap_rI, ap_rI0, ap_rU, ap_rEq, ap_rNe, ap_revT, ap_sl, ap_part, ap_noPart, ap_ixLI, ap_ixTI, ap_ixLV, ap_ixTV, ap_len, ap_setLI, ap_setLV, ap_appI, ap_appV, ap_tupL, ap_listS, ap_sumLI, ap_sumTI, ap_repLI, ap_intI, ap_intB, ap_eqTI, ap_neTI, ap_eqLI, ap_neLI, ap_isi, ap_for, ap_rng1, ap_rng2, ap_iList, ap_iTup, ap_lc, ap_yes, ap_cut, ap_gTupH, ap_fmt, ap_jsn, ap_jsc, ap_gcd, ap_isqrt, ap_ixL, tyV_l, wipe_nil, wipe_cons, upd_same, ap_iEnT, ap_iEnL, ap_iZipA, ap_all, ap_tupT, ap_lenSetT, ap_slI, ap_catI, ap_perm, ap_lenO, ap_strO, ap_listO, ap_reprB, ap_iterT, ap_neT, ap_negO, ap_binI, ap_catL, ap_tM1, ap_repTI, ap_popN, ap_par3, ap_catTT, ap_countT, ap_notInT, ap_repL1, ap_shl, ap_shr, ap_mask, ap_comb, ap_bits, ap_rng3, List.set_cons_zero, List.set_cons_succ, List.getElem?_cons_zero, List.getElem?_cons_succ, List.cons_append, List.nil_append, List.append_nil, Option.some.injEq, V.int.injEq, V.ref.injEq, V.bl.injEq, V.str.injEq, V.ty.injEq, Bool.not_true, Bool.not_false, HO.lst.injEq, HO.tup.injEq, reduceCtorEq, Int.reduceToNat, Int.reduceLT, Int.reduceLE, Nat.reduceAdd, Int.cast_ofNat_Int, gi_c0, gi_c1, gi_c2, gi_c3, Int.natCast_inj, map_int_inj, map_nil_iff, List.cons.injEq, exists_eq_left, exists_eq_left', exists_eq, exists_eq', exists_and_left, exists_and_right, exists_const, and_assoc, and_true, true_and, and_false, false_and, or_false, false_or, or_true, true_or, ite_true, ite_false, if_true, if_false, Bool.false_eq_true, own_cons, own_nil, le1, le2, le3, le4, me_cons, me_nil, List.length_map, List.length_cons, List.length_nil, ne_eq, not_false_eq_true, not_true_eq_false, decide_eq_true_eq]
      rw [hw.done hp]
      exact q
def sp_inverse_of : Sp := fun vs H Q _ => ∃ (n p : Int), vs = [.int n, .int p] ∧ 1 < p ∧ p < 1000 ∧ Q (.int (n ^ (p - 2).toNat % p)) H
theorem ok_inverse_of (T : Tx K mg) : FnOk P w K mg base CX0 2 T.f_inverse_of T.d_inverse_of p_inverse_of sp_inverse_of := by
  refine T.F_inverse_of.ok sc_inverse_of (fun vs H Q E h => ?_) (fun cdv A outer s H vs Q E hr h => ?_)
  · obtain ⟨n, p, rfl, _⟩ := h
    rfl
  · obtain ⟨n, p, rfl, p0, p1, q⟩ := h
    refine ⟨_, (pss_one (ps_ret (pe_call (ok_power_of T) (hr.mono (by decide)) (by rfl) T.m_power_of T.F_power_of.kp T.b_power_of .nil pass0 (pa_cons (pv 0) (pa_cons (pe_op op_sub (pv 1) pe_int) (pa_cons (pv 1) pa_nil)))))), ?_⟩
    rw [st_inverse_of]
    simp only [ap_seq, ap_next, ap_asg, ap_gName, ap_ret, ap_retN, ap_drop, ap_ifS, ap_break, ap_cont, ap_par, ap_aug, ap_ip, ap_gSub, ap_gTup, ap_gNil, ap_gCons, ap_var, ap_c, ap_op, ap_un, ap_if, ap_test, ap_B, ap_and, ap_or, ap_not, ap_andV, ap_orV, ap_notV, ap_nil, ap_cons, ap_tup, ap_lst, ap_cb, ap_bm, ap_call, ap_chain, ap_rI, ap_rI0, ap_rU, ap_rEq, ap_rNe, ap_revT, ap_sl, ap_part, ap_noPart, ap_ixLI, ap_ixTI, ap_ixLV, ap_ixTV, ap_len, ap_setLI, ap_setLV, ap_appI, ap_appV, ap_tupL, ap_listS, ap_sumLI, ap_sumTI, ap_repLI, ap_intI, ap_intB, ap_eqTI, ap_neTI, ap_eqLI, ap_neLI, ap_isi, ap_for, ap_rng1, ap_rng2, ap_iList, ap_iTup, ap_lc, ap_yes, ap_cut, ap_gTupH, ap_fmt, ap_jsn, ap_jsc, ap_gcd, ap_isqrt, ap_ixL, tyV_l, wipe_nil, wipe_cons, upd_same, ap_iEnT, ap_iEnL, ap_iZipA, ap_all, ap_tupT, ap_lenSetT, ap_slI, ap_catI, ap_perm, ap_lenO, ap_strO, ap_listO, ap_reprB, ap_iterT, ap_neT, ap_negO, ap_binI, ap_catL, ap_tM1, ap_repTI, ap_popN, ap_par3, ap_catTT, ap_countT, ap_notInT, ap_repL1, ap_shl, ap_shr, ap_mask, ap_comb, ap_bits, ap_rng3, List.set_cons_zero, List.set_cons_succ, List.getElem?_cons_zero, List.getElem?_cons_succ, List.cons_append, List.nil_append, List.append_nil, Option.some.injEq, V.int.injEq, V.ref.injEq, V.bl.injEq, V.str.injEq, V.ty.injEq, Bool.not_true, Bool.not_false, HO.lst.injEq, HO.tup.injEq, reduceCtorEq, Int.reduceToNat, Int.reduceLT, Int.reduceLE, Nat.reduceAdd, Int.cast_ofNat_Int, gi_c0, gi_c1, gi_c2, gi_c3, Int.natCast_inj, map_int_inj, map_nil_iff, List.cons.injEq, exists_eq_left, exists_eq_left', exists_eq, exists_eq', exists_and_left, exists_and_right, exists_const, and_assoc, and_true, true_and, and_false, false_and, or_false, false_or, or_true, true_or, ite_true, ite_false, if_true, if_false, Bool.false_eq_true, own_cons, own_nil, le1, le2, le3, le4, me_cons, me_nil, List.length_map, List.length_cons, List.length_nil, ne_eq, not_false_eq_true, not_true_eq_false, decide_eq_true_eq, sp_power_of]
    exact ⟨by omega, by omega, p0, p1, q⟩
def sp_law_undo_by : Sp := fun vs H Q _ => ∃ (n p : Int), vs = [.int n, .int p] ∧ 1 < p ∧ p < 1000 ∧ Q (.int (n ^ (p - 2).toNat % p)) H
theorem ok_law_undo_by (T : Tx K mg) : FnOk P w K mg base CX0 1 T.f_law_undo_by T.d_law_undo_by p_law_undo_by sp_law_undo_by := by
  refine T.F_law_undo_by.ok sc_law_undo_by (fun vs H Q E h => ?_) (fun cdv A outer s H vs Q E hr h => ?_)
  · obtain ⟨n, p, rfl, _⟩ := h
    rfl
  · obtain ⟨n, p, rfl, p0, p1, q⟩ := h
    refine ⟨_, (pss_cons (ps_par3 (i := 2) (j := 3) (l := 4) (by rfl) sc_law_undo_by.nd rfl rfl rfl (by decide) (by decide) (by decide) rfl rfl rfl (pa_cons pe_int (pa_cons (pe_op op_mod (pe_callTy cr_intI (by rfl) T.z_int (by decide +kernel) (pa_cons (pv 0) pa_nil)) (pv 1)) (pa_cons (pe_op op_sub (pv 1) pe_int) pa_nil))) (by rfl))
      (pss_cons (ps_while PassesOwn.never (pt_cmpR op_gt (pv 4) pe_int (nomark _))
      (pss_cons (ps_if (pt_cmpR op_eq (pe_op op_mod (pv 4) pe_int) pe_int (nomark _)) (pss_one (ps_set (i := 2) sc_law_undo_by.nd rfl (Or.inl rfl) (pe_op op_mod (pe_callTy cr_intI (by rfl) T.z_int (by decide +kernel) (pa_cons (pe_op op_mulB (pv 2) (pv 3)) pa_nil)) (pv 1)))) pss_nil)
      (pss_one (ps_par (i := 3) (j := 4) (by rfl) sc_law_undo_by.nd rfl rfl (by decide) rfl rfl (pa_cons (pe_op op_mod (pe_callTy cr_intI (by rfl) T.z_int (by decide +kernel) (pa_cons (pe_op op_mulB (pv 3) (pv 3)) pa_nil)) (pv 1)) (pa_cons (pe_op op_fdivP (pv 4) pe_int) pa_nil)) (by rfl)))))
      (pss_one (ps_ret (pv 2))))), ?_⟩
    rw [st_law_undo_by]
    simp only [ap_seq, ap_next, ap_asg, ap_gName, ap_ret, ap_retN, ap_drop, ap_ifS, ap_break, ap_cont, ap_par, ap_aug, ap_ip, ap_gSub, ap_gTup, ap_gNil, ap_gCons, ap_var, ap_c, ap_op, ap_un, ap_if, ap_test, ap_B, ap_and, ap_or, ap_not, ap_andV, ap_orV, ap_notV, ap_nil, ap_cons, ap_tup, ap_lst, ap_cb, ap_bm, ap_call, ap_chain, ap_rI, ap_rI0, ap_rU, ap_rEq, ap_rNe, ap_revT, ap_sl, ap_part, ap_noPart, ap_ixLI, ap_ixTI, ap_ixLV, ap_ixTV, ap_len, ap_setLI, ap_setLV, ap_appI, ap_appV, ap_tupL, ap_listS, ap_sumLI, ap_sumTI, ap_repLI, ap_intI, ap_intB, ap_eqTI, ap_neTI, ap_eqLI, ap_neLI, ap_isi, ap_for, ap_rng1, ap_rng2, ap_iList, ap_iTup, ap_lc, ap_yes, ap_cut, ap_gTupH, ap_fmt, ap_jsn, ap_jsc, ap_gcd, ap_isqrt, ap_ixL, tyV_l, wipe_nil, wipe_cons, upd_same, ap_iEnT, ap_iEnL, ap_iZipA, ap_all, ap_tupT, ap_lenSetT, ap_slI, ap_catI, ap_perm, ap_lenO, ap_strO, ap_listO, ap_reprB, ap_iterT, ap_neT, ap_negO, ap_binI, ap_catL, ap_tM1, ap_repTI, ap_popN, ap_par3, ap_catTT, ap_countT, ap_notInT, ap_repL1, ap_shl, ap_shr, ap_mask, ap_comb, ap_bits, ap_rng3, List.set_cons_zero, List.set_cons_succ, List.getElem?_cons_zero, List.getElem?_cons_succ, List.cons_append, List.nil_append, List.append_nil, Option.some.injEq, V.int.injEq, V.ref.injEq, V.bl.injEq, V.str.injEq, V.ty.injEq, Bool.not_true, Bool.not_false, HO.lst.injEq, HO.tup.injEq, reduceCtorEq, Int.reduceToNat, Int.reduceLT, Int.reduceLE, Nat.reduceAdd, Int.cast_ofNat_Int, gi_c0, gi_c1, gi_c2, gi_c3, Int.natCast_inj, map_int_inj, map_nil_iff, List.cons.injEq, exists_eq_left, exists_eq_left', exists_eq, exists_eq', exists_and_left, exists_and_right, exists_const, and_assoc, and_true, true_and, and_false, false_and, or_false, false_or, or_true, true_or, ite_true, ite_false, if_true, if_false, Bool.false_eq_true, own_cons, own_nil, le1, le2, le3, le4, me_cons, me_nil, List.length_map, List.length_cons, List.length_nil, ne_eq, not_false_eq_true, not_true_eq_false, decide_eq_true_eq]
    refine ⟨by omega, while_a (fun (z : Int × Int × Int) σ' H' => σ' = [some (.int n), some (.int p), some (.int z.1), some (.int z.2.1), some (.int z.2.2)] ∧ H' = H ∧ Pw n p (p - 2).toNat z.1 z.2.1 z.2.2) (fun z => decide (0 < z.2.2)) (fun z => z.2.2.toNat) (_, _, _) ⟨rfl, rfl, Pw.start n p (by omega) (by omega) p0⟩ (fun z σ' H' hP Q1 hQ => ?_) (fun z σ' H' hP ht => ?_) (fun z σ' H' hP ht => ?_)⟩
    · obtain ⟨e1, e2, hw⟩ := hP
      subst e1 e2
      simp only [ap_seq, ap_next, ap_asg, ap_gName, ap_ret, ap_retN, ap_drop, ap_ifS, ap_break, ap_cont, ap_par, ap_aug, ap_ip, ap_gSub, ap_gTup, ap_gNil, ap_gCons, ap_var, ap_c, ap_op, ap_un, ap_if, ap_test, ap_B, ap_and, ap_or, ap_not, ap_andV, ap_orV, ap_notV, ap_nil, ap_cons, ap_tup, ap_lst, ap_cb, ap_bm, ap_call, ap_chain, ap_rI, ap_rI0, ap_rU, ap_rEq, ap_rNe, ap_revT, ap_sl, ap_part, ap_noPart, ap_ixLI, ap_ixTI, ap_ixLV, ap_ixTV, ap_len, ap_setLI, ap_setLV, ap_appI, ap_appV, ap_tupL, ap_listS, ap_sumLI, ap_sumTI, ap_repLI, ap_intI, ap_intB, ap_eqTI, ap_neTI, ap_eqLI, ap_neLI, ap_isi, ap_for, ap_rng1, ap_rng2, ap_iList, ap_iTup, ap_lc, ap_yes, ap_cut, ap_gTupH, ap_fmt, ap_jsn, ap_jsc, ap_gcd, ap_isqrt, ap_ixL, tyV_l, wipe_nil, wipe_cons, upd_same, ap_iEnT, ap_iEnL, ap_iZipA, ap_all, ap_tupT, ap_lenSetT, ap_slI, ap_catI, ap_perm, ap_lenO, ap_strO, ap_listO, ap_reprB, ap_iterT, ap_neT, ap_negO, ap_binI, ap_catL, ap_tM1, ap_repTI, ap_popN, ap_par3, ap_catTT, ap_countT, ap_notInT, ap_repL1, ap_shl, ap_shr, ap_mask, ap_comb, ap_bits, ap_rng3, List.set_cons_zero, List.set_cons_succ, List.getElem?_cons_zero, List.getElem?_cons_succ, List.cons_append, List.nil_append, List.append_nil, Option.some.injEq, V.int.injEq, V.ref.injEq, V.bl.injEq, V.str.injEq, V.ty.injEq, Bool.not_true, Bool.not_false, HO.lst.injEq, HO.tup.injEq, reduceCtorEq, Int.reduceToNat, Int.reduceLT, Int.reduceLE, Nat.reduceAdd, Int.cast_ofNat_Int, gi_c0, gi_c1, gi_c2, gi_c3, Int.natCast_inj, map_int_inj, map_nil_iff, List.cons.injEq, exists_eq_left, exists_eq_left', exists_eq, exists_eq', exists_and_left, exists_and_right, exists_const, and_assoc, and_true, true_and, and_false, false_and, or_false, false_or, or_true, true_or, ite_true, ite_false, if_true, if_false, Bool.false_eq_true, own_cons, own_nil, le1, le2, le3, le4, me_cons, me_nil, List.length_map, List.length_cons, List.length_nil, ne_eq, not_false_eq_true, not_true_eq_false, decide_eq_true_eq]
      exact hQ
    · obtain ⟨e1, e2, hw⟩ := hP
      subst e1 e2
      have hp : 0 < z.2.2 := of_decide_eq_true ht
      obtain ⟨c1, c2⟩ := hw.wd p1
      simp only [ap_seq, ap_next, ap_asg, ap_gName, ap_ret, ap_retN, ap_drop, ap_ifS, ap_break, ap_cont, ap_par, ap_aug, ap_ip, ap_gSub, ap_gTup, ap_gNil, ap_gCons, ap_var, ap_c, ap_op, ap_un, ap_if, ap_test, ap_B, ap_and, ap_or, ap_not, ap_andV, ap_orV, ap_notV, ap_nil, ap_cons, ap_tup, ap_lst, ap_cb, ap_bm, ap_call, ap_chain, ap_rI, ap_rI0, ap_rU, ap_rEq, ap_rNe, ap_revT, ap_sl, ap_part, ap_noPart, ap_ixLI, ap_ixTI, ap_ixLV, ap_ixTV, ap_len, ap_setLI, ap_setLV, ap_appI, ap_appV, ap_tupL, ap_listS, ap_sumLI, ap_sumTI, ap_repLI, ap_intI, ap_intB, ap_eqTI, ap_neTI, ap_eqLI, ap_neLI, ap_isi, ap_for, ap_rng1, ap_rng2, ap_iList, ap_iTup, ap_lc, ap_yes, ap_cut, ap_gTupH, ap_fmt, ap_jsn, ap_jsc, ap_gcd, ap_isqrt, ap_ixL, tyV_l, wipe_nil, wipe_cons, upd_same, ap_iEnT, ap_iEnL, ap_iZipA, ap_all, ap_tupT, ap_lenSetT, ap_slI, ap_catI, ap_perm, ap_lenO, ap_strO, ap_listO, ap_reprB, ap_iterT, ap_neT, ap_negO, ap_binI, ap_catL, ap_tM1, ap_repTI, ap_popN, ap_par3, ap_catTT, ap_countT, ap_notInT, ap_repL1, ap_shl, ap_shr, ap_mask, ap_comb, ap_bits, ap_rng3, List.set_cons_zero, List.set_cons_succ, List.getElem?_cons_zero, List.getElem?_cons_succ, List.cons_append, List.nil_append, List.append_nil, Option.some.injEq, V.int.injEq, V.ref.injEq, V.bl.injEq, V.str.injEq, V.ty.injEq, Bool.not_true, Bool.not_false, HO.lst.injEq, HO.tup.injEq, reduceCtorEq, Int.reduceToNat, Int.reduceLT, Int.reduceLE, Nat.reduceAdd, Int.cast_ofNat_Int, gi_c0, gi_c1, gi_c2, gi_c3, Int.natCast_inj, map_int_inj, map_nil_iff, List.cons.injEq, exists_eq_left, exists_eq_left', exists_eq, exists_eq', exists_and_left, exists_and_right, exists_const, and_assoc, and_true, true_and, and_false, false_and, or_false, false_or, or_true, true_or, ite_true, ite_false, if_true, if_false, Bool.false_eq_true, own_cons, own_nil, le1, le2, le3, le4, me_cons, me_nil, List.length_map, List.length_cons, List.length_nil, ne_eq, not_false_eq_true, not_true_eq_false, decide_eq_true_eq]
      obtain ⟨b1, b2, b3, b4, b5, b6, b7⟩ := id hw
      refine ⟨rfl, iteC (fun co => ⟨c1, by omega, c2, by omega, by unfold CDp; omega, (_, _, _), ?_, rfl, rfl, rfl, hw.odd (by omega) hp co⟩) (fun co => ⟨c2, by omega, by unfold CDp; omega, (z.1, z.2.1 * z.2.1 % p, z.2.2 / 2), ?_, rfl, rfl, rfl, hw.even (by omega) hp co⟩)⟩
      · show (z.2.2 / 2).toNat < z.2.2.toNat
        omega
      · show (z.2.2 / 2).toNat < z.2.2.toNat
        omega
    · obtain ⟨e1, e2, hw⟩ := hP
      subst e1 e2
      have hp : ¬ 0 < z.2.2 := of_decide_eq_false ht
      simp only [ap_seq, ap_next, ap_asg, ap_gName, ap_ret, ap_retN, ap_drop, ap_ifS, ap_break, ap_cont, ap_par, ap_aug, ap_ip, ap_gSub, ap_gTup, ap_gNil, ap_gCons, ap_var, ap_c, ap_op, ap_un, ap_if, ap_test, ap_B, ap_and, ap_or, ap_not, ap_andV, ap_orV, ap_notV, ap_nil, ap_cons, ap_tup, ap_lst, ap_cb, ap_bm, ap_call, ap_chain, ap_rI, ap_rI0, ap_rU, ap_rEq, ap_rNe, ap_revT, ap_sl, ap_part, ap_noPart, ap_ixLI, ap_ixTI, ap_ixLV, ap_ixTV, ap_len, ap_setLI, ap_setLV, ap_appI, ap_appV, ap_tupL, ap_listS, ap_sumLI, ap_sumTI, ap_repLI, ap_intI, ap_intB, ap_eqTI, ap_neTI, ap_eqLI, ap_neLI, ap_isi, ap_for, ap_rng1, ap_rng2, ap_iList, ap_iTup, ap_lc, ap_yes, ap_cut, ap_gTupH, ap_fmt, ap_jsn, ap_jsc, ap_gcd, ap_isqrt, ap_ixL, tyV_l, wipe_nil, wipe_cons, upd_same, ap_iEnT, ap_iEnL, ap_iZipA, ap_all, ap_tupT, ap_lenSetT, ap_slI, ap_catI, ap_perm, ap_lenO, ap_strO, ap_listO, ap_reprB, ap_iterT, ap_neT, ap_negO, ap_binI, ap_catL, ap_tM1, ap_repTI, ap_popN, ap_par3, ap_catTT, ap_countT, ap_notInT, ap_repL1, ap_shl, ap_shr, ap_mask, ap_comb, ap_bits, ap_rng3, List.set_cons_zero, List.set_cons_succ, List.getElem?_cons_zero, List.getElem?_cons_succ, List.cons_append, List.nil_append, List.append_nil, Option.some.injEq, V.int.injEq, V.ref.injEq, V.bl.injEq, V.str.injEq, V.ty.injEq, Bool.not_true, Bool.not_false, HO.lst.injEq, HO.tup.injEq, reduceCtorEq, Int.reduceToNat, Int.reduceLT, Int.reduceLE, Nat.reduceAdd, Int.cast_ofNat_Int, gi_c0, gi_c1, gi_c2, gi_c3, Int.natCast_inj, map_int_inj, map_nil_iff, List.cons.injEq, exists_eq_left, exists_eq_left', exists_eq, exists_eq', exists_and_left, exists_and_right, exists_const, and_assoc, and_true, true_and, and_false, false_and, or_false, false_or, or_true, true_or, ite_true, ite_false, if_true, if_false, Bool.false_eq_true, own_cons, own_nil, le1, le2, le3, le4, me_cons, me_nil, List.length_map, List.length_cons, List.length_nil, ne_eq, not_false_eq_true, not_true_eq_false, decide_eq_true_eq]
      rw [hw.done hp]
      exact q
end
end My

namespace My
open PySem PySem.Spec PyProof.Rows L2 Pr
section
variable {P : Program} {w : World} {K : PySem.W.Frag} {mg : Str → Option Value} {base : Heap}
def nz (n : Int) : Bool := decide (n ≠ 0)
def invP (p n : Int) : Int := n ^ (p - 2).toNat % p
/-- a row made plain: the first entry but 0 becomes 1 -/
def plR (p : Int) (ns : List Int) : List Int := match ns.filter nz with
  | [] => ns
  | x :: _ => ns.map (fun n => invP p x * n % p)
def plP (p : Int) (ns : List Int) : List Int := plR p (ns.map (· % p))
theorem lead_cases : ∀ ns : List Int, (leadV ns = .non ∧ ns.filter nz = []) ∨ ∃ (i : Nat) (x : Int) (t : List Int), leadV ns = .int (i : Nat) ∧ ns[i]? = some x ∧ x ≠ 0 ∧ ns.filter nz = x :: t := fun ns => by
  rcases e : ns.findIdx? (fun n => decide (n ≠ 0)) with _ | i
  · left
    refine ⟨by unfold leadV; rw [e], ?_⟩
    rw [List.findIdx?_eq_none_iff] at e
    rw [List.filter_eq_nil_iff]
    intro n hn
    simp [nz, e n hn]
  · right
    rw [List.findIdx?_eq_some_iff_getElem] at e
    obtain ⟨hi, h1, h2⟩ := e
    have h1' : ns[i] ≠ 0 := of_decide_eq_true h1
    have hz : ∀ n ∈ ns.take i, n = 0 := fun n hn => by
      obtain ⟨j, hj, rfl⟩ := List.mem_take_iff_getElem.mp hn
      have := h2 j (by omega)
      simpa using this
    refine ⟨i, ns[i], (ns.drop (i + 1)).filter nz, leadV_some hz (List.getElem?_eq_getElem hi) h1', List.getElem?_eq_getElem hi, h1', ?_⟩
    have e3 : ns = ns.take i ++ ns[i] :: ns.drop (i + 1) := by
      rw [← List.drop_eq_getElem_cons hi, List.take_append_drop]
    have e4 : (ns.take i).filter nz = [] := by
      rw [List.filter_eq_nil_iff]
      intro n hn
      simp [nz, hz n hn]
    have e5 : (ns.take i ++ ns[i] :: ns.drop (i + 1)).filter nz = ns[i] :: (ns.drop (i + 1)).filter nz := by
      rw [List.filter_append, e4, List.nil_append, List.filter_cons_of_pos (by simp [nz, h1'])]
    rw [← e3] at e5
    exact e5
theorem plP_some {p : Int} {ns : List Int} {x : Int} {t : List Int} (e : (ns.map (· % p)).filter nz = x :: t) : plP p ns = ns.map (fun n => invP p x * n % p) := by
  unfold plP plR
  rw [e]
  show ((ns.map (· % p)).map fun n => invP p x * n % p) = _
  rw [List.map_map]
  refine List.map_congr_left fun n _ => ?_
  show invP p x * (n % p) % p = invP p x * n % p
  rw [Int.mul_emod, Int.emod_emod, ← Int.mul_emod]
theorem plP_none {p : Int} {ns : List Int} (e : (ns.map (· % p)).filter nz = []) : plP p ns = ns.map (· % p) := by
  unfold plP plR
  rw [e]
theorem invP_wd {p n : Int} (h : 0 < p) (h2 : p < 1000) : Wd (invP p n) := by
  have := Int.emod_nonneg (n ^ (p - 2).toNat) (show p ≠ 0 by omega)
  have := Int.emod_lt_of_pos (n ^ (p - 2).toNat) h
  refine Sm.wd ?_
  unfold Sm invP
  omega
theorem mul_bd {A B x y : Int} (hx : -A ≤ x ∧ x ≤ A) (hy : -B ≤ y ∧ y ≤ B) (hA : 0 ≤ A) (hB : 0 ≤ B) : -(A * B) ≤ x * y ∧ x * y ≤ A * B := by
  have h1 : (x * y).natAbs ≤ A.natAbs * B.natAbs := by
    rw [Int.natAbs_mul]
    exact Nat.mul_le_mul (by omega) (by omega)
  have h2 : ((A.natAbs * B.natAbs : Nat) : Int) = A * B := by
    rw [Int.natCast_mul, Int.natAbs_of_nonneg hA, Int.natAbs_of_nonneg hB]
  omega
theorem mul_wd {a b A B : Int} (ha : -A ≤ a ∧ a ≤ A) (hb : -B ≤ b ∧ b ≤ B) (h0 : 0 ≤ A) (h1 : 0 ≤ B) (h : A * B < 10 ^ 900) : Wd (a * b) := by
  have := mul_bd ha hb h0 h1
  have e : ((2 : Int) ^ 250) ^ 16 > 10 ^ 900 := by decide +kernel
  unfold Wd
  omega
def sp_plain_row : Sp := fun vs H Q _ => ∃ (a : Addr) (ns : List Int) (p : Int), vs = [.ref a, .int p] ∧ H a = some (TI ns) ∧ ns.length < 1000 ∧ (∀ n ∈ ns, 0 ≤ n ∧ n < p) ∧ 1 < p ∧ p < 1000 ∧
  ∀ H' r, Same H H' → H' r = some (TI (plR p ns)) → Q (.ref r) H'
theorem ok_plain_row (T : Tx K mg) : FnOk P w K mg base CX0 3 T.f_plain_row T.d_plain_row p_plain_row sp_plain_row := by
  refine T.F_plain_row.ok sc_plain_row (fun vs H Q E h => ?_) (fun cdv A outer s H vs Q E hr h => ?_)
  · obtain ⟨a, ns, p, rfl, _⟩ := h
    rfl
  · obtain ⟨a, ns, p, rfl, ha, hl, hn, p0, p1, k⟩ := h
    refine ⟨_, (pss_cons (ps_set (i := 2) sc_plain_row.nd rfl (Or.inl rfl) (pe_call (ok_lead_of T) (hr.mono (by decide)) (by rfl) T.m_lead_of T.F_lead_of.kp T.b_lead_of .nil pass0 (pa_cons (pv 0) pa_nil)))
      (pss_cons (ps_if (pt_cmpR op_isN (pv 2) pe_non (nomark _)) (pss_one (ps_ret (pe_callTy cr_tupT (by rfl) T.z_tuple (by decide +kernel) (pa_cons (pv 0) pa_nil)))) pss_nil)
      (pss_cons (ps_set (i := 3) sc_plain_row.nd rfl (Or.inr rfl) (pe_call (ok_inverse_of T) (hr.mono (by decide)) (by rfl) T.m_inverse_of T.F_inverse_of.kp T.b_inverse_of .nil pass0 (pa_cons (pe_ix ix_TI (pv 0) (pv 2) (fun _ _ => rfl)) (pa_cons (pv 1) pa_nil))))
      (pss_one (ps_ret (pe_call (ok_modulo T) (hr.mono (by decide)) (by rfl) T.m_modulo T.F_modulo.kp T.b_modulo .nil pass0 (pa_cons (pe_lc (own := [("number", 4)]) (g := gName 4) (tt := tYes) rfl sc_plain_row.nd (pi_tup (pv 0)) (blkOk_by (N := n_plain_row) (sc := defScope s_plain_row) (by decide +kernel)) (fun _ _ _ _ _ => (pg_name (i := 4) sc_plain_row.nd rfl (by first | exact .inl rfl | exact .inr rfl))) (fun _ _ _ _ _ => pts_nil) (fun _ _ _ _ _ => (pe_op op_mulB (pv 3) (pv 4)))) (pa_cons (pv 1) pa_nil)))))))), ?_⟩
    rw [st_plain_row]
    simp only [ap_seq, ap_next, ap_asg, ap_gName, ap_ret, ap_retN, ap_drop, ap_ifS, ap_break, ap_cont, ap_par, ap_aug, ap_ip, ap_gSub, ap_gTup, ap_gNil, ap_gCons, ap_var, ap_c, ap_op, ap_un, ap_if, ap_test, ap_B, ap_and, ap_or, ap_not, ap_andV, ap_orV, ap_notV, ap_nil, ap_cons, ap_tup, ap_lst, ap_cb, ap_bm, ap_call, ap_chain, ap_rI, ap_rI0, ap_rU, ap_rEq, ap_rNe, ap_revT, ap_sl, ap_part, ap_noPart, ap_ixLI, ap_ixTI, ap_ixLV, ap_ixTV, ap_len, ap_setLI, ap_setLV, ap_appI, ap_appV, ap_tupL, ap_listS, ap_sumLI, ap_sumTI, ap_repLI, ap_intI, ap_intB, ap_eqTI, ap_neTI, ap_eqLI, ap_neLI, ap_isi, ap_for, ap_rng1, ap_rng2, ap_iList, ap_iTup, ap_lc, ap_yes, ap_cut, ap_gTupH, ap_fmt, ap_jsn, ap_jsc, ap_gcd, ap_isqrt, ap_ixL, tyV_l, wipe_nil, wipe_cons, upd_same, ap_iEnT, ap_iEnL, ap_iZipA, ap_all, ap_tupT, ap_lenSetT, ap_slI, ap_catI, ap_perm, ap_lenO, ap_strO, ap_listO, ap_reprB, ap_iterT, ap_neT, ap_negO, ap_binI, ap_catL, ap_tM1, ap_repTI, ap_popN, ap_par3, ap_catTT, ap_countT, ap_notInT, ap_repL1, ap_shl, ap_shr, ap_mask, ap_comb, ap_bits, ap_rng3, List.set_cons_zero, List.set_cons_succ, List.getElem?_cons_zero, List.getElem?_cons_succ, List.cons_append, List.nil_append, List.append_nil, Option.some.injEq, V.int.injEq, V.ref.injEq, V.bl.injEq, V.str.injEq, V.ty.injEq, Bool.not_true, Bool.not_false, HO.lst.injEq, HO.tup.injEq, reduceCtorEq, Int.reduceToNat, Int.reduceLT, Int.reduceLE, Nat.reduceAdd, Int.cast_ofNat_Int, gi_c0, gi_c1, gi_c2, gi_c3, Int.natCast_inj, map_int_inj, map_nil_iff, List.cons.injEq, exists_eq_left, exists_eq_left', exists_eq, exists_eq', exists_and_left, exists_and_right, exists_const, and_assoc, and_true, true_and, and_false, false_and, or_false, false_or, or_true, true_or, ite_true, ite_false, if_true, if_false, Bool.false_eq_true, own_cons, own_nil, le1, le2, le3, le4, me_cons, me_nil, List.length_map, List.length_cons, List.length_nil, ne_eq, not_false_eq_true, not_true_eq_false, decide_eq_true_eq, sp_lead_of]
    refine ⟨ns, ha, fun H1 s1 => ?_⟩
    have ha1 := s1 _ _ ha
    rcases lead_cases ns with ⟨e1, e2⟩ | ⟨i, x, t, e1, e3, hx, e2⟩
    · rw [e1, if_pos rfl]
      refine ⟨⟨_, ha1⟩, k H1 a s1 ?_⟩
      unfold plR
      rw [e2]
      exact ha1
    · rw [e1, if_neg (by simp)]
      obtain ⟨hi, e4⟩ := List.getElem?_eq_some_iff.mp e3
      have eg : gi ns (i : Int) = x := by
        unfold gi
        rw [List.getD_eq_getElem?_getD, Int.toNat_natCast, e3]
        rfl
      refine ⟨_, rfl, _, ha1, by omega, by omega, _, _, rfl, p0, p1, ⟨_, sqT_of ha1⟩, ?_⟩
      rw [eg]
      refine lc_mapT (fun n => invP p x * n) ha1 (by omega) (fun x => rfl) (fun n hm H' sm Q' k' => ?_) (fun A H' hA sm e => ?_)
      · have b := hn n hm
        simp only [ap_seq, ap_next, ap_asg, ap_gName, ap_ret, ap_retN, ap_drop, ap_ifS, ap_break, ap_cont, ap_par, ap_aug, ap_ip, ap_gSub, ap_gTup, ap_gNil, ap_gCons, ap_var, ap_c, ap_op, ap_un, ap_if, ap_test, ap_B, ap_and, ap_or, ap_not, ap_andV, ap_orV, ap_notV, ap_nil, ap_cons, ap_tup, ap_lst, ap_cb, ap_bm, ap_call, ap_chain, ap_rI, ap_rI0, ap_rU, ap_rEq, ap_rNe, ap_revT, ap_sl, ap_part, ap_noPart, ap_ixLI, ap_ixTI, ap_ixLV, ap_ixTV, ap_len, ap_setLI, ap_setLV, ap_appI, ap_appV, ap_tupL, ap_listS, ap_sumLI, ap_sumTI, ap_repLI, ap_intI, ap_intB, ap_eqTI, ap_neTI, ap_eqLI, ap_neLI, ap_isi, ap_for, ap_rng1, ap_rng2, ap_iList, ap_iTup, ap_lc, ap_yes, ap_cut, ap_gTupH, ap_fmt, ap_jsn, ap_jsc, ap_gcd, ap_isqrt, ap_ixL, tyV_l, wipe_nil, wipe_cons, upd_same, ap_iEnT, ap_iEnL, ap_iZipA, ap_all, ap_tupT, ap_lenSetT, ap_slI, ap_catI, ap_perm, ap_lenO, ap_strO, ap_listO, ap_reprB, ap_iterT, ap_neT, ap_negO, ap_binI, ap_catL, ap_tM1, ap_repTI, ap_popN, ap_par3, ap_catTT, ap_countT, ap_notInT, ap_repL1, ap_shl, ap_shr, ap_mask, ap_comb, ap_bits, ap_rng3, List.set_cons_zero, List.set_cons_succ, List.getElem?_cons_zero, List.getElem?_cons_succ, List.cons_append, List.nil_append, List.append_nil, Option.some.injEq, V.int.injEq, V.ref.injEq, V.bl.injEq, V.str.injEq, V.ty.injEq, Bool.not_true, Bool.not_false, HO.lst.injEq, HO.tup.injEq, reduceCtorEq, Int.reduceToNat, Int.reduceLT, Int.reduceLE, Nat.reduceAdd, Int.cast_ofNat_Int, gi_c0, gi_c1, gi_c2, gi_c3, Int.natCast_inj, map_int_inj, map_nil_iff, List.cons.injEq, exists_eq_left, exists_eq_left', exists_eq, exists_eq', exists_and_left, exists_and_right, exists_const, and_assoc, and_true, true_and, and_false, false_and, or_false, false_or, or_true, true_or, ite_true, ite_false, if_true, if_false, Bool.false_eq_true, own_cons, own_nil, le1, le2, le3, le4, me_cons, me_nil, List.length_map, List.length_cons, List.length_nil, ne_eq, not_false_eq_true, not_true_eq_false, decide_eq_true_eq]
        exact ⟨⟨invP_wd (by omega) p1, Sm.wd (by unfold Sm; omega)⟩, k' _ (Same.refl _)⟩
      · refine ⟨A, _, _, rfl, .inl e, by rw [List.length_map]; exact hl, fun m hm => ?_, by omega, p1, fun H2 r s2 nr er => k H2 r (s1.trans (sm.trans s2)) ?_⟩
        · obtain ⟨n, h1, rfl⟩ := List.mem_map.mp hm
          have b := hn n h1
          have b1 := Int.emod_nonneg (x ^ (p - 2).toNat) (show p ≠ 0 by omega)
          have b2 := Int.emod_lt_of_pos (x ^ (p - 2).toNat) (show 0 < p by omega)
          exact mul_wd (A := 1000) (B := 1000) (by unfold invP; omega) (by omega) (by decide) (by decide) (by decide +kernel)
        · unfold plR
          rw [e2, er, List.map_map]
          rfl
def sp_law_first_one : Sp := fun vs H Q _ => ∃ (a : Addr) (ns : List Int) (p : Int), vs = [.ref a, .int p] ∧ RowAt H a ns ∧ ns.length < 1000 ∧ (∀ n ∈ ns, -(10 ^ 100) ≤ n ∧ n ≤ 10 ^ 100) ∧ 1 < p ∧ p < 1000 ∧
  ∀ H' r, Same H H' → H r = none → H' r = some (TI (plP p ns)) → Q (.ref r) H'
theorem ok_law_first_one (T : Tx K mg) : FnOk P w K mg base CX0 2 T.f_law_first_one T.d_law_first_one p_law_first_one sp_law_first_one := by
  refine T.F_law_first_one.ok sc_law_first_one (fun vs H Q E h => ?_) (fun cdv A outer s H vs Q E hr h => ?_)
  · obtain ⟨a, ns, p, rfl, _⟩ := h
    rfl
  · obtain ⟨a, ns, p, rfl, ha, hl, hn, p0, p1, k⟩ := h
    refine ⟨_, (pss_cons (ps_setLc (i := 2) (own := [("_law_entry", 3)]) (g := gName 3) rfl sc_law_first_one.nd rfl rfl (sw_true rfl rfl rfl (by decide +kernel)) (pi_tup (pe_call (ok_law_left_by T) (hr.mono (by decide)) (by rfl) T.m_law_left_by T.F_law_left_by.kp T.b_law_left_by .nil pass0 (pa_cons (pv 0) (pa_cons (pv 1) pa_nil)))) (blkOk_by (N := n_law_first_one) (sc := defScope s_law_first_one) (by decide +kernel)) (fun _ _ _ _ _ => (pg_name (i := 3) sc_law_first_one.nd rfl (by first | exact .inl rfl | exact .inr rfl))) (fun _ _ _ _ _ => (pts_one (pt_cmpR op_ne (pv 3) pe_int (nomark _)))) (fun _ _ _ _ _ => (pv 3)))
      (pss_cons (ps_if (pt_cmpR (op_eqLI hr.units) (pv 2) (pe_lst pa_nil) (nomark _)) (pss_one (ps_ret (pe_call (ok_law_left_by T) (hr.mono (by decide)) (by rfl) T.m_law_left_by T.F_law_left_by.kp T.b_law_left_by .nil pass0 (pa_cons (pv 0) (pa_cons (pv 1) pa_nil))))) pss_nil)
      (pss_one (ps_ret (pe_call (ok_law_left_by T) (hr.mono (by decide)) (by rfl) T.m_law_left_by T.F_law_left_by.kp T.b_law_left_by .nil pass0 (pa_cons (pe_call (ok_law_scaled T) (hr.mono (by decide)) (by rfl) T.m_law_scaled T.F_law_scaled.kp T.b_law_scaled .nil pass0 (pa_cons (pv 0) (pa_cons (pe_call (ok_law_undo_by T) (hr.mono (by decide)) (by rfl) T.m_law_undo_by T.F_law_undo_by.kp T.b_law_undo_by .nil pass0 (pa_cons (pe_ix ix_LI (pv 2) pe_int (fun _ _ => rfl)) (pa_cons (pv 1) pa_nil))) pa_nil))) (pa_cons (pv 1) pa_nil))))))), ?_⟩
    rw [st_law_first_one]
    simp only [ap_seq, ap_next, ap_asg, ap_gName, ap_ret, ap_retN, ap_drop, ap_ifS, ap_break, ap_cont, ap_par, ap_aug, ap_ip, ap_gSub, ap_gTup, ap_gNil, ap_gCons, ap_var, ap_c, ap_op, ap_un, ap_if, ap_test, ap_B, ap_and, ap_or, ap_not, ap_andV, ap_orV, ap_notV, ap_nil, ap_cons, ap_tup, ap_lst, ap_cb, ap_bm, ap_call, ap_chain, ap_rI, ap_rI0, ap_rU, ap_rEq, ap_rNe, ap_revT, ap_sl, ap_part, ap_noPart, ap_ixLI, ap_ixTI, ap_ixLV, ap_ixTV, ap_len, ap_setLI, ap_setLV, ap_appI, ap_appV, ap_tupL, ap_listS, ap_sumLI, ap_sumTI, ap_repLI, ap_intI, ap_intB, ap_eqTI, ap_neTI, ap_eqLI, ap_neLI, ap_isi, ap_for, ap_rng1, ap_rng2, ap_iList, ap_iTup, ap_lc, ap_yes, ap_cut, ap_gTupH, ap_fmt, ap_jsn, ap_jsc, ap_gcd, ap_isqrt, ap_ixL, tyV_l, wipe_nil, wipe_cons, upd_same, ap_iEnT, ap_iEnL, ap_iZipA, ap_all, ap_tupT, ap_lenSetT, ap_slI, ap_catI, ap_perm, ap_lenO, ap_strO, ap_listO, ap_reprB, ap_iterT, ap_neT, ap_negO, ap_binI, ap_catL, ap_tM1, ap_repTI, ap_popN, ap_par3, ap_catTT, ap_countT, ap_notInT, ap_repL1, ap_shl, ap_shr, ap_mask, ap_comb, ap_bits, ap_rng3, List.set_cons_zero, List.set_cons_succ, List.getElem?_cons_zero, List.getElem?_cons_succ, List.cons_append, List.nil_append, List.append_nil, Option.some.injEq, V.int.injEq, V.ref.injEq, V.bl.injEq, V.str.injEq, V.ty.injEq, Bool.not_true, Bool.not_false, HO.lst.injEq, HO.tup.injEq, reduceCtorEq, Int.reduceToNat, Int.reduceLT, Int.reduceLE, Nat.reduceAdd, Int.cast_ofNat_Int, gi_c0, gi_c1, gi_c2, gi_c3, Int.natCast_inj, map_int_inj, map_nil_iff, List.cons.injEq, exists_eq_left, exists_eq_left', exists_eq, exists_eq', exists_and_left, exists_and_right, exists_const, and_assoc, and_true, true_and, and_false, false_and, or_false, false_or, or_true, true_or, ite_true, ite_false, if_true, if_false, Bool.false_eq_true, own_cons, own_nil, le1, le2, le3, le4, me_cons, me_nil, List.length_map, List.length_cons, List.length_nil, ne_eq, not_false_eq_true, not_true_eq_false, decide_eq_true_eq]
    have wn : ∀ n ∈ ns, Wd n := fun n h => by
      have := mul_wd (a := n) (b := 1) (A := 10 ^ 100) (B := 1) (hn n h) (by decide) (by decide) (by decide) (by decide +kernel)
      rw [Int.mul_one] at this
      exact this
    refine ⟨a, ns, p, rfl, ha, hl, wn, by omega, p1, fun H1 r s1 nr er => ?_⟩
    have hl2 : (ns.map (· % p)).length = ns.length := List.length_map ..
    refine ⟨r, rfl, ⟨_, sqT_of er⟩, lc_gen gives_tup (fun A i H' => Same H1 H' ∧ H' A = some (LI (((ns.map (· % p)).take i).filter nz))) (fun A hA => ⟨same_upd hA, upd_same⟩) (fun A i H' _ p => p.1 _ _ er) (fun A i v G1 H' hA hi pp y => ?_) (fun A G hA pp => ?_)⟩
    · obtain ⟨rfl, hx⟩ := y
      obtain ⟨n, rfl, en⟩ := at_int hx
      obtain ⟨sm, eA⟩ := pp
      simp only [ap_seq, ap_next, ap_asg, ap_gName, ap_ret, ap_retN, ap_drop, ap_ifS, ap_break, ap_cont, ap_par, ap_aug, ap_ip, ap_gSub, ap_gTup, ap_gNil, ap_gCons, ap_var, ap_c, ap_op, ap_un, ap_if, ap_test, ap_B, ap_and, ap_or, ap_not, ap_andV, ap_orV, ap_notV, ap_nil, ap_cons, ap_tup, ap_lst, ap_cb, ap_bm, ap_call, ap_chain, ap_rI, ap_rI0, ap_rU, ap_rEq, ap_rNe, ap_revT, ap_sl, ap_part, ap_noPart, ap_ixLI, ap_ixTI, ap_ixLV, ap_ixTV, ap_len, ap_setLI, ap_setLV, ap_appI, ap_appV, ap_tupL, ap_listS, ap_sumLI, ap_sumTI, ap_repLI, ap_intI, ap_intB, ap_eqTI, ap_neTI, ap_eqLI, ap_neLI, ap_isi, ap_for, ap_rng1, ap_rng2, ap_iList, ap_iTup, ap_lc, ap_yes, ap_cut, ap_gTupH, ap_fmt, ap_jsn, ap_jsc, ap_gcd, ap_isqrt, ap_ixL, tyV_l, wipe_nil, wipe_cons, upd_same, ap_iEnT, ap_iEnL, ap_iZipA, ap_all, ap_tupT, ap_lenSetT, ap_slI, ap_catI, ap_perm, ap_lenO, ap_strO, ap_listO, ap_reprB, ap_iterT, ap_neT, ap_negO, ap_binI, ap_catL, ap_tM1, ap_repTI, ap_popN, ap_par3, ap_catTT, ap_countT, ap_notInT, ap_repL1, ap_shl, ap_shr, ap_mask, ap_comb, ap_bits, ap_rng3, List.set_cons_zero, List.set_cons_succ, List.getElem?_cons_zero, List.getElem?_cons_succ, List.cons_append, List.nil_append, List.append_nil, Option.some.injEq, V.int.injEq, V.ref.injEq, V.bl.injEq, V.str.injEq, V.ty.injEq, Bool.not_true, Bool.not_false, HO.lst.injEq, HO.tup.injEq, reduceCtorEq, Int.reduceToNat, Int.reduceLT, Int.reduceLE, Nat.reduceAdd, Int.cast_ofNat_Int, gi_c0, gi_c1, gi_c2, gi_c3, Int.natCast_inj, map_int_inj, map_nil_iff, List.cons.injEq, exists_eq_left, exists_eq_left', exists_eq, exists_eq', exists_and_left, exists_and_right, exists_const, and_assoc, and_true, true_and, and_false, false_and, or_false, false_or, or_true, true_or, ite_true, ite_false, if_true, if_false, Bool.false_eq_true, own_cons, own_nil, le1, le2, le3, le4, me_cons, me_nil, List.length_map, List.length_cons, List.length_nil, ne_eq, not_false_eq_true, not_true_eq_false, decide_eq_true_eq, eA]
      have e1 : (ns.map (· % p)).take (i + 1) = (ns.map (· % p)).take i ++ [n] := by rw [List.take_succ, en]; rfl
      have l1 : ((ns.map (· % p)).take i).length < 1000 := by rw [List.length_take, hl2]; omega
      refine ⟨rfl, iteC (fun c => ?_) (fun c => ?_)⟩
      · refine ⟨sz (Nat.lt_of_le_of_lt (List.length_filter_le _ _) (by omega)), same_mut sm hA, ?_⟩
        have e2 : [n].filter nz = [n] := by simp [nz, show n ≠ 0 by simpa using c]
        rw [e1, List.filter_append, e2, List.map_append]
        rfl
      · refine ⟨sm, ?_⟩
        have e2 : [n].filter nz = [] := by simp [nz, show n = 0 by simpa using c]
        rw [e1, List.filter_append, e2, List.append_nil]
    · obtain ⟨sm, eA⟩ := pp
      rw [List.length_map, List.take_length] at eA
      refine ⟨Nat.zero_le _, fun l nl => ⟨A, rfl, _, same_upd nl _ _ eA, iteC (fun c => ?_) (fun c => ?_)⟩⟩
      · have S := s1.trans (sm.trans (same_upd (o := HO.lst []) nl))
        refine ⟨a, ns, p, rfl, ha.same S, hl, wn, by omega, p1, fun H2 r2 s2 nr2 er2 => k H2 r2 (S.trans s2) (free_of S nr2) ?_⟩
        rw [er2, plP_none c]
      · have S := s1.trans (sm.trans (same_upd (o := HO.lst []) nl))
        rcases ef : (ns.map (· % p)).filter nz with _ | ⟨x, t⟩
        · exact absurd ef c
        · have eg : gi (x :: t) 0 = x := rfl
          refine ⟨A, rfl, _, same_upd nl _ _ eA, by rw [ef]; exact Int.natCast_pos.mpr (Nat.succ_pos _), ?_⟩
          rw [ef, eg]
          have b1 := Int.emod_nonneg (x ^ (p - 2).toNat) (show p ≠ 0 by omega)
          have b2 := Int.emod_lt_of_pos (x ^ (p - 2).toNat) (show 0 < p by omega)
          refine ⟨x, p, rfl, p0, p1, a, ns, invP p x, rfl, ha.same S, hl, wn, invP_wd (by omega) p1, fun H2 r2 s2 nr2 er2 => ?_⟩
          refine ⟨r2, _, p, rfl, .inr er2, by rw [List.length_map]; exact hl, fun m hm => ?_, by omega, p1, fun H3 r3 s3 nr3 er3 => k H3 r3 (S.trans (s2.trans s3)) (free_of S (free_of s2 nr3)) ?_⟩
          · obtain ⟨n, h1, rfl⟩ := List.mem_map.mp hm
            exact mul_wd (A := 1000) (B := 10 ^ 100) (by unfold invP; omega) (hn n h1) (by decide) (by decide) (by decide +kernel)
          · rw [er3, plP_some ef, List.map_map]
            rfl
end
end My

namespace My
open PySem PySem.Spec PyProof.Rows L2 Pr
section
variable {P : Program} {w : World} {K : PySem.W.Frag} {mg : Str → Option Value} {base : Heap}
theorem plR_len (p : Int) (ns : List Int) : (plR p ns).length = ns.length := by
  unfold plR
  split
  · rfl
  · exact List.length_map ..
theorem plP_len (p : Int) (ns : List Int) : (plP p ns).length = ns.length := by
  unfold plP
  rw [plR_len, List.length_map]
/-- entries of tables -/
def Tn (n : Int) : Prop := -(10 ^ 45) ≤ n ∧ n ≤ 10 ^ 45
theorem Tn.sm {n : Int} (h : Tn n) : Sm n := by
  unfold Tn at h
  unfold Sm
  omega
structure T4 (a b c d : Int) : Prop where
  a : Tn a
  b : Tn b
  c : Tn c
  d : Tn d
/-- a point of a prime -/
structure PtP (p x y : Int) : Prop where
  x0 : 0 ≤ x
  x1 : x < p
  y0 : 0 ≤ y
  y1 : y < p
  one : x = 1 ∨ x = 0 ∧ y = 1
theorem led_bd {a b x y p : Int} (ha : Tn a) (hb : Tn b) (h : PtP p x y) (p1 : p < 1000) : -(10 ^ 49) ≤ a * x + b * y ∧ a * x + b * y ≤ 10 ^ 49 := by
  obtain ⟨x0, x1, y0, y1, _⟩ := h
  have h1 := mul_bd (A := 10 ^ 45) (B := 1000) ha (show -1000 ≤ x ∧ x ≤ 1000 by omega) (by decide) (by decide)
  have h2 := mul_bd (A := 10 ^ 45) (B := 1000) hb (show -1000 ≤ y ∧ y ≤ 1000 by omega) (by decide) (by decide)
  omega
def ledP (p a b c d x y : Int) : List Int := plP p [a * x + b * y, c * x + d * y]
def sp_led_row : Sp := fun vs H Q _ => ∃ (t u : Addr) (a b c d x y p : Int), vs = [.ref t, .ref u, .int p] ∧ TabAt H t a b c d ∧ H u = some (TI [x, y]) ∧ T4 a b c d ∧ PtP p x y ∧ 1 < p ∧ p < 1000 ∧
  ∀ H' r, Same H H' → H' r = some (TI (ledP p a b c d x y)) → Q (.ref r) H'
theorem ok_led_row (T : Tx K mg) : FnOk P w K mg base CX0 4 T.f_led_row T.d_led_row p_led_row sp_led_row := by
  refine T.F_led_row.ok sc_led_row (fun vs H Q E h => ?_) (fun cdv A outer s H vs Q E hr h => ?_)
  · obtain ⟨t, u, a, b, c, d, x, y, p, rfl, _⟩ := h
    rfl
  · obtain ⟨t, u, a, b, c, d, x, y, p, rfl, ⟨r1, r2, h1, h2, h3⟩, hu, h4, hpt, p0, p1, k⟩ := h
    refine ⟨_, (pss_one (ps_ret (pe_call (ok_plain_row T) (hr.mono (by decide)) (by rfl) T.m_plain_row T.F_plain_row.kp T.b_plain_row .nil pass0 (pa_cons (pe_call (ok_modulo T) (hr.mono (by decide)) (by rfl) T.m_modulo T.F_modulo.kp T.b_modulo .nil pass0 (pa_cons (pe_lc (own := [("row", 3)]) (g := gName 3) (tt := tYes) rfl sc_led_row.nd (pi_tup (pv 0)) (blkOk_by (N := n_led_row) (sc := defScope s_led_row) (by decide +kernel)) (fun _ _ _ _ _ => (pg_name (i := 3) sc_led_row.nd rfl (by first | exact .inl rfl | exact .inr rfl))) (fun _ _ _ _ _ => pts_nil) (fun _ _ _ _ _ => (pe_op op_add (pe_op op_mulB (pe_ix ix_TI (pv 3) pe_int (fun _ _ => rfl)) (pe_ix ix_TI (pv 1) pe_int (fun _ _ => rfl))) (pe_op op_mulB (pe_ix ix_TI (pv 3) pe_int (fun _ _ => rfl)) (pe_ix ix_TI (pv 1) pe_int (fun _ _ => rfl)))))) (pa_cons (pv 2) pa_nil))) (pa_cons (pv 2) pa_nil))))), ?_⟩
    rw [st_led_row]
    simp only [ap_seq, ap_next, ap_asg, ap_gName, ap_ret, ap_retN, ap_drop, ap_ifS, ap_break, ap_cont, ap_par, ap_aug, ap_ip, ap_gSub, ap_gTup, ap_gNil, ap_gCons, ap_var, ap_c, ap_op, ap_un, ap_if, ap_test, ap_B, ap_and, ap_or, ap_not, ap_andV, ap_orV, ap_notV, ap_nil, ap_cons, ap_tup, ap_lst, ap_cb, ap_bm, ap_call, ap_chain, ap_rI, ap_rI0, ap_rU, ap_rEq, ap_rNe, ap_revT, ap_sl, ap_part, ap_noPart, ap_ixLI, ap_ixTI, ap_ixLV, ap_ixTV, ap_len, ap_setLI, ap_setLV, ap_appI, ap_appV, ap_tupL, ap_listS, ap_sumLI, ap_sumTI, ap_repLI, ap_intI, ap_intB, ap_eqTI, ap_neTI, ap_eqLI, ap_neLI, ap_isi, ap_for, ap_rng1, ap_rng2, ap_iList, ap_iTup, ap_lc, ap_yes, ap_cut, ap_gTupH, ap_fmt, ap_jsn, ap_jsc, ap_gcd, ap_isqrt, ap_ixL, tyV_l, wipe_nil, wipe_cons, upd_same, ap_iEnT, ap_iEnL, ap_iZipA, ap_all, ap_tupT, ap_lenSetT, ap_slI, ap_catI, ap_perm, ap_lenO, ap_strO, ap_listO, ap_reprB, ap_iterT, ap_neT, ap_negO, ap_binI, ap_catL, ap_tM1, ap_repTI, ap_popN, ap_par3, ap_catTT, ap_countT, ap_notInT, ap_repL1, ap_shl, ap_shr, ap_mask, ap_comb, ap_bits, ap_rng3, List.set_cons_zero, List.set_cons_succ, List.getElem?_cons_zero, List.getElem?_cons_succ, List.cons_append, List.nil_append, List.append_nil, Option.some.injEq, V.int.injEq, V.ref.injEq, V.bl.injEq, V.str.injEq, V.ty.injEq, Bool.not_true, Bool.not_false, HO.lst.injEq, HO.tup.injEq, reduceCtorEq, Int.reduceToNat, Int.reduceLT, Int.reduceLE, Nat.reduceAdd, Int.cast_ofNat_Int, gi_c0, gi_c1, gi_c2, gi_c3, Int.natCast_inj, map_int_inj, map_nil_iff, List.cons.injEq, exists_eq_left, exists_eq_left', exists_eq, exists_eq', exists_and_left, exists_and_right, exists_const, and_assoc, and_true, true_and, and_false, false_and, or_false, false_or, or_true, true_or, ite_true, ite_false, if_true, if_false, Bool.false_eq_true, own_cons, own_nil, le1, le2, le3, le4, me_cons, me_nil, List.length_map, List.length_cons, List.length_nil, ne_eq, not_false_eq_true, not_true_eq_false, decide_eq_true_eq, h1, hu]
    have bx := led_bd h4.a h4.b hpt p1
    have by' := led_bd h4.c h4.d hpt p1
    obtain ⟨x0, x1, y0, y1, _⟩ := id hpt
    have wx : Wd x := Sm.wd (by unfold Sm; omega)
    have wy : Wd y := Sm.wd (by unfold Sm; omega)
    refine ⟨⟨_, sqT_of h1⟩, lc_tupI (fun i => [a * x + b * y, c * x + d * y].getD i 0) h1 (by show 2 < 1000000; omega) (fun x => rfl) (fun i z H' hx sm Q' k' => ?_) (fun A H' hA sm e => ?_)⟩
    · have h2' := sm _ _ h2
      have h3' := sm _ _ h3
      have hu' := sm _ _ hu
      match i, hx with
      | 0, hx =>
        cases hx
        simp only [ap_seq, ap_next, ap_asg, ap_gName, ap_ret, ap_retN, ap_drop, ap_ifS, ap_break, ap_cont, ap_par, ap_aug, ap_ip, ap_gSub, ap_gTup, ap_gNil, ap_gCons, ap_var, ap_c, ap_op, ap_un, ap_if, ap_test, ap_B, ap_and, ap_or, ap_not, ap_andV, ap_orV, ap_notV, ap_nil, ap_cons, ap_tup, ap_lst, ap_cb, ap_bm, ap_call, ap_chain, ap_rI, ap_rI0, ap_rU, ap_rEq, ap_rNe, ap_revT, ap_sl, ap_part, ap_noPart, ap_ixLI, ap_ixTI, ap_ixLV, ap_ixTV, ap_len, ap_setLI, ap_setLV, ap_appI, ap_appV, ap_tupL, ap_listS, ap_sumLI, ap_sumTI, ap_repLI, ap_intI, ap_intB, ap_eqTI, ap_neTI, ap_eqLI, ap_neLI, ap_isi, ap_for, ap_rng1, ap_rng2, ap_iList, ap_iTup, ap_lc, ap_yes, ap_cut, ap_gTupH, ap_fmt, ap_jsn, ap_jsc, ap_gcd, ap_isqrt, ap_ixL, tyV_l, wipe_nil, wipe_cons, upd_same, ap_iEnT, ap_iEnL, ap_iZipA, ap_all, ap_tupT, ap_lenSetT, ap_slI, ap_catI, ap_perm, ap_lenO, ap_strO, ap_listO, ap_reprB, ap_iterT, ap_neT, ap_negO, ap_binI, ap_catL, ap_tM1, ap_repTI, ap_popN, ap_par3, ap_catTT, ap_countT, ap_notInT, ap_repL1, ap_shl, ap_shr, ap_mask, ap_comb, ap_bits, ap_rng3, List.set_cons_zero, List.set_cons_succ, List.getElem?_cons_zero, List.getElem?_cons_succ, List.cons_append, List.nil_append, List.append_nil, Option.some.injEq, V.int.injEq, V.ref.injEq, V.bl.injEq, V.str.injEq, V.ty.injEq, Bool.not_true, Bool.not_false, HO.lst.injEq, HO.tup.injEq, reduceCtorEq, Int.reduceToNat, Int.reduceLT, Int.reduceLE, Nat.reduceAdd, Int.cast_ofNat_Int, gi_c0, gi_c1, gi_c2, gi_c3, Int.natCast_inj, map_int_inj, map_nil_iff, List.cons.injEq, exists_eq_left, exists_eq_left', exists_eq, exists_eq', exists_and_left, exists_and_right, exists_const, and_assoc, and_true, true_and, and_false, false_and, or_false, false_or, or_true, true_or, ite_true, ite_false, if_true, if_false, Bool.false_eq_true, own_cons, own_nil, le1, le2, le3, le4, me_cons, me_nil, List.length_map, List.length_cons, List.length_nil, ne_eq, not_false_eq_true, not_true_eq_false, decide_eq_true_eq, h2', hu']
        exact ⟨⟨h4.a.sm.wd, wx⟩, ⟨h4.b.sm.wd, wy⟩, k' _ (Same.refl _)⟩
      | 1, hx =>
        cases hx
        simp only [ap_seq, ap_next, ap_asg, ap_gName, ap_ret, ap_retN, ap_drop, ap_ifS, ap_break, ap_cont, ap_par, ap_aug, ap_ip, ap_gSub, ap_gTup, ap_gNil, ap_gCons, ap_var, ap_c, ap_op, ap_un, ap_if, ap_test, ap_B, ap_and, ap_or, ap_not, ap_andV, ap_orV, ap_notV, ap_nil, ap_cons, ap_tup, ap_lst, ap_cb, ap_bm, ap_call, ap_chain, ap_rI, ap_rI0, ap_rU, ap_rEq, ap_rNe, ap_revT, ap_sl, ap_part, ap_noPart, ap_ixLI, ap_ixTI, ap_ixLV, ap_ixTV, ap_len, ap_setLI, ap_setLV, ap_appI, ap_appV, ap_tupL, ap_listS, ap_sumLI, ap_sumTI, ap_repLI, ap_intI, ap_intB, ap_eqTI, ap_neTI, ap_eqLI, ap_neLI, ap_isi, ap_for, ap_rng1, ap_rng2, ap_iList, ap_iTup, ap_lc, ap_yes, ap_cut, ap_gTupH, ap_fmt, ap_jsn, ap_jsc, ap_gcd, ap_isqrt, ap_ixL, tyV_l, wipe_nil, wipe_cons, upd_same, ap_iEnT, ap_iEnL, ap_iZipA, ap_all, ap_tupT, ap_lenSetT, ap_slI, ap_catI, ap_perm, ap_lenO, ap_strO, ap_listO, ap_reprB, ap_iterT, ap_neT, ap_negO, ap_binI, ap_catL, ap_tM1, ap_repTI, ap_popN, ap_par3, ap_catTT, ap_countT, ap_notInT, ap_repL1, ap_shl, ap_shr, ap_mask, ap_comb, ap_bits, ap_rng3, List.set_cons_zero, List.set_cons_succ, List.getElem?_cons_zero, List.getElem?_cons_succ, List.cons_append, List.nil_append, List.append_nil, Option.some.injEq, V.int.injEq, V.ref.injEq, V.bl.injEq, V.str.injEq, V.ty.injEq, Bool.not_true, Bool.not_false, HO.lst.injEq, HO.tup.injEq, reduceCtorEq, Int.reduceToNat, Int.reduceLT, Int.reduceLE, Nat.reduceAdd, Int.cast_ofNat_Int, gi_c0, gi_c1, gi_c2, gi_c3, Int.natCast_inj, map_int_inj, map_nil_iff, List.cons.injEq, exists_eq_left, exists_eq_left', exists_eq, exists_eq', exists_and_left, exists_and_right, exists_const, and_assoc, and_true, true_and, and_false, false_and, or_false, false_or, or_true, true_or, ite_true, ite_false, if_true, if_false, Bool.false_eq_true, own_cons, own_nil, le1, le2, le3, le4, me_cons, me_nil, List.length_map, List.length_cons, List.length_nil, ne_eq, not_false_eq_true, not_true_eq_false, decide_eq_true_eq, h3', hu']
        exact ⟨⟨h4.c.sm.wd, wx⟩, ⟨h4.d.sm.wd, wy⟩, k' _ (Same.refl _)⟩
    · have e : H' A = some (LI [a * x + b * y, c * x + d * y]) := e
      refine ⟨A, _, p, rfl, .inl e, by show 2 < 1000; omega, fun n hn => ?_, by omega, p1, fun H2 r s2 nr er => ?_⟩
      · simp only [List.mem_cons, List.not_mem_nil, or_false] at hn
        refine Sm.wd ?_
        unfold Sm
        rcases hn with rfl | rfl <;> omega
      · refine ⟨r, _, p, rfl, er, by show 2 < 1000; omega, fun n hn => ?_, p0, p1, fun H3 r3 s3 er3 => k H3 r3 (sm.trans (s2.trans s3)) er3⟩
        obtain ⟨m, _, rfl⟩ := List.mem_map.mp hn
        exact ⟨Int.emod_nonneg _ (by omega), Int.emod_lt_of_pos _ (by omega)⟩
def sp_law_led_by : Sp := fun vs H Q _ => ∃ (t u : Addr) (a b c d x y p : Int), vs = [.ref t, .ref u, .int p] ∧ TabAt H t a b c d ∧ H u = some (TI [x, y]) ∧ T4 a b c d ∧ PtP p x y ∧ 1 < p ∧ p < 1000 ∧
  ∀ H' r, Same H H' → H' r = some (TI (ledP p a b c d x y)) → Q (.ref r) H'
theorem ok_law_led_by (T : Tx K mg) : FnOk P w K mg base CX0 3 T.f_law_led_by T.d_law_led_by p_law_led_by sp_law_led_by := by
  refine T.F_law_led_by.ok sc_law_led_by (fun vs H Q E h => ?_) (fun cdv A outer s H vs Q E hr h => ?_)
  · obtain ⟨t, u, a, b, c, d, x, y, p, rfl, _⟩ := h
    rfl
  · obtain ⟨t, u, a, b, c, d, x, y, p, rfl, ⟨r1, r2, h1, h2, h3⟩, hu, h4, hpt, p0, p1, k⟩ := h
    refine ⟨_, (pss_one (ps_ret (pe_call (ok_law_first_one T) (hr.mono (by decide)) (by rfl) T.m_law_first_one T.F_law_first_one.kp T.b_law_first_one .nil pass0 (pa_cons (pe_lc (own := [("_law_row", 3)]) (g := gName 3) (tt := tYes) rfl sc_law_led_by.nd (pi_tup (pv 0)) (blkOk_by (N := n_law_led_by) (sc := defScope s_law_led_by) (by decide +kernel)) (fun _ _ _ _ _ => (pg_name (i := 3) sc_law_led_by.nd rfl (by first | exact .inl rfl | exact .inr rfl))) (fun _ _ _ _ _ => pts_nil) (fun _ _ _ _ _ => (pe_op op_add (pe_op op_mulB (pe_ix ix_TI (pv 3) pe_int (fun _ _ => rfl)) (pe_ix ix_TI (pv 1) pe_int (fun _ _ => rfl))) (pe_op op_mulB (pe_ix ix_TI (pv 3) pe_int (fun _ _ => rfl)) (pe_ix ix_TI (pv 1) pe_int (fun _ _ => rfl)))))) (pa_cons (pv 2) pa_nil))))), ?_⟩
    rw [st_law_led_by]
    simp only [ap_seq, ap_next, ap_asg, ap_gName, ap_ret, ap_retN, ap_drop, ap_ifS, ap_break, ap_cont, ap_par, ap_aug, ap_ip, ap_gSub, ap_gTup, ap_gNil, ap_gCons, ap_var, ap_c, ap_op, ap_un, ap_if, ap_test, ap_B, ap_and, ap_or, ap_not, ap_andV, ap_orV, ap_notV, ap_nil, ap_cons, ap_tup, ap_lst, ap_cb, ap_bm, ap_call, ap_chain, ap_rI, ap_rI0, ap_rU, ap_rEq, ap_rNe, ap_revT, ap_sl, ap_part, ap_noPart, ap_ixLI, ap_ixTI, ap_ixLV, ap_ixTV, ap_len, ap_setLI, ap_setLV, ap_appI, ap_appV, ap_tupL, ap_listS, ap_sumLI, ap_sumTI, ap_repLI, ap_intI, ap_intB, ap_eqTI, ap_neTI, ap_eqLI, ap_neLI, ap_isi, ap_for, ap_rng1, ap_rng2, ap_iList, ap_iTup, ap_lc, ap_yes, ap_cut, ap_gTupH, ap_fmt, ap_jsn, ap_jsc, ap_gcd, ap_isqrt, ap_ixL, tyV_l, wipe_nil, wipe_cons, upd_same, ap_iEnT, ap_iEnL, ap_iZipA, ap_all, ap_tupT, ap_lenSetT, ap_slI, ap_catI, ap_perm, ap_lenO, ap_strO, ap_listO, ap_reprB, ap_iterT, ap_neT, ap_negO, ap_binI, ap_catL, ap_tM1, ap_repTI, ap_popN, ap_par3, ap_catTT, ap_countT, ap_notInT, ap_repL1, ap_shl, ap_shr, ap_mask, ap_comb, ap_bits, ap_rng3, List.set_cons_zero, List.set_cons_succ, List.getElem?_cons_zero, List.getElem?_cons_succ, List.cons_append, List.nil_append, List.append_nil, Option.some.injEq, V.int.injEq, V.ref.injEq, V.bl.injEq, V.str.injEq, V.ty.injEq, Bool.not_true, Bool.not_false, HO.lst.injEq, HO.tup.injEq, reduceCtorEq, Int.reduceToNat, Int.reduceLT, Int.reduceLE, Nat.reduceAdd, Int.cast_ofNat_Int, gi_c0, gi_c1, gi_c2, gi_c3, Int.natCast_inj, map_int_inj, map_nil_iff, List.cons.injEq, exists_eq_left, exists_eq_left', exists_eq, exists_eq', exists_and_left, exists_and_right, exists_const, and_assoc, and_true, true_and, and_false, false_and, or_false, false_or, or_true, true_or, ite_true, ite_false, if_true, if_false, Bool.false_eq_true, own_cons, own_nil, le1, le2, le3, le4, me_cons, me_nil, List.length_map, List.length_cons, List.length_nil, ne_eq, not_false_eq_true, not_true_eq_false, decide_eq_true_eq, h1, hu]
    have bx := led_bd h4.a h4.b hpt p1
    have by' := led_bd h4.c h4.d hpt p1
    obtain ⟨x0, x1, y0, y1, _⟩ := id hpt
    have wx : Wd x := Sm.wd (by unfold Sm; omega)
    have wy : Wd y := Sm.wd (by unfold Sm; omega)
    refine ⟨⟨_, sqT_of h1⟩, lc_tupI (fun i => [a * x + b * y, c * x + d * y].getD i 0) h1 (by show 2 < 1000000; omega) (fun x => rfl) (fun i z H' hx sm Q' k' => ?_) (fun A H' hA sm e => ?_)⟩
    · have h2' := sm _ _ h2
      have h3' := sm _ _ h3
      have hu' := sm _ _ hu
      match i, hx with
      | 0, hx =>
        cases hx
        simp only [ap_seq, ap_next, ap_asg, ap_gName, ap_ret, ap_retN, ap_drop, ap_ifS, ap_break, ap_cont, ap_par, ap_aug, ap_ip, ap_gSub, ap_gTup, ap_gNil, ap_gCons, ap_var, ap_c, ap_op, ap_un, ap_if, ap_test, ap_B, ap_and, ap_or, ap_not, ap_andV, ap_orV, ap_notV, ap_nil, ap_cons, ap_tup, ap_lst, ap_cb, ap_bm, ap_call, ap_chain, ap_rI, ap_rI0, ap_rU, ap_rEq, ap_rNe, ap_revT, ap_sl, ap_part, ap_noPart, ap_ixLI, ap_ixTI, ap_ixLV, ap_ixTV, ap_len, ap_setLI, ap_setLV, ap_appI, ap_appV, ap_tupL, ap_listS, ap_sumLI, ap_sumTI, ap_repLI, ap_intI, ap_intB, ap_eqTI, ap_neTI, ap_eqLI, ap_neLI, ap_isi, ap_for, ap_rng1, ap_rng2, ap_iList, ap_iTup, ap_lc, ap_yes, ap_cut, ap_gTupH, ap_fmt, ap_jsn, ap_jsc, ap_gcd, ap_isqrt, ap_ixL, tyV_l, wipe_nil, wipe_cons, upd_same, ap_iEnT, ap_iEnL, ap_iZipA, ap_all, ap_tupT, ap_lenSetT, ap_slI, ap_catI, ap_perm, ap_lenO, ap_strO, ap_listO, ap_reprB, ap_iterT, ap_neT, ap_negO, ap_binI, ap_catL, ap_tM1, ap_repTI, ap_popN, ap_par3, ap_catTT, ap_countT, ap_notInT, ap_repL1, ap_shl, ap_shr, ap_mask, ap_comb, ap_bits, ap_rng3, List.set_cons_zero, List.set_cons_succ, List.getElem?_cons_zero, List.getElem?_cons_succ, List.cons_append, List.nil_append, List.append_nil, Option.some.injEq, V.int.injEq, V.ref.injEq, V.bl.injEq, V.str.injEq, V.ty.injEq, Bool.not_true, Bool.not_false, HO.lst.injEq, HO.tup.injEq, reduceCtorEq, Int.reduceToNat, Int.reduceLT, Int.reduceLE, Nat.reduceAdd, Int.cast_ofNat_Int, gi_c0, gi_c1, gi_c2, gi_c3, Int.natCast_inj, map_int_inj, map_nil_iff, List.cons.injEq, exists_eq_left, exists_eq_left', exists_eq, exists_eq', exists_and_left, exists_and_right, exists_const, and_assoc, and_true, true_and, and_false, false_and, or_false, false_or, or_true, true_or, ite_true, ite_false, if_true, if_false, Bool.false_eq_true, own_cons, own_nil, le1, le2, le3, le4, me_cons, me_nil, List.length_map, List.length_cons, List.length_nil, ne_eq, not_false_eq_true, not_true_eq_false, decide_eq_true_eq, h2', hu']
        exact ⟨⟨h4.a.sm.wd, wx⟩, ⟨h4.b.sm.wd, wy⟩, k' _ (Same.refl _)⟩
      | 1, hx =>
        cases hx
        simp only [ap_seq, ap_next, ap_asg, ap_gName, ap_ret, ap_retN, ap_drop, ap_ifS, ap_break, ap_cont, ap_par, ap_aug, ap_ip, ap_gSub, ap_gTup, ap_gNil, ap_gCons, ap_var, ap_c, ap_op, ap_un, ap_if, ap_test, ap_B, ap_and, ap_or, ap_not, ap_andV, ap_orV, ap_notV, ap_nil, ap_cons, ap_tup, ap_lst, ap_cb, ap_bm, ap_call, ap_chain, ap_rI, ap_rI0, ap_rU, ap_rEq, ap_rNe, ap_revT, ap_sl, ap_part, ap_noPart, ap_ixLI, ap_ixTI, ap_ixLV, ap_ixTV, ap_len, ap_setLI, ap_setLV, ap_appI, ap_appV, ap_tupL, ap_listS, ap_sumLI, ap_sumTI, ap_repLI, ap_intI, ap_intB, ap_eqTI, ap_neTI, ap_eqLI, ap_neLI, ap_isi, ap_for, ap_rng1, ap_rng2, ap_iList, ap_iTup, ap_lc, ap_yes, ap_cut, ap_gTupH, ap_fmt, ap_jsn, ap_jsc, ap_gcd, ap_isqrt, ap_ixL, tyV_l, wipe_nil, wipe_cons, upd_same, ap_iEnT, ap_iEnL, ap_iZipA, ap_all, ap_tupT, ap_lenSetT, ap_slI, ap_catI, ap_perm, ap_lenO, ap_strO, ap_listO, ap_reprB, ap_iterT, ap_neT, ap_negO, ap_binI, ap_catL, ap_tM1, ap_repTI, ap_popN, ap_par3, ap_catTT, ap_countT, ap_notInT, ap_repL1, ap_shl, ap_shr, ap_mask, ap_comb, ap_bits, ap_rng3, List.set_cons_zero, List.set_cons_succ, List.getElem?_cons_zero, List.getElem?_cons_succ, List.cons_append, List.nil_append, List.append_nil, Option.some.injEq, V.int.injEq, V.ref.injEq, V.bl.injEq, V.str.injEq, V.ty.injEq, Bool.not_true, Bool.not_false, HO.lst.injEq, HO.tup.injEq, reduceCtorEq, Int.reduceToNat, Int.reduceLT, Int.reduceLE, Nat.reduceAdd, Int.cast_ofNat_Int, gi_c0, gi_c1, gi_c2, gi_c3, Int.natCast_inj, map_int_inj, map_nil_iff, List.cons.injEq, exists_eq_left, exists_eq_left', exists_eq, exists_eq', exists_and_left, exists_and_right, exists_const, and_assoc, and_true, true_and, and_false, false_and, or_false, false_or, or_true, true_or, ite_true, ite_false, if_true, if_false, Bool.false_eq_true, own_cons, own_nil, le1, le2, le3, le4, me_cons, me_nil, List.length_map, List.length_cons, List.length_nil, ne_eq, not_false_eq_true, not_true_eq_false, decide_eq_true_eq, h3', hu']
        exact ⟨⟨h4.c.sm.wd, wx⟩, ⟨h4.d.sm.wd, wy⟩, k' _ (Same.refl _)⟩
    · have e : H' A = some (LI [a * x + b * y, c * x + d * y]) := e
      refine ⟨A, _, p, rfl, .inl e, by show 2 < 1000; omega, fun n hn => ?_, p0, p1, fun H2 r s2 nr er => k H2 r (sm.trans s2) er⟩
      simp only [List.mem_cons, List.not_mem_nil, or_false] at hn
      rcases hn with rfl | rfl <;> omega
/-- what a table becomes -/
def plain4 (p a b c d : Int) : List Int := plP p [a, b, c, d]
theorem plain4_eq (p a b c d : Int) : ∃ a' b' c' d', plain4 p a b c d = [a', b', c', d'] := by
  have := plP_len p [a, b, c, d]
  unfold plain4
  match plP p [a, b, c, d], this with
  | [a', b', c', d'], _ => exact ⟨a', b', c', d', rfl⟩
def sp_plain_change : Sp := fun vs H Q _ => ∃ (t : Addr) (a b c d p : Int), vs = [.ref t, .int p] ∧ TabAt H t a b c d ∧ (∀ n ∈ [a, b, c, d], -(10 ^ 100) ≤ n ∧ n ≤ 10 ^ 100) ∧ 1 < p ∧ p < 1000 ∧
  ∀ H' r a' b' c' d', Same H H' → plain4 p a b c d = [a', b', c', d'] → TabAt H' r a' b' c' d' → Q (.ref r) H'
theorem ok_plain_change (T : Tx K mg) : FnOk P w K mg base CX0 4 T.f_plain_change T.d_plain_change p_plain_change sp_plain_change := by
  refine T.F_plain_change.ok sc_plain_change (fun vs H Q E h => ?_) (fun cdv A outer s H vs Q E hr h => ?_)
  · obtain ⟨t, a, b, c, d, p, rfl, _⟩ := h
    rfl
  · obtain ⟨t, a, b, c, d, p, rfl, ⟨r1, r2, h1, h2, h3⟩, hn, p0, p1, k⟩ := h
    refine ⟨_, (pss_cons (ps_set (i := 2) sc_plain_change.nd rfl (Or.inl rfl) (pe_call (ok_plain_row T) (hr.mono (by decide)) (by rfl) T.m_plain_row T.F_plain_row.kp T.b_plain_row .nil pass0 (pa_cons (pe_call (ok_modulo T) (hr.mono (by decide)) (by rfl) T.m_modulo T.F_modulo.kp T.b_modulo .nil pass0 (pa_cons (pe_op op_catI (pe_ix ix_TV (pv 0) pe_int (fun _ _ => rfl)) (pe_ix ix_TV (pv 0) pe_int (fun _ _ => rfl))) (pa_cons (pv 1) pa_nil))) (pa_cons (pv 1) pa_nil))))
      (pss_one (ps_ret (pe_tup (pa_cons (pe_slice sl_tupI (pv 2) po_none (po_some pe_int)) (pa_cons (pe_slice sl_tupI (pv 2) (po_some pe_int) po_none) pa_nil)))))), ?_⟩
    rw [st_plain_change]
    simp only [ap_seq, ap_next, ap_asg, ap_gName, ap_ret, ap_retN, ap_drop, ap_ifS, ap_break, ap_cont, ap_par, ap_aug, ap_ip, ap_gSub, ap_gTup, ap_gNil, ap_gCons, ap_var, ap_c, ap_op, ap_un, ap_if, ap_test, ap_B, ap_and, ap_or, ap_not, ap_andV, ap_orV, ap_notV, ap_nil, ap_cons, ap_tup, ap_lst, ap_cb, ap_bm, ap_call, ap_chain, ap_rI, ap_rI0, ap_rU, ap_rEq, ap_rNe, ap_revT, ap_sl, ap_part, ap_noPart, ap_ixLI, ap_ixTI, ap_ixLV, ap_ixTV, ap_len, ap_setLI, ap_setLV, ap_appI, ap_appV, ap_tupL, ap_listS, ap_sumLI, ap_sumTI, ap_repLI, ap_intI, ap_intB, ap_eqTI, ap_neTI, ap_eqLI, ap_neLI, ap_isi, ap_for, ap_rng1, ap_rng2, ap_iList, ap_iTup, ap_lc, ap_yes, ap_cut, ap_gTupH, ap_fmt, ap_jsn, ap_jsc, ap_gcd, ap_isqrt, ap_ixL, tyV_l, wipe_nil, wipe_cons, upd_same, ap_iEnT, ap_iEnL, ap_iZipA, ap_all, ap_tupT, ap_lenSetT, ap_slI, ap_catI, ap_perm, ap_lenO, ap_strO, ap_listO, ap_reprB, ap_iterT, ap_neT, ap_negO, ap_binI, ap_catL, ap_tM1, ap_repTI, ap_popN, ap_par3, ap_catTT, ap_countT, ap_notInT, ap_repL1, ap_shl, ap_shr, ap_mask, ap_comb, ap_bits, ap_rng3, List.set_cons_zero, List.set_cons_succ, List.getElem?_cons_zero, List.getElem?_cons_succ, List.cons_append, List.nil_append, List.append_nil, Option.some.injEq, V.int.injEq, V.ref.injEq, V.bl.injEq, V.str.injEq, V.ty.injEq, Bool.not_true, Bool.not_false, HO.lst.injEq, HO.tup.injEq, reduceCtorEq, Int.reduceToNat, Int.reduceLT, Int.reduceLE, Nat.reduceAdd, Int.cast_ofNat_Int, gi_c0, gi_c1, gi_c2, gi_c3, Int.natCast_inj, map_int_inj, map_nil_iff, List.cons.injEq, exists_eq_left, exists_eq_left', exists_eq, exists_eq', exists_and_left, exists_and_right, exists_const, and_assoc, and_true, true_and, and_false, false_and, or_false, false_or, or_true, true_or, ite_true, ite_false, if_true, if_false, Bool.false_eq_true, own_cons, own_nil, le1, le2, le3, le4, me_cons, me_nil, List.length_map, List.length_cons, List.length_nil, ne_eq, not_false_eq_true, not_true_eq_false, decide_eq_true_eq, h1]
    refine ⟨_, rfl, _, rfl, r1, rfl, r2, rfl, _, h2, _, h3, by show 4 ≤ 10000; omega, fun r H1 s1 er => ?_⟩
    have b100 : ∀ n : Int, -(10 ^ 100) ≤ n ∧ n ≤ 10 ^ 100 → Wd n := fun n h => by
      have := mul_wd (a := n) (b := 1) (A := 10 ^ 100) (B := 1) h (by decide) (by decide) (by decide) (by decide +kernel)
      rw [Int.mul_one] at this
      exact this
    refine ⟨r, _, p, rfl, .inr er, by show 4 < 1000; omega, fun n h => b100 n (hn n h), by omega, p1, fun H2 r3 s2 nr3 er3 => ?_⟩
    refine ⟨r3, _, p, rfl, er3, by show 4 < 1000; omega, fun n h => ?_, p0, p1, fun H3 r4 s3 er4 => ?_⟩
    · obtain ⟨m, _, rfl⟩ := List.mem_map.mp h
      exact ⟨Int.emod_nonneg _ (by omega), Int.emod_lt_of_pos _ (by omega)⟩
    · have er4 : H3 r4 = some (TI (plain4 p a b c d)) := er4
      obtain ⟨a', b', c', d', e4⟩ := plain4_eq p a b c d
      rw [e4] at er4
      refine ⟨r4, rfl, _, er4, fun r5 H4 s4 er5 => ⟨r4, rfl, _, s4 _ _ er4, fun r6 H5 s5 er6 => ⟨by decide, fun l nl => ?_⟩⟩⟩
      have s6 := same_upd (o := HO.tup [V.ref r5, V.ref r6]) nl
      exact k _ l a' b' c' d' (s1.trans (s2.trans (s3.trans (s4.trans (s5.trans s6))))) e4 ⟨r5, r6, upd_same, s6 _ _ (s5 _ _ er5), s6 _ _ er6⟩
def sp_law_plain_table : Sp := fun vs H Q _ => ∃ (t : Addr) (a b c d p : Int), vs = [.ref t, .int p] ∧ TabAt H t a b c d ∧ (∀ n ∈ [a, b, c, d], -(10 ^ 100) ≤ n ∧ n ≤ 10 ^ 100) ∧ 1 < p ∧ p < 1000 ∧
  ∀ H' r a' b' c' d', Same H H' → plain4 p a b c d = [a', b', c', d'] → TabAt H' r a' b' c' d' → Q (.ref r) H'
theorem ok_law_plain_table (T : Tx K mg) : FnOk P w K mg base CX0 3 T.f_law_plain_table T.d_law_plain_table p_law_plain_table sp_law_plain_table := by
  refine T.F_law_plain_table.ok sc_law_plain_table (fun vs H Q E h => ?_) (fun cdv A outer s H vs Q E hr h => ?_)
  · obtain ⟨t, a, b, c, d, p, rfl, _⟩ := h
    rfl
  · obtain ⟨t, a, b, c, d, p, rfl, ⟨r1, r2, h1, h2, h3⟩, hn, p0, p1, k⟩ := h
    refine ⟨_, (pss_cons (ps_set (i := 2) sc_law_plain_table.nd rfl (Or.inl rfl) (pe_call (ok_law_first_one T) (hr.mono (by decide)) (by rfl) T.m_law_first_one T.F_law_first_one.kp T.b_law_first_one .nil pass0 (pa_cons (pe_op op_catI (pe_ix ix_TV (pv 0) pe_int (fun _ _ => rfl)) (pe_ix ix_TV (pv 0) pe_int (fun _ _ => rfl))) (pa_cons (pv 1) pa_nil))))
      (pss_one (ps_ret (pe_tup (pa_cons (pe_slice sl_tupI (pv 2) po_none (po_some pe_int)) (pa_cons (pe_slice sl_tupI (pv 2) (po_some pe_int) po_none) pa_nil)))))), ?_⟩
    rw [st_law_plain_table]
    simp only [ap_seq, ap_next, ap_asg, ap_gName, ap_ret, ap_retN, ap_drop, ap_ifS, ap_break, ap_cont, ap_par, ap_aug, ap_ip, ap_gSub, ap_gTup, ap_gNil, ap_gCons, ap_var, ap_c, ap_op, ap_un, ap_if, ap_test, ap_B, ap_and, ap_or, ap_not, ap_andV, ap_orV, ap_notV, ap_nil, ap_cons, ap_tup, ap_lst, ap_cb, ap_bm, ap_call, ap_chain, ap_rI, ap_rI0, ap_rU, ap_rEq, ap_rNe, ap_revT, ap_sl, ap_part, ap_noPart, ap_ixLI, ap_ixTI, ap_ixLV, ap_ixTV, ap_len, ap_setLI, ap_setLV, ap_appI, ap_appV, ap_tupL, ap_listS, ap_sumLI, ap_sumTI, ap_repLI, ap_intI, ap_intB, ap_eqTI, ap_neTI, ap_eqLI, ap_neLI, ap_isi, ap_for, ap_rng1, ap_rng2, ap_iList, ap_iTup, ap_lc, ap_yes, ap_cut, ap_gTupH, ap_fmt, ap_jsn, ap_jsc, ap_gcd, ap_isqrt, ap_ixL, tyV_l, wipe_nil, wipe_cons, upd_same, ap_iEnT, ap_iEnL, ap_iZipA, ap_all, ap_tupT, ap_lenSetT, ap_slI, ap_catI, ap_perm, ap_lenO, ap_strO, ap_listO, ap_reprB, ap_iterT, ap_neT, ap_negO, ap_binI, ap_catL, ap_tM1, ap_repTI, ap_popN, ap_par3, ap_catTT, ap_countT, ap_notInT, ap_repL1, ap_shl, ap_shr, ap_mask, ap_comb, ap_bits, ap_rng3, List.set_cons_zero, List.set_cons_succ, List.getElem?_cons_zero, List.getElem?_cons_succ, List.cons_append, List.nil_append, List.append_nil, Option.some.injEq, V.int.injEq, V.ref.injEq, V.bl.injEq, V.str.injEq, V.ty.injEq, Bool.not_true, Bool.not_false, HO.lst.injEq, HO.tup.injEq, reduceCtorEq, Int.reduceToNat, Int.reduceLT, Int.reduceLE, Nat.reduceAdd, Int.cast_ofNat_Int, gi_c0, gi_c1, gi_c2, gi_c3, Int.natCast_inj, map_int_inj, map_nil_iff, List.cons.injEq, exists_eq_left, exists_eq_left', exists_eq, exists_eq', exists_and_left, exists_and_right, exists_const, and_assoc, and_true, true_and, and_false, false_and, or_false, false_or, or_true, true_or, ite_true, ite_false, if_true, if_false, Bool.false_eq_true, own_cons, own_nil, le1, le2, le3, le4, me_cons, me_nil, List.length_map, List.length_cons, List.length_nil, ne_eq, not_false_eq_true, not_true_eq_false, decide_eq_true_eq, h1]
    refine ⟨_, rfl, _, rfl, r1, rfl, r2, rfl, _, h2, _, h3, by show 4 ≤ 10000; omega, fun r H1 s1 er => ?_⟩
    refine ⟨r, _, p, rfl, .inr er, by show 4 < 1000; omega, hn, p0, p1, fun H3 r4 s3 nr4 er4 => ?_⟩
    have er4 : H3 r4 = some (TI (plain4 p a b c d)) := er4
    obtain ⟨a', b', c', d', e4⟩ := plain4_eq p a b c d
    rw [e4] at er4
    refine ⟨r4, rfl, _, er4, fun r5 H4 s4 er5 => ⟨r4, rfl, _, s4 _ _ er4, fun r6 H5 s5 er6 => ⟨by decide, fun l nl => ?_⟩⟩⟩
    have s6 := same_upd (o := HO.tup [V.ref r5, V.ref r6]) nl
    exact k _ l a' b' c' d' (s1.trans (s3.trans (s4.trans (s5.trans s6)))) e4 ⟨r5, r6, upd_same, s6 _ _ (s5 _ _ er5), s6 _ _ er6⟩
end
end My

namespace My
open PySem PySem.Spec PyProof.Rows L2 Pr
section
variable {P : Program} {w : World} {K : PySem.W.Frag} {mg : Str → Option Value} {base : Heap}
abbrev primes : List Int := [13, 17, 19, 23, 29, 31, 37, 41, 43, 47, 53, 59, 61, 67, 71, 73, 79, 83, 89, 97, 101]
theorem primes_bd {p : Int} (h : p ∈ primes) : 13 ≤ p ∧ p ≤ 101 := by
  have : ∀ p ∈ primes, 13 ≤ p ∧ p ≤ 101 := by decide
  exact this p h
def sp_need_prime : Sp := fun vs H Q _ => ∃ (p : Int), vs = [.int p] ∧ p ∈ primes ∧ Q .non H
theorem ok_need_prime (T : Tx K mg) : FnOk P w K mg base CX0 2 T.f_need_prime T.d_need_prime p_need_prime sp_need_prime := by
  refine T.F_need_prime.ok sc_need_prime (fun vs H Q E h => ?_) (fun cdv A outer s H vs Q E hr h => ?_)
  · obtain ⟨p, rfl, _⟩ := h
    rfl
  · obtain ⟨p, rfl, hp, k⟩ := h
    refine ⟨_, (pss_one (ps_if (PW.pt (pw_or (pt_not (pt_val (pe_call (ok_is_integer T) (hr.mono (by decide)) (by rfl) T.m_is_integer T.F_is_integer.kp T.b_is_integer .nil pass0 (pa_cons (pv 0) pa_nil)))) (pw_or1 (pt_cmpR op_notIn_seq (pv 0) (pe_glob (v := .ref T.o_PRIMES) (by rfl) T.c_PRIMES rfl) (by rfl))))) (pss_one ps_never) pss_nil)), ?_⟩
    rw [st_need_prime]
    simp only [ap_seq, ap_next, ap_asg, ap_gName, ap_ret, ap_retN, ap_drop, ap_ifS, ap_break, ap_cont, ap_par, ap_aug, ap_ip, ap_gSub, ap_gTup, ap_gNil, ap_gCons, ap_var, ap_c, ap_op, ap_un, ap_if, ap_test, ap_B, ap_and, ap_or, ap_not, ap_andV, ap_orV, ap_notV, ap_nil, ap_cons, ap_tup, ap_lst, ap_cb, ap_bm, ap_call, ap_chain, ap_rI, ap_rI0, ap_rU, ap_rEq, ap_rNe, ap_revT, ap_sl, ap_part, ap_noPart, ap_ixLI, ap_ixTI, ap_ixLV, ap_ixTV, ap_len, ap_setLI, ap_setLV, ap_appI, ap_appV, ap_tupL, ap_listS, ap_sumLI, ap_sumTI, ap_repLI, ap_intI, ap_intB, ap_eqTI, ap_neTI, ap_eqLI, ap_neLI, ap_isi, ap_for, ap_rng1, ap_rng2, ap_iList, ap_iTup, ap_lc, ap_yes, ap_cut, ap_gTupH, ap_fmt, ap_jsn, ap_jsc, ap_gcd, ap_isqrt, ap_ixL, tyV_l, wipe_nil, wipe_cons, upd_same, ap_iEnT, ap_iEnL, ap_iZipA, ap_all, ap_tupT, ap_lenSetT, ap_slI, ap_catI, ap_perm, ap_lenO, ap_strO, ap_listO, ap_reprB, ap_iterT, ap_neT, ap_negO, ap_binI, ap_catL, ap_tM1, ap_repTI, ap_popN, ap_par3, ap_catTT, ap_countT, ap_notInT, ap_repL1, ap_shl, ap_shr, ap_mask, ap_comb, ap_bits, ap_rng3, List.set_cons_zero, List.set_cons_succ, List.getElem?_cons_zero, List.getElem?_cons_succ, List.cons_append, List.nil_append, List.append_nil, Option.some.injEq, V.int.injEq, V.ref.injEq, V.bl.injEq, V.str.injEq, V.ty.injEq, Bool.not_true, Bool.not_false, HO.lst.injEq, HO.tup.injEq, reduceCtorEq, Int.reduceToNat, Int.reduceLT, Int.reduceLE, Nat.reduceAdd, Int.cast_ofNat_Int, gi_c0, gi_c1, gi_c2, gi_c3, Int.natCast_inj, map_int_inj, map_nil_iff, List.cons.injEq, exists_eq_left, exists_eq_left', exists_eq, exists_eq', exists_and_left, exists_and_right, exists_const, and_assoc, and_true, true_and, and_false, false_and, or_false, false_or, or_true, true_or, ite_true, ite_false, if_true, if_false, Bool.false_eq_true, own_cons, own_nil, le1, le2, le3, le4, me_cons, me_nil, List.length_map, List.length_cons, List.length_nil, ne_eq, not_false_eq_true, not_true_eq_false, decide_eq_true_eq, sp_is_integer]
    have pb := primes_bd hp
    have e : isI (.int p) = true := decide_eq_true (by omega)
    refine ⟨⟨_, rfl⟩, ?_⟩
    rw [e, if_neg (by simp)]
    refine ⟨_, _, rfl, .inr (T.v_PRIMES H), rfl, by decide +kernel, false, ?_, k⟩
    have : inV (.int p) (primes.map V.int) = true := by
      rw [show inV (.int p) (primes.map V.int) = (primes.map V.int).any (fun y => eqV y (.int p)) from rfl, List.any_eq_true]
      exact ⟨.int p, List.mem_map_of_mem hp, by show decide (p = p) = true; exact decide_eq_true rfl⟩
    rw [if_pos rfl, this]
    rfl
def sp_is_prime_point : Sp := fun vs H Q _ => ∃ (u : Addr) (x y p : Int), vs = [.ref u, .int p] ∧ H u = some (TI [x, y]) ∧ PtP p x y ∧ 1 < p ∧ p < 1000 ∧ ∀ H', Same H H' → Q (.bl true) H'
theorem ok_is_prime_point (T : Tx K mg) : FnOk P w K mg base CX0 4 T.f_is_prime_point T.d_is_prime_point p_is_prime_point sp_is_prime_point := by
  refine T.F_is_prime_point.ok sc_is_prime_point (fun vs H Q E h => ?_) (fun cdv A outer s H vs Q E hr h => ?_)
  · obtain ⟨u, x, y, p, rfl, _⟩ := h
    rfl
  · obtain ⟨u, x, y, p, rfl, hu, hpt, p0, p1, k⟩ := h
    refine ⟨_, (pss_cons (ps_if (PW.pt (pw_or (pt_not (pt_val (pe_call (ok_is_pair T) (hr.mono (by decide)) (by rfl) T.m_is_pair T.F_is_pair.kp T.b_is_pair .nil pass0 (pa_cons (pv 0) pa_nil)))) (pw_or1 (pt_not (pt_val (pe_callB (cr_all rfl) (by rfl) T.z_all (by decide +kernel) (pa_cons (pe_lc (own := [("part", 3)]) (g := gName 3) (tt := tYes) rfl sc_is_prime_point.nd (pi_tup (pv 0)) (blkOk_by (N := n_is_prime_point) (sc := defScope s_is_prime_point) (by decide +kernel)) (fun _ _ _ _ _ => (pg_name (i := 3) sc_is_prime_point.nd rfl (by first | exact .inl rfl | exact .inr rfl))) (fun _ _ _ _ _ => pts_nil) (fun _ _ _ _ _ => (pe_chain op_le op_lt pe_int (pv 3) (pv 1)))) pa_nil))))))) (pss_one (ps_ret pe_bl)) pss_nil)
      (pss_cons (ps_set (i := 2) sc_is_prime_point.nd rfl (Or.inl rfl) (pe_call (ok_lead_of T) (hr.mono (by decide)) (by rfl) T.m_lead_of T.F_lead_of.kp T.b_lead_of .nil pass0 (pa_cons (pv 0) pa_nil)))
      (pss_one (ps_ret (pe_and (pe_cmpR op_notN (pv 2) pe_non (nomark _)) (pe_one (pe_cmpR op_eq (pe_ix ix_TI (pv 0) (pv 2) (fun _ _ => rfl)) pe_int (nomark _)))))))), ?_⟩
    rw [st_is_prime_point]
    simp only [ap_seq, ap_next, ap_asg, ap_gName, ap_ret, ap_retN, ap_drop, ap_ifS, ap_break, ap_cont, ap_par, ap_aug, ap_ip, ap_gSub, ap_gTup, ap_gNil, ap_gCons, ap_var, ap_c, ap_op, ap_un, ap_if, ap_test, ap_B, ap_and, ap_or, ap_not, ap_andV, ap_orV, ap_notV, ap_nil, ap_cons, ap_tup, ap_lst, ap_cb, ap_bm, ap_call, ap_chain, ap_rI, ap_rI0, ap_rU, ap_rEq, ap_rNe, ap_revT, ap_sl, ap_part, ap_noPart, ap_ixLI, ap_ixTI, ap_ixLV, ap_ixTV, ap_len, ap_setLI, ap_setLV, ap_appI, ap_appV, ap_tupL, ap_listS, ap_sumLI, ap_sumTI, ap_repLI, ap_intI, ap_intB, ap_eqTI, ap_neTI, ap_eqLI, ap_neLI, ap_isi, ap_for, ap_rng1, ap_rng2, ap_iList, ap_iTup, ap_lc, ap_yes, ap_cut, ap_gTupH, ap_fmt, ap_jsn, ap_jsc, ap_gcd, ap_isqrt, ap_ixL, tyV_l, wipe_nil, wipe_cons, upd_same, ap_iEnT, ap_iEnL, ap_iZipA, ap_all, ap_tupT, ap_lenSetT, ap_slI, ap_catI, ap_perm, ap_lenO, ap_strO, ap_listO, ap_reprB, ap_iterT, ap_neT, ap_negO, ap_binI, ap_catL, ap_tM1, ap_repTI, ap_popN, ap_par3, ap_catTT, ap_countT, ap_notInT, ap_repL1, ap_shl, ap_shr, ap_mask, ap_comb, ap_bits, ap_rng3, List.set_cons_zero, List.set_cons_succ, List.getElem?_cons_zero, List.getElem?_cons_succ, List.cons_append, List.nil_append, List.append_nil, Option.some.injEq, V.int.injEq, V.ref.injEq, V.bl.injEq, V.str.injEq, V.ty.injEq, Bool.not_true, Bool.not_false, HO.lst.injEq, HO.tup.injEq, reduceCtorEq, Int.reduceToNat, Int.reduceLT, Int.reduceLE, Nat.reduceAdd, Int.cast_ofNat_Int, gi_c0, gi_c1, gi_c2, gi_c3, Int.natCast_inj, map_int_inj, map_nil_iff, List.cons.injEq, exists_eq_left, exists_eq_left', exists_eq, exists_eq', exists_and_left, exists_and_right, exists_const, and_assoc, and_true, true_and, and_false, false_and, or_false, false_or, or_true, true_or, ite_true, ite_false, if_true, if_false, Bool.false_eq_true, own_cons, own_nil, le1, le2, le3, le4, me_cons, me_nil, List.length_map, List.length_cons, List.length_nil, ne_eq, not_false_eq_true, not_true_eq_false, decide_eq_true_eq]
    obtain ⟨x0, x1, y0, y1, one⟩ := hpt
    refine ⟨u, x, y, rfl, hu, by unfold Sm; omega, by unfold Sm; omega, fun H1 s1 => ⟨true, rfl, ?_⟩⟩
    have hu1 := s1 _ _ hu
    rw [if_neg (by simp)]
    refine ⟨⟨_, sqT_of hu1⟩, lc_tupV (fun _ => .bl true) hu1 (by show 2 < 1000000; omega) (fun x => rfl) (fun i z H' hx sm Q' hq => ?_) (fun D G nD sm eD => ?_)⟩
    · obtain ⟨n, rfl, en⟩ := at_int hx
      have hn : n = x ∨ n = y := by simpa using List.mem_of_getElem? en
      simp only [ap_seq, ap_next, ap_asg, ap_gName, ap_ret, ap_retN, ap_drop, ap_ifS, ap_break, ap_cont, ap_par, ap_aug, ap_ip, ap_gSub, ap_gTup, ap_gNil, ap_gCons, ap_var, ap_c, ap_op, ap_un, ap_if, ap_test, ap_B, ap_and, ap_or, ap_not, ap_andV, ap_orV, ap_notV, ap_nil, ap_cons, ap_tup, ap_lst, ap_cb, ap_bm, ap_call, ap_chain, ap_rI, ap_rI0, ap_rU, ap_rEq, ap_rNe, ap_revT, ap_sl, ap_part, ap_noPart, ap_ixLI, ap_ixTI, ap_ixLV, ap_ixTV, ap_len, ap_setLI, ap_setLV, ap_appI, ap_appV, ap_tupL, ap_listS, ap_sumLI, ap_sumTI, ap_repLI, ap_intI, ap_intB, ap_eqTI, ap_neTI, ap_eqLI, ap_neLI, ap_isi, ap_for, ap_rng1, ap_rng2, ap_iList, ap_iTup, ap_lc, ap_yes, ap_cut, ap_gTupH, ap_fmt, ap_jsn, ap_jsc, ap_gcd, ap_isqrt, ap_ixL, tyV_l, wipe_nil, wipe_cons, upd_same, ap_iEnT, ap_iEnL, ap_iZipA, ap_all, ap_tupT, ap_lenSetT, ap_slI, ap_catI, ap_perm, ap_lenO, ap_strO, ap_listO, ap_reprB, ap_iterT, ap_neT, ap_negO, ap_binI, ap_catL, ap_tM1, ap_repTI, ap_popN, ap_par3, ap_catTT, ap_countT, ap_notInT, ap_repL1, ap_shl, ap_shr, ap_mask, ap_comb, ap_bits, ap_rng3, List.set_cons_zero, List.set_cons_succ, List.getElem?_cons_zero, List.getElem?_cons_succ, List.cons_append, List.nil_append, List.append_nil, Option.some.injEq, V.int.injEq, V.ref.injEq, V.bl.injEq, V.str.injEq, V.ty.injEq, Bool.not_true, Bool.not_false, HO.lst.injEq, HO.tup.injEq, reduceCtorEq, Int.reduceToNat, Int.reduceLT, Int.reduceLE, Nat.reduceAdd, Int.cast_ofNat_Int, gi_c0, gi_c1, gi_c2, gi_c3, Int.natCast_inj, map_int_inj, map_nil_iff, List.cons.injEq, exists_eq_left, exists_eq_left', exists_eq, exists_eq', exists_and_left, exists_and_right, exists_const, and_assoc, and_true, true_and, and_false, false_and, or_false, false_or, or_true, true_or, ite_true, ite_false, if_true, if_false, Bool.false_eq_true, own_cons, own_nil, le1, le2, le3, le4, me_cons, me_nil, List.length_map, List.length_cons, List.length_nil, ne_eq, not_false_eq_true, not_true_eq_false, decide_eq_true_eq]
      rw [if_pos (by omega), decide_eq_true (by omega)]
      exact hq _ (Same.refl _)
    · refine ⟨D, rfl, [true, true], sqL_of eD, ?_⟩
      have hu2 := sm _ _ hu1
      rw [if_neg (by simp)]
      refine ⟨u, _, rfl, hu2, fun H2 s2 => ?_⟩
      have hu3 := s2 _ _ hu2
      have S := s1.trans (sm.trans s2)
      rcases one with rfl | ⟨rfl, rfl⟩
      · have e : leadV [1, y] = .int ((0 : Nat) : Int) := leadV_some (by simp) rfl (by decide)
        rw [e]
        refine ⟨0, rfl, _, hu3, by decide, by show (0 : Int) < 2; decide, rfl, ?_⟩
        exact k _ S
      · have e : leadV [0, 1] = .int ((1 : Nat) : Int) := leadV_some (by simp) rfl (by decide)
        rw [e]
        refine ⟨1, rfl, _, hu3, by decide, by show (1 : Int) < 2; decide, rfl, ?_⟩
        exact k _ S
def sp_need_prime_point : Sp := fun vs H Q _ => ∃ (u : Addr) (x y p : Int), vs = [.ref u, .int p] ∧ H u = some (TI [x, y]) ∧ PtP p x y ∧ 1 < p ∧ p < 1000 ∧ ∀ H', Same H H' → Q .non H'
theorem ok_need_prime_point (T : Tx K mg) : FnOk P w K mg base CX0 5 T.f_need_prime_point T.d_need_prime_point p_need_prime_point sp_need_prime_point := by
  refine T.F_need_prime_point.ok sc_need_prime_point (fun vs H Q E h => ?_) (fun cdv A outer s H vs Q E hr h => ?_)
  · obtain ⟨u, x, y, p, rfl, _⟩ := h
    rfl
  · obtain ⟨u, x, y, p, rfl, hu, hpt, p0, p1, k⟩ := h
    refine ⟨_, (pss_one (ps_if (pt_not (pt_val (pe_call (ok_is_prime_point T) (hr.mono (by decide)) (by rfl) T.m_is_prime_point T.F_is_prime_point.kp T.b_is_prime_point .nil pass0 (pa_cons (pv 0) (pa_cons (pv 1) pa_nil))))) (pss_one ps_never) pss_nil)), ?_⟩
    rw [st_need_prime_point]
    simp only [ap_seq, ap_next, ap_asg, ap_gName, ap_ret, ap_retN, ap_drop, ap_ifS, ap_break, ap_cont, ap_par, ap_aug, ap_ip, ap_gSub, ap_gTup, ap_gNil, ap_gCons, ap_var, ap_c, ap_op, ap_un, ap_if, ap_test, ap_B, ap_and, ap_or, ap_not, ap_andV, ap_orV, ap_notV, ap_nil, ap_cons, ap_tup, ap_lst, ap_cb, ap_bm, ap_call, ap_chain, ap_rI, ap_rI0, ap_rU, ap_rEq, ap_rNe, ap_revT, ap_sl, ap_part, ap_noPart, ap_ixLI, ap_ixTI, ap_ixLV, ap_ixTV, ap_len, ap_setLI, ap_setLV, ap_appI, ap_appV, ap_tupL, ap_listS, ap_sumLI, ap_sumTI, ap_repLI, ap_intI, ap_intB, ap_eqTI, ap_neTI, ap_eqLI, ap_neLI, ap_isi, ap_for, ap_rng1, ap_rng2, ap_iList, ap_iTup, ap_lc, ap_yes, ap_cut, ap_gTupH, ap_fmt, ap_jsn, ap_jsc, ap_gcd, ap_isqrt, ap_ixL, tyV_l, wipe_nil, wipe_cons, upd_same, ap_iEnT, ap_iEnL, ap_iZipA, ap_all, ap_tupT, ap_lenSetT, ap_slI, ap_catI, ap_perm, ap_lenO, ap_strO, ap_listO, ap_reprB, ap_iterT, ap_neT, ap_negO, ap_binI, ap_catL, ap_tM1, ap_repTI, ap_popN, ap_par3, ap_catTT, ap_countT, ap_notInT, ap_repL1, ap_shl, ap_shr, ap_mask, ap_comb, ap_bits, ap_rng3, List.set_cons_zero, List.set_cons_succ, List.getElem?_cons_zero, List.getElem?_cons_succ, List.cons_append, List.nil_append, List.append_nil, Option.some.injEq, V.int.injEq, V.ref.injEq, V.bl.injEq, V.str.injEq, V.ty.injEq, Bool.not_true, Bool.not_false, HO.lst.injEq, HO.tup.injEq, reduceCtorEq, Int.reduceToNat, Int.reduceLT, Int.reduceLE, Nat.reduceAdd, Int.cast_ofNat_Int, gi_c0, gi_c1, gi_c2, gi_c3, Int.natCast_inj, map_int_inj, map_nil_iff, List.cons.injEq, exists_eq_left, exists_eq_left', exists_eq, exists_eq', exists_and_left, exists_and_right, exists_const, and_assoc, and_true, true_and, and_false, false_and, or_false, false_or, or_true, true_or, ite_true, ite_false, if_true, if_false, Bool.false_eq_true, own_cons, own_nil, le1, le2, le3, le4, me_cons, me_nil, List.length_map, List.length_cons, List.length_nil, ne_eq, not_false_eq_true, not_true_eq_false, decide_eq_true_eq, sp_is_prime_point]
    refine ⟨x, y, hu, hpt, p0, p1, fun H1 s1 => ?_⟩
    exact k H1 s1
def sp_need_prime_table : Sp := fun vs H Q _ => ∃ (t : Addr) (a b c d p : Int), vs = [.ref t, .int p] ∧ TabAt H t a b c d ∧ T4 a b c d ∧ (a * d - b * c) % p ≠ 0 ∧ 1 < p ∧ p < 1000 ∧ ∀ H', Same H H' → Q .non H'
theorem ok_need_prime_table (T : Tx K mg) : FnOk P w K mg base CX0 5 T.f_need_prime_table T.d_need_prime_table p_need_prime_table sp_need_prime_table := by
  refine T.F_need_prime_table.ok sc_need_prime_table (fun vs H Q E h => ?_) (fun cdv A outer s H vs Q E hr h => ?_)
  · obtain ⟨t, a, b, c, d, p, rfl, _⟩ := h
    rfl
  · obtain ⟨t, a, b, c, d, p, rfl, ht, h4, hd, p0, p1, k⟩ := h
    refine ⟨_, (pss_one (ps_if (PW.pt (pw_or (pt_not (pt_val (pe_call (ok_is_change T) (hr.mono (by decide)) (by rfl) T.m_is_change T.F_is_change.kp T.b_is_change .nil pass0 (pa_cons (pv 0) pa_nil)))) (pw_or1 (pt_cmpR op_eq (pe_op op_mod (pe_call (ok_determinant_of T) (hr.mono (by decide)) (by rfl) T.m_determinant_of T.F_determinant_of.kp T.b_determinant_of .nil pass0 (pa_cons (pv 0) pa_nil)) (pv 1)) pe_int (nomark _))))) (pss_one ps_never) pss_nil)), ?_⟩
    rw [st_need_prime_table]
    simp only [ap_seq, ap_next, ap_asg, ap_gName, ap_ret, ap_retN, ap_drop, ap_ifS, ap_break, ap_cont, ap_par, ap_aug, ap_ip, ap_gSub, ap_gTup, ap_gNil, ap_gCons, ap_var, ap_c, ap_op, ap_un, ap_if, ap_test, ap_B, ap_and, ap_or, ap_not, ap_andV, ap_orV, ap_notV, ap_nil, ap_cons, ap_tup, ap_lst, ap_cb, ap_bm, ap_call, ap_chain, ap_rI, ap_rI0, ap_rU, ap_rEq, ap_rNe, ap_revT, ap_sl, ap_part, ap_noPart, ap_ixLI, ap_ixTI, ap_ixLV, ap_ixTV, ap_len, ap_setLI, ap_setLV, ap_appI, ap_appV, ap_tupL, ap_listS, ap_sumLI, ap_sumTI, ap_repLI, ap_intI, ap_intB, ap_eqTI, ap_neTI, ap_eqLI, ap_neLI, ap_isi, ap_for, ap_rng1, ap_rng2, ap_iList, ap_iTup, ap_lc, ap_yes, ap_cut, ap_gTupH, ap_fmt, ap_jsn, ap_jsc, ap_gcd, ap_isqrt, ap_ixL, tyV_l, wipe_nil, wipe_cons, upd_same, ap_iEnT, ap_iEnL, ap_iZipA, ap_all, ap_tupT, ap_lenSetT, ap_slI, ap_catI, ap_perm, ap_lenO, ap_strO, ap_listO, ap_reprB, ap_iterT, ap_neT, ap_negO, ap_binI, ap_catL, ap_tM1, ap_repTI, ap_popN, ap_par3, ap_catTT, ap_countT, ap_notInT, ap_repL1, ap_shl, ap_shr, ap_mask, ap_comb, ap_bits, ap_rng3, List.set_cons_zero, List.set_cons_succ, List.getElem?_cons_zero, List.getElem?_cons_succ, List.cons_append, List.nil_append, List.append_nil, Option.some.injEq, V.int.injEq, V.ref.injEq, V.bl.injEq, V.str.injEq, V.ty.injEq, Bool.not_true, Bool.not_false, HO.lst.injEq, HO.tup.injEq, reduceCtorEq, Int.reduceToNat, Int.reduceLT, Int.reduceLE, Nat.reduceAdd, Int.cast_ofNat_Int, gi_c0, gi_c1, gi_c2, gi_c3, Int.natCast_inj, map_int_inj, map_nil_iff, List.cons.injEq, exists_eq_left, exists_eq_left', exists_eq, exists_eq', exists_and_left, exists_and_right, exists_const, and_assoc, and_true, true_and, and_false, false_and, or_false, false_or, or_true, true_or, ite_true, ite_false, if_true, if_false, Bool.false_eq_true, own_cons, own_nil, le1, le2, le3, le4, me_cons, me_nil, List.length_map, List.length_cons, List.length_nil, ne_eq, not_false_eq_true, not_true_eq_false, decide_eq_true_eq, sp_is_change, sp_determinant_of]
    refine ⟨a, b, c, d, ht, h4.a.sm, h4.b.sm, h4.c.sm, h4.d.sm, fun H1 s1 => ⟨a, b, c, d, ht.same s1, h4.a.sm, h4.b.sm, h4.c.sm, h4.d.sm, by omega, rfl, ?_⟩⟩
    rw [if_neg hd]
    exact k H1 s1
def sp_led_point : Sp := fun vs H Q _ => ∃ (p : Int) (t u : Addr) (a b c d x y : Int), vs = [.int p, .ref t, .ref u] ∧ p ∈ primes ∧ TabAt H t a b c d ∧ T4 a b c d ∧ (a * d - b * c) % p ≠ 0 ∧ H u = some (TI [x, y]) ∧ PtP p x y ∧
  ∀ H' r, Same H H' → H' r = some (TI (ledP p a b c d x y)) → Q (.ref r) H'
theorem ok_led_point (T : Tx K mg) : FnOk P w K mg base CX0 6 T.f_led_point T.d_led_point p_led_point sp_led_point := by
  refine T.F_led_point.ok sc_led_point (fun vs H Q E h => ?_) (fun cdv A outer s H vs Q E hr h => ?_)
  · obtain ⟨p, t, u, a, b, c, d, x, y, rfl, _⟩ := h
    rfl
  · obtain ⟨p, t, u, a, b, c, d, x, y, rfl, hp, ht, h4, hd, hu, hpt, k⟩ := h
    refine ⟨_, (pss_cons (ps_expr (pe_call (ok_need_prime T) (hr.mono (by decide)) (by rfl) T.m_need_prime T.F_need_prime.kp T.b_need_prime .nil pass0 (pa_cons (pv 0) pa_nil)))
      (pss_cons (ps_expr (pe_call (ok_need_prime_table T) (hr.mono (by decide)) (by rfl) T.m_need_prime_table T.F_need_prime_table.kp T.b_need_prime_table .nil pass0 (pa_cons (pv 1) (pa_cons (pv 0) pa_nil))))
      (pss_cons (ps_expr (pe_call (ok_need_prime_point T) (hr.mono (by decide)) (by rfl) T.m_need_prime_point T.F_need_prime_point.kp T.b_need_prime_point .nil pass0 (pa_cons (pv 2) (pa_cons (pv 0) pa_nil))))
      (pss_one (ps_ret (pe_call (ok_led_row T) (hr.mono (by decide)) (by rfl) T.m_led_row T.F_led_row.kp T.b_led_row .nil pass0 (pa_cons (pv 1) (pa_cons (pv 2) (pa_cons (pv 0) pa_nil))))))))), ?_⟩
    rw [st_led_point]
    simp only [ap_seq, ap_next, ap_asg, ap_gName, ap_ret, ap_retN, ap_drop, ap_ifS, ap_break, ap_cont, ap_par, ap_aug, ap_ip, ap_gSub, ap_gTup, ap_gNil, ap_gCons, ap_var, ap_c, ap_op, ap_un, ap_if, ap_test, ap_B, ap_and, ap_or, ap_not, ap_andV, ap_orV, ap_notV, ap_nil, ap_cons, ap_tup, ap_lst, ap_cb, ap_bm, ap_call, ap_chain, ap_rI, ap_rI0, ap_rU, ap_rEq, ap_rNe, ap_revT, ap_sl, ap_part, ap_noPart, ap_ixLI, ap_ixTI, ap_ixLV, ap_ixTV, ap_len, ap_setLI, ap_setLV, ap_appI, ap_appV, ap_tupL, ap_listS, ap_sumLI, ap_sumTI, ap_repLI, ap_intI, ap_intB, ap_eqTI, ap_neTI, ap_eqLI, ap_neLI, ap_isi, ap_for, ap_rng1, ap_rng2, ap_iList, ap_iTup, ap_lc, ap_yes, ap_cut, ap_gTupH, ap_fmt, ap_jsn, ap_jsc, ap_gcd, ap_isqrt, ap_ixL, tyV_l, wipe_nil, wipe_cons, upd_same, ap_iEnT, ap_iEnL, ap_iZipA, ap_all, ap_tupT, ap_lenSetT, ap_slI, ap_catI, ap_perm, ap_lenO, ap_strO, ap_listO, ap_reprB, ap_iterT, ap_neT, ap_negO, ap_binI, ap_catL, ap_tM1, ap_repTI, ap_popN, ap_par3, ap_catTT, ap_countT, ap_notInT, ap_repL1, ap_shl, ap_shr, ap_mask, ap_comb, ap_bits, ap_rng3, List.set_cons_zero, List.set_cons_succ, List.getElem?_cons_zero, List.getElem?_cons_succ, List.cons_append, List.nil_append, List.append_nil, Option.some.injEq, V.int.injEq, V.ref.injEq, V.bl.injEq, V.str.injEq, V.ty.injEq, Bool.not_true, Bool.not_false, HO.lst.injEq, HO.tup.injEq, reduceCtorEq, Int.reduceToNat, Int.reduceLT, Int.reduceLE, Nat.reduceAdd, Int.cast_ofNat_Int, gi_c0, gi_c1, gi_c2, gi_c3, Int.natCast_inj, map_int_inj, map_nil_iff, List.cons.injEq, exists_eq_left, exists_eq_left', exists_eq, exists_eq', exists_and_left, exists_and_right, exists_const, and_assoc, and_true, true_and, and_false, false_and, or_false, false_or, or_true, true_or, ite_true, ite_false, if_true, if_false, Bool.false_eq_true, own_cons, own_nil, le1, le2, le3, le4, me_cons, me_nil, List.length_map, List.length_cons, List.length_nil, ne_eq, not_false_eq_true, not_true_eq_false, decide_eq_true_eq]
    have pb := primes_bd hp
    refine ⟨p, rfl, hp, t, a, b, c, d, p, rfl, ht, h4, hd, by omega, by omega, fun H1 s1 => ?_⟩
    refine ⟨u, x, y, p, rfl, s1 _ _ hu, hpt, by omega, by omega, fun H2 s2 => ?_⟩
    exact ⟨t, u, a, b, c, d, x, y, p, rfl, ht.same (s1.trans s2), s2 _ _ (s1 _ _ hu), h4, hpt, by omega, by omega, fun H3 r s3 er => k H3 r (s1.trans (s2.trans s3)) er⟩
def sp_plain_table : Sp := fun vs H Q _ => ∃ (p : Int) (t : Addr) (a b c d : Int), vs = [.int p, .ref t] ∧ p ∈ primes ∧ TabAt H t a b c d ∧ T4 a b c d ∧ (a * d - b * c) % p ≠ 0 ∧
  ∀ H' r a' b' c' d', Same H H' → plain4 p a b c d = [a', b', c', d'] → TabAt H' r a' b' c' d' → Q (.ref r) H'
theorem ok_plain_table (T : Tx K mg) : FnOk P w K mg base CX0 6 T.f_plain_table T.d_plain_table p_plain_table sp_plain_table := by
  refine T.F_plain_table.ok sc_plain_table (fun vs H Q E h => ?_) (fun cdv A outer s H vs Q E hr h => ?_)
  · obtain ⟨p, t, a, b, c, d, rfl, _⟩ := h
    rfl
  · obtain ⟨p, t, a, b, c, d, rfl, hp, ht, h4, hd, k⟩ := h
    refine ⟨_, (pss_cons (ps_expr (pe_call (ok_need_prime T) (hr.mono (by decide)) (by rfl) T.m_need_prime T.F_need_prime.kp T.b_need_prime .nil pass0 (pa_cons (pv 0) pa_nil)))
      (pss_cons (ps_expr (pe_call (ok_need_prime_table T) (hr.mono (by decide)) (by rfl) T.m_need_prime_table T.F_need_prime_table.kp T.b_need_prime_table .nil pass0 (pa_cons (pv 1) (pa_cons (pv 0) pa_nil))))
      (pss_one (ps_ret (pe_call (ok_plain_change T) (hr.mono (by decide)) (by rfl) T.m_plain_change T.F_plain_change.kp T.b_plain_change .nil pass0 (pa_cons (pv 1) (pa_cons (pv 0) pa_nil))))))), ?_⟩
    rw [st_plain_table]
    simp only [ap_seq, ap_next, ap_asg, ap_gName, ap_ret, ap_retN, ap_drop, ap_ifS, ap_break, ap_cont, ap_par, ap_aug, ap_ip, ap_gSub, ap_gTup, ap_gNil, ap_gCons, ap_var, ap_c, ap_op, ap_un, ap_if, ap_test, ap_B, ap_and, ap_or, ap_not, ap_andV, ap_orV, ap_notV, ap_nil, ap_cons, ap_tup, ap_lst, ap_cb, ap_bm, ap_call, ap_chain, ap_rI, ap_rI0, ap_rU, ap_rEq, ap_rNe, ap_revT, ap_sl, ap_part, ap_noPart, ap_ixLI, ap_ixTI, ap_ixLV, ap_ixTV, ap_len, ap_setLI, ap_setLV, ap_appI, ap_appV, ap_tupL, ap_listS, ap_sumLI, ap_sumTI, ap_repLI, ap_intI, ap_intB, ap_eqTI, ap_neTI, ap_eqLI, ap_neLI, ap_isi, ap_for, ap_rng1, ap_rng2, ap_iList, ap_iTup, ap_lc, ap_yes, ap_cut, ap_gTupH, ap_fmt, ap_jsn, ap_jsc, ap_gcd, ap_isqrt, ap_ixL, tyV_l, wipe_nil, wipe_cons, upd_same, ap_iEnT, ap_iEnL, ap_iZipA, ap_all, ap_tupT, ap_lenSetT, ap_slI, ap_catI, ap_perm, ap_lenO, ap_strO, ap_listO, ap_reprB, ap_iterT, ap_neT, ap_negO, ap_binI, ap_catL, ap_tM1, ap_repTI, ap_popN, ap_par3, ap_catTT, ap_countT, ap_notInT, ap_repL1, ap_shl, ap_shr, ap_mask, ap_comb, ap_bits, ap_rng3, List.set_cons_zero, List.set_cons_succ, List.getElem?_cons_zero, List.getElem?_cons_succ, List.cons_append, List.nil_append, List.append_nil, Option.some.injEq, V.int.injEq, V.ref.injEq, V.bl.injEq, V.str.injEq, V.ty.injEq, Bool.not_true, Bool.not_false, HO.lst.injEq, HO.tup.injEq, reduceCtorEq, Int.reduceToNat, Int.reduceLT, Int.reduceLE, Nat.reduceAdd, Int.cast_ofNat_Int, gi_c0, gi_c1, gi_c2, gi_c3, Int.natCast_inj, map_int_inj, map_nil_iff, List.cons.injEq, exists_eq_left, exists_eq_left', exists_eq, exists_eq', exists_and_left, exists_and_right, exists_const, and_assoc, and_true, true_and, and_false, false_and, or_false, false_or, or_true, true_or, ite_true, ite_false, if_true, if_false, Bool.false_eq_true, own_cons, own_nil, le1, le2, le3, le4, me_cons, me_nil, List.length_map, List.length_cons, List.length_nil, ne_eq, not_false_eq_true, not_true_eq_false, decide_eq_true_eq]
    have pb := primes_bd hp
    refine ⟨p, rfl, hp, t, a, b, c, d, p, rfl, ht, h4, hd, by omega, by omega, fun H1 s1 => ?_⟩
    refine ⟨t, a, b, c, d, p, rfl, ht.same s1, fun n hn => ?_, by omega, by omega, fun H2 r a' b' c' d' s2 e er => k H2 r a' b' c' d' (s1.trans s2) e er⟩
    have e1 := h4.a
    have e2 := h4.b
    have e3 := h4.c
    have e4 := h4.d
    unfold Tn at e1 e2 e3 e4
    simp only [List.mem_cons, List.not_mem_nil, or_false] at hn
    rcases hn with rfl | rfl | rfl | rfl <;> omega
def sp_need_three : Sp := fun vs H Q _ => ∃ (l u1 u2 u3 : Addr) (x1 y1 x2 y2 x3 y3 p : Int), vs = [.ref l, .int p] ∧ H l = some (.tup [.ref u1, .ref u2, .ref u3]) ∧ H u1 = some (TI [x1, y1]) ∧ H u2 = some (TI [x2, y2]) ∧ H u3 = some (TI [x3, y3]) ∧
  PtP p x1 y1 ∧ PtP p x2 y2 ∧ PtP p x3 y3 ∧ [x1, y1] ≠ [x2, y2] ∧ [x1, y1] ≠ [x3, y3] ∧ [x2, y2] ≠ [x3, y3] ∧ 1 < p ∧ p < 1000 ∧ ∀ H', Same H H' → Q .non H'
theorem ok_need_three (T : Tx K mg) : FnOk P w K mg base CX0 6 T.f_need_three T.d_need_three p_need_three sp_need_three := by
  refine T.F_need_three.ok sc_need_three (fun vs H Q E h => ?_) (fun cdv A outer s H vs Q E hr h => ?_)
  · obtain ⟨l, u1, u2, u3, x1, y1, x2, y2, x3, y3, p, rfl, _⟩ := h
    rfl
  · obtain ⟨l, u1, u2, u3, x1, y1, x2, y2, x3, y3, p, rfl, hl, h1, h2, h3, q1, q2, q3, n12, n13, n23, p0, p1, k⟩ := h
    refine ⟨_, (pss_cons (ps_if (PW.pt (pw_or (pt_not (pt_val (pe_callB cr_isiS (by rfl) T.z_isinstance (by decide +kernel) (pa_cons (pv 0) (pa_cons (pe_bltn (v := .ty "tuple") (by rfl) T.z_tuple (by decide +kernel) rfl) pa_nil))))) (pw_or1 (pt_cmpR op_ne (pe_callB cr_len (by rfl) T.z_len PySem.boot_len (pa_cons (pv 0) pa_nil)) pe_int (nomark _))))) (pss_one ps_never) pss_nil)
      (pss_cons (ps_for PassesOwn.never rfl (pi_tup (pv 0)) (pg_name (i := 2) sc_need_three.nd rfl (by first | exact .inl rfl | exact .inr rfl))
      (pss_one (ps_expr (pe_call (ok_need_prime_point T) (hr.mono (by decide)) (by rfl) T.m_need_prime_point T.F_need_prime_point.kp T.b_need_prime_point .nil pass0 (pa_cons (pv 2) (pa_cons (pv 1) pa_nil))))))
      (pss_one (ps_if (PW.pt (pw_or (pt_cmpR (op_eqTI hr.units) (pe_ix ix_TV (pv 0) pe_int (fun _ _ => rfl)) (pe_ix ix_TV (pv 0) pe_int (fun _ _ => rfl)) (nomark _)) (pw_or (pt_cmpR (op_eqTI hr.units) (pe_ix ix_TV (pv 0) pe_int (fun _ _ => rfl)) (pe_ix ix_TV (pv 0) pe_int (fun _ _ => rfl)) (nomark _)) (pw_or1 (pt_cmpR (op_eqTI hr.units) (pe_ix ix_TV (pv 0) pe_int (fun _ _ => rfl)) (pe_ix ix_TV (pv 0) pe_int (fun _ _ => rfl)) (nomark _)))))) (pss_one ps_never) pss_nil)))), ?_⟩
    rw [st_need_three]
    simp only [ap_seq, ap_next, ap_asg, ap_gName, ap_ret, ap_retN, ap_drop, ap_ifS, ap_break, ap_cont, ap_par, ap_aug, ap_ip, ap_gSub, ap_gTup, ap_gNil, ap_gCons, ap_var, ap_c, ap_op, ap_un, ap_if, ap_test, ap_B, ap_and, ap_or, ap_not, ap_andV, ap_orV, ap_notV, ap_nil, ap_cons, ap_tup, ap_lst, ap_cb, ap_bm, ap_call, ap_chain, ap_rI, ap_rI0, ap_rU, ap_rEq, ap_rNe, ap_revT, ap_sl, ap_part, ap_noPart, ap_ixLI, ap_ixTI, ap_ixLV, ap_ixTV, ap_len, ap_setLI, ap_setLV, ap_appI, ap_appV, ap_tupL, ap_listS, ap_sumLI, ap_sumTI, ap_repLI, ap_intI, ap_intB, ap_eqTI, ap_neTI, ap_eqLI, ap_neLI, ap_isi, ap_for, ap_rng1, ap_rng2, ap_iList, ap_iTup, ap_lc, ap_yes, ap_cut, ap_gTupH, ap_fmt, ap_jsn, ap_jsc, ap_gcd, ap_isqrt, ap_ixL, tyV_l, wipe_nil, wipe_cons, upd_same, ap_iEnT, ap_iEnL, ap_iZipA, ap_all, ap_tupT, ap_lenSetT, ap_slI, ap_catI, ap_perm, ap_lenO, ap_strO, ap_listO, ap_reprB, ap_iterT, ap_neT, ap_negO, ap_binI, ap_catL, ap_tM1, ap_repTI, ap_popN, ap_par3, ap_catTT, ap_countT, ap_notInT, ap_repL1, ap_shl, ap_shr, ap_mask, ap_comb, ap_bits, ap_rng3, List.set_cons_zero, List.set_cons_succ, List.getElem?_cons_zero, List.getElem?_cons_succ, List.cons_append, List.nil_append, List.append_nil, Option.some.injEq, V.int.injEq, V.ref.injEq, V.bl.injEq, V.str.injEq, V.ty.injEq, Bool.not_true, Bool.not_false, HO.lst.injEq, HO.tup.injEq, reduceCtorEq, Int.reduceToNat, Int.reduceLT, Int.reduceLE, Nat.reduceAdd, Int.cast_ofNat_Int, gi_c0, gi_c1, gi_c2, gi_c3, Int.natCast_inj, map_int_inj, map_nil_iff, List.cons.injEq, exists_eq_left, exists_eq_left', exists_eq, exists_eq', exists_and_left, exists_and_right, exists_const, and_assoc, and_true, true_and, and_false, false_and, or_false, false_or, or_true, true_or, ite_true, ite_false, if_true, if_false, Bool.false_eq_true, own_cons, own_nil, le1, le2, le3, le4, me_cons, me_nil, List.length_map, List.length_cons, List.length_nil, ne_eq, not_false_eq_true, not_true_eq_false, decide_eq_true_eq]
    have hty := ty_tup hl
    refine ⟨_, hty, _, kit_tt, ?_⟩
    rw [if_neg (by simp)]
    refine ⟨_, .inr hl, rfl, ?_⟩
    rw [if_neg (by simp)]
    refine ⟨⟨_, sqT_of hl⟩, loop_tup (xs := [.ref u1, .ref u2, .ref u3]) (fun i σ' H' => Same H H' ∧ ∃ y, σ' = [some (.ref l), some (.int p), y]) ⟨Same.refl H, _, rfl⟩ (fun i σ' H' hi hP => sqT_of (hP.1 _ _ hl)) (fun i v σ' H1 hx hP => ?_) (fun σ' H1 hP => ?_)⟩
    · obtain ⟨sm, y, e⟩ := hP
      subst e
      have hv : v = .ref u1 ∨ v = .ref u2 ∨ v = .ref u3 := by simpa using List.mem_of_getElem? hx
      rcases hv with rfl | rfl | rfl
      · simp only [ap_seq, ap_next, ap_asg, ap_gName, ap_ret, ap_retN, ap_drop, ap_ifS, ap_break, ap_cont, ap_par, ap_aug, ap_ip, ap_gSub, ap_gTup, ap_gNil, ap_gCons, ap_var, ap_c, ap_op, ap_un, ap_if, ap_test, ap_B, ap_and, ap_or, ap_not, ap_andV, ap_orV, ap_notV, ap_nil, ap_cons, ap_tup, ap_lst, ap_cb, ap_bm, ap_call, ap_chain, ap_rI, ap_rI0, ap_rU, ap_rEq, ap_rNe, ap_revT, ap_sl, ap_part, ap_noPart, ap_ixLI, ap_ixTI, ap_ixLV, ap_ixTV, ap_len, ap_setLI, ap_setLV, ap_appI, ap_appV, ap_tupL, ap_listS, ap_sumLI, ap_sumTI, ap_repLI, ap_intI, ap_intB, ap_eqTI, ap_neTI, ap_eqLI, ap_neLI, ap_isi, ap_for, ap_rng1, ap_rng2, ap_iList, ap_iTup, ap_lc, ap_yes, ap_cut, ap_gTupH, ap_fmt, ap_jsn, ap_jsc, ap_gcd, ap_isqrt, ap_ixL, tyV_l, wipe_nil, wipe_cons, upd_same, ap_iEnT, ap_iEnL, ap_iZipA, ap_all, ap_tupT, ap_lenSetT, ap_slI, ap_catI, ap_perm, ap_lenO, ap_strO, ap_listO, ap_reprB, ap_iterT, ap_neT, ap_negO, ap_binI, ap_catL, ap_tM1, ap_repTI, ap_popN, ap_par3, ap_catTT, ap_countT, ap_notInT, ap_repL1, ap_shl, ap_shr, ap_mask, ap_comb, ap_bits, ap_rng3, List.set_cons_zero, List.set_cons_succ, List.getElem?_cons_zero, List.getElem?_cons_succ, List.cons_append, List.nil_append, List.append_nil, Option.some.injEq, V.int.injEq, V.ref.injEq, V.bl.injEq, V.str.injEq, V.ty.injEq, Bool.not_true, Bool.not_false, HO.lst.injEq, HO.tup.injEq, reduceCtorEq, Int.reduceToNat, Int.reduceLT, Int.reduceLE, Nat.reduceAdd, Int.cast_ofNat_Int, gi_c0, gi_c1, gi_c2, gi_c3, Int.natCast_inj, map_int_inj, map_nil_iff, List.cons.injEq, exists_eq_left, exists_eq_left', exists_eq, exists_eq', exists_and_left, exists_and_right, exists_const, and_assoc, and_true, true_and, and_false, false_and, or_false, false_or, or_true, true_or, ite_true, ite_false, if_true, if_false, Bool.false_eq_true, own_cons, own_nil, le1, le2, le3, le4, me_cons, me_nil, List.length_map, List.length_cons, List.length_nil, ne_eq, not_false_eq_true, not_true_eq_false, decide_eq_true_eq, sp_need_prime_point]
        exact ⟨x1, y1, sm _ _ h1, q1, p0, p1, fun H2 s2 => sm.trans s2⟩
      · simp only [ap_seq, ap_next, ap_asg, ap_gName, ap_ret, ap_retN, ap_drop, ap_ifS, ap_break, ap_cont, ap_par, ap_aug, ap_ip, ap_gSub, ap_gTup, ap_gNil, ap_gCons, ap_var, ap_c, ap_op, ap_un, ap_if, ap_test, ap_B, ap_and, ap_or, ap_not, ap_andV, ap_orV, ap_notV, ap_nil, ap_cons, ap_tup, ap_lst, ap_cb, ap_bm, ap_call, ap_chain, ap_rI, ap_rI0, ap_rU, ap_rEq, ap_rNe, ap_revT, ap_sl, ap_part, ap_noPart, ap_ixLI, ap_ixTI, ap_ixLV, ap_ixTV, ap_len, ap_setLI, ap_setLV, ap_appI, ap_appV, ap_tupL, ap_listS, ap_sumLI, ap_sumTI, ap_repLI, ap_intI, ap_intB, ap_eqTI, ap_neTI, ap_eqLI, ap_neLI, ap_isi, ap_for, ap_rng1, ap_rng2, ap_iList, ap_iTup, ap_lc, ap_yes, ap_cut, ap_gTupH, ap_fmt, ap_jsn, ap_jsc, ap_gcd, ap_isqrt, ap_ixL, tyV_l, wipe_nil, wipe_cons, upd_same, ap_iEnT, ap_iEnL, ap_iZipA, ap_all, ap_tupT, ap_lenSetT, ap_slI, ap_catI, ap_perm, ap_lenO, ap_strO, ap_listO, ap_reprB, ap_iterT, ap_neT, ap_negO, ap_binI, ap_catL, ap_tM1, ap_repTI, ap_popN, ap_par3, ap_catTT, ap_countT, ap_notInT, ap_repL1, ap_shl, ap_shr, ap_mask, ap_comb, ap_bits, ap_rng3, List.set_cons_zero, List.set_cons_succ, List.getElem?_cons_zero, List.getElem?_cons_succ, List.cons_append, List.nil_append, List.append_nil, Option.some.injEq, V.int.injEq, V.ref.injEq, V.bl.injEq, V.str.injEq, V.ty.injEq, Bool.not_true, Bool.not_false, HO.lst.injEq, HO.tup.injEq, reduceCtorEq, Int.reduceToNat, Int.reduceLT, Int.reduceLE, Nat.reduceAdd, Int.cast_ofNat_Int, gi_c0, gi_c1, gi_c2, gi_c3, Int.natCast_inj, map_int_inj, map_nil_iff, List.cons.injEq, exists_eq_left, exists_eq_left', exists_eq, exists_eq', exists_and_left, exists_and_right, exists_const, and_assoc, and_true, true_and, and_false, false_and, or_false, false_or, or_true, true_or, ite_true, ite_false, if_true, if_false, Bool.false_eq_true, own_cons, own_nil, le1, le2, le3, le4, me_cons, me_nil, List.length_map, List.length_cons, List.length_nil, ne_eq, not_false_eq_true, not_true_eq_false, decide_eq_true_eq, sp_need_prime_point]
        exact ⟨x2, y2, sm _ _ h2, q2, p0, p1, fun H2 s2 => sm.trans s2⟩
      · simp only [ap_seq, ap_next, ap_asg, ap_gName, ap_ret, ap_retN, ap_drop, ap_ifS, ap_break, ap_cont, ap_par, ap_aug, ap_ip, ap_gSub, ap_gTup, ap_gNil, ap_gCons, ap_var, ap_c, ap_op, ap_un, ap_if, ap_test, ap_B, ap_and, ap_or, ap_not, ap_andV, ap_orV, ap_notV, ap_nil, ap_cons, ap_tup, ap_lst, ap_cb, ap_bm, ap_call, ap_chain, ap_rI, ap_rI0, ap_rU, ap_rEq, ap_rNe, ap_revT, ap_sl, ap_part, ap_noPart, ap_ixLI, ap_ixTI, ap_ixLV, ap_ixTV, ap_len, ap_setLI, ap_setLV, ap_appI, ap_appV, ap_tupL, ap_listS, ap_sumLI, ap_sumTI, ap_repLI, ap_intI, ap_intB, ap_eqTI, ap_neTI, ap_eqLI, ap_neLI, ap_isi, ap_for, ap_rng1, ap_rng2, ap_iList, ap_iTup, ap_lc, ap_yes, ap_cut, ap_gTupH, ap_fmt, ap_jsn, ap_jsc, ap_gcd, ap_isqrt, ap_ixL, tyV_l, wipe_nil, wipe_cons, upd_same, ap_iEnT, ap_iEnL, ap_iZipA, ap_all, ap_tupT, ap_lenSetT, ap_slI, ap_catI, ap_perm, ap_lenO, ap_strO, ap_listO, ap_reprB, ap_iterT, ap_neT, ap_negO, ap_binI, ap_catL, ap_tM1, ap_repTI, ap_popN, ap_par3, ap_catTT, ap_countT, ap_notInT, ap_repL1, ap_shl, ap_shr, ap_mask, ap_comb, ap_bits, ap_rng3, List.set_cons_zero, List.set_cons_succ, List.getElem?_cons_zero, List.getElem?_cons_succ, List.cons_append, List.nil_append, List.append_nil, Option.some.injEq, V.int.injEq, V.ref.injEq, V.bl.injEq, V.str.injEq, V.ty.injEq, Bool.not_true, Bool.not_false, HO.lst.injEq, HO.tup.injEq, reduceCtorEq, Int.reduceToNat, Int.reduceLT, Int.reduceLE, Nat.reduceAdd, Int.cast_ofNat_Int, gi_c0, gi_c1, gi_c2, gi_c3, Int.natCast_inj, map_int_inj, map_nil_iff, List.cons.injEq, exists_eq_left, exists_eq_left', exists_eq, exists_eq', exists_and_left, exists_and_right, exists_const, and_assoc, and_true, true_and, and_false, false_and, or_false, false_or, or_true, true_or, ite_true, ite_false, if_true, if_false, Bool.false_eq_true, own_cons, own_nil, le1, le2, le3, le4, me_cons, me_nil, List.length_map, List.length_cons, List.length_nil, ne_eq, not_false_eq_true, not_true_eq_false, decide_eq_true_eq, sp_need_prime_point]
        exact ⟨x3, y3, sm _ _ h3, q3, p0, p1, fun H2 s2 => sm.trans s2⟩
    · obtain ⟨sm, y, e⟩ := hP
      subst e
      have hl' := sm _ _ hl
      have h1' := sm _ _ h1
      have h2' := sm _ _ h2
      have h3' := sm _ _ h3
      simp only [ap_seq, ap_next, ap_asg, ap_gName, ap_ret, ap_retN, ap_drop, ap_ifS, ap_break, ap_cont, ap_par, ap_aug, ap_ip, ap_gSub, ap_gTup, ap_gNil, ap_gCons, ap_var, ap_c, ap_op, ap_un, ap_if, ap_test, ap_B, ap_and, ap_or, ap_not, ap_andV, ap_orV, ap_notV, ap_nil, ap_cons, ap_tup, ap_lst, ap_cb, ap_bm, ap_call, ap_chain, ap_rI, ap_rI0, ap_rU, ap_rEq, ap_rNe, ap_revT, ap_sl, ap_part, ap_noPart, ap_ixLI, ap_ixTI, ap_ixLV, ap_ixTV, ap_len, ap_setLI, ap_setLV, ap_appI, ap_appV, ap_tupL, ap_listS, ap_sumLI, ap_sumTI, ap_repLI, ap_intI, ap_intB, ap_eqTI, ap_neTI, ap_eqLI, ap_neLI, ap_isi, ap_for, ap_rng1, ap_rng2, ap_iList, ap_iTup, ap_lc, ap_yes, ap_cut, ap_gTupH, ap_fmt, ap_jsn, ap_jsc, ap_gcd, ap_isqrt, ap_ixL, tyV_l, wipe_nil, wipe_cons, upd_same, ap_iEnT, ap_iEnL, ap_iZipA, ap_all, ap_tupT, ap_lenSetT, ap_slI, ap_catI, ap_perm, ap_lenO, ap_strO, ap_listO, ap_reprB, ap_iterT, ap_neT, ap_negO, ap_binI, ap_catL, ap_tM1, ap_repTI, ap_popN, ap_par3, ap_catTT, ap_countT, ap_notInT, ap_repL1, ap_shl, ap_shr, ap_mask, ap_comb, ap_bits, ap_rng3, List.set_cons_zero, List.set_cons_succ, List.getElem?_cons_zero, List.getElem?_cons_succ, List.cons_append, List.nil_append, List.append_nil, Option.some.injEq, V.int.injEq, V.ref.injEq, V.bl.injEq, V.str.injEq, V.ty.injEq, Bool.not_true, Bool.not_false, HO.lst.injEq, HO.tup.injEq, reduceCtorEq, Int.reduceToNat, Int.reduceLT, Int.reduceLE, Nat.reduceAdd, Int.cast_ofNat_Int, gi_c0, gi_c1, gi_c2, gi_c3, Int.natCast_inj, map_int_inj, map_nil_iff, List.cons.injEq, exists_eq_left, exists_eq_left', exists_eq, exists_eq', exists_and_left, exists_and_right, exists_const, and_assoc, and_true, true_and, and_false, false_and, or_false, false_or, or_true, true_or, ite_true, ite_false, if_true, if_false, Bool.false_eq_true, own_cons, own_nil, le1, le2, le3, le4, me_cons, me_nil, List.length_map, List.length_cons, List.length_nil, ne_eq, not_false_eq_true, not_true_eq_false, decide_eq_true_eq, hl', h1', h2', h3']
      refine ⟨_, rfl, _, rfl, u1, rfl, u2, rfl, _, h1', _, h2', ?_⟩
      rw [if_neg n12]
      refine ⟨_, rfl, _, rfl, u1, rfl, u3, rfl, _, h1', _, h3', ?_⟩
      rw [if_neg n13]
      refine ⟨_, rfl, _, rfl, u2, rfl, u3, rfl, _, h2', _, h3', ?_⟩
      rw [if_neg n23]
      exact k H1 sm
end
end My

namespace My
open PySem PySem.Spec PyProof.Rows L2 Pr
section
variable {K : PySem.W.Frag} {σ : L2.St} {H : Hp} {j : Nat} {te : TE} {vs : List Nat} {Q : VK}
/-- a comprehension over a range that gives rows -/
theorem lc_rangeW {lo : Int} {n : Nat} (f : Nat → List Int) (hn : n < 1000000) (hw : ∀ x, wipe ((wipe σ vs).set j (some x)) vs = wipe σ vs)
    (he : ∀ (i : Nat) H', i < n → Same H H' → ∀ Q' : VK, (∀ H'' r, Same H' H'' → H'' r = some (TI (f i)) → Q' (.ref r) H'') → te ((wipe σ vs).set j (some (.int (lo + i)))) H' Q')
    (hq : ∀ p H' rs, H p = none → Same H H' → H' p = some (.lst (rs.map V.ref)) → RowsAt H' rs ((List.range n).map f) → Q (.ref p) H') :
    tLcIn (gName j) tYes te vs σ Q (Itr lo n) H := fun A hA => by
  refine lc_range (g := gName j) (lo := lo) (n := n) (fun i H' => Same H H' ∧ ∃ rs, H' A = some (.lst (rs.map V.ref)) ∧ RowsAt H' rs ((List.range i).map f)) ⟨same_upd hA, [], upd_same, .nil⟩ (fun i H' hi hP => ?_) (fun H' hP => ?_)
  · obtain ⟨sm, rs, eA, hR⟩ := hP
    refine ⟨hw _, he i H' hi sm _ fun H2 r s2 er => ⟨_, s2 _ _ eA, ?_, ?_⟩⟩
    · have := hR.1
      rw [List.length_map, List.length_range] at this
      rw [List.length_map]
      exact sz (by omega)
    · have nrA : r ≠ A := fun e => by
        rw [e, s2 _ _ eA] at er
        cases er
      refine ⟨same_mut (sm.trans s2) hA, rs ++ [r], ?_, ?_⟩
      · rw [upd_same, List.map_append]
        rfl
      · rw [List.range_succ, List.map_append]
        have h1 : RowsAt H2 (rs ++ [r]) ((List.range i).map f ++ [f i]) := (hR.same s2).append (.cons er .nil)
        refine ⟨h1.1, fun k r' ns e1 e2 => ?_⟩
        have h2 := h1.2 k r' ns e1 e2
        rw [upd_ne fun e => ?_]
        · exact h2
        · rw [e, s2 _ _ eA] at h2
          cases h2
  · obtain ⟨sm, rs, eA, hR⟩ := hP
    exact hq A H' rs hA sm eA hR
/-- a comprehension over rows that gives rows -/
theorem lc_rowsM {a : Addr} {rs : List Addr} {nss : List (List Int)} (f : List Int → List Int) (ha : H a = some (.lst (rs.map V.ref))) (hR : RowsAt H rs nss) (hn : rs.length < 1000000) (hw : ∀ x, wipe ((wipe σ vs).set j (some x)) vs = wipe σ vs)
    (he : ∀ (i : Nat) r ns H', nss[i]? = some ns → Same H H' → H' r = some (TI ns) → ∀ Q' : VK, (∀ H'' q, Same H' H'' → H'' q = some (TI (f ns)) → Q' (.ref q) H'') → te ((wipe σ vs).set j (some (.ref r))) H' Q')
    (hq : ∀ p H' qs, H p = none → Same H H' → H' p = some (.lst (qs.map V.ref)) → RowsAt H' qs (nss.map f) → Q (.ref p) H') :
    tLcIn (gName j) tYes te vs σ Q (Itl K a) H := by
  have lr : (rs.map V.ref).length = nss.length := by rw [List.length_map, hR.1]
  refine lc_gen (gives_list (xs := rs.map V.ref)) (fun A i H' => Same H H' ∧ ∃ qs, H' A = some (.lst (qs.map V.ref)) ∧ RowsAt H' qs ((nss.take i).map f))
    (fun A hA => ⟨same_upd hA, [], upd_same, .nil⟩) (fun A i H' _ p => p.1 _ _ ha) (fun A i x H1 H' hA hi p y => ?_) (fun A H' hA p => ?_)
  · obtain ⟨rfl, hx⟩ := y
    obtain ⟨sm, qs, eA, hR'⟩ := p
    have hi2 : i < rs.length := by rw [List.length_map] at hi; exact hi
    have hi3 : i < nss.length := by rw [← hR.1]; exact hi2
    rw [List.getElem?_map, List.getElem?_eq_getElem hi2] at hx
    have ex : x = .ref rs[i] := (Option.some.inj hx).symm
    subst ex
    have er := (hR.same sm).2 i rs[i] nss[i] (List.getElem?_eq_getElem hi2) (List.getElem?_eq_getElem hi3)
    have et : nss.take (i + 1) = nss.take i ++ [nss[i]] := by rw [List.take_succ, List.getElem?_eq_getElem hi3]; rfl
    have lq : qs.length = i := by rw [hR'.1, List.length_map, List.length_take]; omega
    refine ⟨hw _, he i rs[i] nss[i] _ (List.getElem?_eq_getElem hi3) sm er _ fun H2 q s2 eq => ⟨_, s2 _ _ eA, by rw [List.length_map]; exact sz (by omega), same_mut (sm.trans s2) hA, qs ++ [q], ?_, ?_⟩⟩
    · rw [upd_same, List.map_append]
      rfl
    · rw [et, List.map_append]
      have h1 : RowsAt H2 (qs ++ [q]) ((nss.take i).map f ++ [f nss[i]]) := (hR'.same s2).append (.cons eq .nil)
      refine ⟨h1.1, fun k r' ns e1 e2 => ?_⟩
      have h2 := h1.2 k r' ns e1 e2
      rw [upd_ne fun e => ?_]
      · exact h2
      · rw [e, s2 _ _ eA] at h2
        cases h2
  · obtain ⟨sm, qs, eA, hR'⟩ := p
    rw [lr, List.take_length] at hR'
    exact hq A H' qs hA sm eA hR'
/-- a comprehension over a tuple of rows that gives rows -/
theorem lc_rowsMT {a : Addr} {rs : List Addr} {nss : List (List Int)} (f : List Int → List Int) (ha : H a = some (.tup (rs.map V.ref))) (hR : RowsAt H rs nss) (hn : rs.length < 1000000) (hw : ∀ x, wipe ((wipe σ vs).set j (some x)) vs = wipe σ vs)
    (he : ∀ (i : Nat) r ns H', nss[i]? = some ns → Same H H' → H' r = some (TI ns) → ∀ Q' : VK, (∀ H'' q, Same H' H'' → H'' q = some (TI (f ns)) → Q' (.ref q) H'') → te ((wipe σ vs).set j (some (.ref r))) H' Q')
    (hq : ∀ p H' qs, H p = none → Same H H' → H' p = some (.lst (qs.map V.ref)) → RowsAt H' qs (nss.map f) → Q (.ref p) H') :
    tLcIn (gName j) tYes te vs σ Q (Itt K a) H := by
  have lr : (rs.map V.ref).length = nss.length := by rw [List.length_map, hR.1]
  refine lc_gen (gives_tup (xs := rs.map V.ref)) (fun A i H' => Same H H' ∧ ∃ qs, H' A = some (.lst (qs.map V.ref)) ∧ RowsAt H' qs ((nss.take i).map f))
    (fun A hA => ⟨same_upd hA, [], upd_same, .nil⟩) (fun A i H' _ p => p.1 _ _ ha) (fun A i x H1 H' hA hi p y => ?_) (fun A H' hA p => ?_)
  · obtain ⟨rfl, hx⟩ := y
    obtain ⟨sm, qs, eA, hR'⟩ := p
    have hi2 : i < rs.length := by rw [List.length_map] at hi; exact hi
    have hi3 : i < nss.length := by rw [← hR.1]; exact hi2
    rw [List.getElem?_map, List.getElem?_eq_getElem hi2] at hx
    have ex : x = .ref rs[i] := (Option.some.inj hx).symm
    subst ex
    have er := (hR.same sm).2 i rs[i] nss[i] (List.getElem?_eq_getElem hi2) (List.getElem?_eq_getElem hi3)
    have et : nss.take (i + 1) = nss.take i ++ [nss[i]] := by rw [List.take_succ, List.getElem?_eq_getElem hi3]; rfl
    have lq : qs.length = i := by rw [hR'.1, List.length_map, List.length_take]; omega
    refine ⟨hw _, he i rs[i] nss[i] _ (List.getElem?_eq_getElem hi3) sm er _ fun H2 q s2 eq => ⟨_, s2 _ _ eA, by rw [List.length_map]; exact sz (by omega), same_mut (sm.trans s2) hA, qs ++ [q], ?_, ?_⟩⟩
    · rw [upd_same, List.map_append]
      rfl
    · rw [et, List.map_append]
      have h1 : RowsAt H2 (qs ++ [q]) ((nss.take i).map f ++ [f nss[i]]) := (hR'.same s2).append (.cons eq .nil)
      refine ⟨h1.1, fun k r' ns e1 e2 => ?_⟩
      have h2 := h1.2 k r' ns e1 e2
      rw [upd_ne fun e => ?_]
      · exact h2
      · rw [e, s2 _ _ eA] at h2
        cases h2
  · obtain ⟨sm, qs, eA, hR'⟩ := p
    rw [lr, List.take_length] at hR'
    exact hq A H' qs hA sm eA hR'
end
section
variable {P : Program} {w : World} {K : PySem.W.Frag} {mg : Str → Option Value} {base : Heap}
/-- all points of a prime -/
def ptsP (p : Int) : List (List Int) := [0, 1] :: (List.range p.toNat).map fun (b : Nat) => [1, (b : Int)]
def sp_all_points : Sp := fun vs H Q _ => ∃ (p : Int), vs = [.int p] ∧ p ∈ primes ∧
  ∀ H' r rs, Same H H' → H' r = some (.tup (rs.map V.ref)) → RowsAt H' rs (ptsP p) → Q (.ref r) H'
theorem ok_all_points (T : Tx K mg) : FnOk P w K mg base CX0 3 T.f_all_points T.d_all_points p_all_points sp_all_points := by
  refine T.F_all_points.ok sc_all_points (fun vs H Q E h => ?_) (fun cdv A outer s H vs Q E hr h => ?_)
  · obtain ⟨p, rfl, _⟩ := h
    rfl
  · obtain ⟨p, rfl, hp, k⟩ := h
    refine ⟨_, (pss_cons (ps_expr (pe_call (ok_need_prime T) (hr.mono (by decide)) (by rfl) T.m_need_prime T.F_need_prime.kp T.b_need_prime .nil pass0 (pa_cons (pv 0) pa_nil)))
      (pss_one (ps_ret (pe_op op_catTT (pe_tup (pa_cons (pe_tup (pa_cons pe_int (pa_cons pe_int pa_nil))) pa_nil)) (pe_callTy cr_tupL (by rfl) T.z_tuple (by decide +kernel) (pa_cons (pe_lc (own := [("b", 1)]) (g := gName 1) (tt := tYes) rfl sc_all_points.nd (pi_range1 (by rfl) T.z_range (pa_cons (pv 0) pa_nil)) (blkOk_by (N := n_all_points) (sc := defScope s_all_points) (by decide +kernel)) (fun _ _ _ _ _ => (pg_name (i := 1) sc_all_points.nd rfl (by first | exact .inl rfl | exact .inr rfl))) (fun _ _ _ _ _ => pts_nil) (fun _ _ _ _ _ => (pe_tup (pa_cons pe_int (pa_cons (pv 1) pa_nil))))) pa_nil)))))), ?_⟩
    rw [st_all_points]
    simp only [ap_seq, ap_next, ap_asg, ap_gName, ap_ret, ap_retN, ap_drop, ap_ifS, ap_break, ap_cont, ap_par, ap_aug, ap_ip, ap_gSub, ap_gTup, ap_gNil, ap_gCons, ap_var, ap_c, ap_op, ap_un, ap_if, ap_test, ap_B, ap_and, ap_or, ap_not, ap_andV, ap_orV, ap_notV, ap_nil, ap_cons, ap_tup, ap_lst, ap_cb, ap_bm, ap_call, ap_chain, ap_rI, ap_rI0, ap_rU, ap_rEq, ap_rNe, ap_revT, ap_sl, ap_part, ap_noPart, ap_ixLI, ap_ixTI, ap_ixLV, ap_ixTV, ap_len, ap_setLI, ap_setLV, ap_appI, ap_appV, ap_tupL, ap_listS, ap_sumLI, ap_sumTI, ap_repLI, ap_intI, ap_intB, ap_eqTI, ap_neTI, ap_eqLI, ap_neLI, ap_isi, ap_for, ap_rng1, ap_rng2, ap_iList, ap_iTup, ap_lc, ap_yes, ap_cut, ap_gTupH, ap_fmt, ap_jsn, ap_jsc, ap_gcd, ap_isqrt, ap_ixL, tyV_l, wipe_nil, wipe_cons, upd_same, ap_iEnT, ap_iEnL, ap_iZipA, ap_all, ap_tupT, ap_lenSetT, ap_slI, ap_catI, ap_perm, ap_lenO, ap_strO, ap_listO, ap_reprB, ap_iterT, ap_neT, ap_negO, ap_binI, ap_catL, ap_tM1, ap_repTI, ap_popN, ap_par3, ap_catTT, ap_countT, ap_notInT, ap_repL1, ap_shl, ap_shr, ap_mask, ap_comb, ap_bits, ap_rng3, List.set_cons_zero, List.set_cons_succ, List.getElem?_cons_zero, List.getElem?_cons_succ, List.cons_append, List.nil_append, List.append_nil, Option.some.injEq, V.int.injEq, V.ref.injEq, V.bl.injEq, V.str.injEq, V.ty.injEq, Bool.not_true, Bool.not_false, HO.lst.injEq, HO.tup.injEq, reduceCtorEq, Int.reduceToNat, Int.reduceLT, Int.reduceLE, Nat.reduceAdd, Int.cast_ofNat_Int, gi_c0, gi_c1, gi_c2, gi_c3, Int.natCast_inj, map_int_inj, map_nil_iff, List.cons.injEq, exists_eq_left, exists_eq_left', exists_eq, exists_eq', exists_and_left, exists_and_right, exists_const, and_assoc, and_true, true_and, and_false, false_and, or_false, false_or, or_true, true_or, ite_true, ite_false, if_true, if_false, Bool.false_eq_true, own_cons, own_nil, le1, le2, le3, le4, me_cons, me_nil, List.length_map, List.length_cons, List.length_nil, ne_eq, not_false_eq_true, not_true_eq_false, decide_eq_true_eq, sp_need_prime]
    have pb := primes_bd hp
    refine ⟨hp, by decide, fun q nq => ⟨by decide, fun l nl => ⟨by omega, by omega, ?_⟩⟩⟩
    have s1 := same_upd (o := HO.tup [V.int 0, V.int 1]) nq
    have s2 := same_upd (o := HO.tup [V.ref q]) nl
    refine lc_rangeW (fun b => [1, (b : Int)]) (by omega) (fun x => rfl) (fun i H' hi sm Q' k' => ?_) (fun A H' rs nA sm eA hR => ?_)
    · simp only [ap_seq, ap_next, ap_asg, ap_gName, ap_ret, ap_retN, ap_drop, ap_ifS, ap_break, ap_cont, ap_par, ap_aug, ap_ip, ap_gSub, ap_gTup, ap_gNil, ap_gCons, ap_var, ap_c, ap_op, ap_un, ap_if, ap_test, ap_B, ap_and, ap_or, ap_not, ap_andV, ap_orV, ap_notV, ap_nil, ap_cons, ap_tup, ap_lst, ap_cb, ap_bm, ap_call, ap_chain, ap_rI, ap_rI0, ap_rU, ap_rEq, ap_rNe, ap_revT, ap_sl, ap_part, ap_noPart, ap_ixLI, ap_ixTI, ap_ixLV, ap_ixTV, ap_len, ap_setLI, ap_setLV, ap_appI, ap_appV, ap_tupL, ap_listS, ap_sumLI, ap_sumTI, ap_repLI, ap_intI, ap_intB, ap_eqTI, ap_neTI, ap_eqLI, ap_neLI, ap_isi, ap_for, ap_rng1, ap_rng2, ap_iList, ap_iTup, ap_lc, ap_yes, ap_cut, ap_gTupH, ap_fmt, ap_jsn, ap_jsc, ap_gcd, ap_isqrt, ap_ixL, tyV_l, wipe_nil, wipe_cons, upd_same, ap_iEnT, ap_iEnL, ap_iZipA, ap_all, ap_tupT, ap_lenSetT, ap_slI, ap_catI, ap_perm, ap_lenO, ap_strO, ap_listO, ap_reprB, ap_iterT, ap_neT, ap_negO, ap_binI, ap_catL, ap_tM1, ap_repTI, ap_popN, ap_par3, ap_catTT, ap_countT, ap_notInT, ap_repL1, ap_shl, ap_shr, ap_mask, ap_comb, ap_bits, ap_rng3, List.set_cons_zero, List.set_cons_succ, List.getElem?_cons_zero, List.getElem?_cons_succ, List.cons_append, List.nil_append, List.append_nil, Option.some.injEq, V.int.injEq, V.ref.injEq, V.bl.injEq, V.str.injEq, V.ty.injEq, Bool.not_true, Bool.not_false, HO.lst.injEq, HO.tup.injEq, reduceCtorEq, Int.reduceToNat, Int.reduceLT, Int.reduceLE, Nat.reduceAdd, Int.cast_ofNat_Int, gi_c0, gi_c1, gi_c2, gi_c3, Int.natCast_inj, map_int_inj, map_nil_iff, List.cons.injEq, exists_eq_left, exists_eq_left', exists_eq, exists_eq', exists_and_left, exists_and_right, exists_const, and_assoc, and_true, true_and, and_false, false_and, or_false, false_or, or_true, true_or, ite_true, ite_false, if_true, if_false, Bool.false_eq_true, own_cons, own_nil, le1, le2, le3, le4, me_cons, me_nil, List.length_map, List.length_cons, List.length_nil, ne_eq, not_false_eq_true, not_true_eq_false, decide_eq_true_eq]
      refine ⟨by decide, fun m nm => k' _ m (same_upd nm) ?_⟩
      rw [upd_same, Int.zero_add]
      rfl
    · have el := sm _ _ (upd_same (o := HO.tup [V.ref q]) (H := upd H q (HO.tup [V.int 0, V.int 1])) (a := l))
      have eq := sm _ _ (s2 _ _ (upd_same (o := HO.tup [V.int 0, V.int 1]) (H := H) (a := q)))
      have lr : rs.length = p.toNat := by rw [hR.1, List.length_map, List.length_range]
      refine ⟨A, rfl, _, eA, fun m nm => ?_⟩
      have s3 := same_upd (o := HO.tup (rs.map V.ref)) nm
      refine ⟨_, s3 _ _ el, by simp, fun e => ?_, by rw [List.length_map]; show 1 + rs.length < 1000000; omega, fun z nz => ?_⟩
      · have := congrArg List.length e
        rw [List.length_map, lr] at this
        have : p.toNat = 0 := this
        omega
      · have s4 := same_upd (o := HO.tup ([V.ref q] ++ rs.map V.ref)) nz
        have S := s1.trans (s2.trans (sm.trans (s3.trans s4)))
        exact k _ z (q :: rs) S upd_same ((RowsAt.cons eq hR).same (s3.trans s4))
def sp_law_points_by : Sp := fun vs H Q _ => ∃ (p : Int), vs = [.int p] ∧ p ∈ primes ∧
  ∀ H' r rs, Same H H' → H r = none → H' r = some (.lst (rs.map V.ref)) → RowsAt H' rs (ptsP p) → Q (.ref r) H'
theorem ok_law_points_by (T : Tx K mg) : FnOk P w K mg base CX0 1 T.f_law_points_by T.d_law_points_by p_law_points_by sp_law_points_by := by
  refine T.F_law_points_by.ok sc_law_points_by (fun vs H Q E h => ?_) (fun cdv A outer s H vs Q E hr h => ?_)
  · obtain ⟨p, rfl, _⟩ := h
    rfl
  · obtain ⟨p, rfl, hp, k⟩ := h
    refine ⟨_, (pss_one (ps_ret (pe_op op_catL (pe_lst (pa_cons (pe_tup (pa_cons pe_int (pa_cons pe_int pa_nil))) pa_nil)) (pe_lc (own := [("_law_number", 1)]) (g := gName 1) (tt := tYes) rfl sc_law_points_by.nd (pi_range1 (by rfl) T.z_range (pa_cons (pv 0) pa_nil)) (blkOk_by (N := n_law_points_by) (sc := defScope s_law_points_by) (by decide +kernel)) (fun _ _ _ _ _ => (pg_name (i := 1) sc_law_points_by.nd rfl (by first | exact .inl rfl | exact .inr rfl))) (fun _ _ _ _ _ => pts_nil) (fun _ _ _ _ _ => (pe_tup (pa_cons pe_int (pa_cons (pv 1) pa_nil)))))))), ?_⟩
    rw [st_law_points_by]
    simp only [ap_seq, ap_next, ap_asg, ap_gName, ap_ret, ap_retN, ap_drop, ap_ifS, ap_break, ap_cont, ap_par, ap_aug, ap_ip, ap_gSub, ap_gTup, ap_gNil, ap_gCons, ap_var, ap_c, ap_op, ap_un, ap_if, ap_test, ap_B, ap_and, ap_or, ap_not, ap_andV, ap_orV, ap_notV, ap_nil, ap_cons, ap_tup, ap_lst, ap_cb, ap_bm, ap_call, ap_chain, ap_rI, ap_rI0, ap_rU, ap_rEq, ap_rNe, ap_revT, ap_sl, ap_part, ap_noPart, ap_ixLI, ap_ixTI, ap_ixLV, ap_ixTV, ap_len, ap_setLI, ap_setLV, ap_appI, ap_appV, ap_tupL, ap_listS, ap_sumLI, ap_sumTI, ap_repLI, ap_intI, ap_intB, ap_eqTI, ap_neTI, ap_eqLI, ap_neLI, ap_isi, ap_for, ap_rng1, ap_rng2, ap_iList, ap_iTup, ap_lc, ap_yes, ap_cut, ap_gTupH, ap_fmt, ap_jsn, ap_jsc, ap_gcd, ap_isqrt, ap_ixL, tyV_l, wipe_nil, wipe_cons, upd_same, ap_iEnT, ap_iEnL, ap_iZipA, ap_all, ap_tupT, ap_lenSetT, ap_slI, ap_catI, ap_perm, ap_lenO, ap_strO, ap_listO, ap_reprB, ap_iterT, ap_neT, ap_negO, ap_binI, ap_catL, ap_tM1, ap_repTI, ap_popN, ap_par3, ap_catTT, ap_countT, ap_notInT, ap_repL1, ap_shl, ap_shr, ap_mask, ap_comb, ap_bits, ap_rng3, List.set_cons_zero, List.set_cons_succ, List.getElem?_cons_zero, List.getElem?_cons_succ, List.cons_append, List.nil_append, List.append_nil, Option.some.injEq, V.int.injEq, V.ref.injEq, V.bl.injEq, V.str.injEq, V.ty.injEq, Bool.not_true, Bool.not_false, HO.lst.injEq, HO.tup.injEq, reduceCtorEq, Int.reduceToNat, Int.reduceLT, Int.reduceLE, Nat.reduceAdd, Int.cast_ofNat_Int, gi_c0, gi_c1, gi_c2, gi_c3, Int.natCast_inj, map_int_inj, map_nil_iff, List.cons.injEq, exists_eq_left, exists_eq_left', exists_eq, exists_eq', exists_and_left, exists_and_right, exists_const, and_assoc, and_true, true_and, and_false, false_and, or_false, false_or, or_true, true_or, ite_true, ite_false, if_true, if_false, Bool.false_eq_true, own_cons, own_nil, le1, le2, le3, le4, me_cons, me_nil, List.length_map, List.length_cons, List.length_nil, ne_eq, not_false_eq_true, not_true_eq_false, decide_eq_true_eq]
    have pb := primes_bd hp
    refine ⟨by decide, fun q nq => ⟨by decide, fun l nl => ⟨by omega, by omega, ?_⟩⟩⟩
    have s1 := same_upd (o := HO.tup [V.int 0, V.int 1]) nq
    have s2 := same_upd (o := HO.lst [V.ref q]) nl
    refine lc_rangeW (fun b => [1, (b : Int)]) (by omega) (fun x => rfl) (fun i H' hi sm Q' k' => ?_) (fun A H' rs nA sm eA hR => ?_)
    · simp only [ap_seq, ap_next, ap_asg, ap_gName, ap_ret, ap_retN, ap_drop, ap_ifS, ap_break, ap_cont, ap_par, ap_aug, ap_ip, ap_gSub, ap_gTup, ap_gNil, ap_gCons, ap_var, ap_c, ap_op, ap_un, ap_if, ap_test, ap_B, ap_and, ap_or, ap_not, ap_andV, ap_orV, ap_notV, ap_nil, ap_cons, ap_tup, ap_lst, ap_cb, ap_bm, ap_call, ap_chain, ap_rI, ap_rI0, ap_rU, ap_rEq, ap_rNe, ap_revT, ap_sl, ap_part, ap_noPart, ap_ixLI, ap_ixTI, ap_ixLV, ap_ixTV, ap_len, ap_setLI, ap_setLV, ap_appI, ap_appV, ap_tupL, ap_listS, ap_sumLI, ap_sumTI, ap_repLI, ap_intI, ap_intB, ap_eqTI, ap_neTI, ap_eqLI, ap_neLI, ap_isi, ap_for, ap_rng1, ap_rng2, ap_iList, ap_iTup, ap_lc, ap_yes, ap_cut, ap_gTupH, ap_fmt, ap_jsn, ap_jsc, ap_gcd, ap_isqrt, ap_ixL, tyV_l, wipe_nil, wipe_cons, upd_same, ap_iEnT, ap_iEnL, ap_iZipA, ap_all, ap_tupT, ap_lenSetT, ap_slI, ap_catI, ap_perm, ap_lenO, ap_strO, ap_listO, ap_reprB, ap_iterT, ap_neT, ap_negO, ap_binI, ap_catL, ap_tM1, ap_repTI, ap_popN, ap_par3, ap_catTT, ap_countT, ap_notInT, ap_repL1, ap_shl, ap_shr, ap_mask, ap_comb, ap_bits, ap_rng3, List.set_cons_zero, List.set_cons_succ, List.getElem?_cons_zero, List.getElem?_cons_succ, List.cons_append, List.nil_append, List.append_nil, Option.some.injEq, V.int.injEq, V.ref.injEq, V.bl.injEq, V.str.injEq, V.ty.injEq, Bool.not_true, Bool.not_false, HO.lst.injEq, HO.tup.injEq, reduceCtorEq, Int.reduceToNat, Int.reduceLT, Int.reduceLE, Nat.reduceAdd, Int.cast_ofNat_Int, gi_c0, gi_c1, gi_c2, gi_c3, Int.natCast_inj, map_int_inj, map_nil_iff, List.cons.injEq, exists_eq_left, exists_eq_left', exists_eq, exists_eq', exists_and_left, exists_and_right, exists_const, and_assoc, and_true, true_and, and_false, false_and, or_false, false_or, or_true, true_or, ite_true, ite_false, if_true, if_false, Bool.false_eq_true, own_cons, own_nil, le1, le2, le3, le4, me_cons, me_nil, List.length_map, List.length_cons, List.length_nil, ne_eq, not_false_eq_true, not_true_eq_false, decide_eq_true_eq]
      refine ⟨by decide, fun m nm => k' _ m (same_upd nm) ?_⟩
      rw [upd_same, Int.zero_add]
      rfl
    · have el := sm _ _ (upd_same (o := HO.lst [V.ref q]) (H := upd H q (HO.tup [V.int 0, V.int 1])) (a := l))
      have eq := sm _ _ (s2 _ _ (upd_same (o := HO.tup [V.int 0, V.int 1]) (H := H) (a := q)))
      have lr : rs.length = p.toNat := by rw [hR.1, List.length_map, List.length_range]
      refine ⟨A, rfl, _, el, _, eA, by rw [List.length_map]; show 1 + rs.length < 1000000; omega, fun m nm => ?_⟩
      have s3 := same_upd (o := HO.lst ([V.ref q] ++ rs.map V.ref)) nm
      have S := s1.trans (s2.trans sm)
      exact k _ m (q :: rs) (S.trans s3) (free_of S nm) upd_same ((RowsAt.cons eq hR).same s3)
def sp_law_prime_point : Sp := fun vs H Q _ => ∃ (d : Addr) (p : Int), vs = [.ref d, .int p] ∧ Dc H d ∧ p ∈ primes ∧
  ∀ H' r x y, Exc d H H' → Dc H' d → H' r = some (TI [x, y]) → PtP p x y → Q (.ref r) H'
theorem ok_law_prime_point (T : Tx K mg) : FnOk P w K mg base CX0 2 T.f_law_prime_point T.d_law_prime_point p_law_prime_point sp_law_prime_point := by
  refine T.F_law_prime_point.ok sc_law_prime_point (fun vs H Q E h => ?_) (fun cdv A outer s H vs Q E hr h => ?_)
  · obtain ⟨d, p, rfl, _⟩ := h
    rfl
  · obtain ⟨d, p, rfl, hD, hp, k⟩ := h
    refine ⟨_, (pss_cons (ps_set (i := 2) sc_law_prime_point.nd rfl (Or.inl rfl) (pe_call (ok_law_roll T) (hr.mono (by decide)) (by rfl) T.m_law_roll T.F_law_roll.kp T.b_law_roll .nil pass0 (pa_cons (pv 0) (pa_cons (pe_op op_add (pv 1) pe_int) pa_nil))))
      (pss_one (ps_ret (pe_ifExp (pt_cmpR op_eq (pv 2) (pv 1) (nomark _)) (pe_tup (pa_cons pe_int (pa_cons pe_int pa_nil))) (pe_tup (pa_cons pe_int (pa_cons (pv 2) pa_nil))))))), ?_⟩
    rw [st_law_prime_point]
    simp only [ap_seq, ap_next, ap_asg, ap_gName, ap_ret, ap_retN, ap_drop, ap_ifS, ap_break, ap_cont, ap_par, ap_aug, ap_ip, ap_gSub, ap_gTup, ap_gNil, ap_gCons, ap_var, ap_c, ap_op, ap_un, ap_if, ap_test, ap_B, ap_and, ap_or, ap_not, ap_andV, ap_orV, ap_notV, ap_nil, ap_cons, ap_tup, ap_lst, ap_cb, ap_bm, ap_call, ap_chain, ap_rI, ap_rI0, ap_rU, ap_rEq, ap_rNe, ap_revT, ap_sl, ap_part, ap_noPart, ap_ixLI, ap_ixTI, ap_ixLV, ap_ixTV, ap_len, ap_setLI, ap_setLV, ap_appI, ap_appV, ap_tupL, ap_listS, ap_sumLI, ap_sumTI, ap_repLI, ap_intI, ap_intB, ap_eqTI, ap_neTI, ap_eqLI, ap_neLI, ap_isi, ap_for, ap_rng1, ap_rng2, ap_iList, ap_iTup, ap_lc, ap_yes, ap_cut, ap_gTupH, ap_fmt, ap_jsn, ap_jsc, ap_gcd, ap_isqrt, ap_ixL, tyV_l, wipe_nil, wipe_cons, upd_same, ap_iEnT, ap_iEnL, ap_iZipA, ap_all, ap_tupT, ap_lenSetT, ap_slI, ap_catI, ap_perm, ap_lenO, ap_strO, ap_listO, ap_reprB, ap_iterT, ap_neT, ap_negO, ap_binI, ap_catL, ap_tM1, ap_repTI, ap_popN, ap_par3, ap_catTT, ap_countT, ap_notInT, ap_repL1, ap_shl, ap_shr, ap_mask, ap_comb, ap_bits, ap_rng3, List.set_cons_zero, List.set_cons_succ, List.getElem?_cons_zero, List.getElem?_cons_succ, List.cons_append, List.nil_append, List.append_nil, Option.some.injEq, V.int.injEq, V.ref.injEq, V.bl.injEq, V.str.injEq, V.ty.injEq, Bool.not_true, Bool.not_false, HO.lst.injEq, HO.tup.injEq, reduceCtorEq, Int.reduceToNat, Int.reduceLT, Int.reduceLE, Nat.reduceAdd, Int.cast_ofNat_Int, gi_c0, gi_c1, gi_c2, gi_c3, Int.natCast_inj, map_int_inj, map_nil_iff, List.cons.injEq, exists_eq_left, exists_eq_left', exists_eq, exists_eq', exists_and_left, exists_and_right, exists_const, and_assoc, and_true, true_and, and_false, false_and, or_false, false_or, or_true, true_or, ite_true, ite_false, if_true, if_false, Bool.false_eq_true, own_cons, own_nil, le1, le2, le3, le4, me_cons, me_nil, List.length_map, List.length_cons, List.length_nil, ne_eq, not_false_eq_true, not_true_eq_false, decide_eq_true_eq, sp_law_roll]
    have pb := primes_bd hp
    refine ⟨hD, by omega, by omega, fun H1 r ex D1 r0 r1 => ⟨rfl, iteC (fun c => ⟨by decide, fun q nq => ?_⟩) (fun c => ⟨by decide, fun q nq => ?_⟩)⟩⟩
    · have s := same_upd (o := HO.tup [V.int 0, V.int 1]) nq
      exact k _ q 0 1 (ex.trans (.same s)) (D1.same s) upd_same ⟨by omega, by omega, by omega, by omega, .inr ⟨rfl, rfl⟩⟩
    · have s := same_upd (o := HO.tup [V.int 1, V.int r]) nq
      exact k _ q 1 r (ex.trans (.same s)) (D1.same s) upd_same ⟨by omega, by omega, by omega, by omega, .inl rfl⟩
def sp_law_some_prime : Sp := fun vs H Q _ => ∃ (d : Addr), vs = [.ref d] ∧ Dc H d ∧
  ∀ H' p, Exc d H H' → Dc H' d → p ∈ primes → Q (.int p) H'
theorem ok_law_some_prime (T : Tx K mg) : FnOk P w K mg base CX0 3 T.f_law_some_prime T.d_law_some_prime p_law_some_prime sp_law_some_prime := by
  refine T.F_law_some_prime.ok sc_law_some_prime (fun vs H Q E h => ?_) (fun cdv A outer s H vs Q E hr h => ?_)
  · obtain ⟨d, rfl, _⟩ := h
    rfl
  · obtain ⟨d, rfl, hD, k⟩ := h
    refine ⟨_, (pss_one (ps_ret (pe_call (ok_law_pick T) (hr.mono (by decide)) (by rfl) T.m_law_pick T.F_law_pick.kp T.b_law_pick .nil pass0 (pa_cons (pv 0) (pa_cons (pe_lst (pa_cons pe_int (pa_cons pe_int (pa_cons pe_int (pa_cons pe_int (pa_cons pe_int (pa_cons pe_int (pa_cons pe_int (pa_cons pe_int (pa_cons pe_int (pa_cons pe_int (pa_cons pe_int (pa_cons pe_int (pa_cons pe_int (pa_cons pe_int (pa_cons pe_int (pa_cons pe_int (pa_cons pe_int (pa_cons pe_int (pa_cons pe_int (pa_cons pe_int (pa_cons pe_int (pa_cons pe_int pa_nil))))))))))))))))))))))) pa_nil))))), ?_⟩
    rw [st_law_some_prime]
    simp only [ap_seq, ap_next, ap_asg, ap_gName, ap_ret, ap_retN, ap_drop, ap_ifS, ap_break, ap_cont, ap_par, ap_aug, ap_ip, ap_gSub, ap_gTup, ap_gNil, ap_gCons, ap_var, ap_c, ap_op, ap_un, ap_if, ap_test, ap_B, ap_and, ap_or, ap_not, ap_andV, ap_orV, ap_notV, ap_nil, ap_cons, ap_tup, ap_lst, ap_cb, ap_bm, ap_call, ap_chain, ap_rI, ap_rI0, ap_rU, ap_rEq, ap_rNe, ap_revT, ap_sl, ap_part, ap_noPart, ap_ixLI, ap_ixTI, ap_ixLV, ap_ixTV, ap_len, ap_setLI, ap_setLV, ap_appI, ap_appV, ap_tupL, ap_listS, ap_sumLI, ap_sumTI, ap_repLI, ap_intI, ap_intB, ap_eqTI, ap_neTI, ap_eqLI, ap_neLI, ap_isi, ap_for, ap_rng1, ap_rng2, ap_iList, ap_iTup, ap_lc, ap_yes, ap_cut, ap_gTupH, ap_fmt, ap_jsn, ap_jsc, ap_gcd, ap_isqrt, ap_ixL, tyV_l, wipe_nil, wipe_cons, upd_same, ap_iEnT, ap_iEnL, ap_iZipA, ap_all, ap_tupT, ap_lenSetT, ap_slI, ap_catI, ap_perm, ap_lenO, ap_strO, ap_listO, ap_reprB, ap_iterT, ap_neT, ap_negO, ap_binI, ap_catL, ap_tM1, ap_repTI, ap_popN, ap_par3, ap_catTT, ap_countT, ap_notInT, ap_repL1, ap_shl, ap_shr, ap_mask, ap_comb, ap_bits, ap_rng3, List.set_cons_zero, List.set_cons_succ, List.getElem?_cons_zero, List.getElem?_cons_succ, List.cons_append, List.nil_append, List.append_nil, Option.some.injEq, V.int.injEq, V.ref.injEq, V.bl.injEq, V.str.injEq, V.ty.injEq, Bool.not_true, Bool.not_false, HO.lst.injEq, HO.tup.injEq, reduceCtorEq, Int.reduceToNat, Int.reduceLT, Int.reduceLE, Nat.reduceAdd, Int.cast_ofNat_Int, gi_c0, gi_c1, gi_c2, gi_c3, Int.natCast_inj, map_int_inj, map_nil_iff, List.cons.injEq, exists_eq_left, exists_eq_left', exists_eq, exists_eq', exists_and_left, exists_and_right, exists_const, and_assoc, and_true, true_and, and_false, false_and, or_false, false_or, or_true, true_or, ite_true, ite_false, if_true, if_false, Bool.false_eq_true, own_cons, own_nil, le1, le2, le3, le4, me_cons, me_nil, List.length_map, List.length_cons, List.length_nil, ne_eq, not_false_eq_true, not_true_eq_false, decide_eq_true_eq, sp_law_pick]
    refine ⟨by decide, fun l nl => ?_⟩
    have s := same_upd (o := LI [13, 13, 17, 19, 23, 29, 31, 37, 41, 43, 47, 53, 59, 61, 67, 71, 73, 79, 83, 89, 97, 101]) nl
    refine ⟨hD.same s, [13, 13, 17, 19, 23, 29, 31, 37, 41, 43, 47, 53, 59, 61, 67, 71, 73, 79, 83, 89, 97, 101], rfl, fun e => ?_, by decide, by decide, fun H1 i ex D1 hi => ?_⟩
    · subst e
      obtain ⟨_, _, _, e⟩ := hD
      rw [e] at nl
      cases nl
    · refine k _ _ (Exc.trans (.same s) ex) D1 ?_
      have : ∀ i, i < 22 → ([13, 13, 17, 19, 23, 29, 31, 37, 41, 43, 47, 53, 59, 61, 67, 71, 73, 79, 83, 89, 97, 101] : List Int).getD i 0 ∈ primes := by decide +kernel
      exact this i hi
end
end My

namespace My
open PySem PySem.Spec PyProof.Rows L2 Pr
def Rows (H : Hp) (d : Addr) (rs : List Addr) (nss : List (List Int)) : Prop := rs.length = nss.length ∧ ∀ (i : Nat) (r : Addr) (ns : List Int), rs[i]? = some r → nss[i]? = some ns → H r = some (TI ns) ∧ r ≠ d
theorem Rows.exc {H H' : Hp} {d : Addr} {rs : List Addr} {nss : List (List Int)} (h : Rows H d rs nss) (ex : Exc d H H') : Rows H' d rs nss := ⟨h.1, fun i r ns e1 e2 => ⟨ex _ _ (h.2 i r ns e1 e2).2 (h.2 i r ns e1 e2).1, (h.2 i r ns e1 e2).2⟩⟩
theorem Rows.snoc {H : Hp} {d r : Addr} {ns : List Int} {rs : List Addr} {nss : List (List Int)} (h : Rows H d rs nss) (e : H r = some (TI ns)) (n : r ≠ d) : Rows H d (rs ++ [r]) (nss ++ [ns]) := by
  refine ⟨by simp [h.1], fun i r' ns' e1 e2 => ?_⟩
  by_cases hi : i < rs.length
  · rw [List.getElem?_append_left hi] at e1
    rw [List.getElem?_append_left (by have := h.1; omega)] at e2
    exact h.2 i r' ns' e1 e2
  · rw [List.getElem?_append_right (by omega)] at e1
    rw [List.getElem?_append_right (by have := h.1; omega), ← h.1] at e2
    by_cases h0 : i - rs.length = 0
    · rw [h0] at e1 e2
      cases e1
      cases e2
      exact ⟨e, n⟩
    · rw [List.getElem?_eq_none (by simp; omega)] at e1
      cases e1
/-- three points -/
structure ThreeAt (H : Hp) (l : Addr) (x1 y1 x2 y2 x3 y3 : Int) : Prop where
  out ::
  ex : ∃ u1 u2 u3, H l = some (.tup [.ref u1, .ref u2, .ref u3]) ∧ H u1 = some (TI [x1, y1]) ∧ H u2 = some (TI [x2, y2]) ∧ H u3 = some (TI [x3, y3])
theorem ThreeAt.same {H H' : Hp} {l : Addr} {x1 y1 x2 y2 x3 y3 : Int} (h : ThreeAt H l x1 y1 x2 y2 x3 y3) (s : Same H H') : ThreeAt H' l x1 y1 x2 y2 x3 y3 := by
  obtain ⟨u1, u2, u3, h0, h1, h2, h3⟩ := h.ex
  exact ⟨u1, u2, u3, s _ _ h0, s _ _ h1, s _ _ h2, s _ _ h3⟩
section
variable {P : Program} {w : World} {K : PySem.W.Frag} {mg : Str → Option Value} {base : Heap}
def sp_undone_change : Sp := fun vs H Q _ => ∃ (t : Addr) (a b c d : Int), vs = [.ref t] ∧ TabAt H t a b c d ∧ ∀ H' r, Same H H' → TabAt H' r d (-b) (-c) a → Q (.ref r) H'
theorem ok_undone_change (T : Tx K mg) : FnOk P w K mg base CX0 1 T.f_undone_change T.d_undone_change p_undone_change sp_undone_change := by
  refine T.F_undone_change.ok sc_undone_change (fun vs H Q E h => ?_) (fun cdv A outer s H vs Q E hr h => ?_)
  · obtain ⟨t, a, b, c, d, rfl, _⟩ := h
    rfl
  · obtain ⟨t, a, b, c, d, rfl, ⟨r1, r2, h1, h2, h3⟩, k⟩ := h
    refine ⟨_, (pss_one (ps_ret (pe_tup (pa_cons (pe_tup (pa_cons (pe_ix ix_TI (pe_ix ix_TV (pv 0) pe_int (fun _ _ => rfl)) pe_int (fun _ _ => rfl)) (pa_cons (pe_un un_neg (pe_ix ix_TI (pe_ix ix_TV (pv 0) pe_int (fun _ _ => rfl)) pe_int (fun _ _ => rfl))) pa_nil))) (pa_cons (pe_tup (pa_cons (pe_un un_neg (pe_ix ix_TI (pe_ix ix_TV (pv 0) pe_int (fun _ _ => rfl)) pe_int (fun _ _ => rfl))) (pa_cons (pe_ix ix_TI (pe_ix ix_TV (pv 0) pe_int (fun _ _ => rfl)) pe_int (fun _ _ => rfl)) pa_nil))) pa_nil))))), ?_⟩
    rw [st_undone_change]
    simp only [ap_seq, ap_next, ap_asg, ap_gName, ap_ret, ap_retN, ap_drop, ap_ifS, ap_break, ap_cont, ap_par, ap_aug, ap_ip, ap_gSub, ap_gTup, ap_gNil, ap_gCons, ap_var, ap_c, ap_op, ap_un, ap_if, ap_test, ap_B, ap_and, ap_or, ap_not, ap_andV, ap_orV, ap_notV, ap_nil, ap_cons, ap_tup, ap_lst, ap_cb, ap_bm, ap_call, ap_chain, ap_rI, ap_rI0, ap_rU, ap_rEq, ap_rNe, ap_revT, ap_sl, ap_part, ap_noPart, ap_ixLI, ap_ixTI, ap_ixLV, ap_ixTV, ap_len, ap_setLI, ap_setLV, ap_appI, ap_appV, ap_tupL, ap_listS, ap_sumLI, ap_sumTI, ap_repLI, ap_intI, ap_intB, ap_eqTI, ap_neTI, ap_eqLI, ap_neLI, ap_isi, ap_for, ap_rng1, ap_rng2, ap_iList, ap_iTup, ap_lc, ap_yes, ap_cut, ap_gTupH, ap_fmt, ap_jsn, ap_jsc, ap_gcd, ap_isqrt, ap_ixL, tyV_l, wipe_nil, wipe_cons, upd_same, ap_iEnT, ap_iEnL, ap_iZipA, ap_all, ap_tupT, ap_lenSetT, ap_slI, ap_catI, ap_perm, ap_lenO, ap_strO, ap_listO, ap_reprB, ap_iterT, ap_neT, ap_negO, ap_binI, ap_catL, ap_tM1, ap_repTI, ap_popN, ap_par3, ap_catTT, ap_countT, ap_notInT, ap_repL1, ap_shl, ap_shr, ap_mask, ap_comb, ap_bits, ap_rng3, List.set_cons_zero, List.set_cons_succ, List.getElem?_cons_zero, List.getElem?_cons_succ, List.cons_append, List.nil_append, List.append_nil, Option.some.injEq, V.int.injEq, V.ref.injEq, V.bl.injEq, V.str.injEq, V.ty.injEq, Bool.not_true, Bool.not_false, HO.lst.injEq, HO.tup.injEq, reduceCtorEq, Int.reduceToNat, Int.reduceLT, Int.reduceLE, Nat.reduceAdd, Int.cast_ofNat_Int, gi_c0, gi_c1, gi_c2, gi_c3, Int.natCast_inj, map_int_inj, map_nil_iff, List.cons.injEq, exists_eq_left, exists_eq_left', exists_eq, exists_eq', exists_and_left, exists_and_right, exists_const, and_assoc, and_true, true_and, and_false, false_and, or_false, false_or, or_true, true_or, ite_true, ite_false, if_true, if_false, Bool.false_eq_true, own_cons, own_nil, le1, le2, le3, le4, me_cons, me_nil, List.length_map, List.length_cons, List.length_nil, ne_eq, not_false_eq_true, not_true_eq_false, decide_eq_true_eq, h1, h2, h3]
    refine ⟨_, rfl, r2, rfl, _, h3, by show (1 : Int) < 2; omega, _, rfl, r1, rfl, _, h2, by show (1 : Int) < 2; omega, by decide, fun p np => ?_⟩
    have s1 := same_upd (o := HO.tup [V.int d, V.int (-b)]) np
    refine ⟨_, s1 _ _ h1, _, rfl, r2, rfl, _, s1 _ _ h3, by show (0 : Int) < 2; omega, _, s1 _ _ h1, _, rfl, r1, rfl, _, s1 _ _ h2, by show (0 : Int) < 2; omega, by decide, fun q nq => ⟨by decide, fun l nl => ?_⟩⟩
    have s2 := same_upd (o := HO.tup [V.int (-c), V.int a]) nq
    have s3 := same_upd (o := HO.tup [V.ref p, V.ref q]) nl
    exact k _ l (s1.trans (s2.trans s3)) ⟨p, q, upd_same, s3 _ _ (s2 _ _ upd_same), s3 _ _ upd_same⟩
def sp_product_of_changes : Sp := fun vs H Q _ => ∃ (t u : Addr) (a b c d a' b' c' d' : Int), vs = [.ref t, .ref u] ∧ TabAt H t a b c d ∧ TabAt H u a' b' c' d' ∧ T4 a b c d ∧ T4 a' b' c' d' ∧ ∀ H' r, Same H H' → TabAt H' r (a * a' + b * c') (a * b' + b * d') (c * a' + d * c') (c * b' + d * d') → Q (.ref r) H'
theorem ok_product_of_changes (T : Tx K mg) : FnOk P w K mg base CX0 1 T.f_product_of_changes T.d_product_of_changes p_product_of_changes sp_product_of_changes := by
  refine T.F_product_of_changes.ok sc_product_of_changes (fun vs H Q E h => ?_) (fun cdv A outer s H vs Q E hr h => ?_)
  · obtain ⟨t, u, a, b, c, d, a', b', c', d', rfl, _⟩ := h
    rfl
  · obtain ⟨t, u, a, b, c, d, a', b', c', d', rfl, ⟨r1, r2, h1, h2, h3⟩, ⟨r3, r4, g1, g2, g3⟩, t4, t4', k⟩ := h
    refine ⟨_, (pss_one (ps_ret (pe_callTy cr_tupL (by rfl) T.z_tuple (by decide +kernel) (pa_cons (pe_lc (own := [("row", 2)]) (g := gName 2) (tt := tYes) rfl sc_product_of_changes.nd (pi_tup (pv 0)) (blkOk_by (N := n_product_of_changes) (sc := defScope s_product_of_changes) (by decide +kernel)) (fun _ _ _ _ _ => (pg_name (i := 2) sc_product_of_changes.nd rfl (by first | exact .inl rfl | exact .inr rfl))) (fun _ _ _ _ _ => pts_nil) (fun _ _ _ _ _ => (pe_callTy cr_tupL (by rfl) T.z_tuple (by decide +kernel) (pa_cons (pe_lc (own := [("j", 3)]) (g := gName 3) (tt := tYes) rfl sc_product_of_changes.nd (pi_tupK (K := K) rfl (pe_tup (pa_cons pe_int (pa_cons pe_int pa_nil)))) (blkOk_by (by rfl)) (fun _ _ _ _ _ => (pg_name (i := 3) sc_product_of_changes.nd rfl (by first | exact .inl rfl | exact .inr rfl))) (fun _ _ _ _ _ => pts_nil) (fun _ _ _ _ _ => (pe_op op_add (pe_op op_mulB (pe_ix ix_TI (pv 2) pe_int (fun _ _ => rfl)) (pe_ix ix_TI (pe_ix ix_TV (pv 1) pe_int (fun _ _ => rfl)) (pv 3) (fun _ _ => rfl))) (pe_op op_mulB (pe_ix ix_TI (pv 2) pe_int (fun _ _ => rfl)) (pe_ix ix_TI (pe_ix ix_TV (pv 1) pe_int (fun _ _ => rfl)) (pv 3) (fun _ _ => rfl)))))) pa_nil)))) pa_nil)))), ?_⟩
    rw [st_product_of_changes]
    simp only [ap_seq, ap_next, ap_asg, ap_gName, ap_ret, ap_retN, ap_drop, ap_ifS, ap_break, ap_cont, ap_par, ap_aug, ap_ip, ap_gSub, ap_gTup, ap_gNil, ap_gCons, ap_var, ap_c, ap_op, ap_un, ap_if, ap_test, ap_B, ap_and, ap_or, ap_not, ap_andV, ap_orV, ap_notV, ap_nil, ap_cons, ap_tup, ap_lst, ap_cb, ap_bm, ap_call, ap_chain, ap_rI, ap_rI0, ap_rU, ap_rEq, ap_rNe, ap_revT, ap_sl, ap_part, ap_noPart, ap_ixLI, ap_ixTI, ap_ixLV, ap_ixTV, ap_len, ap_setLI, ap_setLV, ap_appI, ap_appV, ap_tupL, ap_listS, ap_sumLI, ap_sumTI, ap_repLI, ap_intI, ap_intB, ap_eqTI, ap_neTI, ap_eqLI, ap_neLI, ap_isi, ap_for, ap_rng1, ap_rng2, ap_iList, ap_iTup, ap_lc, ap_yes, ap_cut, ap_gTupH, ap_fmt, ap_jsn, ap_jsc, ap_gcd, ap_isqrt, ap_ixL, tyV_l, wipe_nil, wipe_cons, upd_same, ap_iEnT, ap_iEnL, ap_iZipA, ap_all, ap_tupT, ap_lenSetT, ap_slI, ap_catI, ap_perm, ap_lenO, ap_strO, ap_listO, ap_reprB, ap_iterT, ap_neT, ap_negO, ap_binI, ap_catL, ap_tM1, ap_repTI, ap_popN, ap_par3, ap_catTT, ap_countT, ap_notInT, ap_repL1, ap_shl, ap_shr, ap_mask, ap_comb, ap_bits, ap_rng3, List.set_cons_zero, List.set_cons_succ, List.getElem?_cons_zero, List.getElem?_cons_succ, List.cons_append, List.nil_append, List.append_nil, Option.some.injEq, V.int.injEq, V.ref.injEq, V.bl.injEq, V.str.injEq, V.ty.injEq, Bool.not_true, Bool.not_false, HO.lst.injEq, HO.tup.injEq, reduceCtorEq, Int.reduceToNat, Int.reduceLT, Int.reduceLE, Nat.reduceAdd, Int.cast_ofNat_Int, gi_c0, gi_c1, gi_c2, gi_c3, Int.natCast_inj, map_int_inj, map_nil_iff, List.cons.injEq, exists_eq_left, exists_eq_left', exists_eq, exists_eq', exists_and_left, exists_and_right, exists_const, and_assoc, and_true, true_and, and_false, false_and, or_false, false_or, or_true, true_or, ite_true, ite_false, if_true, if_false, Bool.false_eq_true, own_cons, own_nil, le1, le2, le3, le4, me_cons, me_nil, List.length_map, List.length_cons, List.length_nil, ne_eq, not_false_eq_true, not_true_eq_false, decide_eq_true_eq, h1, g1]
    refine ⟨⟨_, sqT_of h1⟩, lc_rowsMT (rs := [r1, r2]) (nss := [[a, b], [c, d]]) (fun ns => [ns.getD 0 0 * a' + ns.getD 1 0 * c', ns.getD 0 0 * b' + ns.getD 1 0 * d']) h1 (.cons h2 (.cons h3 .nil)) (by show 2 < 1000000; omega) (fun x => rfl) (fun i r ns H' hi sm er Q' k' => ?_) (fun A H' qs nA sm eA hR => ?_)⟩
    · have hns : ∃ m n, ns = [m, n] ∧ Tn m ∧ Tn n := by
        match i, hi with
        | 0, hi => exact ⟨a, b, (Option.some.inj hi).symm, t4.a, t4.b⟩
        | 1, hi => exact ⟨c, d, (Option.some.inj hi).symm, t4.c, t4.d⟩
      obtain ⟨m, n, rfl, tm, tn⟩ := hns
      simp only [ap_seq, ap_next, ap_asg, ap_gName, ap_ret, ap_retN, ap_drop, ap_ifS, ap_break, ap_cont, ap_par, ap_aug, ap_ip, ap_gSub, ap_gTup, ap_gNil, ap_gCons, ap_var, ap_c, ap_op, ap_un, ap_if, ap_test, ap_B, ap_and, ap_or, ap_not, ap_andV, ap_orV, ap_notV, ap_nil, ap_cons, ap_tup, ap_lst, ap_cb, ap_bm, ap_call, ap_chain, ap_rI, ap_rI0, ap_rU, ap_rEq, ap_rNe, ap_revT, ap_sl, ap_part, ap_noPart, ap_ixLI, ap_ixTI, ap_ixLV, ap_ixTV, ap_len, ap_setLI, ap_setLV, ap_appI, ap_appV, ap_tupL, ap_listS, ap_sumLI, ap_sumTI, ap_repLI, ap_intI, ap_intB, ap_eqTI, ap_neTI, ap_eqLI, ap_neLI, ap_isi, ap_for, ap_rng1, ap_rng2, ap_iList, ap_iTup, ap_lc, ap_yes, ap_cut, ap_gTupH, ap_fmt, ap_jsn, ap_jsc, ap_gcd, ap_isqrt, ap_ixL, tyV_l, wipe_nil, wipe_cons, upd_same, ap_iEnT, ap_iEnL, ap_iZipA, ap_all, ap_tupT, ap_lenSetT, ap_slI, ap_catI, ap_perm, ap_lenO, ap_strO, ap_listO, ap_reprB, ap_iterT, ap_neT, ap_negO, ap_binI, ap_catL, ap_tM1, ap_repTI, ap_popN, ap_par3, ap_catTT, ap_countT, ap_notInT, ap_repL1, ap_shl, ap_shr, ap_mask, ap_comb, ap_bits, ap_rng3, List.set_cons_zero, List.set_cons_succ, List.getElem?_cons_zero, List.getElem?_cons_succ, List.cons_append, List.nil_append, List.append_nil, Option.some.injEq, V.int.injEq, V.ref.injEq, V.bl.injEq, V.str.injEq, V.ty.injEq, Bool.not_true, Bool.not_false, HO.lst.injEq, HO.tup.injEq, reduceCtorEq, Int.reduceToNat, Int.reduceLT, Int.reduceLE, Nat.reduceAdd, Int.cast_ofNat_Int, gi_c0, gi_c1, gi_c2, gi_c3, Int.natCast_inj, map_int_inj, map_nil_iff, List.cons.injEq, exists_eq_left, exists_eq_left', exists_eq, exists_eq', exists_and_left, exists_and_right, exists_const, and_assoc, and_true, true_and, and_false, false_and, or_false, false_or, or_true, true_or, ite_true, ite_false, if_true, if_false, Bool.false_eq_true, own_cons, own_nil, le1, le2, le3, le4, me_cons, me_nil, List.length_map, List.length_cons, List.length_nil, ne_eq, not_false_eq_true, not_true_eq_false, decide_eq_true_eq]
      refine ⟨by decide, fun l nl => ?_⟩
      have s1 := same_upd (o := HO.tup [V.int 0, V.int 1]) nl
      have el : upd H' l (HO.tup [V.int 0, V.int 1]) l = some (TI [0, 1]) := upd_same
      refine ⟨⟨_, sqT_of el⟩, lc_mapT (fun j => m * gi [a', b'] j + n * gi [c', d'] j) el (by show 2 < 1000000; omega) (fun x => rfl) (fun j hj H2 s2 Q2 k2 => ?_) (fun B H2 nB s2 eB => ?_)⟩
      · have g1' := s2 _ _ (s1 _ _ (sm _ _ g1))
        have g2' := s2 _ _ (s1 _ _ (sm _ _ g2))
        have g3' := s2 _ _ (s1 _ _ (sm _ _ g3))
        have er' := s2 _ _ (s1 _ _ er)
        simp only [ap_seq, ap_next, ap_asg, ap_gName, ap_ret, ap_retN, ap_drop, ap_ifS, ap_break, ap_cont, ap_par, ap_aug, ap_ip, ap_gSub, ap_gTup, ap_gNil, ap_gCons, ap_var, ap_c, ap_op, ap_un, ap_if, ap_test, ap_B, ap_and, ap_or, ap_not, ap_andV, ap_orV, ap_notV, ap_nil, ap_cons, ap_tup, ap_lst, ap_cb, ap_bm, ap_call, ap_chain, ap_rI, ap_rI0, ap_rU, ap_rEq, ap_rNe, ap_revT, ap_sl, ap_part, ap_noPart, ap_ixLI, ap_ixTI, ap_ixLV, ap_ixTV, ap_len, ap_setLI, ap_setLV, ap_appI, ap_appV, ap_tupL, ap_listS, ap_sumLI, ap_sumTI, ap_repLI, ap_intI, ap_intB, ap_eqTI, ap_neTI, ap_eqLI, ap_neLI, ap_isi, ap_for, ap_rng1, ap_rng2, ap_iList, ap_iTup, ap_lc, ap_yes, ap_cut, ap_gTupH, ap_fmt, ap_jsn, ap_jsc, ap_gcd, ap_isqrt, ap_ixL, tyV_l, wipe_nil, wipe_cons, upd_same, ap_iEnT, ap_iEnL, ap_iZipA, ap_all, ap_tupT, ap_lenSetT, ap_slI, ap_catI, ap_perm, ap_lenO, ap_strO, ap_listO, ap_reprB, ap_iterT, ap_neT, ap_negO, ap_binI, ap_catL, ap_tM1, ap_repTI, ap_popN, ap_par3, ap_catTT, ap_countT, ap_notInT, ap_repL1, ap_shl, ap_shr, ap_mask, ap_comb, ap_bits, ap_rng3, List.set_cons_zero, List.set_cons_succ, List.getElem?_cons_zero, List.getElem?_cons_succ, List.cons_append, List.nil_append, List.append_nil, Option.some.injEq, V.int.injEq, V.ref.injEq, V.bl.injEq, V.str.injEq, V.ty.injEq, Bool.not_true, Bool.not_false, HO.lst.injEq, HO.tup.injEq, reduceCtorEq, Int.reduceToNat, Int.reduceLT, Int.reduceLE, Nat.reduceAdd, Int.cast_ofNat_Int, gi_c0, gi_c1, gi_c2, gi_c3, Int.natCast_inj, map_int_inj, map_nil_iff, List.cons.injEq, exists_eq_left, exists_eq_left', exists_eq, exists_eq', exists_and_left, exists_and_right, exists_const, and_assoc, and_true, true_and, and_false, false_and, or_false, false_or, or_true, true_or, ite_true, ite_false, if_true, if_false, Bool.false_eq_true, own_cons, own_nil, le1, le2, le3, le4, me_cons, me_nil, List.length_map, List.length_cons, List.length_nil, ne_eq, not_false_eq_true, not_true_eq_false, decide_eq_true_eq, g1', er']
        have hj2 : j = 0 ∨ j = 1 := by simpa using hj
        have c1 : Tn (gi [a', b'] j) ∧ Tn (gi [c', d'] j) := by
          rcases hj2 with rfl | rfl
          · exact ⟨t4'.a, t4'.c⟩
          · exact ⟨t4'.b, t4'.d⟩
        exact ⟨_, rfl, r3, rfl, _, g2', by omega, by show j < 2; omega, ⟨tm.sm.wd, c1.1.sm.wd⟩, _, rfl, r4, rfl, _, g3', by omega, by show j < 2; omega, ⟨tn.sm.wd, c1.2.sm.wd⟩, k2 _ (Same.refl _)⟩
      · refine ⟨B, rfl, _, eB, fun z nz => ?_⟩
        exact k' _ z (s1.trans (s2.trans (same_upd nz))) upd_same
    · refine ⟨A, rfl, _, eA, fun z nz => ?_⟩
      have s1 := same_upd (o := HO.tup (qs.map V.ref)) nz
      obtain ⟨ql, qr⟩ := hR
      match qs, ql, qr, s1 with
      | [q1, q2], _, qr, s1 => exact k _ z (sm.trans s1) ⟨q1, q2, upd_same, s1 _ _ (qr 0 q1 _ rfl rfl), s1 _ _ (qr 1 q2 _ rfl rfl)⟩
def sp_law_joined : Sp := fun vs H Q _ => ∃ (p q : Addr) (a b c e x y z u : Int), vs = [.ref p, .ref q] ∧ TabAt H p a b c e ∧ TabAt H q x y z u ∧ T4 a b c e ∧ T4 x y z u ∧
  ∀ H' r, Same H H' → TabAt H' r (a * x + b * z) (a * y + b * u) (c * x + e * z) (c * y + e * u) → Q (.ref r) H'
theorem ok_law_joined (T : Tx K mg) : FnOk P w K mg base CX0 1 T.f_law_joined T.d_law_joined p_law_joined sp_law_joined := by
  refine T.F_law_joined.ok sc_law_joined (fun vs H Q E h => ?_) (fun cdv A outer s H vs Q E hr h => ?_)
  · obtain ⟨p, q, a, b, c, e, x, y, z, u, rfl, _⟩ := h
    rfl
  · obtain ⟨p, q, a, b, c, e, x, y, z, u, rfl, ⟨r1, r2, h1, h2, h3⟩, hq, tb1, tb2, k⟩ := h
    refine ⟨_, (pss_cons (ps_set (i := 2) sc_law_joined.nd rfl (Or.inl rfl) (pe_lst pa_nil))
      (pss_cons (ps_for PassesOwn.never rfl (pi_tup (pv 0)) (pg_tupH (n := 2) (by rfl) (pgs_cons (pg_name (i := 3) sc_law_joined.nd rfl (by first | exact .inl rfl | exact .inr rfl)) (pgs_cons (pg_name (i := 4) sc_law_joined.nd rfl (by first | exact .inl rfl | exact .inr rfl)) pgs_nil)))
      (pss_one (ps_expr (pe_bm PySem.F.plainAttrs_list PySem.F.slot_list_append PySem.F.type_list_append mt_appV (pv 2) (pa_cons (pe_callTy cr_tupL (by rfl) T.z_tuple (by decide +kernel) (pa_cons (pe_lc (own := [("_law_at", 5)]) (g := gName 5) (tt := tYes) rfl sc_law_joined.nd (pi_range1 (by rfl) T.z_range (pa_cons pe_int pa_nil)) (blkOk_by (N := n_law_joined) (sc := defScope s_law_joined) (by decide +kernel)) (fun _ _ _ _ _ => (pg_name (i := 5) sc_law_joined.nd rfl (by first | exact .inl rfl | exact .inr rfl))) (fun _ _ _ _ _ => pts_nil) (fun _ _ _ _ _ => (pe_op op_add (pe_op op_mulB (pv 3) (pe_ix ix_TI (pe_ix ix_TV (pv 1) pe_int (fun _ _ => rfl)) (pv 5) (fun _ _ => rfl))) (pe_op op_mulB (pv 4) (pe_ix ix_TI (pe_ix ix_TV (pv 1) pe_int (fun _ _ => rfl)) (pv 5) (fun _ _ => rfl)))))) pa_nil)) pa_nil)))))
      (pss_one (ps_ret (pe_callTy cr_tupL (by rfl) T.z_tuple (by decide +kernel) (pa_cons (pv 2) pa_nil)))))), ?_⟩
    rw [st_law_joined]
    simp only [ap_seq, ap_next, ap_asg, ap_gName, ap_ret, ap_retN, ap_drop, ap_ifS, ap_break, ap_cont, ap_par, ap_aug, ap_ip, ap_gSub, ap_gTup, ap_gNil, ap_gCons, ap_var, ap_c, ap_op, ap_un, ap_if, ap_test, ap_B, ap_and, ap_or, ap_not, ap_andV, ap_orV, ap_notV, ap_nil, ap_cons, ap_tup, ap_lst, ap_cb, ap_bm, ap_call, ap_chain, ap_rI, ap_rI0, ap_rU, ap_rEq, ap_rNe, ap_revT, ap_sl, ap_part, ap_noPart, ap_ixLI, ap_ixTI, ap_ixLV, ap_ixTV, ap_len, ap_setLI, ap_setLV, ap_appI, ap_appV, ap_tupL, ap_listS, ap_sumLI, ap_sumTI, ap_repLI, ap_intI, ap_intB, ap_eqTI, ap_neTI, ap_eqLI, ap_neLI, ap_isi, ap_for, ap_rng1, ap_rng2, ap_iList, ap_iTup, ap_lc, ap_yes, ap_cut, ap_gTupH, ap_fmt, ap_jsn, ap_jsc, ap_gcd, ap_isqrt, ap_ixL, tyV_l, wipe_nil, wipe_cons, upd_same, ap_iEnT, ap_iEnL, ap_iZipA, ap_all, ap_tupT, ap_lenSetT, ap_slI, ap_catI, ap_perm, ap_lenO, ap_strO, ap_listO, ap_reprB, ap_iterT, ap_neT, ap_negO, ap_binI, ap_catL, ap_tM1, ap_repTI, ap_popN, ap_par3, ap_catTT, ap_countT, ap_notInT, ap_repL1, ap_shl, ap_shr, ap_mask, ap_comb, ap_bits, ap_rng3, List.set_cons_zero, List.set_cons_succ, List.getElem?_cons_zero, List.getElem?_cons_succ, List.cons_append, List.nil_append, List.append_nil, Option.some.injEq, V.int.injEq, V.ref.injEq, V.bl.injEq, V.str.injEq, V.ty.injEq, Bool.not_true, Bool.not_false, HO.lst.injEq, HO.tup.injEq, reduceCtorEq, Int.reduceToNat, Int.reduceLT, Int.reduceLE, Nat.reduceAdd, Int.cast_ofNat_Int, gi_c0, gi_c1, gi_c2, gi_c3, Int.natCast_inj, map_int_inj, map_nil_iff, List.cons.injEq, exists_eq_left, exists_eq_left', exists_eq, exists_eq', exists_and_left, exists_and_right, exists_const, and_assoc, and_true, true_and, and_false, false_and, or_false, false_or, or_true, true_or, ite_true, ite_false, if_true, if_false, Bool.false_eq_true, own_cons, own_nil, le1, le2, le3, le4, me_cons, me_nil, List.length_map, List.length_cons, List.length_nil, ne_eq, not_false_eq_true, not_true_eq_false, decide_eq_true_eq, CMu]
    refine ⟨by decide, fun l nl => ?_⟩
    obtain ⟨q1, q2, g1, g2, g3⟩ := hq
    have s0 := same_upd (o := HO.lst []) nl
    have el : upd H l (.lst []) l = some (.lst []) := upd_same
    generalize upd H l (.lst []) = H0 at s0 el ⊢
    have wb : ∀ {n : Int}, Tn n → Wd n := fun {n} hn => hn.sm.wd
    refine ⟨⟨_, sqT_of (s0 _ _ h1)⟩, loop_gen (gives_tup (xs := [.ref r1, .ref r2])) (fun i σ' H' => ∃ (rs : List Addr) (y3 y4 y5 : Option V), σ' = [some (.ref p), some (.ref q), some (.ref l), y3, y4, y5] ∧ Same H H' ∧ H' l = some (.lst (rs.map V.ref)) ∧ Rows H' l rs ([[a * x + b * z, a * y + b * u], [c * x + e * z, c * y + e * u]].take i))
      ⟨[], none, none, none, rfl, s0, el, rfl, fun i r ns e1 => by simp at e1⟩ (fun i σ' H' _ hP => ?_) (fun i v σ' H' H'' hi hP hy => ?_) (fun σ' H' hP => ?_)⟩
    · obtain ⟨rs, y3, y4, y5, _, sm, _⟩ := hP
      exact sm _ _ h1
    · obtain ⟨rs, y3, y4, y5, e0, sm, el, rw1⟩ := hP
      obtain ⟨rfl, hv⟩ := hy
      have hv2 : ∃ (r : Addr) (m n : Int), v = .ref r ∧ H r = some (TI [m, n]) ∧ Tn m ∧ Tn n ∧ [[a * x + b * z, a * y + b * u], [c * x + e * z, c * y + e * u]][i]? = some [m * x + n * z, m * y + n * u] := by
        match i, hi, hv with
        | 0, _, hv => exact ⟨r1, a, b, (Option.some.inj hv).symm, h2, tb1.a, tb1.b, rfl⟩
        | 1, _, hv => exact ⟨r2, c, e, (Option.some.inj hv).symm, h3, tb1.c, tb1.d, rfl⟩
      obtain ⟨r, m, n, rfl, hr0, bm, bn, eN⟩ := hv2
      subst e0
      refine ⟨r, rfl, [.int m, .int n], sm _ _ hr0, rfl, _, _, rfl, _, _, rfl, rfl, ?_⟩
      simp only [ap_seq, ap_next, ap_asg, ap_gName, ap_ret, ap_retN, ap_drop, ap_ifS, ap_break, ap_cont, ap_par, ap_aug, ap_ip, ap_gSub, ap_gTup, ap_gNil, ap_gCons, ap_var, ap_c, ap_op, ap_un, ap_if, ap_test, ap_B, ap_and, ap_or, ap_not, ap_andV, ap_orV, ap_notV, ap_nil, ap_cons, ap_tup, ap_lst, ap_cb, ap_bm, ap_call, ap_chain, ap_rI, ap_rI0, ap_rU, ap_rEq, ap_rNe, ap_revT, ap_sl, ap_part, ap_noPart, ap_ixLI, ap_ixTI, ap_ixLV, ap_ixTV, ap_len, ap_setLI, ap_setLV, ap_appI, ap_appV, ap_tupL, ap_listS, ap_sumLI, ap_sumTI, ap_repLI, ap_intI, ap_intB, ap_eqTI, ap_neTI, ap_eqLI, ap_neLI, ap_isi, ap_for, ap_rng1, ap_rng2, ap_iList, ap_iTup, ap_lc, ap_yes, ap_cut, ap_gTupH, ap_fmt, ap_jsn, ap_jsc, ap_gcd, ap_isqrt, ap_ixL, tyV_l, wipe_nil, wipe_cons, upd_same, ap_iEnT, ap_iEnL, ap_iZipA, ap_all, ap_tupT, ap_lenSetT, ap_slI, ap_catI, ap_perm, ap_lenO, ap_strO, ap_listO, ap_reprB, ap_iterT, ap_neT, ap_negO, ap_binI, ap_catL, ap_tM1, ap_repTI, ap_popN, ap_par3, ap_catTT, ap_countT, ap_notInT, ap_repL1, ap_shl, ap_shr, ap_mask, ap_comb, ap_bits, ap_rng3, List.set_cons_zero, List.set_cons_succ, List.getElem?_cons_zero, List.getElem?_cons_succ, List.cons_append, List.nil_append, List.append_nil, Option.some.injEq, V.int.injEq, V.ref.injEq, V.bl.injEq, V.str.injEq, V.ty.injEq, Bool.not_true, Bool.not_false, HO.lst.injEq, HO.tup.injEq, reduceCtorEq, Int.reduceToNat, Int.reduceLT, Int.reduceLE, Nat.reduceAdd, Int.cast_ofNat_Int, gi_c0, gi_c1, gi_c2, gi_c3, Int.natCast_inj, map_int_inj, map_nil_iff, List.cons.injEq, exists_eq_left, exists_eq_left', exists_eq, exists_eq', exists_and_left, exists_and_right, exists_const, and_assoc, and_true, true_and, and_false, false_and, or_false, false_or, or_true, true_or, ite_true, ite_false, if_true, if_false, Bool.false_eq_true, own_cons, own_nil, le1, le2, le3, le4, me_cons, me_nil, List.length_map, List.length_cons, List.length_nil, ne_eq, not_false_eq_true, not_true_eq_false, decide_eq_true_eq, CMu]
      refine ⟨.inl ⟨rfl, _, sqL_of el⟩, by omega, by omega, lc_rangeI (fun k => m * [x, y].getD k 0 + n * [z, u].getD k 0) (by omega) (fun x => rfl) (fun k H2 hk s2 Q' k' => ?_) (fun A1 H2 nA s2 eA => ?_)⟩
      · have g1' := s2 _ _ (sm _ _ g1)
        have g2' := s2 _ _ (sm _ _ g2)
        have g3' := s2 _ _ (sm _ _ g3)
        simp only [ap_seq, ap_next, ap_asg, ap_gName, ap_ret, ap_retN, ap_drop, ap_ifS, ap_break, ap_cont, ap_par, ap_aug, ap_ip, ap_gSub, ap_gTup, ap_gNil, ap_gCons, ap_var, ap_c, ap_op, ap_un, ap_if, ap_test, ap_B, ap_and, ap_or, ap_not, ap_andV, ap_orV, ap_notV, ap_nil, ap_cons, ap_tup, ap_lst, ap_cb, ap_bm, ap_call, ap_chain, ap_rI, ap_rI0, ap_rU, ap_rEq, ap_rNe, ap_revT, ap_sl, ap_part, ap_noPart, ap_ixLI, ap_ixTI, ap_ixLV, ap_ixTV, ap_len, ap_setLI, ap_setLV, ap_appI, ap_appV, ap_tupL, ap_listS, ap_sumLI, ap_sumTI, ap_repLI, ap_intI, ap_intB, ap_eqTI, ap_neTI, ap_eqLI, ap_neLI, ap_isi, ap_for, ap_rng1, ap_rng2, ap_iList, ap_iTup, ap_lc, ap_yes, ap_cut, ap_gTupH, ap_fmt, ap_jsn, ap_jsc, ap_gcd, ap_isqrt, ap_ixL, tyV_l, wipe_nil, wipe_cons, upd_same, ap_iEnT, ap_iEnL, ap_iZipA, ap_all, ap_tupT, ap_lenSetT, ap_slI, ap_catI, ap_perm, ap_lenO, ap_strO, ap_listO, ap_reprB, ap_iterT, ap_neT, ap_negO, ap_binI, ap_catL, ap_tM1, ap_repTI, ap_popN, ap_par3, ap_catTT, ap_countT, ap_notInT, ap_repL1, ap_shl, ap_shr, ap_mask, ap_comb, ap_bits, ap_rng3, List.set_cons_zero, List.set_cons_succ, List.getElem?_cons_zero, List.getElem?_cons_succ, List.cons_append, List.nil_append, List.append_nil, Option.some.injEq, V.int.injEq, V.ref.injEq, V.bl.injEq, V.str.injEq, V.ty.injEq, Bool.not_true, Bool.not_false, HO.lst.injEq, HO.tup.injEq, reduceCtorEq, Int.reduceToNat, Int.reduceLT, Int.reduceLE, Nat.reduceAdd, Int.cast_ofNat_Int, gi_c0, gi_c1, gi_c2, gi_c3, Int.natCast_inj, map_int_inj, map_nil_iff, List.cons.injEq, exists_eq_left, exists_eq_left', exists_eq, exists_eq', exists_and_left, exists_and_right, exists_const, and_assoc, and_true, true_and, and_false, false_and, or_false, false_or, or_true, true_or, ite_true, ite_false, if_true, if_false, Bool.false_eq_true, own_cons, own_nil, le1, le2, le3, le4, me_cons, me_nil, List.length_map, List.length_cons, List.length_nil, ne_eq, not_false_eq_true, not_true_eq_false, decide_eq_true_eq, g1', CMu]
        have c1 : Tn ([x, y].getD k 0) := by
          match k, hk with
          | 0, _ => exact tb2.a
          | 1, _ => exact tb2.b
        have c2 : Tn ([z, u].getD k 0) := by
          match k, hk with
          | 0, _ => exact tb2.c
          | 1, _ => exact tb2.d
        have gk1 : gi [x, y] (k : Nat) = [x, y].getD k 0 := gi_nat [x, y] k
        have gk2 : gi [z, u] (k : Nat) = [z, u].getD k 0 := gi_nat [z, u] k
        have ek : (0 : Int) + (k : Nat) = (k : Nat) := by omega
        rw [ek]
        refine ⟨_, rfl, q1, rfl, _, g2', by omega, by show ((k : Nat) : Int) < 2; omega, (wb bm).1, (wb bm).2, by rw [gk1]; exact (wb c1).1, by rw [gk1]; exact (wb c1).2, _, rfl, q2, rfl, _, g3', by omega, by show ((k : Nat) : Int) < 2; omega, (wb bn).1, (wb bn).2, by rw [gk2]; exact (wb c2).1, by rw [gk2]; exact (wb c2).2, ?_⟩
        rw [gk1, gk2]
        exact k' H2 (Same.refl H2)
      · have er2 : LI (List.map (fun k => m * [x, y].getD k 0 + n * [z, u].getD k 0) (List.range 2)) = LI [m * x + n * z, m * y + n * u] := rfl
        rw [er2] at eA
        refine ⟨A1, rfl, _, eA, fun t nt => ?_⟩
        have st := same_upd (o := HO.tup ([m * x + n * z, m * y + n * u].map V.int)) nt
        have et : upd H2 t (HO.tup ([m * x + n * z, m * y + n * u].map V.int)) t = some (TI [m * x + n * z, m * y + n * u]) := upd_same
        have el3 := st _ _ (s2 _ _ el)
        have S3 := (sm.trans s2).trans st
        have ntl : t ≠ l := fun e => by
          subst e
          rw [s2 _ _ el] at nt
          cases nt
        have rw2 := rw1.exc (Exc.same (d := l) (s2.trans st))
        generalize upd H2 t (HO.tup ([m * x + n * z, m * y + n * u].map V.int)) = H3 at et el3 S3 rw2 ⊢
        refine ⟨_, el3, by rw [List.length_map, rw1.1, List.length_take]; have : i < 2 := hi; omega, same_mut S3 nl, rs ++ [t], (List.map_append (f := V.ref) (l₁ := rs) (l₂ := [t])).symm, ?_⟩
        · rw [List.take_succ, eN]
          exact (rw2.snoc et ntl).exc Exc.upd
    · obtain ⟨rs, y3, y4, y5, e0, sm, el, rw1⟩ := hP
      subst e0
      simp only [ap_seq, ap_next, ap_asg, ap_gName, ap_ret, ap_retN, ap_drop, ap_ifS, ap_break, ap_cont, ap_par, ap_aug, ap_ip, ap_gSub, ap_gTup, ap_gNil, ap_gCons, ap_var, ap_c, ap_op, ap_un, ap_if, ap_test, ap_B, ap_and, ap_or, ap_not, ap_andV, ap_orV, ap_notV, ap_nil, ap_cons, ap_tup, ap_lst, ap_cb, ap_bm, ap_call, ap_chain, ap_rI, ap_rI0, ap_rU, ap_rEq, ap_rNe, ap_revT, ap_sl, ap_part, ap_noPart, ap_ixLI, ap_ixTI, ap_ixLV, ap_ixTV, ap_len, ap_setLI, ap_setLV, ap_appI, ap_appV, ap_tupL, ap_listS, ap_sumLI, ap_sumTI, ap_repLI, ap_intI, ap_intB, ap_eqTI, ap_neTI, ap_eqLI, ap_neLI, ap_isi, ap_for, ap_rng1, ap_rng2, ap_iList, ap_iTup, ap_lc, ap_yes, ap_cut, ap_gTupH, ap_fmt, ap_jsn, ap_jsc, ap_gcd, ap_isqrt, ap_ixL, tyV_l, wipe_nil, wipe_cons, upd_same, ap_iEnT, ap_iEnL, ap_iZipA, ap_all, ap_tupT, ap_lenSetT, ap_slI, ap_catI, ap_perm, ap_lenO, ap_strO, ap_listO, ap_reprB, ap_iterT, ap_neT, ap_negO, ap_binI, ap_catL, ap_tM1, ap_repTI, ap_popN, ap_par3, ap_catTT, ap_countT, ap_notInT, ap_repL1, ap_shl, ap_shr, ap_mask, ap_comb, ap_bits, ap_rng3, List.set_cons_zero, List.set_cons_succ, List.getElem?_cons_zero, List.getElem?_cons_succ, List.cons_append, List.nil_append, List.append_nil, Option.some.injEq, V.int.injEq, V.ref.injEq, V.bl.injEq, V.str.injEq, V.ty.injEq, Bool.not_true, Bool.not_false, HO.lst.injEq, HO.tup.injEq, reduceCtorEq, Int.reduceToNat, Int.reduceLT, Int.reduceLE, Nat.reduceAdd, Int.cast_ofNat_Int, gi_c0, gi_c1, gi_c2, gi_c3, Int.natCast_inj, map_int_inj, map_nil_iff, List.cons.injEq, exists_eq_left, exists_eq_left', exists_eq, exists_eq', exists_and_left, exists_and_right, exists_const, and_assoc, and_true, true_and, and_false, false_and, or_false, false_or, or_true, true_or, ite_true, ite_false, if_true, if_false, Bool.false_eq_true, own_cons, own_nil, le1, le2, le3, le4, me_cons, me_nil, List.length_map, List.length_cons, List.length_nil, ne_eq, not_false_eq_true, not_true_eq_false, decide_eq_true_eq]
      refine ⟨_, el, fun t nt => ?_⟩
      obtain ⟨rl, rr⟩ := rw1
      match rs, rl, rr, el, nt with
      | [t1, t2], _, rr, el, nt =>
        have e1 := (rr 0 t1 _ rfl rfl).1
        have e2 := (rr 1 t2 _ rfl rfl).1
        have st := same_upd (o := HO.tup ([t1, t2].map V.ref)) nt
        exact k _ t (sm.trans st) ⟨t1, t2, upd_same, st _ _ e1, st _ _ e2⟩
def sp_frame_of : Sp := fun vs H Q _ => ∃ (l : Addr) (a b c d e f : Int), vs = [.ref l] ∧ ThreeAt H l a b c d e f ∧ (∀ n ∈ [a, b, c, d, e, f], -1000 ≤ n ∧ n ≤ 1000) ∧ ∀ H' r, Same H H' → TabAt H' r ((e * d - c * f) * a) ((a * f - e * b) * c) ((e * d - c * f) * b) ((a * f - e * b) * d) → Q (.ref r) H'
theorem ok_frame_of (T : Tx K mg) : FnOk P w K mg base CX0 1 T.f_frame_of T.d_frame_of p_frame_of sp_frame_of := by
  refine T.F_frame_of.ok sc_frame_of (fun vs H Q E h => ?_) (fun cdv A outer s H vs Q E hr h => ?_)
  · obtain ⟨l, a, b, c, d, e, f, rfl, _⟩ := h
    rfl
  · obtain ⟨l, a, b, c, d, e, f, rfl, ⟨u1, u2, u3, h0, h1, h2, h3⟩, hn, k⟩ := h
    refine ⟨_, (pss_cons (ps_asg (pv 0) (pg_tupH (n := 3) (by rfl) (pgs_cons (pg_tupH (n := 2) (by rfl) (pgs_cons (pg_name (i := 1) sc_frame_of.nd rfl (by first | exact .inl rfl | exact .inr rfl)) (pgs_cons (pg_name (i := 2) sc_frame_of.nd rfl (by first | exact .inl rfl | exact .inr rfl)) pgs_nil))) (pgs_cons (pg_tupH (n := 2) (by rfl) (pgs_cons (pg_name (i := 3) sc_frame_of.nd rfl (by first | exact .inl rfl | exact .inr rfl)) (pgs_cons (pg_name (i := 4) sc_frame_of.nd rfl (by first | exact .inl rfl | exact .inr rfl)) pgs_nil))) (pgs_cons (pg_tupH (n := 2) (by rfl) (pgs_cons (pg_name (i := 5) sc_frame_of.nd rfl (by first | exact .inl rfl | exact .inr rfl)) (pgs_cons (pg_name (i := 6) sc_frame_of.nd rfl (by first | exact .inl rfl | exact .inr rfl)) pgs_nil))) pgs_nil)))))
      (pss_cons (ps_par (i := 7) (j := 8) (by rfl) sc_frame_of.nd rfl rfl (by decide) rfl rfl (pa_cons (pe_op op_sub (pe_op op_mulB (pv 5) (pv 4)) (pe_op op_mulB (pv 3) (pv 6))) (pa_cons (pe_op op_sub (pe_op op_mulB (pv 1) (pv 6)) (pe_op op_mulB (pv 5) (pv 2))) pa_nil)) (by rfl))
      (pss_one (ps_ret (pe_tup (pa_cons (pe_tup (pa_cons (pe_op op_mulB (pv 7) (pv 1)) (pa_cons (pe_op op_mulB (pv 8) (pv 3)) pa_nil))) (pa_cons (pe_tup (pa_cons (pe_op op_mulB (pv 7) (pv 2)) (pa_cons (pe_op op_mulB (pv 8) (pv 4)) pa_nil))) pa_nil))))))), ?_⟩
    rw [st_frame_of]
    simp only [ap_seq, ap_next, ap_asg, ap_gName, ap_ret, ap_retN, ap_drop, ap_ifS, ap_break, ap_cont, ap_par, ap_aug, ap_ip, ap_gSub, ap_gTup, ap_gNil, ap_gCons, ap_var, ap_c, ap_op, ap_un, ap_if, ap_test, ap_B, ap_and, ap_or, ap_not, ap_andV, ap_orV, ap_notV, ap_nil, ap_cons, ap_tup, ap_lst, ap_cb, ap_bm, ap_call, ap_chain, ap_rI, ap_rI0, ap_rU, ap_rEq, ap_rNe, ap_revT, ap_sl, ap_part, ap_noPart, ap_ixLI, ap_ixTI, ap_ixLV, ap_ixTV, ap_len, ap_setLI, ap_setLV, ap_appI, ap_appV, ap_tupL, ap_listS, ap_sumLI, ap_sumTI, ap_repLI, ap_intI, ap_intB, ap_eqTI, ap_neTI, ap_eqLI, ap_neLI, ap_isi, ap_for, ap_rng1, ap_rng2, ap_iList, ap_iTup, ap_lc, ap_yes, ap_cut, ap_gTupH, ap_fmt, ap_jsn, ap_jsc, ap_gcd, ap_isqrt, ap_ixL, tyV_l, wipe_nil, wipe_cons, upd_same, ap_iEnT, ap_iEnL, ap_iZipA, ap_all, ap_tupT, ap_lenSetT, ap_slI, ap_catI, ap_perm, ap_lenO, ap_strO, ap_listO, ap_reprB, ap_iterT, ap_neT, ap_negO, ap_binI, ap_catL, ap_tM1, ap_repTI, ap_popN, ap_par3, ap_catTT, ap_countT, ap_notInT, ap_repL1, ap_shl, ap_shr, ap_mask, ap_comb, ap_bits, ap_rng3, List.set_cons_zero, List.set_cons_succ, List.getElem?_cons_zero, List.getElem?_cons_succ, List.cons_append, List.nil_append, List.append_nil, Option.some.injEq, V.int.injEq, V.ref.injEq, V.bl.injEq, V.str.injEq, V.ty.injEq, Bool.not_true, Bool.not_false, HO.lst.injEq, HO.tup.injEq, reduceCtorEq, Int.reduceToNat, Int.reduceLT, Int.reduceLE, Nat.reduceAdd, Int.cast_ofNat_Int, gi_c0, gi_c1, gi_c2, gi_c3, Int.natCast_inj, map_int_inj, map_nil_iff, List.cons.injEq, exists_eq_left, exists_eq_left', exists_eq, exists_eq', exists_and_left, exists_and_right, exists_const, and_assoc, and_true, true_and, and_false, false_and, or_false, false_or, or_true, true_or, ite_true, ite_false, if_true, if_false, Bool.false_eq_true, own_cons, own_nil, le1, le2, le3, le4, me_cons, me_nil, List.length_map, List.length_cons, List.length_nil, ne_eq, not_false_eq_true, not_true_eq_false, decide_eq_true_eq, h0, h1, h2, h3]
    have ba := hn a (by simp)
    have bb := hn b (by simp)
    have bc := hn c (by simp)
    have bd := hn d (by simp)
    have be := hn e (by simp)
    have bf := hn f (by simp)
    have p1 := mul_bd (A := 1000) (B := 1000) be bd (by decide) (by decide)
    have p2 := mul_bd (A := 1000) (B := 1000) bc bf (by decide) (by decide)
    have p3 := mul_bd (A := 1000) (B := 1000) ba bf (by decide) (by decide)
    have p4 := mul_bd (A := 1000) (B := 1000) be bb (by decide) (by decide)
    have wb : ∀ n : Int, -10000000 ≤ n ∧ n ≤ 10000000 → Wd n := fun n h => Sm.wd (by unfold Sm; omega)
    have w1 := wb (e * d - c * f) (by omega)
    have w2 := wb (a * f - e * b) (by omega)
    refine ⟨⟨wb e (by omega), wb d (by omega)⟩, ⟨wb c (by omega), wb f (by omega)⟩, ⟨wb a (by omega), wb f (by omega)⟩, ⟨wb e (by omega), wb b (by omega)⟩, ⟨w1, wb a (by omega)⟩, ⟨w2, wb c (by omega)⟩, by decide, fun p np => ⟨⟨w1, wb b (by omega)⟩, ⟨w2, wb d (by omega)⟩, by decide, fun q nq => ⟨by decide, fun l nl => ?_⟩⟩⟩
    have s1 := same_upd (o := HO.tup [V.int ((e * d - c * f) * a), V.int ((a * f - e * b) * c)]) np
    have s2 := same_upd (o := HO.tup [V.int ((e * d - c * f) * b), V.int ((a * f - e * b) * d)]) nq
    have s3 := same_upd (o := HO.tup [V.ref p, V.ref q]) nl
    exact k _ l (s1.trans (s2.trans s3)) ⟨p, q, upd_same, s3 _ _ (s2 _ _ upd_same), s3 _ _ upd_same⟩
end
end My

namespace My
open PySem PySem.Spec PyProof.Rows L2 Pr
/-- three different points of a prime -/
structure Three (p x1 y1 x2 y2 x3 y3 : Int) : Prop where
  q1 : PtP p x1 y1
  q2 : PtP p x2 y2
  q3 : PtP p x3 y3
  n12 : [x1, y1] ≠ [x2, y2]
  n13 : [x1, y1] ≠ [x3, y3]
  n23 : [x2, y2] ≠ [x3, y3]
/-- the table between, as the program reckons it -/
def between (p x1 y1 x2 y2 x3 y3 u1 v1 u2 v2 u3 v3 : Int) : List Int :=
  let A := (u3 * v2 - u2 * v3) * u1
  let B := (u1 * v3 - u3 * v1) * u2
  let C := (u3 * v2 - u2 * v3) * v1
  let D := (u1 * v3 - u3 * v1) * v2
  let a := (x3 * y2 - x2 * y3) * x1
  let b := (x1 * y3 - x3 * y1) * x2
  let c := (x3 * y2 - x2 * y3) * y1
  let d := (x1 * y3 - x3 * y1) * y2
  plain4 p (A * d + B * -c) (A * -b + B * a) (C * d + D * -c) (C * -b + D * a)
theorem frame_bd {p x1 y1 x2 y2 x3 y3 : Int} (h : Three p x1 y1 x2 y2 x3 y3) (p1 : p < 1000) :
    T4 ((x3 * y2 - x2 * y3) * x1) ((x1 * y3 - x3 * y1) * x2) ((x3 * y2 - x2 * y3) * y1) ((x1 * y3 - x3 * y1) * y2) ∧ T4 ((x1 * y3 - x3 * y1) * y2) (-((x1 * y3 - x3 * y1) * x2)) (-((x3 * y2 - x2 * y3) * y1)) ((x3 * y2 - x2 * y3) * x1) := by
  obtain ⟨a0, a1, a2, a3, _⟩ := h.q1
  obtain ⟨b0, b1, b2, b3, _⟩ := h.q2
  obtain ⟨c0, c1, c2, c3, _⟩ := h.q3
  have w : ∀ {n : Int}, 0 ≤ n → n < p → -1000 ≤ n ∧ n ≤ 1000 := fun {n} h1 h2 => by omega
  have p1 := mul_bd (A := 1000) (B := 1000) (w c0 c1) (w b2 b3) (by decide) (by decide)
  have p2 := mul_bd (A := 1000) (B := 1000) (w b0 b1) (w c2 c3) (by decide) (by decide)
  have p3 := mul_bd (A := 1000) (B := 1000) (w a0 a1) (w c2 c3) (by decide) (by decide)
  have p4 := mul_bd (A := 1000) (B := 1000) (w c0 c1) (w a2 a3) (by decide) (by decide)
  have e1 : -10000000 ≤ x3 * y2 - x2 * y3 ∧ x3 * y2 - x2 * y3 ≤ 10000000 := by omega
  have e2 : -10000000 ≤ x1 * y3 - x3 * y1 ∧ x1 * y3 - x3 * y1 ≤ 10000000 := by omega
  have g1 := mul_bd (A := 10000000) (B := 1000) e1 (w a0 a1) (by decide) (by decide)
  have g2 := mul_bd (A := 10000000) (B := 1000) e2 (w b0 b1) (by decide) (by decide)
  have g3 := mul_bd (A := 10000000) (B := 1000) e1 (w a2 a3) (by decide) (by decide)
  have g4 := mul_bd (A := 10000000) (B := 1000) e2 (w b2 b3) (by decide) (by decide)
  have T : ∀ {n : Int}, -(10000000 * 1000) ≤ n ∧ n ≤ 10000000 * 1000 → Tn n := fun {n} h => by unfold Tn; omega
  exact ⟨⟨T g1, T g2, T g3, T g4⟩, T g4, T (by omega), T (by omega), T g1⟩
theorem eraseIdx_perm {α : Type} : ∀ (l : List α) (i : Nat) (y : α), l[i]? = some y → (y :: l.eraseIdx i).Perm l
  | a :: t, 0, y, h => by
    cases h
    exact List.Perm.refl _
  | a :: t, i + 1, y, h => (List.Perm.swap a y (t.eraseIdx i)).trans ((eraseIdx_perm t i y h).cons a)
theorem exc_new {d q : Addr} {H H' : Hp} {o : HO} (h : Exc d H H') (n : H q = none) : Exc d H (upd H' q o) := fun r x nr e => by
  rw [upd_ne fun e2 => ?_]
  · exact h r x nr e
  · rw [e2, n] at e
    cases e
theorem map_eraseIdx {α β : Type} (f : α → β) : ∀ (l : List α) (i : Nat), (l.map f).eraseIdx i = (l.eraseIdx i).map f
  | [], _ => rfl
  | _ :: _, 0 => rfl
  | a :: t, i + 1 => congrArg (f a :: ·) (map_eraseIdx f t i)
section
variable {g : TG} {D : Ends} {σ : L2.St} {H : Hp} {j : Nat} {te : TE} {vs : List Nat} {Q : VK} {tt : TT}
theorem lc_rangeT {lo : Int} {n : Nat} {d : Addr} (R : List Int → Prop) (hn : n < 1000000) (hD : Dc H d) (hw : ∀ x, wipe ((wipe σ vs).set j (some x)) vs = wipe σ vs)
    (he : ∀ (i : Nat) H', i < n → Exc d H H' → Dc H' d → ∀ Q' : VK, (∀ H'' r ns, Exc d H' H'' → Dc H'' d → H'' r = some (TI ns) → r ≠ d → R ns → Q' (.ref r) H'') → te ((wipe σ vs).set j (some (.int (lo + i)))) H' Q')
    (hq : ∀ p H' rs nss, H p = none → Exc d H H' → Dc H' d → nss.length = n → (∀ ns ∈ nss, R ns) → H' p = some (.lst (rs.map V.ref)) → Rows H' d rs nss → Q (.ref p) H') :
    tLcIn (gName j) tYes te vs σ Q (Itr lo n) H := fun A hA => by
  have nd : A ≠ d := by
    obtain ⟨_, _, _, e⟩ := hD
    exact (ne_of_none e hA).symm
  refine lc_range (g := gName j) (lo := lo) (n := n) (fun i H' => Exc d H H' ∧ Dc H' d ∧ ∃ rs nss, nss.length = i ∧ (∀ x ∈ nss, R x) ∧ H' A = some (.lst (rs.map V.ref)) ∧ Rows H' d rs nss) ⟨.same (same_upd hA), hD.same (same_upd hA), [], [], rfl, by simp, upd_same, rfl, fun i r ns e1 => by simp at e1⟩ (fun i H' hi hP => ?_) (fun H' hP => ?_)
  · obtain ⟨ex, dc, rs, nss, l, r, e, rw1⟩ := hP
    refine ⟨hw _, he i H' hi ex dc _ fun H2 t ns ex2 dc2 et td rx => ⟨_, ex2 _ _ nd e, sz (by have := rw1.1; simp; omega), ?_, ?_, rs ++ [t], nss ++ [ns], by simp [l], ?_, ?_, ?_⟩⟩
    · intro b o hb eb
      rw [upd_ne (ne_of_none eb hA)]
      exact ex2 _ _ hb (ex _ _ hb eb)
    · obtain ⟨a1, a2, a3, ed⟩ := dc2
      exact ⟨a1, a2, a3, by rw [upd_ne nd.symm]; exact ed⟩
    · intro y hy
      rcases List.mem_append.mp hy with h | h
      · exact r y h
      · rw [show y = ns by simpa using h]
        exact rx
    · rw [upd_same]
      exact congrArg (fun z => some (HO.lst z)) (List.map_append (f := V.ref) (l₁ := rs) (l₂ := [t])).symm
    · have r2 := (rw1.exc ex2).snoc et td
      refine ⟨r2.1, fun i r' ns' e1 e2 => ?_⟩
      obtain ⟨c1, c2⟩ := r2.2 i r' ns' e1 e2
      refine ⟨?_, c2⟩
      have ne : r' ≠ A := by
        rintro rfl
        rw [ex2 _ _ nd e] at c1
        cases c1
      rw [upd_ne ne]
      exact c1
  · obtain ⟨ex, dc, rs, nss, l, r, e, rw1⟩ := hP
    exact hq A H' rs nss hA ex dc l r e rw1

theorem lc_pairV {J : It} {n : Nat} {F : Hp → Prop} {R : Nat → V → V → Prop} {u v : Nat} (G : Gives J n F (PY R)) (f : Nat → V) (hn : n < 1000000) (hF : ∀ H', Same H H' → F H')
    (hw : ∀ x y, wipe (((wipe σ vs).set u (some x)).set v (some y)) vs = wipe σ vs)
    (he : ∀ i a b H', i < n → R i a b → Same H H' → ∀ Q' : VK, (∀ H'', Same H' H'' → Q' (f i) H'') → te (((wipe σ vs).set u (some a)).set v (some b)) H' Q')
    (hq : ∀ p H', H p = none → Same H H' → H' p = some (.lst ((List.range n).map f)) → Q (.ref p) H') :
    tLcIn (gTupH 2 (gCons (gName u) (gCons (gName v) gNil))) tYes te vs σ Q J H := by
  refine lc_gen G (fun A i H' => Same H H' ∧ H' A = some (.lst ((List.range i).map f))) (fun A hA => ⟨same_upd hA, upd_same⟩) (fun A i H' _ p => hF H' p.1) (fun A i x H1 H' hA hi p y => ?_) (fun A H' hA p => hq A H' hA p.1 p.2)
  refine pair_in y fun t a b nt r => ⟨hw a b, ?_⟩
  have s1 := same_upd (o := HO.tup [a, b]) nt
  refine he i a b _ hi r (p.1.trans s1) _ fun H2 s2 => ⟨_, s2 _ _ (s1 _ _ p.2), sz (by simp; omega), same_mut ((p.1.trans s1).trans s2) hA, ?_⟩
  rw [upd_same, List.range_succ, List.map_append]
  simp
end
theorem pts_pt {p : Int} (hp : 1 < p) {n : List Int} (h : n ∈ ptsP p) : ∃ x y, n = [x, y] ∧ PtP p x y := by
  unfold ptsP at h
  rcases List.mem_cons.mp h with rfl | h
  · exact ⟨0, 1, rfl, ⟨by omega, by omega, by omega, by omega, .inr ⟨rfl, rfl⟩⟩⟩
  · obtain ⟨b, hb, rfl⟩ := List.mem_map.mp h
    rw [List.mem_range] at hb
    exact ⟨1, b, rfl, ⟨by omega, by omega, by omega, by omega, .inl rfl⟩⟩
theorem pts_nodup (p : Int) : (ptsP p).Nodup := by
  unfold ptsP
  refine List.nodup_cons.mpr ⟨fun h => ?_, ?_⟩
  · obtain ⟨b, _, e⟩ := List.mem_map.mp h
    cases e
  · rw [List.nodup_iff_pairwise_ne, List.pairwise_map]
    refine List.Pairwise.imp (fun {a b} h e => h ?_) (List.nodup_iff_pairwise_ne.mp List.nodup_range)
    have := (List.cons.inj (List.cons.inj e).2).1
    omega
section
variable {P : Program} {w : World} {K : PySem.W.Frag} {mg : Str → Option Value} {base : Heap}
def sp_table_by_three : Sp := fun vs H Q _ => ∃ (p : Int) (l m : Addr) (x1 y1 x2 y2 x3 y3 u1 v1 u2 v2 u3 v3 : Int), vs = [.int p, .ref l, .ref m] ∧ p ∈ primes ∧ ThreeAt H l x1 y1 x2 y2 x3 y3 ∧ ThreeAt H m u1 v1 u2 v2 u3 v3 ∧ Three p x1 y1 x2 y2 x3 y3 ∧ Three p u1 v1 u2 v2 u3 v3 ∧ ∀ H' r a b c d, Same H H' → between p x1 y1 x2 y2 x3 y3 u1 v1 u2 v2 u3 v3 = [a, b, c, d] → TabAt H' r a b c d → Q (.ref r) H'
theorem ok_table_by_three (T : Tx K mg) : FnOk P w K mg base CX0 7 T.f_table_by_three T.d_table_by_three p_table_by_three sp_table_by_three := by
  refine T.F_table_by_three.ok sc_table_by_three (fun vs H Q E h => ?_) (fun cdv A outer s H vs Q E hr h => ?_)
  · obtain ⟨p, l, m, x1, y1, x2, y2, x3, y3, u1, v1, u2, v2, u3, v3, rfl, _⟩ := h
    rfl
  · obtain ⟨p, l, m, x1, y1, x2, y2, x3, y3, u1, v1, u2, v2, u3, v3, rfl, hp, hl, hm, hx, hu, k⟩ := h
    refine ⟨_, (pss_cons (ps_expr (pe_call (ok_need_prime T) (hr.mono (by decide)) (by rfl) T.m_need_prime T.F_need_prime.kp T.b_need_prime .nil pass0 (pa_cons (pv 0) pa_nil)))
      (pss_cons (ps_expr (pe_call (ok_need_three T) (hr.mono (by decide)) (by rfl) T.m_need_three T.F_need_three.kp T.b_need_three .nil pass0 (pa_cons (pv 1) (pa_cons (pv 0) pa_nil))))
      (pss_cons (ps_expr (pe_call (ok_need_three T) (hr.mono (by decide)) (by rfl) T.m_need_three T.F_need_three.kp T.b_need_three .nil pass0 (pa_cons (pv 2) (pa_cons (pv 0) pa_nil))))
      (pss_one (ps_ret (pe_call (ok_plain_change T) (hr.mono (by decide)) (by rfl) T.m_plain_change T.F_plain_change.kp T.b_plain_change .nil pass0 (pa_cons (pe_call (ok_product_of_changes T) (hr.mono (by decide)) (by rfl) T.m_product_of_changes T.F_product_of_changes.kp T.b_product_of_changes .nil pass0 (pa_cons (pe_call (ok_frame_of T) (hr.mono (by decide)) (by rfl) T.m_frame_of T.F_frame_of.kp T.b_frame_of .nil pass0 (pa_cons (pv 2) pa_nil)) (pa_cons (pe_call (ok_undone_change T) (hr.mono (by decide)) (by rfl) T.m_undone_change T.F_undone_change.kp T.b_undone_change .nil pass0 (pa_cons (pe_call (ok_frame_of T) (hr.mono (by decide)) (by rfl) T.m_frame_of T.F_frame_of.kp T.b_frame_of .nil pass0 (pa_cons (pv 1) pa_nil)) pa_nil)) pa_nil))) (pa_cons (pv 0) pa_nil)))))))), ?_⟩
    rw [st_table_by_three]
    simp only [ap_seq, ap_next, ap_asg, ap_gName, ap_ret, ap_retN, ap_drop, ap_ifS, ap_break, ap_cont, ap_par, ap_aug, ap_ip, ap_gSub, ap_gTup, ap_gNil, ap_gCons, ap_var, ap_c, ap_op, ap_un, ap_if, ap_test, ap_B, ap_and, ap_or, ap_not, ap_andV, ap_orV, ap_notV, ap_nil, ap_cons, ap_tup, ap_lst, ap_cb, ap_bm, ap_call, ap_chain, ap_rI, ap_rI0, ap_rU, ap_rEq, ap_rNe, ap_revT, ap_sl, ap_part, ap_noPart, ap_ixLI, ap_ixTI, ap_ixLV, ap_ixTV, ap_len, ap_setLI, ap_setLV, ap_appI, ap_appV, ap_tupL, ap_listS, ap_sumLI, ap_sumTI, ap_repLI, ap_intI, ap_intB, ap_eqTI, ap_neTI, ap_eqLI, ap_neLI, ap_isi, ap_for, ap_rng1, ap_rng2, ap_iList, ap_iTup, ap_lc, ap_yes, ap_cut, ap_gTupH, ap_fmt, ap_jsn, ap_jsc, ap_gcd, ap_isqrt, ap_ixL, tyV_l, wipe_nil, wipe_cons, upd_same, ap_iEnT, ap_iEnL, ap_iZipA, ap_all, ap_tupT, ap_lenSetT, ap_slI, ap_catI, ap_perm, ap_lenO, ap_strO, ap_listO, ap_reprB, ap_iterT, ap_neT, ap_negO, ap_binI, ap_catL, ap_tM1, ap_repTI, ap_popN, ap_par3, ap_catTT, ap_countT, ap_notInT, ap_repL1, ap_shl, ap_shr, ap_mask, ap_comb, ap_bits, ap_rng3, List.set_cons_zero, List.set_cons_succ, List.getElem?_cons_zero, List.getElem?_cons_succ, List.cons_append, List.nil_append, List.append_nil, Option.some.injEq, V.int.injEq, V.ref.injEq, V.bl.injEq, V.str.injEq, V.ty.injEq, Bool.not_true, Bool.not_false, HO.lst.injEq, HO.tup.injEq, reduceCtorEq, Int.reduceToNat, Int.reduceLT, Int.reduceLE, Nat.reduceAdd, Int.cast_ofNat_Int, gi_c0, gi_c1, gi_c2, gi_c3, Int.natCast_inj, map_int_inj, map_nil_iff, List.cons.injEq, exists_eq_left, exists_eq_left', exists_eq, exists_eq', exists_and_left, exists_and_right, exists_const, and_assoc, and_true, true_and, and_false, false_and, or_false, false_or, or_true, true_or, ite_true, ite_false, if_true, if_false, Bool.false_eq_true, own_cons, own_nil, le1, le2, le3, le4, me_cons, me_nil, List.length_map, List.length_cons, List.length_nil, ne_eq, not_false_eq_true, not_true_eq_false, decide_eq_true_eq]
    have pb := primes_bd hp
    obtain ⟨l1, l2, l3, hl0, hl1, hl2, hl3⟩ := hl.ex
    obtain ⟨m1, m2, m3, hm0, hm1, hm2, hm3⟩ := hm.ex
    refine ⟨p, rfl, hp, l, l1, l2, l3, x1, y1, x2, y2, x3, y3, p, rfl, hl0, hl1, hl2, hl3, hx.q1, hx.q2, hx.q3, hx.n12, hx.n13, hx.n23, by omega, by omega, fun H1 s1 => ?_⟩
    refine ⟨m, m1, m2, m3, u1, v1, u2, v2, u3, v3, p, rfl, s1 _ _ hm0, s1 _ _ hm1, s1 _ _ hm2, s1 _ _ hm3, hu.q1, hu.q2, hu.q3, hu.n12, hu.n13, hu.n23, by omega, by omega, fun H2 s2 => ?_⟩
    have bb : ∀ {q x1 y1 x2 y2 x3 y3 : Int}, q < 1000 → Three q x1 y1 x2 y2 x3 y3 → ∀ n ∈ [x1, y1, x2, y2, x3, y3], -1000 ≤ n ∧ n ≤ 1000 := fun {q x1 y1 x2 y2 x3 y3} hq h n hn => by
      obtain ⟨a0, a1, a2, a3, _⟩ := h.q1
      obtain ⟨b0, b1, b2, b3, _⟩ := h.q2
      obtain ⟨c0, c1, c2, c3, _⟩ := h.q3
      simp only [List.mem_cons, List.not_mem_nil, or_false] at hn
      rcases hn with rfl | rfl | rfl | rfl | rfl | rfl <;> omega
    refine ⟨m, u1, v1, u2, v2, u3, v3, rfl, hm.same (s1.trans s2), bb (by omega) hu, fun H3 f s3 hf => ?_⟩
    refine ⟨l, x1, y1, x2, y2, x3, y3, rfl, hl.same (s1.trans (s2.trans s3)), bb (by omega) hx, fun H4 g s4 hg => ?_⟩
    refine ⟨g, _, _, _, _, rfl, hg, fun H5 g' s5 hg' => ?_⟩
    have t1 := (frame_bd hu (by omega)).1
    have t2 := (frame_bd hx (by omega)).2
    refine ⟨f, g', _, _, _, _, _, _, _, _, rfl, hf.same (s4.trans s5), hg', t1, t2, fun H6 z s6 hz => ?_⟩
    refine ⟨z, _, _, _, _, p, rfl, hz, fun n hn => ?_, by omega, by omega, fun H7 r a b c d s7 e er => k H7 r a b c d (s1.trans (s2.trans (s3.trans (s4.trans (s5.trans (s6.trans s7)))))) e er⟩
    have mb : ∀ {x y : Int}, Tn x → Tn y → -(10 ^ 45 * 10 ^ 45) ≤ x * y ∧ x * y ≤ 10 ^ 45 * 10 ^ 45 := fun {x y} hx hy => mul_bd hx hy (by decide) (by decide)
    have q1 := mb t1.a t2.a
    have q2 := mb t1.b t2.c
    have q3 := mb t1.a t2.b
    have q4 := mb t1.b t2.d
    have q5 := mb t1.c t2.a
    have q6 := mb t1.d t2.c
    have q7 := mb t1.c t2.b
    have q8 := mb t1.d t2.d
    simp only [List.mem_cons, List.not_mem_nil, or_false] at hn
    rcases hn with rfl | rfl | rfl | rfl <;> omega
def sp_law_prime_table : Sp := fun vs H Q _ => ∃ (d : Addr) (p : Int), vs = [.ref d, .int p] ∧ Dc H d ∧ p ∈ primes ∧ ∀ H' r a b c e, Exc d H H' → Dc H' d → TabAt H' r a b c e → (∀ n ∈ [a, b, c, e], -(10 ^ 20) ≤ n ∧ n ≤ 10 ^ 20) → (a * e - b * c) % p ≠ 0 → Q (.ref r) H'
theorem ok_law_prime_table (T : Tx K mg) : FnOk P w K mg base CX0 3 T.f_law_prime_table T.d_law_prime_table p_law_prime_table sp_law_prime_table := by
  refine T.F_law_prime_table.ok sc_law_prime_table (fun vs H Q E h => ?_) (fun cdv A outer s H vs Q E hr h => ?_)
  · obtain ⟨d, p, rfl, _⟩ := h
    rfl
  · obtain ⟨d, p, rfl, hD, hp, k⟩ := h
    refine ⟨_, (pss_cons (ps_set (i := 2) sc_law_prime_table.nd rfl (Or.inr rfl) (pe_call (ok_law_pick T) (hr.mono (by decide)) (by rfl) T.m_law_pick T.F_law_pick.kp T.b_law_pick .nil pass0 (pa_cons (pv 0) (pa_cons (pe_lst (pa_cons pe_int (pa_cons (pv 1) (pa_cons (pe_op op_mulB pe_int (pv 1)) (pa_cons (pe_op op_pow pe_int pe_int) pa_nil))))) pa_nil))))
      (pss_cons (ps_set (i := 3) sc_law_prime_table.nd rfl (Or.inl rfl) (pe_callTy cr_tupL (by rfl) T.z_tuple (by decide +kernel) (pa_cons (pe_lc (own := [("_law_row", 4)]) (g := gName 4) (tt := tYes) rfl sc_law_prime_table.nd (pi_range1 (by rfl) T.z_range (pa_cons pe_int pa_nil)) (blkOk_by (N := n_law_prime_table) (sc := defScope s_law_prime_table) (by decide +kernel)) (fun _ _ _ _ _ => (pg_name (i := 4) sc_law_prime_table.nd rfl (by first | exact .inl rfl | exact .inr rfl))) (fun _ _ _ _ _ => pts_nil) (fun _ _ _ _ _ => (pe_tup (pa_cons (pe_call (ok_law_near T) (hr.mono (by decide)) (by rfl) T.m_law_near T.F_law_near.kp T.b_law_near .nil pass0 (pa_cons (pv 0) (pa_cons (pv 2) pa_nil))) (pa_cons (pe_call (ok_law_near T) (hr.mono (by decide)) (by rfl) T.m_law_near T.F_law_near.kp T.b_law_near .nil pass0 (pa_cons (pv 0) (pa_cons (pv 2) pa_nil))) pa_nil))))) pa_nil)))
      (pss_one (ps_ret (pe_ifExp (pt_cmpR op_ne (pe_op op_mod (pe_callTy cr_intI (by rfl) T.z_int (by decide +kernel) (pa_cons (pe_call (ok_law_det T) (hr.mono (by decide)) (by rfl) T.m_law_det T.F_law_det.kp T.b_law_det .nil pass0 (pa_cons (pv 3) pa_nil)) pa_nil)) (pv 1)) pe_int (nomark _)) (pv 3) (pe_tup (pa_cons (pe_tup (pa_cons pe_int (pa_cons pe_int pa_nil))) (pa_cons (pe_tup (pa_cons pe_int (pa_cons pe_int pa_nil))) pa_nil)))))))), ?_⟩
    rw [st_law_prime_table]
    simp only [ap_seq, ap_next, ap_asg, ap_gName, ap_ret, ap_retN, ap_drop, ap_ifS, ap_break, ap_cont, ap_par, ap_aug, ap_ip, ap_gSub, ap_gTup, ap_gNil, ap_gCons, ap_var, ap_c, ap_op, ap_un, ap_if, ap_test, ap_B, ap_and, ap_or, ap_not, ap_andV, ap_orV, ap_notV, ap_nil, ap_cons, ap_tup, ap_lst, ap_cb, ap_bm, ap_call, ap_chain, ap_rI, ap_rI0, ap_rU, ap_rEq, ap_rNe, ap_revT, ap_sl, ap_part, ap_noPart, ap_ixLI, ap_ixTI, ap_ixLV, ap_ixTV, ap_len, ap_setLI, ap_setLV, ap_appI, ap_appV, ap_tupL, ap_listS, ap_sumLI, ap_sumTI, ap_repLI, ap_intI, ap_intB, ap_eqTI, ap_neTI, ap_eqLI, ap_neLI, ap_isi, ap_for, ap_rng1, ap_rng2, ap_iList, ap_iTup, ap_lc, ap_yes, ap_cut, ap_gTupH, ap_fmt, ap_jsn, ap_jsc, ap_gcd, ap_isqrt, ap_ixL, tyV_l, wipe_nil, wipe_cons, upd_same, ap_iEnT, ap_iEnL, ap_iZipA, ap_all, ap_tupT, ap_lenSetT, ap_slI, ap_catI, ap_perm, ap_lenO, ap_strO, ap_listO, ap_reprB, ap_iterT, ap_neT, ap_negO, ap_binI, ap_catL, ap_tM1, ap_repTI, ap_popN, ap_par3, ap_catTT, ap_countT, ap_notInT, ap_repL1, ap_shl, ap_shr, ap_mask, ap_comb, ap_bits, ap_rng3, List.set_cons_zero, List.set_cons_succ, List.getElem?_cons_zero, List.getElem?_cons_succ, List.cons_append, List.nil_append, List.append_nil, Option.some.injEq, V.int.injEq, V.ref.injEq, V.bl.injEq, V.str.injEq, V.ty.injEq, Bool.not_true, Bool.not_false, HO.lst.injEq, HO.tup.injEq, reduceCtorEq, Int.reduceToNat, Int.reduceLT, Int.reduceLE, Nat.reduceAdd, Int.cast_ofNat_Int, gi_c0, gi_c1, gi_c2, gi_c3, Int.natCast_inj, map_int_inj, map_nil_iff, List.cons.injEq, exists_eq_left, exists_eq_left', exists_eq, exists_eq', exists_and_left, exists_and_right, exists_const, and_assoc, and_true, true_and, and_false, false_and, or_false, false_or, or_true, true_or, ite_true, ite_false, if_true, if_false, Bool.false_eq_true, own_cons, own_nil, le1, le2, le3, le4, me_cons, me_nil, List.length_map, List.length_cons, List.length_nil, ne_eq, not_false_eq_true, not_true_eq_false, decide_eq_true_eq]
    have pb := primes_bd hp
    have nd : ∀ {q : Addr} {H : Hp}, Dc H d → H q = none → q ≠ d := fun {q H} hD nq e => by
      subst e
      obtain ⟨_, _, _, e⟩ := hD
      rw [e] at nq
      cases nq
    refine ⟨⟨Sm.wd (by unfold Sm; omega), Sm.wd (by unfold Sm; omega)⟩, ⟨by decide, by decide, by decide⟩, by decide, fun l nl => ?_⟩
    have s1 := same_upd (o := LI [2, p, 3 * p, 10 ^ 20]) nl
    refine ⟨d, l, [2, p, 3 * p, 10 ^ 20], rfl, hD.same s1, upd_same, nd hD nl, by show 0 < 4; omega, by show 4 < 1000; omega, fun H1 i ex1 D1 hi => ⟨by decide, by decide, ?_⟩⟩
    have hm : 0 ≤ ([2, p, 3 * p, 10 ^ 20] : List Int).getD i 0 ∧ ([2, p, 3 * p, 10 ^ 20] : List Int).getD i 0 ≤ 10 ^ 20 := by
      match i, hi with
      | 0, _ => exact ⟨show (0 : Int) ≤ 2 by decide, show (2 : Int) ≤ 10 ^ 20 by decide⟩
      | 1, _ => exact ⟨show 0 ≤ p by omega, show p ≤ 10 ^ 20 by omega⟩
      | 2, _ => exact ⟨show 0 ≤ 3 * p by omega, show 3 * p ≤ 10 ^ 20 by omega⟩
      | 3, _ => exact ⟨show (0 : Int) ≤ 10 ^ 20 by decide, Int.le_refl _⟩
    generalize ([2, p, 3 * p, 10 ^ 20] : List Int).getD i 0 = m at hm ⊢
    refine lc_rangeT (fun ns => ∃ a b, ns = [a, b] ∧ (-(10 ^ 20) ≤ a ∧ a ≤ 10 ^ 20) ∧ (-(10 ^ 20) ≤ b ∧ b ≤ 10 ^ 20)) (by decide) D1 (fun x => rfl) (fun i H2 hi ex2 D2 Q' k' => ?_) (fun A1 H2 rs nss nA ex2 D2 ln hR eA rw1 => ?_)
    · simp only [ap_seq, ap_next, ap_asg, ap_gName, ap_ret, ap_retN, ap_drop, ap_ifS, ap_break, ap_cont, ap_par, ap_aug, ap_ip, ap_gSub, ap_gTup, ap_gNil, ap_gCons, ap_var, ap_c, ap_op, ap_un, ap_if, ap_test, ap_B, ap_and, ap_or, ap_not, ap_andV, ap_orV, ap_notV, ap_nil, ap_cons, ap_tup, ap_lst, ap_cb, ap_bm, ap_call, ap_chain, ap_rI, ap_rI0, ap_rU, ap_rEq, ap_rNe, ap_revT, ap_sl, ap_part, ap_noPart, ap_ixLI, ap_ixTI, ap_ixLV, ap_ixTV, ap_len, ap_setLI, ap_setLV, ap_appI, ap_appV, ap_tupL, ap_listS, ap_sumLI, ap_sumTI, ap_repLI, ap_intI, ap_intB, ap_eqTI, ap_neTI, ap_eqLI, ap_neLI, ap_isi, ap_for, ap_rng1, ap_rng2, ap_iList, ap_iTup, ap_lc, ap_yes, ap_cut, ap_gTupH, ap_fmt, ap_jsn, ap_jsc, ap_gcd, ap_isqrt, ap_ixL, tyV_l, wipe_nil, wipe_cons, upd_same, ap_iEnT, ap_iEnL, ap_iZipA, ap_all, ap_tupT, ap_lenSetT, ap_slI, ap_catI, ap_perm, ap_lenO, ap_strO, ap_listO, ap_reprB, ap_iterT, ap_neT, ap_negO, ap_binI, ap_catL, ap_tM1, ap_repTI, ap_popN, ap_par3, ap_catTT, ap_countT, ap_notInT, ap_repL1, ap_shl, ap_shr, ap_mask, ap_comb, ap_bits, ap_rng3, List.set_cons_zero, List.set_cons_succ, List.getElem?_cons_zero, List.getElem?_cons_succ, List.cons_append, List.nil_append, List.append_nil, Option.some.injEq, V.int.injEq, V.ref.injEq, V.bl.injEq, V.str.injEq, V.ty.injEq, Bool.not_true, Bool.not_false, HO.lst.injEq, HO.tup.injEq, reduceCtorEq, Int.reduceToNat, Int.reduceLT, Int.reduceLE, Nat.reduceAdd, Int.cast_ofNat_Int, gi_c0, gi_c1, gi_c2, gi_c3, Int.natCast_inj, map_int_inj, map_nil_iff, List.cons.injEq, exists_eq_left, exists_eq_left', exists_eq, exists_eq', exists_and_left, exists_and_right, exists_const, and_assoc, and_true, true_and, and_false, false_and, or_false, false_or, or_true, true_or, ite_true, ite_false, if_true, if_false, Bool.false_eq_true, own_cons, own_nil, le1, le2, le3, le4, me_cons, me_nil, List.length_map, List.length_cons, List.length_nil, ne_eq, not_false_eq_true, not_true_eq_false, decide_eq_true_eq]
      refine ⟨d, m, rfl, D2, by omega, by omega, fun H3 u ex3 D3 u0 u1 => ?_⟩
      refine ⟨d, m, rfl, D3, by omega, by omega, fun H4 v ex4 D4 v0 v1 => ?_⟩
      refine ⟨by decide, fun z nz => ?_⟩
      exact k' _ z [u, v] ((ex3.trans ex4).trans (.same (same_upd nz))) (D4.same (same_upd nz)) upd_same (nd D4 nz) ⟨u, v, rfl, ⟨by omega, by omega⟩, ⟨by omega, by omega⟩⟩
    · obtain ⟨rl, rr⟩ := rw1
      match nss, ln, hR, rl, rr with
      | [n1, n2], _, hR, rl, rr =>
        match rs, rl, rr, eA with
        | [r1, r2], _, rr, eA =>
          obtain ⟨a, b, rfl, ba, bb⟩ := hR n1 (by simp)
          obtain ⟨c, e, rfl, bc, be⟩ := hR n2 (by simp)
          have g1 := rr 0 r1 [a, b] rfl rfl
          have g2 := rr 1 r2 [c, e] rfl rfl
          refine ⟨A1, rfl, _, eA, fun z nz => ?_⟩
          have sl := same_upd (o := HO.tup ([r1, r2].map V.ref)) nz
          have h0 : upd H2 z (HO.tup ([r1, r2].map V.ref)) z = some (.tup [.ref r1, .ref r2]) := upd_same
          have h1 := sl _ _ g1.1
          have h2 := sl _ _ g2.1
          have D3 := D2.same sl
          have ex3 := ((Exc.same s1).trans ex1).trans (ex2.trans (.same sl))
          generalize upd H2 z (HO.tup ([r1, r2].map V.ref)) = G at h0 h1 h2 D3 ex3 ⊢
          have sm : ∀ {n : Int}, -(10 ^ 20) ≤ n ∧ n ≤ 10 ^ 20 → Sm n := fun {n} h => by unfold Sm; omega
          refine ⟨z, a, b, c, e, rfl, ⟨r1, r2, h0, h1, h2⟩, sm ba, sm bb, sm bc, sm be, _, rfl, by omega, rfl, iteC (fun cd => ?_) (fun cd => ?_)⟩
          · refine k G z a b c e ex3 D3 ⟨r1, r2, h0, h1, h2⟩ (fun n hn => ?_) (by simpa using cd)
            simp only [List.mem_cons, List.not_mem_nil, or_false] at hn
            rcases hn with rfl | rfl | rfl | rfl <;> assumption
          · refine ⟨by decide, fun p1 np1 => ⟨by decide, fun p2 np2 => ⟨by decide, fun p3 np3 => ?_⟩⟩⟩
            have q1 := same_upd (o := TI [1, 1]) np1
            have q2 := same_upd (o := TI [0, 1]) np2
            have q3 := same_upd (o := HO.tup [V.ref p1, V.ref p2]) np3
            refine k _ p3 1 1 0 1 (ex3.trans (.same ((q1.trans q2).trans q3))) (D3.same ((q1.trans q2).trans q3)) ⟨p1, p2, upd_same, q3 _ _ (q2 _ _ upd_same), q3 _ _ upd_same⟩ (fun n hn => ?_) ?_
            · simp only [List.mem_cons, List.not_mem_nil, or_false] at hn
              rcases hn with rfl | rfl | rfl | rfl <;> decide
            · show (1 : Int) % p ≠ 0
              rw [Int.emod_eq_of_lt (by decide) (by omega)]
              decide
def sp_law_mixed : Sp := fun vs H Q _ => ∃ (d l : Addr) (ps : List (Addr × List Int)), vs = [.ref d, .ref l] ∧ Dc H d ∧ H l = some (.lst (ps.map fun q => V.ref q.1)) ∧ l ≠ d ∧ ps.length < 1000 ∧ ∀ H' r (ps' : List (Addr × List Int)), Exc d H H' → Dc H' d → ps'.Perm ps → H' r = some (.lst (ps'.map fun q => V.ref q.1)) → Q (.ref r) H'
theorem ok_law_mixed (T : Tx K mg) : FnOk P w K mg base CX0 2 T.f_law_mixed T.d_law_mixed p_law_mixed sp_law_mixed := by
  refine T.F_law_mixed.ok sc_law_mixed (fun vs H Q E h => ?_) (fun cdv A outer s H vs Q E hr h => ?_)
  · obtain ⟨d, l, ps, rfl, _⟩ := h
    rfl
  · obtain ⟨d, l, ps, rfl, hD, hl, nl, hn, k⟩ := h
    refine ⟨_, (pss_cons (ps_par (i := 2) (j := 3) (by rfl) sc_law_mixed.nd rfl rfl (by decide) rfl rfl (pa_cons (pe_callTy cr_listS (by rfl) T.z_list (by decide +kernel) (pa_cons (pv 1) pa_nil)) (pa_cons (pe_lst pa_nil) pa_nil)) (by rfl))
      (pss_cons (ps_for PassesOwn.never rfl (pi_range1 (by rfl) T.z_range (pa_cons (pe_callB cr_len (by rfl) T.z_len PySem.boot_len (pa_cons (pv 1) pa_nil)) pa_nil)) (pg_name (i := 4) sc_law_mixed.nd rfl (by first | exact .inl rfl | exact .inr rfl))
      (pss_one (ps_expr (pe_bm PySem.F.plainAttrs_list PySem.F.slot_list_append PySem.F.type_list_append mt_appV (pv 3) (pa_cons (pe_bm PySem.F.plainAttrs_list PySem.F.slot_list_pop PySem.F.type_list_pop mt_popN (pv 2) (pa_cons (pe_call (ok_law_roll T) (hr.mono (by decide)) (by rfl) T.m_law_roll T.F_law_roll.kp T.b_law_roll .nil pass0 (pa_cons (pv 0) (pa_cons (pe_callB cr_len (by rfl) T.z_len PySem.boot_len (pa_cons (pv 2) pa_nil)) pa_nil))) pa_nil)) pa_nil)))))
      (pss_one (ps_ret (pv 3))))), ?_⟩
    rw [st_law_mixed]
    simp only [ap_seq, ap_next, ap_asg, ap_gName, ap_ret, ap_retN, ap_drop, ap_ifS, ap_break, ap_cont, ap_par, ap_aug, ap_ip, ap_gSub, ap_gTup, ap_gNil, ap_gCons, ap_var, ap_c, ap_op, ap_un, ap_if, ap_test, ap_B, ap_and, ap_or, ap_not, ap_andV, ap_orV, ap_notV, ap_nil, ap_cons, ap_tup, ap_lst, ap_cb, ap_bm, ap_call, ap_chain, ap_rI, ap_rI0, ap_rU, ap_rEq, ap_rNe, ap_revT, ap_sl, ap_part, ap_noPart, ap_ixLI, ap_ixTI, ap_ixLV, ap_ixTV, ap_len, ap_setLI, ap_setLV, ap_appI, ap_appV, ap_tupL, ap_listS, ap_sumLI, ap_sumTI, ap_repLI, ap_intI, ap_intB, ap_eqTI, ap_neTI, ap_eqLI, ap_neLI, ap_isi, ap_for, ap_rng1, ap_rng2, ap_iList, ap_iTup, ap_lc, ap_yes, ap_cut, ap_gTupH, ap_fmt, ap_jsn, ap_jsc, ap_gcd, ap_isqrt, ap_ixL, tyV_l, wipe_nil, wipe_cons, upd_same, ap_iEnT, ap_iEnL, ap_iZipA, ap_all, ap_tupT, ap_lenSetT, ap_slI, ap_catI, ap_perm, ap_lenO, ap_strO, ap_listO, ap_reprB, ap_iterT, ap_neT, ap_negO, ap_binI, ap_catL, ap_tM1, ap_repTI, ap_popN, ap_par3, ap_catTT, ap_countT, ap_notInT, ap_repL1, ap_shl, ap_shr, ap_mask, ap_comb, ap_bits, ap_rng3, List.set_cons_zero, List.set_cons_succ, List.getElem?_cons_zero, List.getElem?_cons_succ, List.cons_append, List.nil_append, List.append_nil, Option.some.injEq, V.int.injEq, V.ref.injEq, V.bl.injEq, V.str.injEq, V.ty.injEq, Bool.not_true, Bool.not_false, HO.lst.injEq, HO.tup.injEq, reduceCtorEq, Int.reduceToNat, Int.reduceLT, Int.reduceLE, Nat.reduceAdd, Int.cast_ofNat_Int, gi_c0, gi_c1, gi_c2, gi_c3, Int.natCast_inj, map_int_inj, map_nil_iff, List.cons.injEq, exists_eq_left, exists_eq_left', exists_eq, exists_eq', exists_and_left, exists_and_right, exists_const, and_assoc, and_true, true_and, and_false, false_and, or_false, false_or, or_true, true_or, ite_true, ite_false, if_true, if_false, Bool.false_eq_true, own_cons, own_nil, le1, le2, le3, le4, me_cons, me_nil, List.length_map, List.length_cons, List.length_nil, ne_eq, not_false_eq_true, not_true_eq_false, decide_eq_true_eq]
    have nd : ∀ {q : Addr} {H : Hp}, Dc H d → H q = none → d ≠ q := fun {q H} hD nq e => by
      subst e
      obtain ⟨_, _, _, e⟩ := hD
      rw [e] at nq
      cases nq
    refine ⟨_, .inl hl, fun L nL => ⟨Nat.zero_le _, fun B nB => ?_⟩⟩
    have s1 := same_upd (o := HO.lst (ps.map fun q => V.ref q.1)) nL
    have s2 := same_upd (o := HO.lst []) nB
    have nBL : L ≠ B := fun e => by
      subst e
      rw [upd_same] at nB
      cases nB
    have nB' : H B = none := free_of s1 nB
    have dL := nd hD nL
    have dB := nd hD nB'
    have ll : (ps.map fun q => V.ref q.1).length = ps.length := List.length_map ..
    refine ⟨_, .inl (s2 _ _ (s1 _ _ hl)), by rw [ll]; omega, by rw [ll]; omega, loop_range (fun i σ' H' => Exc d H H' ∧ Dc H' d ∧ ∃ (xs ys : List (Addr × List Int)) (y4 : Option V), σ' = [some (.ref d), some (.ref l), some (.ref L), some (.ref B), y4] ∧ H' L = some (.lst (xs.map fun q => V.ref q.1)) ∧ H' B = some (.lst (ys.map fun q => V.ref q.1)) ∧ (ys ++ xs).Perm ps ∧ ys.length = i) ⟨.same (s1.trans s2), (hD.same s1).same s2, ps, [], none, rfl, s2 _ _ upd_same, upd_same, List.Perm.refl _, rfl⟩ (fun i σ' H' hi hP => ?_) (fun σ' H' hP => ?_)⟩
    · obtain ⟨ex, D', xs, ys, y4, e, eL, eB, pm, ly⟩ := hP
      subst e
      have lp := pm.length_eq
      rw [List.length_append, ly] at lp
      rw [ll, Int.toNat_natCast] at hi
      have lx : (xs.map fun q => V.ref q.1).length = xs.length := List.length_map ..
      simp only [ap_seq, ap_next, ap_asg, ap_gName, ap_ret, ap_retN, ap_drop, ap_ifS, ap_break, ap_cont, ap_par, ap_aug, ap_ip, ap_gSub, ap_gTup, ap_gNil, ap_gCons, ap_var, ap_c, ap_op, ap_un, ap_if, ap_test, ap_B, ap_and, ap_or, ap_not, ap_andV, ap_orV, ap_notV, ap_nil, ap_cons, ap_tup, ap_lst, ap_cb, ap_bm, ap_call, ap_chain, ap_rI, ap_rI0, ap_rU, ap_rEq, ap_rNe, ap_revT, ap_sl, ap_part, ap_noPart, ap_ixLI, ap_ixTI, ap_ixLV, ap_ixTV, ap_len, ap_setLI, ap_setLV, ap_appI, ap_appV, ap_tupL, ap_listS, ap_sumLI, ap_sumTI, ap_repLI, ap_intI, ap_intB, ap_eqTI, ap_neTI, ap_eqLI, ap_neLI, ap_isi, ap_for, ap_rng1, ap_rng2, ap_iList, ap_iTup, ap_lc, ap_yes, ap_cut, ap_gTupH, ap_fmt, ap_jsn, ap_jsc, ap_gcd, ap_isqrt, ap_ixL, tyV_l, wipe_nil, wipe_cons, upd_same, ap_iEnT, ap_iEnL, ap_iZipA, ap_all, ap_tupT, ap_lenSetT, ap_slI, ap_catI, ap_perm, ap_lenO, ap_strO, ap_listO, ap_reprB, ap_iterT, ap_neT, ap_negO, ap_binI, ap_catL, ap_tM1, ap_repTI, ap_popN, ap_par3, ap_catTT, ap_countT, ap_notInT, ap_repL1, ap_shl, ap_shr, ap_mask, ap_comb, ap_bits, ap_rng3, List.set_cons_zero, List.set_cons_succ, List.getElem?_cons_zero, List.getElem?_cons_succ, List.cons_append, List.nil_append, List.append_nil, Option.some.injEq, V.int.injEq, V.ref.injEq, V.bl.injEq, V.str.injEq, V.ty.injEq, Bool.not_true, Bool.not_false, HO.lst.injEq, HO.tup.injEq, reduceCtorEq, Int.reduceToNat, Int.reduceLT, Int.reduceLE, Nat.reduceAdd, Int.cast_ofNat_Int, gi_c0, gi_c1, gi_c2, gi_c3, Int.natCast_inj, map_int_inj, map_nil_iff, List.cons.injEq, exists_eq_left, exists_eq_left', exists_eq, exists_eq', exists_and_left, exists_and_right, exists_const, and_assoc, and_true, true_and, and_false, false_and, or_false, false_or, or_true, true_or, ite_true, ite_false, if_true, if_false, Bool.false_eq_true, own_cons, own_nil, le1, le2, le3, le4, me_cons, me_nil, List.length_map, List.length_cons, List.length_nil, ne_eq, not_false_eq_true, not_true_eq_false, decide_eq_true_eq, sp_law_roll]
      refine ⟨.inl ⟨rfl, _, sqL_of eB⟩, .inl ⟨rfl, _, sqL_of eL⟩, _, .inl eL, D', by rw [lx]; omega, by rw [lx]; omega, fun H2 r ex2 D2 r0 r1 => ?_⟩
      have eL2 := ex2 L _ dL.symm eL
      have eB2 := ex2 B _ dB.symm eB
      rw [lx] at r1
      have hr : r.toNat < xs.length := by omega
      have hy : xs[r.toNat]? = some xs[r.toNat] := List.getElem?_eq_getElem hr
      refine ⟨r0, _, eL2, by rw [lx]; omega, V.ref xs[r.toNat].1, by rw [List.getElem?_map, hy]; rfl, ys.map (fun q => V.ref q.1), ?_, ?_, exc_new (exc_new (ex.trans ex2) nL) nB', ?_, xs.eraseIdx r.toNat, ?_, ys ++ [xs[r.toNat]], ?_, ?_, ?_⟩
      · rw [upd_ne nBL.symm]
        exact eB2
      · rw [List.length_map]
        omega
      · obtain ⟨c1, c2, c3, ed⟩ := D2
        exact ⟨c1, c2, c3, by rw [upd_ne dB, upd_ne dL]; exact ed⟩
      · rw [upd_ne nBL, upd_same, map_eraseIdx]
      · rw [List.map_append]
        rfl
      · rw [List.append_assoc]
        refine List.Perm.trans (List.Perm.append_left ys ?_) pm
        exact eraseIdx_perm xs r.toNat _ hy
      · rw [List.length_append, ly]
        rfl
    · obtain ⟨ex, D', xs, ys, y4, e, eL, eB, pm, ly⟩ := hP
      subst e
      have lp := pm.length_eq
      rw [List.length_append, ly, ll, Int.toNat_natCast] at lp
      have : xs = [] := List.length_eq_zero_iff.mp (by omega)
      subst this
      rw [List.append_nil] at pm
      simp only [ap_seq, ap_next, ap_asg, ap_gName, ap_ret, ap_retN, ap_drop, ap_ifS, ap_break, ap_cont, ap_par, ap_aug, ap_ip, ap_gSub, ap_gTup, ap_gNil, ap_gCons, ap_var, ap_c, ap_op, ap_un, ap_if, ap_test, ap_B, ap_and, ap_or, ap_not, ap_andV, ap_orV, ap_notV, ap_nil, ap_cons, ap_tup, ap_lst, ap_cb, ap_bm, ap_call, ap_chain, ap_rI, ap_rI0, ap_rU, ap_rEq, ap_rNe, ap_revT, ap_sl, ap_part, ap_noPart, ap_ixLI, ap_ixTI, ap_ixLV, ap_ixTV, ap_len, ap_setLI, ap_setLV, ap_appI, ap_appV, ap_tupL, ap_listS, ap_sumLI, ap_sumTI, ap_repLI, ap_intI, ap_intB, ap_eqTI, ap_neTI, ap_eqLI, ap_neLI, ap_isi, ap_for, ap_rng1, ap_rng2, ap_iList, ap_iTup, ap_lc, ap_yes, ap_cut, ap_gTupH, ap_fmt, ap_jsn, ap_jsc, ap_gcd, ap_isqrt, ap_ixL, tyV_l, wipe_nil, wipe_cons, upd_same, ap_iEnT, ap_iEnL, ap_iZipA, ap_all, ap_tupT, ap_lenSetT, ap_slI, ap_catI, ap_perm, ap_lenO, ap_strO, ap_listO, ap_reprB, ap_iterT, ap_neT, ap_negO, ap_binI, ap_catL, ap_tM1, ap_repTI, ap_popN, ap_par3, ap_catTT, ap_countT, ap_notInT, ap_repL1, ap_shl, ap_shr, ap_mask, ap_comb, ap_bits, ap_rng3, List.set_cons_zero, List.set_cons_succ, List.getElem?_cons_zero, List.getElem?_cons_succ, List.cons_append, List.nil_append, List.append_nil, Option.some.injEq, V.int.injEq, V.ref.injEq, V.bl.injEq, V.str.injEq, V.ty.injEq, Bool.not_true, Bool.not_false, HO.lst.injEq, HO.tup.injEq, reduceCtorEq, Int.reduceToNat, Int.reduceLT, Int.reduceLE, Nat.reduceAdd, Int.cast_ofNat_Int, gi_c0, gi_c1, gi_c2, gi_c3, Int.natCast_inj, map_int_inj, map_nil_iff, List.cons.injEq, exists_eq_left, exists_eq_left', exists_eq, exists_eq', exists_and_left, exists_and_right, exists_const, and_assoc, and_true, true_and, and_false, false_and, or_false, false_or, or_true, true_or, ite_true, ite_false, if_true, if_false, Bool.false_eq_true, own_cons, own_nil, le1, le2, le3, le4, me_cons, me_nil, List.length_map, List.length_cons, List.length_nil, ne_eq, not_false_eq_true, not_true_eq_false, decide_eq_true_eq]
      exact k H' B ys ex D' pm eB
def sp_law_three : Sp := fun vs H Q _ => ∃ (d : Addr) (p : Int), vs = [.ref d, .int p] ∧ Dc H d ∧ p ∈ primes ∧ ∀ H' r x1 y1 x2 y2 x3 y3, Exc d H H' → Dc H' d → ThreeAt H' r x1 y1 x2 y2 x3 y3 → Three p x1 y1 x2 y2 x3 y3 → Q (.ref r) H'
theorem ok_law_three (T : Tx K mg) : FnOk P w K mg base CX0 3 T.f_law_three T.d_law_three p_law_three sp_law_three := by
  refine T.F_law_three.ok sc_law_three (fun vs H Q E h => ?_) (fun cdv A outer s H vs Q E hr h => ?_)
  · obtain ⟨d, p, rfl, _⟩ := h
    rfl
  · obtain ⟨d, p, rfl, hD, hp, k⟩ := h
    refine ⟨_, (pss_cons (ps_set (i := 2) sc_law_three.nd rfl (Or.inl rfl) (pe_call (ok_law_mixed T) (hr.mono (by decide)) (by rfl) T.m_law_mixed T.F_law_mixed.kp T.b_law_mixed .nil pass0 (pa_cons (pv 0) (pa_cons (pe_call (ok_law_points_by T) (hr.mono (by decide)) (by rfl) T.m_law_points_by T.F_law_points_by.kp T.b_law_points_by .nil pass0 (pa_cons (pv 1) pa_nil)) pa_nil))))
      (pss_one (ps_ret (pe_tup (pa_cons (pe_ix ix_LV (pv 2) pe_int (fun _ _ => rfl)) (pa_cons (pe_ix ix_LV (pv 2) pe_int (fun _ _ => rfl)) (pa_cons (pe_ix ix_LV (pv 2) pe_int (fun _ _ => rfl)) pa_nil))))))), ?_⟩
    rw [st_law_three]
    simp only [ap_seq, ap_next, ap_asg, ap_gName, ap_ret, ap_retN, ap_drop, ap_ifS, ap_break, ap_cont, ap_par, ap_aug, ap_ip, ap_gSub, ap_gTup, ap_gNil, ap_gCons, ap_var, ap_c, ap_op, ap_un, ap_if, ap_test, ap_B, ap_and, ap_or, ap_not, ap_andV, ap_orV, ap_notV, ap_nil, ap_cons, ap_tup, ap_lst, ap_cb, ap_bm, ap_call, ap_chain, ap_rI, ap_rI0, ap_rU, ap_rEq, ap_rNe, ap_revT, ap_sl, ap_part, ap_noPart, ap_ixLI, ap_ixTI, ap_ixLV, ap_ixTV, ap_len, ap_setLI, ap_setLV, ap_appI, ap_appV, ap_tupL, ap_listS, ap_sumLI, ap_sumTI, ap_repLI, ap_intI, ap_intB, ap_eqTI, ap_neTI, ap_eqLI, ap_neLI, ap_isi, ap_for, ap_rng1, ap_rng2, ap_iList, ap_iTup, ap_lc, ap_yes, ap_cut, ap_gTupH, ap_fmt, ap_jsn, ap_jsc, ap_gcd, ap_isqrt, ap_ixL, tyV_l, wipe_nil, wipe_cons, upd_same, ap_iEnT, ap_iEnL, ap_iZipA, ap_all, ap_tupT, ap_lenSetT, ap_slI, ap_catI, ap_perm, ap_lenO, ap_strO, ap_listO, ap_reprB, ap_iterT, ap_neT, ap_negO, ap_binI, ap_catL, ap_tM1, ap_repTI, ap_popN, ap_par3, ap_catTT, ap_countT, ap_notInT, ap_repL1, ap_shl, ap_shr, ap_mask, ap_comb, ap_bits, ap_rng3, List.set_cons_zero, List.set_cons_succ, List.getElem?_cons_zero, List.getElem?_cons_succ, List.cons_append, List.nil_append, List.append_nil, Option.some.injEq, V.int.injEq, V.ref.injEq, V.bl.injEq, V.str.injEq, V.ty.injEq, Bool.not_true, Bool.not_false, HO.lst.injEq, HO.tup.injEq, reduceCtorEq, Int.reduceToNat, Int.reduceLT, Int.reduceLE, Nat.reduceAdd, Int.cast_ofNat_Int, gi_c0, gi_c1, gi_c2, gi_c3, Int.natCast_inj, map_int_inj, map_nil_iff, List.cons.injEq, exists_eq_left, exists_eq_left', exists_eq, exists_eq', exists_and_left, exists_and_right, exists_const, and_assoc, and_true, true_and, and_false, false_and, or_false, false_or, or_true, true_or, ite_true, ite_false, if_true, if_false, Bool.false_eq_true, own_cons, own_nil, le1, le2, le3, le4, me_cons, me_nil, List.length_map, List.length_cons, List.length_nil, ne_eq, not_false_eq_true, not_true_eq_false, decide_eq_true_eq]
    have pb := primes_bd hp
    refine ⟨p, rfl, hp, fun H1 l rs s1 nl el hR => ?_⟩
    have D1 := hD.same s1
    have hz : (rs.zip (ptsP p)).map (fun q => V.ref q.1) = rs.map V.ref := by
      rw [show (fun q : Addr × List Int => V.ref q.1) = V.ref ∘ Prod.fst from rfl, ← List.map_map, List.map_fst_zip (Nat.le_of_eq hR.1)]
    have lr : rs.length = p.toNat + 1 := by rw [hR.1]; simp [ptsP]
    refine ⟨d, l, rs.zip (ptsP p), rfl, D1, by rw [hz]; exact el, fun e => ?_, by rw [List.length_zip, ← hR.1]; omega, fun H2 r ps' ex D2 pm er => ?_⟩
    · subst e
      obtain ⟨_, _, _, e⟩ := hD
      rw [e] at nl
      cases nl
    · have lp := pm.length_eq
      rw [List.length_zip, ← hR.1, Nat.min_self, lr] at lp
      have hne : (ptsP p).Nodup := pts_nodup p
      have pm2 : (ps'.map Prod.snd).Perm (ptsP p) := by
        have := pm.map Prod.snd
        rw [List.map_snd_zip (Nat.le_of_eq hR.1.symm)] at this
        exact this
      have hrow : ∀ q ∈ ps', H1 q.1 = some (TI q.2) := fun q hq => by
        have h1 := pm.mem_iff.mp hq
        obtain ⟨i, hi, e⟩ := List.mem_iff_getElem.mp h1
        rw [List.getElem_zip] at e
        rw [← e]
        have hi1 : i < rs.length := by rw [List.length_zip] at hi; omega
        have hi2 : i < (ptsP p).length := by rw [List.length_zip] at hi; omega
        exact hR.2 i _ _ (List.getElem?_eq_getElem hi1) (List.getElem?_eq_getElem hi2)
      rcases ps' with _ | ⟨⟨r1, n1⟩, _ | ⟨⟨r2, n2⟩, _ | ⟨⟨r3, n3⟩, rest⟩⟩⟩
      · simp at lp
      · simp at lp
        omega
      · simp at lp
        omega
      have g1 := pts_pt (by omega) (pm2.mem_iff.mp (show n1 ∈ _ by simp))
      have g2 := pts_pt (by omega) (pm2.mem_iff.mp (show n2 ∈ _ by simp))
      have g3 := pts_pt (by omega) (pm2.mem_iff.mp (show n3 ∈ _ by simp))
      have nn := pm2.nodup_iff.mpr hne
      obtain ⟨x1, y1, rfl, q1⟩ := g1
      obtain ⟨x2, y2, rfl, q2⟩ := g2
      obtain ⟨x3, y3, rfl, q3⟩ := g3
      have D1' := D1
      have nrd : ∀ q ∈ [(r1, [x1, y1]), (r2, [x2, y2]), (r3, [x3, y3])], H2 q.1 = some (TI q.2) := fun q hq => by
        have h1 := hrow q (by
          simp only [List.mem_cons, List.not_mem_nil, or_false] at hq
          rcases hq with rfl | rfl | rfl <;> simp)
        refine ex q.1 _ (fun e => ?_) h1
        obtain ⟨_, _, _, e2⟩ := D1
        rw [e, e2] at h1
        cases h1
      refine ⟨r, rfl, _, er, _, atI_nat (j := 0) rfl, r, rfl, _, er, _, atI_nat (j := 1) rfl, r, rfl, _, er, _, atI_nat (j := 2) rfl, by decide, fun z nz => ?_⟩
      have s3 := same_upd (o := HO.tup [V.ref r1, V.ref r2, V.ref r3]) nz
      refine k _ z x1 y1 x2 y2 x3 y3 ((Exc.same s1).trans (ex.trans (.same s3))) (D2.same s3) ⟨r1, r2, r3, upd_same, s3 _ _ (nrd (r1, _) (by simp)), s3 _ _ (nrd (r2, _) (by simp)), s3 _ _ (nrd (r3, _) (by simp))⟩ ⟨q1, q2, q3, ?_, ?_, ?_⟩
      all_goals
        simp only [List.map_cons, List.nodup_cons, List.mem_cons, not_or] at nn
        first | exact nn.1.1 | exact nn.1.2.1 | exact nn.2.1.1
def sp_law_leads_three : Sp := fun vs H Q _ => ∃ (t l m : Addr) (p a b c d x1 y1 x2 y2 x3 y3 u1 v1 u2 v2 u3 v3 : Int), vs = [.ref t, .int p, .ref l, .ref m] ∧ p ∈ primes ∧ TabAt H t a b c d ∧ T4 a b c d ∧ ThreeAt H l x1 y1 x2 y2 x3 y3 ∧ ThreeAt H m u1 v1 u2 v2 u3 v3 ∧ Three p x1 y1 x2 y2 x3 y3 ∧ ∀ H', Same H H' → Q (.bl (decide (ledP p a b c d x1 y1 = [u1, v1] ∧ ledP p a b c d x2 y2 = [u2, v2] ∧ ledP p a b c d x3 y3 = [u3, v3]))) H'
theorem ok_law_leads_three (T : Tx K mg) : FnOk P w K mg base CX0 4 T.f_law_leads_three T.d_law_leads_three p_law_leads_three sp_law_leads_three := by
  refine T.F_law_leads_three.ok sc_law_leads_three (fun vs H Q E h => ?_) (fun cdv A outer s H vs Q E hr h => ?_)
  · obtain ⟨t, l, m, p, a, b, c, d, x1, y1, x2, y2, x3, y3, u1, v1, u2, v2, u3, v3, rfl, _⟩ := h
    rfl
  · obtain ⟨t, l, m, p, a, b, c, d, x1, y1, x2, y2, x3, y3, u1, v1, u2, v2, u3, v3, rfl, hp, ht, h4, hl, hm, hx, k⟩ := h
    refine ⟨_, (pss_one (ps_ret (pe_callB (cr_all rfl) (by rfl) T.z_all (by decide +kernel) (pa_cons (pe_lc (own := [("_law_one", 4), ("_law_goal", 5)]) (tt := tYes) rfl sc_law_leads_three.nd (RZ.pi_zipA (by rfl) T.z_zip (pa_cons (pv 2) (pa_cons (pv 3) pa_nil))) (blkOk_by (N := n_law_leads_three) (sc := defScope s_law_leads_three) (by decide +kernel)) (fun _ _ _ _ _ => (pg_tupH (n := 2) (by rfl) (pgs_cons (pg_name (i := 4) sc_law_leads_three.nd rfl (by first | exact .inl rfl | exact .inr rfl)) (pgs_cons (pg_name (i := 5) sc_law_leads_three.nd rfl (by first | exact .inl rfl | exact .inr rfl)) pgs_nil)))) (fun _ _ _ _ _ => pts_nil) (fun _ _ _ _ _ => (pe_cmpR (op_eqTI hr.units) (pe_call (ok_law_led_by T) (hr.mono (by decide)) (by rfl) T.m_law_led_by T.F_law_led_by.kp T.b_law_led_by .nil pass0 (pa_cons (pv 0) (pa_cons (pv 4) (pa_cons (pv 1) pa_nil)))) (pv 5) (nomark _)))) pa_nil)))), ?_⟩
    rw [st_law_leads_three]
    simp only [ap_seq, ap_next, ap_asg, ap_gName, ap_ret, ap_retN, ap_drop, ap_ifS, ap_break, ap_cont, ap_par, ap_aug, ap_ip, ap_gSub, ap_gTup, ap_gNil, ap_gCons, ap_var, ap_c, ap_op, ap_un, ap_if, ap_test, ap_B, ap_and, ap_or, ap_not, ap_andV, ap_orV, ap_notV, ap_nil, ap_cons, ap_tup, ap_lst, ap_cb, ap_bm, ap_call, ap_chain, ap_rI, ap_rI0, ap_rU, ap_rEq, ap_rNe, ap_revT, ap_sl, ap_part, ap_noPart, ap_ixLI, ap_ixTI, ap_ixLV, ap_ixTV, ap_len, ap_setLI, ap_setLV, ap_appI, ap_appV, ap_tupL, ap_listS, ap_sumLI, ap_sumTI, ap_repLI, ap_intI, ap_intB, ap_eqTI, ap_neTI, ap_eqLI, ap_neLI, ap_isi, ap_for, ap_rng1, ap_rng2, ap_iList, ap_iTup, ap_lc, ap_yes, ap_cut, ap_gTupH, ap_fmt, ap_jsn, ap_jsc, ap_gcd, ap_isqrt, ap_ixL, tyV_l, wipe_nil, wipe_cons, upd_same, ap_iEnT, ap_iEnL, ap_iZipA, ap_all, ap_tupT, ap_lenSetT, ap_slI, ap_catI, ap_perm, ap_lenO, ap_strO, ap_listO, ap_reprB, ap_iterT, ap_neT, ap_negO, ap_binI, ap_catL, ap_tM1, ap_repTI, ap_popN, ap_par3, ap_catTT, ap_countT, ap_notInT, ap_repL1, ap_shl, ap_shr, ap_mask, ap_comb, ap_bits, ap_rng3, List.set_cons_zero, List.set_cons_succ, List.getElem?_cons_zero, List.getElem?_cons_succ, List.cons_append, List.nil_append, List.append_nil, Option.some.injEq, V.int.injEq, V.ref.injEq, V.bl.injEq, V.str.injEq, V.ty.injEq, Bool.not_true, Bool.not_false, HO.lst.injEq, HO.tup.injEq, reduceCtorEq, Int.reduceToNat, Int.reduceLT, Int.reduceLE, Nat.reduceAdd, Int.cast_ofNat_Int, gi_c0, gi_c1, gi_c2, gi_c3, Int.natCast_inj, map_int_inj, map_nil_iff, List.cons.injEq, exists_eq_left, exists_eq_left', exists_eq, exists_eq', exists_and_left, exists_and_right, exists_const, and_assoc, and_true, true_and, and_false, false_and, or_false, false_or, or_true, true_or, ite_true, ite_false, if_true, if_false, Bool.false_eq_true, own_cons, own_nil, le1, le2, le3, le4, me_cons, me_nil, List.length_map, List.length_cons, List.length_nil, ne_eq, not_false_eq_true, not_true_eq_false, decide_eq_true_eq]
    have pb := primes_bd hp
    obtain ⟨l1, l2, l3, hl0, hl1, hl2, hl3⟩ := hl.ex
    obtain ⟨m1, m2, m3, hm0, hm1, hm2, hm3⟩ := hm.ex
    refine ⟨_, _, .inr ⟨sqT_of hl0, sqT_of hm0, lc_pairV (gives_zipT (xs := [.ref l1, .ref l2, .ref l3]) (ys := [.ref m1, .ref m2, .ref m3]) rfl) (fun i => V.bl ([decide (ledP p a b c d x1 y1 = [u1, v1]), decide (ledP p a b c d x2 y2 = [u2, v2]), decide (ledP p a b c d x3 y3 = [u3, v3])].getD i false)) (by show 3 < 1000000; omega) (fun H' sm => ⟨sm _ _ hl0, sm _ _ hm0⟩) (fun x y => rfl) (fun i z z' H' hi hR sm Q' k' => ?_) (fun A H' nA sm eA => ?_)⟩⟩
    · have hi3 : i < 3 := hi
      have hu : ∃ r r' x y u v, z = .ref r ∧ z' = .ref r' ∧ H' r = some (TI [x, y]) ∧ H' r' = some (TI [u, v]) ∧ PtP p x y ∧ [decide (ledP p a b c d x1 y1 = [u1, v1]), decide (ledP p a b c d x2 y2 = [u2, v2]), decide (ledP p a b c d x3 y3 = [u3, v3])].getD i false = decide (ledP p a b c d x y = [u, v]) := by
        obtain ⟨e1, e2⟩ := hR
        match i, hi3, e1, e2 with
        | 0, _, e1, e2 => exact ⟨l1, m1, x1, y1, u1, v1, (Option.some.inj e1).symm, (Option.some.inj e2).symm, sm _ _ hl1, sm _ _ hm1, hx.q1, rfl⟩
        | 1, _, e1, e2 => exact ⟨l2, m2, x2, y2, u2, v2, (Option.some.inj e1).symm, (Option.some.inj e2).symm, sm _ _ hl2, sm _ _ hm2, hx.q2, rfl⟩
        | 2, _, e1, e2 => exact ⟨l3, m3, x3, y3, u3, v3, (Option.some.inj e1).symm, (Option.some.inj e2).symm, sm _ _ hl3, sm _ _ hm3, hx.q3, rfl⟩
      obtain ⟨r, r', x, y, u, v, rfl, rfl, hr1, hr2, hq, e⟩ := hu
      rw [e] at k'
      simp only [ap_seq, ap_next, ap_asg, ap_gName, ap_ret, ap_retN, ap_drop, ap_ifS, ap_break, ap_cont, ap_par, ap_aug, ap_ip, ap_gSub, ap_gTup, ap_gNil, ap_gCons, ap_var, ap_c, ap_op, ap_un, ap_if, ap_test, ap_B, ap_and, ap_or, ap_not, ap_andV, ap_orV, ap_notV, ap_nil, ap_cons, ap_tup, ap_lst, ap_cb, ap_bm, ap_call, ap_chain, ap_rI, ap_rI0, ap_rU, ap_rEq, ap_rNe, ap_revT, ap_sl, ap_part, ap_noPart, ap_ixLI, ap_ixTI, ap_ixLV, ap_ixTV, ap_len, ap_setLI, ap_setLV, ap_appI, ap_appV, ap_tupL, ap_listS, ap_sumLI, ap_sumTI, ap_repLI, ap_intI, ap_intB, ap_eqTI, ap_neTI, ap_eqLI, ap_neLI, ap_isi, ap_for, ap_rng1, ap_rng2, ap_iList, ap_iTup, ap_lc, ap_yes, ap_cut, ap_gTupH, ap_fmt, ap_jsn, ap_jsc, ap_gcd, ap_isqrt, ap_ixL, tyV_l, wipe_nil, wipe_cons, upd_same, ap_iEnT, ap_iEnL, ap_iZipA, ap_all, ap_tupT, ap_lenSetT, ap_slI, ap_catI, ap_perm, ap_lenO, ap_strO, ap_listO, ap_reprB, ap_iterT, ap_neT, ap_negO, ap_binI, ap_catL, ap_tM1, ap_repTI, ap_popN, ap_par3, ap_catTT, ap_countT, ap_notInT, ap_repL1, ap_shl, ap_shr, ap_mask, ap_comb, ap_bits, ap_rng3, List.set_cons_zero, List.set_cons_succ, List.getElem?_cons_zero, List.getElem?_cons_succ, List.cons_append, List.nil_append, List.append_nil, Option.some.injEq, V.int.injEq, V.ref.injEq, V.bl.injEq, V.str.injEq, V.ty.injEq, Bool.not_true, Bool.not_false, HO.lst.injEq, HO.tup.injEq, reduceCtorEq, Int.reduceToNat, Int.reduceLT, Int.reduceLE, Nat.reduceAdd, Int.cast_ofNat_Int, gi_c0, gi_c1, gi_c2, gi_c3, Int.natCast_inj, map_int_inj, map_nil_iff, List.cons.injEq, exists_eq_left, exists_eq_left', exists_eq, exists_eq', exists_and_left, exists_and_right, exists_const, and_assoc, and_true, true_and, and_false, false_and, or_false, false_or, or_true, true_or, ite_true, ite_false, if_true, if_false, Bool.false_eq_true, own_cons, own_nil, le1, le2, le3, le4, me_cons, me_nil, List.length_map, List.length_cons, List.length_nil, ne_eq, not_false_eq_true, not_true_eq_false, decide_eq_true_eq]
      refine ⟨t, r, a, b, c, d, x, y, p, rfl, ht.same sm, hr1, h4, hq, by omega, by omega, fun H2 z s2 ez => ?_⟩
      refine ⟨z, rfl, _, ez, _, s2 _ _ hr2, ?_⟩
      exact k' H2 s2
    · refine ⟨A, rfl, [decide (ledP p a b c d x1 y1 = [u1, v1]), decide (ledP p a b c d x2 y2 = [u2, v2]), decide (ledP p a b c d x3 y3 = [u3, v3])], sqL_of eA, ?_⟩
      have e := k H' sm
      rw [show decide (ledP p a b c d x1 y1 = [u1, v1] ∧ ledP p a b c d x2 y2 = [u2, v2] ∧ ledP p a b c d x3 y3 = [u3, v3]) = ([decide (ledP p a b c d x1 y1 = [u1, v1]), decide (ledP p a b c d x2 y2 = [u2, v2]), decide (ledP p a b c d x3 y3 = [u3, v3])].all id) by simp] at e
      exact e
end
end My

namespace My
open PySem PySem.Spec PyProof.Rows L2 Pr
theorem dvd_of_mod {a p r : Int} (h : a % p = r) : p ∣ a - r := ⟨a / p, by have := Int.mul_ediv_add_emod a p; omega⟩
theorem mod_dvd {p a b : Int} : a % p = b % p ↔ p ∣ a - b := by
  rw [Int.emod_eq_emod_iff_emod_sub_eq_zero, Int.dvd_iff_emod_eq_zero]
theorem inv_all : ([13, 17, 19, 23, 29, 31, 37, 41, 43, 47, 53, 59, 61, 67, 71, 73, 79, 83, 89, 97, 101] : List Nat).all (fun p => (List.range p).all fun x => x == 0 || x ^ (p - 2) % p * x % p == 1) = true := by decide +kernel
theorem inv_one {p x : Int} (hp : p ∈ primes) (h0 : 0 < x) (h1 : x < p) : invP p x * x % p = 1 := by
  have hb := primes_bd hp
  have hm : p.toNat ∈ ([13, 17, 19, 23, 29, 31, 37, 41, 43, 47, 53, 59, 61, 67, 71, 73, 79, 83, 89, 97, 101] : List Nat) := by
    have : ∀ p ∈ primes, p.toNat ∈ ([13, 17, 19, 23, 29, 31, 37, 41, 43, 47, 53, 59, 61, 67, 71, 73, 79, 83, 89, 97, 101] : List Nat) := by decide +kernel
    exact this p hp
  have h2 := List.all_eq_true.mp (List.all_eq_true.mp inv_all _ hm) x.toNat (List.mem_range.mpr (by omega))
  have e1 : (x.toNat == 0) = false := beq_eq_false_iff_ne.mpr (by omega)
  rw [e1, Bool.false_or, beq_iff_eq] at h2
  have e2 : ((x.toNat : Nat) : Int) = x := Int.toNat_of_nonneg (by omega)
  have e3 : ((p.toNat : Nat) : Int) = p := Int.toNat_of_nonneg (by omega)
  have e4 : p.toNat - 2 = (p - 2).toNat := by omega
  have h3 : (((x.toNat ^ (p.toNat - 2) % p.toNat * x.toNat % p.toNat : Nat)) : Int) = 1 := by rw [h2]; rfl
  rw [Int.natCast_emod, Int.natCast_mul, Int.natCast_emod, Int.natCast_pow, e2, e3, e4] at h3
  exact h3
/-- division by a prime -/
theorem pr_mul {p a b : Int} (hp : p ∈ primes) (h : p ∣ a * b) : p ∣ a ∨ p ∣ b := by
  have hb := primes_bd hp
  rcases Int.decEq (a % p) 0 with h0 | h0
  · right
    have c0 := Int.emod_nonneg a (show p ≠ 0 by omega)
    have c1 := Int.emod_lt_of_pos a (show 0 < p by omega)
    have e := inv_one hp (x := a % p) (by omega) c1
    have e2 : p ∣ invP p (a % p) * (a % p) - 1 := dvd_of_mod e
    have e3 : p ∣ a - a % p := dvd_of_mod rfl
    obtain ⟨u, hu⟩ := h
    obtain ⟨v, hv⟩ := e2
    obtain ⟨z, hz⟩ := e3
    refine ⟨invP p (a % p) * (u - z * b) - v * b, ?_⟩
    grind
  · left
    exact Int.dvd_of_emod_eq_zero h0
theorem pr_ne {p a b : Int} (hp : p ∈ primes) (ha : ¬ p ∣ a) (hb : ¬ p ∣ b) : ¬ p ∣ a * b := fun h => (pr_mul hp h).elim ha hb
theorem nz_mod {p n : Int} : nz (n % p) = true ↔ ¬ p ∣ n := by
  unfold nz
  rw [decide_eq_true_iff, Int.dvd_iff_emod_eq_zero]
theorem filt_mul {p k : Int} (hp : p ∈ primes) (hk : ¬ p ∣ k) : ∀ ns : List Int, (ns.map (fun n => k * n % p)).filter nz = ((ns.map (· % p)).filter nz).map (fun x => k * x % p)
  | [] => rfl
  | n :: ns => by
    have e : k * (n % p) % p = k * n % p := by rw [Int.mul_emod, Int.emod_emod, ← Int.mul_emod]
    rw [List.map_cons, List.map_cons]
    by_cases h : p ∣ n
    · have h1 : ¬ nz (k * n % p) = true := fun z => nz_mod.mp z (Int.dvd_mul_of_dvd_right h)
      have h2 : ¬ nz (n % p) = true := fun z => nz_mod.mp z h
      rw [List.filter_cons_of_neg h1, List.filter_cons_of_neg h2, filt_mul hp hk ns]
    · rw [List.filter_cons_of_pos (nz_mod.mpr (pr_ne hp hk h)), List.filter_cons_of_pos (nz_mod.mpr h), List.map_cons, filt_mul hp hk ns, e]
theorem filt_some {p : Int} {ns : List Int} (h : ∃ n ∈ ns, ¬ p ∣ n) : ∃ x t, (ns.map (· % p)).filter nz = x :: t := by
  obtain ⟨n, hn, hd⟩ := h
  rcases e : (ns.map (· % p)).filter nz with _ | ⟨x, t⟩
  · have : n % p ∈ (ns.map (· % p)).filter nz := List.mem_filter.mpr ⟨List.mem_map.mpr ⟨n, hn, rfl⟩, nz_mod.mpr hd⟩
    rw [e] at this
    cases this
  · exact ⟨x, t, rfl⟩
theorem head_bd {p : Int} (hp : p ∈ primes) {ns : List Int} {x : Int} {t : List Int} (e : (ns.map (· % p)).filter nz = x :: t) : 0 < x ∧ x < p := by
  have hb := primes_bd hp
  have h : x ∈ (ns.map (· % p)).filter nz := by rw [e]; exact List.mem_cons_self
  obtain ⟨h1, h2⟩ := List.mem_filter.mp h
  obtain ⟨n, _, rfl⟩ := List.mem_map.mp h1
  have h3 : n % p ≠ 0 := by simpa [nz] using h2
  have := Int.emod_nonneg n (show p ≠ 0 by omega)
  have := Int.emod_lt_of_pos n (show 0 < p by omega)
  show 0 < n % p ∧ n % p < p
  omega
theorem inv_nd {p x : Int} (hp : p ∈ primes) (h0 : 0 < x) (h1 : x < p) : ¬ p ∣ invP p x := fun h => by
  have hb := primes_bd hp
  have e := inv_one hp h0 h1
  have : p ∣ invP p x * x := Int.dvd_mul_of_dvd_left h
  have := Int.dvd_iff_emod_eq_zero.mp this
  omega
/-- a plain row: entries below the prime, the first one but 0 is 1 -/
structure Plain (p : Int) (ns : List Int) : Prop where
  bd : ∀ n ∈ ns, 0 ≤ n ∧ n < p
  one : ∃ t, ns.filter nz = 1 :: t
theorem plP_form {p : Int} (hp : p ∈ primes) {ns : List Int} (h : ∃ n ∈ ns, ¬ p ∣ n) : ∃ c, ¬ p ∣ c ∧ plP p ns = ns.map (fun n => c * n % p) := by
  obtain ⟨x, t, e⟩ := filt_some h
  obtain ⟨h0, h1⟩ := head_bd hp e
  exact ⟨invP p x, inv_nd hp h0 h1, plP_some e⟩
theorem plP_plain {p : Int} (hp : p ∈ primes) {ns : List Int} (h : ∃ n ∈ ns, ¬ p ∣ n) : Plain p (plP p ns) := by
  have hb := primes_bd hp
  obtain ⟨x, t, e⟩ := filt_some h
  obtain ⟨h0, h1⟩ := head_bd hp e
  rw [plP_some e]
  refine ⟨fun n hn => ?_, ?_⟩
  · obtain ⟨m, _, rfl⟩ := List.mem_map.mp hn
    exact ⟨Int.emod_nonneg _ (by omega), Int.emod_lt_of_pos _ (by omega)⟩
  · rw [filt_mul hp (inv_nd hp h0 h1), e, List.map_cons, inv_one hp h0 h1]
    exact ⟨_, rfl⟩
theorem plP_cong {p : Int} {ns ms : List Int} (h : ns.map (· % p) = ms.map (· % p)) : plP p ns = plP p ms := by
  unfold plP
  rw [h]
theorem plP_mul {p k : Int} (hp : p ∈ primes) (hk : ¬ p ∣ k) (ns : List Int) : plP p (ns.map (k * ·)) = plP p ns := by
  have hb := primes_bd hp
  have ek : (ns.map (k * ·)).map (· % p) = ns.map (fun n => k * n % p) := by
    rw [List.map_map]
    rfl
  rcases e : (ns.map (· % p)).filter nz with _ | ⟨x, t⟩
  · have e2 : ((ns.map (k * ·)).map (· % p)).filter nz = [] := by rw [ek, filt_mul hp hk, e]; rfl
    rw [plP_none e, plP_none e2, ek]
    refine List.map_congr_left fun n hn => ?_
    have : p ∣ n := Classical.byContradiction fun hd => by
      have h2 : n % p ∈ (ns.map (· % p)).filter nz := List.mem_filter.mpr ⟨List.mem_map.mpr ⟨n, hn, rfl⟩, nz_mod.mpr hd⟩
      rw [e] at h2
      cases h2
    rw [Int.dvd_iff_emod_eq_zero.mp this, Int.dvd_iff_emod_eq_zero.mp (Int.dvd_trans this (Int.dvd_mul_left k n))]
  · obtain ⟨h0, h1⟩ := head_bd hp e
    have e2 : ((ns.map (k * ·)).map (· % p)).filter nz = (k * x % p) :: t.map (fun x => k * x % p) := by rw [ek, filt_mul hp hk, e]; rfl
    obtain ⟨g0, g1⟩ := head_bd hp e2
    rw [plP_some e, plP_some e2, List.map_map]
    refine List.map_congr_left fun n hn => ?_
    show invP p (k * x % p) * (k * n) % p = invP p x * n % p
    rw [mod_dvd]
    obtain ⟨u, hu⟩ := dvd_of_mod (inv_one hp h0 h1)
    obtain ⟨v, hv⟩ := dvd_of_mod (inv_one hp g0 g1)
    obtain ⟨z, hz⟩ := dvd_of_mod (a := k * x) (p := p) (r := k * x % p) rfl
    generalize invP p (k * x % p) = i' at hv ⊢
    generalize invP p x = i at hu ⊢
    generalize k * x % p = r at hv hz
    refine ⟨n * (i * v + i * i' * z - i' * k * u), ?_⟩
    grind
theorem plP_fix {p : Int} (hp : p ∈ primes) {ns : List Int} (h : Plain p ns) : plP p ns = ns := by
  have hb := primes_bd hp
  have e : ns.map (· % p) = ns := by
    conv => rhs; rw [← List.map_id ns]
    exact List.map_congr_left fun n hn => Int.emod_eq_of_lt (h.bd n hn).1 (h.bd n hn).2
  obtain ⟨t, ht⟩ := h.one
  rw [plP_some (by rw [e]; exact ht)]
  have e1 : invP p 1 = 1 := by
    unfold invP
    rw [Int.one_pow, Int.emod_eq_of_lt (by omega) (by omega)]
  conv => rhs; rw [← e]
  refine List.map_congr_left fun n hn => ?_
  rw [e1, Int.one_mul]
end My

namespace My
open PySem PySem.Spec PyProof.Rows L2 Pr
theorem nz_pos {n : Int} (h : n ≠ 0) : nz n = true := decide_eq_true h
theorem cross_alg {p k l V1 V2 W1 W2 s t m n m' n' : Int} (h1 : s - k * V1 = p * m) (h2 : t - k * V2 = p * n) (h3 : s - l * W1 = p * m') (h4 : t - l * W2 = p * n') : k * l * (V1 * W2 - V2 * W1) = p * (p * m * n' - s * n' - m * t + t * m' + n * s - p * n * m') := by
  have e1 : k * V1 = s - p * m := by omega
  have e2 : k * V2 = t - p * n := by omega
  have e3 : l * W1 = s - p * m' := by omega
  have e4 : l * W2 = t - p * n' := by omega
  have : k * l * (V1 * W2 - V2 * W1) = (k * V1) * (l * W2) - (k * V2) * (l * W1) := by grind
  rw [this, e1, e2, e3, e4]
  grind
theorem det_cross {a b c d x y u v : Int} : (a * x + b * y) * (c * u + d * v) - (c * x + d * y) * (a * u + b * v) = (a * d - b * c) * (x * v - u * y) := by grind
theorem PtP.plain {p x y : Int} (hp : 1 < p) (h : PtP p x y) : Plain p [x, y] := by
  obtain ⟨x0, x1, y0, y1, o⟩ := h
  refine ⟨fun n hn => ?_, ?_⟩
  · simp only [List.mem_cons, List.not_mem_nil, or_false] at hn
    rcases hn with rfl | rfl
    · exact ⟨x0, x1⟩
    · exact ⟨y0, y1⟩
  · rcases o with rfl | ⟨rfl, rfl⟩
    · exact ⟨_, List.filter_cons_of_pos rfl⟩
    · exact ⟨_, rfl⟩
theorem Plain.pt {p x y : Int} (h : Plain p [x, y]) : PtP p x y := by
  obtain ⟨x0, x1⟩ := h.bd x (by simp)
  obtain ⟨y0, y1⟩ := h.bd y (by simp)
  refine ⟨x0, x1, y0, y1, ?_⟩
  obtain ⟨t, ht⟩ := h.one
  by_cases hx : x = 0
  · right
    subst hx
    by_cases hy : y = 0
    · subst hy
      cases ht
    · rw [List.filter_cons_of_neg (by decide), List.filter_cons_of_pos (nz_pos hy)] at ht
      exact ⟨rfl, (List.cons.inj ht).1⟩
  · left
    rw [List.filter_cons_of_pos (nz_pos hx)] at ht
    exact (List.cons.inj ht).1
theorem Plain.tab {p a b c d : Int} (h : Plain p [a, b, c, d]) (hd : a * d - b * c ≠ 0) : a = 1 ∨ a = 0 ∧ b = 1 := by
  obtain ⟨t, ht⟩ := h.one
  by_cases ha : a = 0
  · right
    subst ha
    by_cases hb : b = 0
    · subst hb
      exact absurd (by rw [Int.zero_mul, Int.zero_mul]; rfl) hd
    · rw [List.filter_cons_of_neg (by decide), List.filter_cons_of_pos (nz_pos hb)] at ht
      exact ⟨rfl, (List.cons.inj ht).1⟩
  · left
    rw [List.filter_cons_of_pos (nz_pos ha)] at ht
    exact (List.cons.inj ht).1
/-- different points are no multiples of one another -/
theorem cross_ne {p x y u v : Int} (h1 : PtP p x y) (h2 : PtP p u v) (hn : [x, y] ≠ [u, v]) : ¬ p ∣ x * v - u * y := fun hd => by
  obtain ⟨x0, x1, y0, y1, o1⟩ := h1
  obtain ⟨u0, u1, v0, v1, o2⟩ := h2
  have small : ∀ n : Int, p ∣ n → -p < n → n < p → n = 0 := fun n h a b => Int.eq_zero_of_dvd_of_natAbs_lt_natAbs h (by omega)
  rcases o1 with rfl | ⟨rfl, rfl⟩
  · rcases o2 with rfl | ⟨rfl, rfl⟩
    · have := small _ hd (by omega) (by omega)
      refine hn ?_
      rw [show y = v by omega]
    · have := small _ hd (by omega) (by omega)
      omega
  · rcases o2 with rfl | ⟨rfl, rfl⟩
    · have := small _ hd (by omega) (by omega)
      omega
    · exact hn rfl
theorem nd_mod {p n : Int} : n % p ≠ 0 ↔ ¬ p ∣ n := by rw [Ne, Int.dvd_iff_emod_eq_zero]
/-- a table leads a point to a point -/
theorem not_both {p a b c d x y : Int} (hp : p ∈ primes) (hd : ¬ p ∣ a * d - b * c) (hv : ¬ (p ∣ x ∧ p ∣ y)) : ¬ (p ∣ a * x + b * y ∧ p ∣ c * x + d * y) := fun ⟨⟨m, hm⟩, n, hn⟩ => by
  have h1 : p ∣ (a * d - b * c) * x := ⟨d * m - b * n, by grind⟩
  have h2 : p ∣ (a * d - b * c) * y := ⟨a * n - c * m, by grind⟩
  exact hv ⟨(pr_mul hp h1).resolve_left hd, (pr_mul hp h2).resolve_left hd⟩
theorem PtP.nb {p x y : Int} (hp : p ∈ primes) (h : PtP p x y) : ¬ (p ∣ x ∧ p ∣ y) := fun ⟨h1, h2⟩ => by
  have hb := primes_bd hp
  have := Int.le_of_dvd (a := p) (b := 1) (by decide) (by
    rcases h.one with rfl | ⟨_, rfl⟩
    · exact h1
    · exact h2)
  omega
theorem some2 {p u v : Int} (h : ¬ (p ∣ u ∧ p ∣ v)) : ∃ n ∈ [u, v], ¬ p ∣ n := by
  by_cases hu : p ∣ u
  · exact ⟨v, by simp, fun hv => h ⟨hu, hv⟩⟩
  · exact ⟨u, by simp, hu⟩
theorem led_pt {p a b c d x y : Int} (hp : p ∈ primes) (hd : ¬ p ∣ a * d - b * c) (h : PtP p x y) : ∃ u v, ledP p a b c d x y = [u, v] ∧ PtP p u v := by
  have h1 := plP_plain hp (some2 (not_both hp hd (h.nb hp)))
  have hl := plP_len p [a * x + b * y, c * x + d * y]
  show ∃ u v, plP p [a * x + b * y, c * x + d * y] = [u, v] ∧ PtP p u v
  match plP p [a * x + b * y, c * x + d * y], hl, h1 with
  | [u, v], _, h1 => exact ⟨u, v, rfl, h1.pt⟩
/-- multiples of a table lead alike -/
theorem led_mul {p k a b c d x y : Int} (hp : p ∈ primes) (hk : ¬ p ∣ k) : ledP p (k * a) (k * b) (k * c) (k * d) x y = ledP p a b c d x y := by
  have := plP_mul hp hk [a * x + b * y, c * x + d * y]
  unfold ledP
  rw [← this]
  congr 1
  show [k * a * x + k * b * y, k * c * x + k * d * y] = [k * (a * x + b * y), k * (c * x + d * y)]
  grind
theorem plain4_mul {p k a b c d : Int} (hp : p ∈ primes) (hk : ¬ p ∣ k) : plain4 p (k * a) (k * b) (k * c) (k * d) = plain4 p a b c d := plP_mul hp hk [a, b, c, d]
/-- a form of a plain pair -/
theorem pair_form {p u v x y : Int} (hp : p ∈ primes) (h : ¬ (p ∣ u ∧ p ∣ v)) (e : plP p [u, v] = [x, y]) : ∃ c, ¬ p ∣ c ∧ p ∣ x - c * u ∧ p ∣ y - c * v := by
  obtain ⟨c, hc, e2⟩ := plP_form hp (some2 h)
  rw [e] at e2
  have e3 : x = c * u % p := (List.cons.inj e2).1
  have e4 : y = c * v % p := (List.cons.inj (List.cons.inj e2).2).1
  refine ⟨c, hc, ?_, ?_⟩
  · rw [← mod_dvd, e3, Int.emod_emod]
  · rw [← mod_dvd, e4, Int.emod_emod]
/-- rows alike but for multiples are plainly alike -/
theorem plP_of {p c u v x y : Int} (hp : p ∈ primes) (hc : ¬ p ∣ c) (h1 : p ∣ x - c * u) (h2 : p ∣ y - c * v) : plP p [x, y] = plP p [u, v] := by
  rw [← plP_mul hp hc [u, v]]
  refine plP_cong ?_
  show [x % p, y % p] = [c * u % p, c * v % p]
  rw [mod_dvd.mpr h1, mod_dvd.mpr h2]
/-- tables one after the other -/
theorem led_led {p a b c d a' b' c' d' x y u v : Int} (hp : p ∈ primes) (hd' : ¬ p ∣ a' * d' - b' * c') (h : PtP p x y) (e : ledP p a' b' c' d' x y = [u, v]) :
    ledP p (a * a' + b * c') (a * b' + b * d') (c * a' + d * c') (c * b' + d * d') x y = ledP p a b c d u v := by
  obtain ⟨k, hk, ⟨m, hm⟩, n, hn⟩ := pair_form hp (not_both hp hd' (h.nb hp)) e
  refine (plP_of hp hk ⟨a * m + b * n, ?_⟩ ⟨c * m + d * n, ?_⟩).symm <;> grind
/-- a table leads different points to different ones -/
theorem led_inj {p a b c d x y u v : Int} (hp : p ∈ primes) (hd : ¬ p ∣ a * d - b * c) (h1 : PtP p x y) (h2 : PtP p u v) (e : ledP p a b c d x y = ledP p a b c d u v) : [x, y] = [u, v] := by
  refine Classical.byContradiction fun hn => cross_ne h1 h2 hn ?_
  obtain ⟨s, t, es, _⟩ := led_pt hp hd h1
  obtain ⟨k, hk, ⟨m, hm⟩, n, hn2⟩ := pair_form hp (not_both hp hd (h1.nb hp)) es
  obtain ⟨l, hl, ⟨m', hm'⟩, n', hn'⟩ := pair_form hp (not_both hp hd (h2.nb hp)) (e.symm.trans es)
  have : p ∣ k * l * ((a * d - b * c) * (x * v - u * y)) := ⟨_, by rw [← det_cross]; exact cross_alg hm hn2 hm' hn'⟩
  exact (pr_mul hp ((pr_mul hp this).resolve_left (pr_ne hp hk hl))).resolve_left hd
end My

namespace My
open PySem PySem.Spec PyProof.Rows L2 Pr
theorem some4 {p a b c d : Int} (h : ¬ p ∣ a * d - b * c) : ∃ n ∈ [a, b, c, d], ¬ p ∣ n := by
  by_cases ha : p ∣ a
  · by_cases hb : p ∣ b
    · exact absurd (Int.dvd_sub (Int.dvd_mul_of_dvd_left ha) (Int.dvd_mul_of_dvd_left hb)) h
    · exact ⟨b, by simp, hb⟩
  · exact ⟨a, by simp, ha⟩
/-- a plain table is a multiple of what it was made of -/
theorem tab_form {p m1 m2 m3 m4 a b c d : Int} (hp : p ∈ primes) (hd : ¬ p ∣ m1 * m4 - m2 * m3) (e : plain4 p m1 m2 m3 m4 = [a, b, c, d]) :
    Plain p [a, b, c, d] ∧ ∃ k, ¬ p ∣ k ∧ p ∣ a - k * m1 ∧ p ∣ b - k * m2 ∧ p ∣ c - k * m3 ∧ p ∣ d - k * m4 := by
  have h1 := plP_plain hp (some4 hd)
  obtain ⟨k, hk, e2⟩ := plP_form hp (some4 hd)
  have e : plP p [m1, m2, m3, m4] = [a, b, c, d] := e
  rw [e] at h1 e2
  have e3 : a = k * m1 % p := (List.cons.inj e2).1
  have e2 := (List.cons.inj e2).2
  have e4 : b = k * m2 % p := (List.cons.inj e2).1
  have e2 := (List.cons.inj e2).2
  have e5 : c = k * m3 % p := (List.cons.inj e2).1
  have e2 := (List.cons.inj e2).2
  have e6 : d = k * m4 % p := (List.cons.inj e2).1
  refine ⟨h1, k, hk, ?_, ?_, ?_, ?_⟩
  · rw [← mod_dvd, e3, Int.emod_emod]
  · rw [← mod_dvd, e4, Int.emod_emod]
  · rw [← mod_dvd, e5, Int.emod_emod]
  · rw [← mod_dvd, e6, Int.emod_emod]
theorem det_alg {p k m1 m2 m3 m4 a b c d x y z u D : Int} (h1 : a - k * m1 = p * x) (h2 : b - k * m2 = p * y) (h3 : c - k * m3 = p * z) (h4 : d - k * m4 = p * u) (h : a * d - b * c = p * D) :
    k * k * (m1 * m4 - m2 * m3) = p * (D - a * u + b * z - d * x + c * y + p * (x * u - y * z)) := by
  have e1 : k * m1 = a - p * x := by omega
  have e2 : k * m2 = b - p * y := by omega
  have e3 : k * m3 = c - p * z := by omega
  have e4 : k * m4 = d - p * u := by omega
  have : k * k * (m1 * m4 - m2 * m3) = (k * m1) * (k * m4) - (k * m2) * (k * m3) := by grind
  rw [this, e1, e2, e3, e4]
  grind
theorem tab_det {p k m1 m2 m3 m4 a b c d : Int} (hp : p ∈ primes) (hd : ¬ p ∣ m1 * m4 - m2 * m3) (hk : ¬ p ∣ k) (h1 : p ∣ a - k * m1) (h2 : p ∣ b - k * m2) (h3 : p ∣ c - k * m3) (h4 : p ∣ d - k * m4) : ¬ p ∣ a * d - b * c := fun ⟨D, hD⟩ => by
  obtain ⟨x, h1⟩ := h1
  obtain ⟨y, h2⟩ := h2
  obtain ⟨z, h3⟩ := h3
  obtain ⟨u, h4⟩ := h4
  exact pr_ne hp (pr_ne hp hk hk) hd ⟨_, det_alg h1 h2 h3 h4 hD⟩
/-- a plain table leads as what it was made of -/
theorem tab_led {p k m1 m2 m3 m4 a b c d x y : Int} (hp : p ∈ primes) (hk : ¬ p ∣ k) (h1 : p ∣ a - k * m1) (h2 : p ∣ b - k * m2) (h3 : p ∣ c - k * m3) (h4 : p ∣ d - k * m4) : ledP p a b c d x y = ledP p m1 m2 m3 m4 x y := by
  obtain ⟨e, h1⟩ := h1
  obtain ⟨f, h2⟩ := h2
  obtain ⟨g, h3⟩ := h3
  obtain ⟨h, h4⟩ := h4
  refine plP_of hp hk ⟨e * x + f * y, ?_⟩ ⟨g * x + h * y, ?_⟩ <;> grind
theorem led_to {p m1 m2 m3 m4 x y k u v : Int} (hp : p ∈ primes) (hk : ¬ p ∣ k) (h : PtP p u v) (e1 : m1 * x + m2 * y = k * u) (e2 : m3 * x + m4 * y = k * v) : ledP p m1 m2 m3 m4 x y = [u, v] := by
  have hb := primes_bd hp
  unfold ledP
  rw [e1, e2]
  exact (plP_mul hp hk [u, v]).trans (plP_fix hp (h.plain (by omega)))
theorem frame_alg (x1 y1 x2 y2 x3 y3 u1 v1 u2 v2 u3 v3 : Int) :
    let A := (u3 * v2 - u2 * v3) * u1
    let B := (u1 * v3 - u3 * v1) * u2
    let C := (u3 * v2 - u2 * v3) * v1
    let D := (u1 * v3 - u3 * v1) * v2
    let a := (x3 * y2 - x2 * y3) * x1
    let b := (x1 * y3 - x3 * y1) * x2
    let c := (x3 * y2 - x2 * y3) * y1
    let d := (x1 * y3 - x3 * y1) * y2
    let m1 := A * d + B * -c
    let m2 := A * -b + B * a
    let m3 := C * d + D * -c
    let m4 := C * -b + D * a
    let s := x3 * y2 - x2 * y3
    let t := x1 * y3 - x3 * y1
    let e := x1 * y2 - x2 * y1
    let s' := u3 * v2 - u2 * v3
    let t' := u1 * v3 - u3 * v1
    let e' := u1 * v2 - u2 * v1
    m1 * m4 - m2 * m3 = s' * t' * e' * (s * t * e) ∧
    (m1 * x1 + m2 * y1 = s' * t * e * u1 ∧ m3 * x1 + m4 * y1 = s' * t * e * v1) ∧
    (m1 * x2 + m2 * y2 = t' * s * e * u2 ∧ m3 * x2 + m4 * y2 = t' * s * e * v2) ∧
    (m1 * x3 + m2 * y3 = e' * s * t * u3 ∧ m3 * x3 + m4 * y3 = e' * s * t * v3) := by
  intro A B C D a b c d m1 m2 m3 m4 s t e s' t' e'
  refine ⟨by grind, ⟨by grind, by grind⟩, ⟨by grind, by grind⟩, by grind, by grind⟩
theorem between_spec {p x1 y1 x2 y2 x3 y3 u1 v1 u2 v2 u3 v3 a b c d : Int} (hp : p ∈ primes) (hx : Three p x1 y1 x2 y2 x3 y3) (hu : Three p u1 v1 u2 v2 u3 v3) (e : between p x1 y1 x2 y2 x3 y3 u1 v1 u2 v2 u3 v3 = [a, b, c, d]) :
    Plain p [a, b, c, d] ∧ ¬ p ∣ a * d - b * c ∧ ledP p a b c d x1 y1 = [u1, v1] ∧ ledP p a b c d x2 y2 = [u2, v2] ∧ ledP p a b c d x3 y3 = [u3, v3] := by
  have nn : ∀ {n m : Int}, ¬ p ∣ n → m = -n → ¬ p ∣ m := fun {n m} h e hd => h (by rw [e] at hd; exact Int.dvd_neg.mp hd)
  have cs : ¬ p ∣ x3 * y2 - x2 * y3 := cross_ne hx.q3 hx.q2 (Ne.symm hx.n23)
  have ct : ¬ p ∣ x1 * y3 - x3 * y1 := cross_ne hx.q1 hx.q3 hx.n13
  have ce : ¬ p ∣ x1 * y2 - x2 * y1 := cross_ne hx.q1 hx.q2 hx.n12
  have cs' : ¬ p ∣ u3 * v2 - u2 * v3 := cross_ne hu.q3 hu.q2 (Ne.symm hu.n23)
  have ct' : ¬ p ∣ u1 * v3 - u3 * v1 := cross_ne hu.q1 hu.q3 hu.n13
  have ce' : ¬ p ∣ u1 * v2 - u2 * v1 := cross_ne hu.q1 hu.q2 hu.n12
  obtain ⟨f0, ⟨f1, f2⟩, ⟨f3, f4⟩, f5, f6⟩ := frame_alg x1 y1 x2 y2 x3 y3 u1 v1 u2 v2 u3 v3
  have hd : ¬ p ∣ _ := fun h => pr_ne hp (pr_ne hp (pr_ne hp cs' ct') ce') (pr_ne hp (pr_ne hp cs ct) ce) (f0 ▸ h)
  obtain ⟨pl, k, hk, h1, h2, h3, h4⟩ := tab_form hp hd e
  refine ⟨pl, tab_det hp hd hk h1 h2 h3 h4, ?_, ?_, ?_⟩
  · rw [tab_led hp hk h1 h2 h3 h4]
    exact led_to hp (pr_ne hp (pr_ne hp cs' ct) ce) hu.q1 f1 f2
  · rw [tab_led hp hk h1 h2 h3 h4]
    exact led_to hp (pr_ne hp (pr_ne hp ct' cs) ce) hu.q2 f3 f4
  · rw [tab_led hp hk h1 h2 h3 h4]
    exact led_to hp (pr_ne hp (pr_ne hp ce' cs) ct) hu.q3 f5 f6
end My

namespace My
open PySem PySem.Spec PyProof.Rows L2 Pr
/-- two tables that lead a point alike -/
theorem led_cross {p a b c d a' b' c' d' x y s t : Int} (hp : p ∈ primes) (hd : ¬ p ∣ a * d - b * c) (hd' : ¬ p ∣ a' * d' - b' * c') (h : PtP p x y) (e : ledP p a b c d x y = [s, t]) (e' : ledP p a' b' c' d' x y = [s, t]) :
    p ∣ (a * x + b * y) * (c' * x + d' * y) - (c * x + d * y) * (a' * x + b' * y) := by
  obtain ⟨k, hk, ⟨m, hm⟩, n, hn⟩ := pair_form hp (not_both hp hd (h.nb hp)) e
  obtain ⟨l, hl, ⟨m', hm'⟩, n', hn'⟩ := pair_form hp (not_both hp hd' (h.nb hp)) e'
  exact (pr_mul hp ⟨_, cross_alg hm hn hm' hn'⟩).resolve_left (pr_ne hp hk hl)
theorem quad_a {al be ga x1 y1 x2 y2 x3 y3 : Int} : al * ((x1 * y2 - x2 * y1) * (x1 * y3 - x3 * y1) * (x2 * y3 - x3 * y2)) =
    (al * x1 * x1 + be * x1 * y1 + ga * y1 * y1) * (y2 * y3 * (x2 * y3 - x3 * y2)) - (al * x2 * x2 + be * x2 * y2 + ga * y2 * y2) * (y1 * y3 * (x1 * y3 - x3 * y1)) + (al * x3 * x3 + be * x3 * y3 + ga * y3 * y3) * (y1 * y2 * (x1 * y2 - x2 * y1)) := by grind
theorem quad_c {al be ga x1 y1 x2 y2 x3 y3 : Int} : ga * ((x1 * y2 - x2 * y1) * (x1 * y3 - x3 * y1) * (x2 * y3 - x3 * y2)) =
    (al * x1 * x1 + be * x1 * y1 + ga * y1 * y1) * (x2 * x3 * (x2 * y3 - x3 * y2)) - (al * x2 * x2 + be * x2 * y2 + ga * y2 * y2) * (x1 * x3 * (x1 * y3 - x3 * y1)) + (al * x3 * x3 + be * x3 * y3 + ga * y3 * y3) * (x1 * x2 * (x1 * y2 - x2 * y1)) := by grind
theorem quad_b {al be ga x1 y1 x2 y2 x3 y3 : Int} : be * ((x1 * y2 - x2 * y1) * (x1 * y3 - x3 * y1) * (x2 * y3 - x3 * y2)) =
    (al * x2 * x2 + be * x2 * y2 + ga * y2 * y2) * ((y1 * x3 + x1 * y3) * (x1 * y3 - x3 * y1)) - (al * x1 * x1 + be * x1 * y1 + ga * y1 * y1) * ((y2 * x3 + x2 * y3) * (x2 * y3 - x3 * y2)) - (al * x3 * x3 + be * x3 * y3 + ga * y3 * y3) * ((y1 * x2 + x1 * y2) * (x1 * y2 - x2 * y1)) := by grind
theorem dvd3 {p a b c x y z : Int} (ha : p ∣ a) (hb : p ∣ b) (hc : p ∣ c) : p ∣ a * x - b * y + c * z := Int.dvd_add (Int.dvd_sub (Int.dvd_mul_of_dvd_left ha) (Int.dvd_mul_of_dvd_left hb)) (Int.dvd_mul_of_dvd_left hc)
theorem dvd3' {p a b c x y z : Int} (ha : p ∣ a) (hb : p ∣ b) (hc : p ∣ c) : p ∣ a * x - b * y - c * z := Int.dvd_sub (Int.dvd_sub (Int.dvd_mul_of_dvd_left ha) (Int.dvd_mul_of_dvd_left hb)) (Int.dvd_mul_of_dvd_left hc)
theorem ex_alg (n1 n2 n3 n4 t1 t2 t3 t4 x y : Int) : (n1 * x + n2 * y) * (t3 * x + t4 * y) - (n3 * x + n4 * y) * (t1 * x + t2 * y) = (n1 * t3 - n3 * t1) * x * x + (n1 * t4 + n2 * t3 - n3 * t2 - n4 * t1) * x * y + (n2 * t4 - n4 * t2) * y * y := by grind
theorem m1_alg {p n1 n3 t1 t2 t3 t4 za : Int} (h : n1 * t3 - n3 * t1 = p * za) : (t1 * t4 - t2 * t3) * n1 - (t4 * n1 - t2 * n3) * t1 = p * (-t2 * za) := by grind
theorem m2_alg {p n1 n2 n3 n4 t1 t2 t3 t4 zb zc : Int} (h : n2 * t4 - n4 * t2 = p * zc) (g : n1 * t4 + n2 * t3 - n3 * t2 - n4 * t1 = p * zb) : (t1 * t4 - t2 * t3) * n2 - (t4 * n1 - t2 * n3) * t2 = p * (t1 * zc - t2 * zb) := by grind
theorem m3_alg {p n1 n3 t1 t2 t3 t4 za : Int} (h : n1 * t3 - n3 * t1 = p * za) : (t1 * t4 - t2 * t3) * n3 - (t4 * n1 - t2 * n3) * t3 = p * (-t4 * za) := by grind
theorem m4_alg {p n1 n2 n3 n4 t1 t2 t3 t4 zb zc : Int} (h : n2 * t4 - n4 * t2 = p * zc) (g : n1 * t4 + n2 * t3 - n3 * t2 - n4 * t1 = p * zb) : (t1 * t4 - t2 * t3) * n4 - (t4 * n1 - t2 * n3) * t4 = p * (t3 * zc - t4 * zb) := by grind
theorem z_alg {p D n l t m : Int} (h : D * n - p * l * t = p * m) : D * n = p * (m + l * t) := by grind
/-- a table that leads three different points is the only plain one that does -/
theorem led_uniq {p n1 n2 n3 n4 t1 t2 t3 t4 x1 y1 x2 y2 x3 y3 u1 v1 u2 v2 u3 v3 : Int} (hp : p ∈ primes) (hx : Three p x1 y1 x2 y2 x3 y3) (pn : Plain p [n1, n2, n3, n4]) (pt : Plain p [t1, t2, t3, t4]) (dn : ¬ p ∣ n1 * n4 - n2 * n3) (dt : ¬ p ∣ t1 * t4 - t2 * t3)
    (a1 : ledP p n1 n2 n3 n4 x1 y1 = [u1, v1]) (a2 : ledP p n1 n2 n3 n4 x2 y2 = [u2, v2]) (a3 : ledP p n1 n2 n3 n4 x3 y3 = [u3, v3])
    (b1 : ledP p t1 t2 t3 t4 x1 y1 = [u1, v1]) (b2 : ledP p t1 t2 t3 t4 x2 y2 = [u2, v2]) (b3 : ledP p t1 t2 t3 t4 x3 y3 = [u3, v3]) : [n1, n2, n3, n4] = [t1, t2, t3, t4] := by
  have ex : ∀ x y : Int, (n1 * x + n2 * y) * (t3 * x + t4 * y) - (n3 * x + n4 * y) * (t1 * x + t2 * y) = (n1 * t3 - n3 * t1) * x * x + (n1 * t4 + n2 * t3 - n3 * t2 - n4 * t1) * x * y + (n2 * t4 - n4 * t2) * y * y := fun x y => ex_alg n1 n2 n3 n4 t1 t2 t3 t4 x y
  have q1 := led_cross hp dn dt hx.q1 a1 b1
  have q2 := led_cross hp dn dt hx.q2 a2 b2
  have q3 := led_cross hp dn dt hx.q3 a3 b3
  rw [ex] at q1 q2 q3
  have c12 : ¬ p ∣ x1 * y2 - x2 * y1 := cross_ne hx.q1 hx.q2 hx.n12
  have c13 : ¬ p ∣ x1 * y3 - x3 * y1 := cross_ne hx.q1 hx.q3 hx.n13
  have c23 : ¬ p ∣ x2 * y3 - x3 * y2 := cross_ne hx.q2 hx.q3 hx.n23
  have cc := pr_ne hp (pr_ne hp c12 c13) c23
  have za : p ∣ n1 * t3 - n3 * t1 := (pr_mul hp (quad_a (be := n1 * t4 + n2 * t3 - n3 * t2 - n4 * t1) (ga := n2 * t4 - n4 * t2) ▸ dvd3 q1 q2 q3)).resolve_right cc
  have zc : p ∣ n2 * t4 - n4 * t2 := (pr_mul hp (quad_c (al := n1 * t3 - n3 * t1) (be := n1 * t4 + n2 * t3 - n3 * t2 - n4 * t1) ▸ dvd3 q1 q2 q3)).resolve_right cc
  have zb : p ∣ n1 * t4 + n2 * t3 - n3 * t2 - n4 * t1 := (pr_mul hp (quad_b (al := n1 * t3 - n3 * t1) (ga := n2 * t4 - n4 * t2) ▸ dvd3' q2 q1 q3)).resolve_right cc
  obtain ⟨za, hza⟩ := za
  obtain ⟨zb, hzb⟩ := zb
  obtain ⟨zc, hzc⟩ := zc
  have m1 : p ∣ (t1 * t4 - t2 * t3) * n1 - (t4 * n1 - t2 * n3) * t1 := ⟨_, m1_alg hza⟩
  have m2 : p ∣ (t1 * t4 - t2 * t3) * n2 - (t4 * n1 - t2 * n3) * t2 := ⟨_, m2_alg hzc hzb⟩
  have m3 : p ∣ (t1 * t4 - t2 * t3) * n3 - (t4 * n1 - t2 * n3) * t3 := ⟨_, m3_alg hza⟩
  have m4 : p ∣ (t1 * t4 - t2 * t3) * n4 - (t4 * n1 - t2 * n3) * t4 := ⟨_, m4_alg hzc hzb⟩
  generalize t1 * t4 - t2 * t3 = D at dt m1 m2 m3 m4
  generalize t4 * n1 - t2 * n3 = L at m1 m2 m3 m4
  have hL : ¬ p ∣ L := fun ⟨l, hl⟩ => by
    subst hl
    have z : ∀ {n t : Int}, p ∣ D * n - p * l * t → p ∣ n := fun {n t} ⟨m, hm⟩ => (pr_mul hp (a := D) (b := n) ⟨_, z_alg hm⟩).resolve_left dt
    exact dn (Int.dvd_sub (Int.dvd_mul_of_dvd_left (z m1)) (Int.dvd_mul_of_dvd_left (z m2)))
  have e1 := plP_mul hp dt [n1, n2, n3, n4]
  have e2 := plP_mul hp hL [t1, t2, t3, t4]
  rw [plP_fix hp pn] at e1
  rw [plP_fix hp pt] at e2
  rw [← e1, ← e2]
  refine plP_cong ?_
  show [D * n1 % p, D * n2 % p, D * n3 % p, D * n4 % p] = [L * t1 % p, L * t2 % p, L * t3 % p, L * t4 % p]
  rw [mod_dvd.mpr m1, mod_dvd.mpr m2, mod_dvd.mpr m3, mod_dvd.mpr m4]
end My

namespace My
open PySem PySem.Spec PyProof.Rows L2 Pr
section
variable {P : Program} {w : World} {K : PySem.W.Frag} {mg : Str → Option Value} {base : Heap}
/-- a table as data -/
abbrev tabD (a b c d : Int) : PyData := .tuple [.tuple ([a, b].map .int), .tuple ([c, d].map .int)]
theorem tab_dp {H : Hp} {t : Addr} {a b c d : Int} (h : TabAt H t a b c d) : Dp K H (.ref t) (tabD a b c d) := by
  obtain ⟨r1, r2, h1, h2, h3⟩ := h
  exact .tup (sqT_of h1) (.cons (.tup (sqT_of h2) (dpAll_ints _ _ [a, b])) (.cons (.tup (sqT_of h3) (dpAll_ints _ _ [c, d])) .nil))
theorem tab_sh (a b c d : Int) : SeqAt.shaped (tabD a b c d) = true := by rfl
theorem neD_same {x y : V} {H : Hp} {Q : VK} {d : PyData} (hs : SeqAt.shaped d = true) (h1 : Dp K H x d) (h2 : Dp K H y d) (k : Q (.bl false) H) : rNeD K x y H Q := by
  refine ⟨d, d, h1, h2, hs, hs, ?_⟩
  rw [SeqAt.eqv_refl _ (SeqAt.canLay_of_shaped hs)]
  exact k
theorem TabAt.exc {H H' : Hp} {d t : Addr} {a b c e : Int} (D : Dc H d) (h : TabAt H t a b c e) (x : Exc d H H') : TabAt H' t a b c e := by
  obtain ⟨r1, r2, h1, h2, h3⟩ := h
  obtain ⟨_, _, _, e⟩ := D
  have n : ∀ {q : Addr} {xs : List V}, H q = some (.tup xs) → H' q = some (.tup xs) := fun {q xs} hq => x q _ (fun z => by
    subst z
    rw [e] at hq
    cases hq) hq
  exact ⟨r1, r2, n h1, n h2, n h3⟩
theorem ThreeAt.exc {H H' : Hp} {d l : Addr} {x1 y1 x2 y2 x3 y3 : Int} (D : Dc H d) (h : ThreeAt H l x1 y1 x2 y2 x3 y3) (x : Exc d H H') : ThreeAt H' l x1 y1 x2 y2 x3 y3 := by
  obtain ⟨u1, u2, u3, h0, h1, h2, h3⟩ := h.ex
  obtain ⟨_, _, _, e⟩ := D
  have n : ∀ {q : Addr} {xs : List V}, H q = some (.tup xs) → H' q = some (.tup xs) := fun {q xs} hq => x q _ (fun z => by
    subst z
    rw [e] at hq
    cases hq) hq
  exact ⟨u1, u2, u3, n h0, n h1, n h2, n h3⟩
theorem det_mul {p k a b c e : Int} (hp : p ∈ primes) (hk : ¬ p ∣ k) (h : (a * e - b * c) % p ≠ 0) : (k * a * (k * e) - k * b * (k * c)) % p ≠ 0 := by
  rw [nd_mod] at h ⊢
  have e1 : k * a * (k * e) - k * b * (k * c) = k * k * (a * e - b * c) := by
    clear h hp hk
    grind
  rw [e1]
  exact pr_ne hp (pr_ne hp hk hk) h
theorem det_join {p a b c d a' b' c' d' : Int} (hp : p ∈ primes) (h : (a * d - b * c) % p ≠ 0) (h' : (a' * d' - b' * c') % p ≠ 0) : ((a * a' + b * c') * (c * b' + d * d') - (a * b' + b * d') * (c * a' + d * c')) % p ≠ 0 := by
  rw [nd_mod] at h h' ⊢
  have e1 : (a * a' + b * c') * (c * b' + d * d') - (a * b' + b * d') * (c * a' + d * c') = (a * d - b * c) * (a' * d' - b' * c') := by
    clear h hp h'
    grind
  rw [e1]
  exact pr_ne hp h h'
def sp_law_right : Sp := fun vs H Q _ => ∃ (d : Addr), vs = [.ref d] ∧ Dc H d ∧ ∀ H', Exc d H H' → Dc H' d → Q (.bl true) H'
theorem ok_law_right (T : Tx K mg) : FnOk P w K mg base CX0 8 T.f_law_right T.d_law_right p_law_right sp_law_right := by
  refine T.F_law_right.ok sc_law_right (fun vs H Q E h => ?_) (fun cdv A outer s H vs Q E hr h => ?_)
  · obtain ⟨d, rfl, _⟩ := h
    rfl
  · obtain ⟨d, rfl, hD, k⟩ := h
    refine ⟨_, (pss_cons (ps_set (i := 1) sc_law_right.nd rfl (Or.inr rfl) (pe_call (ok_law_some_prime T) (hr.mono (by decide)) (by rfl) T.m_law_some_prime T.F_law_some_prime.kp T.b_law_some_prime .nil pass0 (pa_cons (pv 0) pa_nil)))
      (pss_cons (ps_if (pt_cmpR (op_neD hr.units) (pe_callTy cr_listS (by rfl) T.z_list (by decide +kernel) (pa_cons (pe_call (ok_all_points T) (hr.mono (by decide)) (by rfl) T.m_all_points T.F_all_points.kp T.b_all_points .nil pass0 (pa_cons (pv 1) pa_nil)) pa_nil)) (pe_call (ok_law_points_by T) (hr.mono (by decide)) (by rfl) T.m_law_points_by T.F_law_points_by.kp T.b_law_points_by .nil pass0 (pa_cons (pv 1) pa_nil)) (nomark _)) (pss_one (ps_ret pe_bl)) pss_nil)
      (pss_cons (ps_asg (pe_tup (pa_cons (pe_call (ok_law_prime_table T) (hr.mono (by decide)) (by rfl) T.m_law_prime_table T.F_law_prime_table.kp T.b_law_prime_table .nil pass0 (pa_cons (pv 0) (pa_cons (pv 1) pa_nil))) (pa_cons (pe_call (ok_law_prime_table T) (hr.mono (by decide)) (by rfl) T.m_law_prime_table T.F_law_prime_table.kp T.b_law_prime_table .nil pass0 (pa_cons (pv 0) (pa_cons (pv 1) pa_nil))) (pa_cons (pe_op op_add pe_int (pe_call (ok_law_roll T) (hr.mono (by decide)) (by rfl) T.m_law_roll T.F_law_roll.kp T.b_law_roll .nil pass0 (pa_cons (pv 0) (pa_cons (pe_op op_sub (pv 1) pe_int) pa_nil)))) pa_nil)))) (pg_tupH (n := 3) (by rfl) (pgs_cons (pg_name (i := 2) sc_law_right.nd rfl (by first | exact .inl rfl | exact .inr rfl)) (pgs_cons (pg_name (i := 3) sc_law_right.nd rfl (by first | exact .inl rfl | exact .inr rfl)) (pgs_cons (pg_name (i := 4) sc_law_right.nd rfl (by first | exact .inl rfl | exact .inr rfl)) pgs_nil)))))
      (pss_cons (ps_set (i := 5) sc_law_right.nd rfl (Or.inl rfl) (pe_callTy cr_tupL (by rfl) T.z_tuple (by decide +kernel) (pa_cons (pe_lc (own := [("_law_row", 11)]) (g := gName 11) (tt := tYes) rfl sc_law_right.nd (pi_tup (pv 2)) (blkOk_by (N := n_law_right) (sc := defScope s_law_right) (by decide +kernel)) (fun _ _ _ _ _ => (pg_name (i := 11) sc_law_right.nd rfl (by first | exact .inl rfl | exact .inr rfl))) (fun _ _ _ _ _ => pts_nil) (fun _ _ _ _ _ => (pe_callTy cr_tupL (by rfl) T.z_tuple (by decide +kernel) (pa_cons (pe_lc (own := [("_law_entry", 12)]) (g := gName 12) (tt := tYes) rfl sc_law_right.nd (pi_tupK (K := K) rfl (pv 11)) (blkOk_by (by rfl)) (fun _ _ _ _ _ => (pg_name (i := 12) sc_law_right.nd rfl (by first | exact .inl rfl | exact .inr rfl))) (fun _ _ _ _ _ => pts_nil) (fun _ _ _ _ _ => (pe_op op_mulB (pv 4) (pv 12)))) pa_nil)))) pa_nil)))
      (pss_cons (ps_if (PW.pt (pw_or (pt_cmpR (op_neD hr.units) (pe_call (ok_plain_table T) (hr.mono (by decide)) (by rfl) T.m_plain_table T.F_plain_table.kp T.b_plain_table .nil pass0 (pa_cons (pv 1) (pa_cons (pv 2) pa_nil))) (pe_call (ok_law_plain_table T) (hr.mono (by decide)) (by rfl) T.m_law_plain_table T.F_law_plain_table.kp T.b_law_plain_table .nil pass0 (pa_cons (pv 2) (pa_cons (pv 1) pa_nil))) (nomark _)) (pw_or1 (pt_cmpR (op_neD hr.units) (pe_call (ok_plain_table T) (hr.mono (by decide)) (by rfl) T.m_plain_table T.F_plain_table.kp T.b_plain_table .nil pass0 (pa_cons (pv 1) (pa_cons (pv 5) pa_nil))) (pe_call (ok_plain_table T) (hr.mono (by decide)) (by rfl) T.m_plain_table T.F_plain_table.kp T.b_plain_table .nil pass0 (pa_cons (pv 1) (pa_cons (pv 2) pa_nil))) (nomark _))))) (pss_one (ps_ret pe_bl)) pss_nil)
      (pss_cons (ps_for PassesOwn.never rfl (pi_range1 (by rfl) T.z_range (pa_cons pe_int pa_nil)) (pg_name (i := 6) sc_law_right.nd rfl (by first | exact .inl rfl | exact .inr rfl))
      (pss_cons (ps_set (i := 7) sc_law_right.nd rfl (Or.inl rfl) (pe_call (ok_law_prime_point T) (hr.mono (by decide)) (by rfl) T.m_law_prime_point T.F_law_prime_point.kp T.b_law_prime_point .nil pass0 (pa_cons (pv 0) (pa_cons (pv 1) pa_nil))))
      (pss_cons (ps_set (i := 8) sc_law_right.nd rfl (Or.inr rfl) (pe_call (ok_led_point T) (hr.mono (by decide)) (by rfl) T.m_led_point T.F_led_point.kp T.b_led_point .nil pass0 (pa_cons (pv 1) (pa_cons (pv 2) (pa_cons (pv 7) pa_nil)))))
      (pss_cons (ps_if (PW.pt (pw_or (pt_cmpR (op_neTI hr.units) (pv 8) (pe_call (ok_law_led_by T) (hr.mono (by decide)) (by rfl) T.m_law_led_by T.F_law_led_by.kp T.b_law_led_by .nil pass0 (pa_cons (pv 2) (pa_cons (pv 7) (pa_cons (pv 1) pa_nil)))) (nomark _)) (pw_or1 (pt_cmpR (op_neTI hr.units) (pe_call (ok_led_point T) (hr.mono (by decide)) (by rfl) T.m_led_point T.F_led_point.kp T.b_led_point .nil pass0 (pa_cons (pv 1) (pa_cons (pv 5) (pa_cons (pv 7) pa_nil)))) (pv 8) (nomark _))))) (pss_one (ps_ret pe_bl)) pss_nil)
      (pss_one (ps_if (pt_cmpR (op_neTI hr.units) (pe_call (ok_led_point T) (hr.mono (by decide)) (by rfl) T.m_led_point T.F_led_point.kp T.b_led_point .nil pass0 (pa_cons (pv 1) (pa_cons (pe_call (ok_law_joined T) (hr.mono (by decide)) (by rfl) T.m_law_joined T.F_law_joined.kp T.b_law_joined .nil pass0 (pa_cons (pv 2) (pa_cons (pv 3) pa_nil))) (pa_cons (pv 7) pa_nil)))) (pe_call (ok_led_point T) (hr.mono (by decide)) (by rfl) T.m_led_point T.F_led_point.kp T.b_led_point .nil pass0 (pa_cons (pv 1) (pa_cons (pv 2) (pa_cons (pe_call (ok_led_point T) (hr.mono (by decide)) (by rfl) T.m_led_point T.F_led_point.kp T.b_led_point .nil pass0 (pa_cons (pv 1) (pa_cons (pv 3) (pa_cons (pv 7) pa_nil)))) pa_nil)))) (nomark _)) (pss_one (ps_ret pe_bl)) pss_nil))))))
      (pss_cons (ps_par (i := 9) (j := 10) (by rfl) sc_law_right.nd rfl rfl (by decide) rfl rfl (pa_cons (pe_call (ok_law_three T) (hr.mono (by decide)) (by rfl) T.m_law_three T.F_law_three.kp T.b_law_three .nil pass0 (pa_cons (pv 0) (pa_cons (pv 1) pa_nil))) (pa_cons (pe_call (ok_law_three T) (hr.mono (by decide)) (by rfl) T.m_law_three T.F_law_three.kp T.b_law_three .nil pass0 (pa_cons (pv 0) (pa_cons (pv 1) pa_nil))) pa_nil)) (by rfl))
      (pss_cons (ps_set (i := 8) sc_law_right.nd rfl (Or.inr rfl) (pe_call (ok_table_by_three T) (hr.mono (by decide)) (by rfl) T.m_table_by_three T.F_table_by_three.kp T.b_table_by_three .nil pass0 (pa_cons (pv 1) (pa_cons (pv 9) (pa_cons (pv 10) pa_nil)))))
      (pss_cons (ps_if (PW.pt (pw_or (pt_cmpR (op_neD hr.units) (pv 8) (pe_call (ok_law_plain_table T) (hr.mono (by decide)) (by rfl) T.m_law_plain_table T.F_law_plain_table.kp T.b_law_plain_table .nil pass0 (pa_cons (pv 8) (pa_cons (pv 1) pa_nil))) (nomark _)) (pw_or1 (pt_cmpR op_eq (pe_op op_mod (pe_callTy cr_intI (by rfl) T.z_int (by decide +kernel) (pa_cons (pe_call (ok_law_det T) (hr.mono (by decide)) (by rfl) T.m_law_det T.F_law_det.kp T.b_law_det .nil pass0 (pa_cons (pv 8) pa_nil)) pa_nil)) (pv 1)) pe_int (nomark _))))) (pss_one (ps_ret pe_bl)) pss_nil)
      (pss_cons (ps_if (pt_cmpR (op_neD hr.units) (pe_lc (own := [("_law_point", 7)]) (g := gName 7) (tt := tYes) rfl sc_law_right.nd (pi_tup (pv 9)) (blkOk_by (N := n_law_right) (sc := defScope s_law_right) (by decide +kernel)) (fun _ _ _ _ _ => (pg_name (i := 7) sc_law_right.nd rfl (by first | exact .inl rfl | exact .inr rfl))) (fun _ _ _ _ _ => pts_nil) (fun _ _ _ _ _ => (pe_call (ok_led_point T) (hr.mono (by decide)) (by rfl) T.m_led_point T.F_led_point.kp T.b_led_point .nil pass0 (pa_cons (pv 1) (pa_cons (pv 8) (pa_cons (pv 7) pa_nil)))))) (pe_callTy cr_listS (by rfl) T.z_list (by decide +kernel) (pa_cons (pv 10) pa_nil)) (nomark _)) (pss_one (ps_ret pe_bl)) pss_nil)
      (pss_one (ps_ret (pe_cmpR op_eq (pe_lenSetT rfl hr.units (by rfl) T.z_len (by rfl) T.z_set (pe_lc (own := [("_law_point", 7)]) (g := gName 7) (tt := tYes) rfl sc_law_right.nd (pi_tup (pe_call (ok_all_points T) (hr.mono (by decide)) (by rfl) T.m_all_points T.F_all_points.kp T.b_all_points .nil pass0 (pa_cons (pv 1) pa_nil))) (blkOk_by (N := n_law_right) (sc := defScope s_law_right) (by decide +kernel)) (fun _ _ _ _ _ => (pg_name (i := 7) sc_law_right.nd rfl (by first | exact .inl rfl | exact .inr rfl))) (fun _ _ _ _ _ => pts_nil) (fun _ _ _ _ _ => (pe_call (ok_led_point T) (hr.mono (by decide)) (by rfl) T.m_led_point T.F_led_point.kp T.b_led_point .nil pass0 (pa_cons (pv 1) (pa_cons (pv 8) (pa_cons (pv 7) pa_nil))))))) (pe_op op_add (pv 1) pe_int) (nomark _)))))))))))))), ?_⟩
    rw [st_law_right]
    simp (maxSteps := 3000000) only [ap_seq, ap_next, ap_asg, ap_gName, ap_ret, ap_retN, ap_drop, ap_ifS, ap_break, ap_cont, ap_par, ap_aug, ap_ip, ap_gSub, ap_gTup, ap_gNil, ap_gCons, ap_var, ap_c, ap_op, ap_un, ap_if, ap_test, ap_B, ap_and, ap_or, ap_not, ap_andV, ap_orV, ap_notV, ap_nil, ap_cons, ap_tup, ap_lst, ap_cb, ap_bm, ap_call, ap_chain, ap_rI, ap_rI0, ap_rU, ap_rEq, ap_rNe, ap_revT, ap_sl, ap_part, ap_noPart, ap_ixLI, ap_ixTI, ap_ixLV, ap_ixTV, ap_len, ap_setLI, ap_setLV, ap_appI, ap_appV, ap_tupL, ap_listS, ap_sumLI, ap_sumTI, ap_repLI, ap_intI, ap_intB, ap_eqTI, ap_neTI, ap_eqLI, ap_neLI, ap_isi, ap_for, ap_rng1, ap_rng2, ap_iList, ap_iTup, ap_lc, ap_yes, ap_cut, ap_gTupH, ap_fmt, ap_jsn, ap_jsc, ap_gcd, ap_isqrt, ap_ixL, tyV_l, wipe_nil, wipe_cons, upd_same, ap_iEnT, ap_iEnL, ap_iZipA, ap_all, ap_tupT, ap_lenSetT, ap_slI, ap_catI, ap_perm, ap_lenO, ap_strO, ap_listO, ap_reprB, ap_iterT, ap_neT, ap_negO, ap_binI, ap_catL, ap_tM1, ap_repTI, ap_popN, ap_par3, ap_catTT, ap_countT, ap_notInT, ap_repL1, ap_shl, ap_shr, ap_mask, ap_comb, ap_bits, ap_rng3, List.set_cons_zero, List.set_cons_succ, List.getElem?_cons_zero, List.getElem?_cons_succ, List.cons_append, List.nil_append, List.append_nil, Option.some.injEq, V.int.injEq, V.ref.injEq, V.bl.injEq, V.str.injEq, V.ty.injEq, Bool.not_true, Bool.not_false, HO.lst.injEq, HO.tup.injEq, reduceCtorEq, Int.reduceToNat, Int.reduceLT, Int.reduceLE, Nat.reduceAdd, Int.cast_ofNat_Int, gi_c0, gi_c1, gi_c2, gi_c3, Int.natCast_inj, map_int_inj, map_nil_iff, List.cons.injEq, exists_eq_left, exists_eq_left', exists_eq, exists_eq', exists_and_left, exists_and_right, exists_const, and_assoc, and_true, true_and, and_false, false_and, or_false, false_or, or_true, true_or, ite_true, ite_false, if_true, if_false, Bool.false_eq_true, own_cons, own_nil, le1, le2, le3, le4, me_cons, me_nil, List.length_map, List.length_cons, List.length_nil, ne_eq, not_false_eq_true, not_true_eq_false, decide_eq_true_eq]
    refine ⟨d, rfl, hD, fun H1 p ex1 D1 hp => ?_⟩
    have pb := primes_bd hp
    refine ⟨p, rfl, hp, fun H2 r rs s2 er hR => ⟨r, rfl, _, .inr er, fun l nl => ?_⟩⟩
    have s3 := same_upd (o := HO.lst (rs.map V.ref)) nl
    refine ⟨p, rfl, hp, fun H4 r4 rs4 s4 nr4 er4 hR4 => ?_⟩
    refine neD_same (d := .list ((ptsP p).map fun ns => PyData.tuple (ns.map .int))) (shaped_rows _) (.lst (sqL_of (s4 _ _ upd_same)) (dpAll_rows (hR.same (s3.trans s4)))) (.lst (sqL_of er4) (dpAll_rows hR4)) ⟨false, rfl, ?_⟩
    rw [if_neg (by simp)]
    have X4 : Exc d H H4 := ex1.trans (.same (s2.trans (s3.trans s4)))
    have D4 := D1.same (s2.trans (s3.trans s4))
    clear er4 hR4 nr4 er hR
    refine ⟨d, p, rfl, D4, hp, fun H5 t1 a b c e x5 D5 tab1 hb1 hd1 => ?_⟩
    refine ⟨d, p, rfl, D5, hp, fun H6 t2 a' b' c' e' x6 D6 tab2 hb2 hd2 => ⟨p, rfl, ?_⟩⟩
    have tab1 := tab1.exc D5 x6
    refine ⟨d, p - 1, rfl, D6, by omega, by omega, fun H7 f x7 D7 f0 f1 => ⟨f, rfl, by decide, fun q nq => ⟨t1, rfl, ?_⟩⟩⟩
    have tab1 := tab1.exc D6 x7
    have tab2 := tab2.exc D6 x7
    have s8 := same_upd (o := HO.tup [V.ref t1, V.ref t2, V.int (1 + f)]) nq
    obtain ⟨r1, r2, g0, g1, g2⟩ := id (tab1.same s8)
    have X8 : Exc d H _ := X4.trans (x5.trans (x6.trans (x7.trans (.same s8))))
    have D8 := D7.same s8
    have tab1 := tab1.same s8
    have tab2 := tab2.same s8
    generalize upd H7 q (HO.tup [V.ref t1, V.ref t2, V.int (1 + f)]) = H8 at s8 g0 g1 g2 X8 D8 tab1 tab2 ⊢
    have bd1 : ∀ n ∈ [a, b, c, e], Tn n := fun n hn => by
      have := hb1 n hn
      unfold Tn
      omega
    refine ⟨⟨_, sqT_of g0⟩, lc_rowsMT (rs := [r1, r2]) (nss := [[a, b], [c, e]]) (fun ns => ns.map ((1 + f) * ·)) g0 (.cons g1 (.cons g2 .nil)) (by show 2 < 1000000; omega) (fun x => rfl) (fun i r ns H' hi sm er Q' k' => ?_) (fun A H9 qs nA s9 eA hR => ?_)⟩
    · have hns : ns.length = 2 ∧ ∀ n ∈ ns, Tn n := by
        match i, hi with
        | 0, hi => cases hi; exact ⟨rfl, fun n hn => bd1 n (by simp at hn ⊢; omega)⟩
        | 1, hi => cases hi; exact ⟨rfl, fun n hn => bd1 n (by simp at hn ⊢; omega)⟩
      simp only [ap_seq, ap_next, ap_asg, ap_gName, ap_ret, ap_retN, ap_drop, ap_ifS, ap_break, ap_cont, ap_par, ap_aug, ap_ip, ap_gSub, ap_gTup, ap_gNil, ap_gCons, ap_var, ap_c, ap_op, ap_un, ap_if, ap_test, ap_B, ap_and, ap_or, ap_not, ap_andV, ap_orV, ap_notV, ap_nil, ap_cons, ap_tup, ap_lst, ap_cb, ap_bm, ap_call, ap_chain, ap_rI, ap_rI0, ap_rU, ap_rEq, ap_rNe, ap_revT, ap_sl, ap_part, ap_noPart, ap_ixLI, ap_ixTI, ap_ixLV, ap_ixTV, ap_len, ap_setLI, ap_setLV, ap_appI, ap_appV, ap_tupL, ap_listS, ap_sumLI, ap_sumTI, ap_repLI, ap_intI, ap_intB, ap_eqTI, ap_neTI, ap_eqLI, ap_neLI, ap_isi, ap_for, ap_rng1, ap_rng2, ap_iList, ap_iTup, ap_lc, ap_yes, ap_cut, ap_gTupH, ap_fmt, ap_jsn, ap_jsc, ap_gcd, ap_isqrt, ap_ixL, tyV_l, wipe_nil, wipe_cons, upd_same, ap_iEnT, ap_iEnL, ap_iZipA, ap_all, ap_tupT, ap_lenSetT, ap_slI, ap_catI, ap_perm, ap_lenO, ap_strO, ap_listO, ap_reprB, ap_iterT, ap_neT, ap_negO, ap_binI, ap_catL, ap_tM1, ap_repTI, ap_popN, ap_par3, ap_catTT, ap_countT, ap_notInT, ap_repL1, ap_shl, ap_shr, ap_mask, ap_comb, ap_bits, ap_rng3, List.set_cons_zero, List.set_cons_succ, List.getElem?_cons_zero, List.getElem?_cons_succ, List.cons_append, List.nil_append, List.append_nil, Option.some.injEq, V.int.injEq, V.ref.injEq, V.bl.injEq, V.str.injEq, V.ty.injEq, Bool.not_true, Bool.not_false, HO.lst.injEq, HO.tup.injEq, reduceCtorEq, Int.reduceToNat, Int.reduceLT, Int.reduceLE, Nat.reduceAdd, Int.cast_ofNat_Int, gi_c0, gi_c1, gi_c2, gi_c3, Int.natCast_inj, map_int_inj, map_nil_iff, List.cons.injEq, exists_eq_left, exists_eq_left', exists_eq, exists_eq', exists_and_left, exists_and_right, exists_const, and_assoc, and_true, true_and, and_false, false_and, or_false, false_or, or_true, true_or, ite_true, ite_false, if_true, if_false, Bool.false_eq_true, own_cons, own_nil, le1, le2, le3, le4, me_cons, me_nil, List.length_map, List.length_cons, List.length_nil, ne_eq, not_false_eq_true, not_true_eq_false, decide_eq_true_eq]
      refine ⟨⟨_, sqT_of er⟩, lc_mapT ((1 + f) * ·) er (by omega) (fun x => rfl) (fun n hm H'' sm Q2 k2 => ?_) (fun A H'' hA sm eA => ?_)⟩
      · have b1 := hns.2 n hm
        simp only [ap_seq, ap_next, ap_asg, ap_gName, ap_ret, ap_retN, ap_drop, ap_ifS, ap_break, ap_cont, ap_par, ap_aug, ap_ip, ap_gSub, ap_gTup, ap_gNil, ap_gCons, ap_var, ap_c, ap_op, ap_un, ap_if, ap_test, ap_B, ap_and, ap_or, ap_not, ap_andV, ap_orV, ap_notV, ap_nil, ap_cons, ap_tup, ap_lst, ap_cb, ap_bm, ap_call, ap_chain, ap_rI, ap_rI0, ap_rU, ap_rEq, ap_rNe, ap_revT, ap_sl, ap_part, ap_noPart, ap_ixLI, ap_ixTI, ap_ixLV, ap_ixTV, ap_len, ap_setLI, ap_setLV, ap_appI, ap_appV, ap_tupL, ap_listS, ap_sumLI, ap_sumTI, ap_repLI, ap_intI, ap_intB, ap_eqTI, ap_neTI, ap_eqLI, ap_neLI, ap_isi, ap_for, ap_rng1, ap_rng2, ap_iList, ap_iTup, ap_lc, ap_yes, ap_cut, ap_gTupH, ap_fmt, ap_jsn, ap_jsc, ap_gcd, ap_isqrt, ap_ixL, tyV_l, wipe_nil, wipe_cons, upd_same, ap_iEnT, ap_iEnL, ap_iZipA, ap_all, ap_tupT, ap_lenSetT, ap_slI, ap_catI, ap_perm, ap_lenO, ap_strO, ap_listO, ap_reprB, ap_iterT, ap_neT, ap_negO, ap_binI, ap_catL, ap_tM1, ap_repTI, ap_popN, ap_par3, ap_catTT, ap_countT, ap_notInT, ap_repL1, ap_shl, ap_shr, ap_mask, ap_comb, ap_bits, ap_rng3, List.set_cons_zero, List.set_cons_succ, List.getElem?_cons_zero, List.getElem?_cons_succ, List.cons_append, List.nil_append, List.append_nil, Option.some.injEq, V.int.injEq, V.ref.injEq, V.bl.injEq, V.str.injEq, V.ty.injEq, Bool.not_true, Bool.not_false, HO.lst.injEq, HO.tup.injEq, reduceCtorEq, Int.reduceToNat, Int.reduceLT, Int.reduceLE, Nat.reduceAdd, Int.cast_ofNat_Int, gi_c0, gi_c1, gi_c2, gi_c3, Int.natCast_inj, map_int_inj, map_nil_iff, List.cons.injEq, exists_eq_left, exists_eq_left', exists_eq, exists_eq', exists_and_left, exists_and_right, exists_const, and_assoc, and_true, true_and, and_false, false_and, or_false, false_or, or_true, true_or, ite_true, ite_false, if_true, if_false, Bool.false_eq_true, own_cons, own_nil, le1, le2, le3, le4, me_cons, me_nil, List.length_map, List.length_cons, List.length_nil, ne_eq, not_false_eq_true, not_true_eq_false, decide_eq_true_eq]
        exact ⟨⟨Sm.wd (by unfold Sm; omega), b1.sm.wd⟩, k2 _ (Same.refl _)⟩
      · exact ⟨A, rfl, _, eA, fun z nz => k' _ z (sm.trans (same_upd nz)) upd_same⟩
    · refine ⟨A, rfl, _, eA, fun t3 n3 => ?_⟩
      have s10 := same_upd (o := HO.tup (qs.map V.ref)) n3
      have tab3 : TabAt (upd H9 t3 (HO.tup (qs.map V.ref))) t3 ((1 + f) * a) ((1 + f) * b) ((1 + f) * c) ((1 + f) * e) := by
        obtain ⟨ql, qr⟩ := hR
        match qs, ql, qr, s10 with
        | [q1, q2], _, qr, s10 => exact ⟨q1, q2, upd_same, s10 _ _ (qr 0 q1 _ rfl rfl), s10 _ _ (qr 1 q2 _ rfl rfl)⟩
      have X10 : Exc d H _ := X8.trans (.same (s9.trans s10))
      have D10 := (D8.same s9).same s10
      have tab1 := (tab1.same s9).same s10
      have tab2 := (tab2.same s9).same s10
      generalize upd H9 t3 (HO.tup (qs.map V.ref)) = HA at s10 tab3 X10 D10 tab1 tab2 ⊢
      have pk : ¬ p ∣ 1 + f := fun h => by
        have := Int.le_of_dvd (by omega) h
        omega
      have hd3 := det_mul hp pk hd1
      have w20 : ∀ {n : Int}, -(10 ^ 20) ≤ n ∧ n ≤ 10 ^ 20 → Tn n := fun {n} h => by unfold Tn; omega
      have T1 : T4 a b c e := ⟨w20 (hb1 a (by simp)), w20 (hb1 b (by simp)), w20 (hb1 c (by simp)), w20 (hb1 e (by simp))⟩
      have T2 : T4 a' b' c' e' := ⟨w20 (hb2 a' (by simp)), w20 (hb2 b' (by simp)), w20 (hb2 c' (by simp)), w20 (hb2 e' (by simp))⟩
      have wk : ∀ {n : Int}, -(10 ^ 20) ≤ n ∧ n ≤ 10 ^ 20 → Tn ((1 + f) * n) := fun {n} h => by
        have := mul_bd (A := 1000) (B := 10 ^ 20) (x := 1 + f) (by omega) h (by decide) (by decide)
        unfold Tn
        omega
      have T3 : T4 ((1 + f) * a) ((1 + f) * b) ((1 + f) * c) ((1 + f) * e) := ⟨wk (hb1 a (by simp)), wk (hb1 b (by simp)), wk (hb1 c (by simp)), wk (hb1 e (by simp))⟩
      have wj : ∀ {x y z u : Int}, -(10 ^ 20) ≤ x ∧ x ≤ 10 ^ 20 → -(10 ^ 20) ≤ y ∧ y ≤ 10 ^ 20 → -(10 ^ 20) ≤ z ∧ z ≤ 10 ^ 20 → -(10 ^ 20) ≤ u ∧ u ≤ 10 ^ 20 → Tn (x * y + z * u) := fun {x y z u} h1 h2 h3 h4 => by
        have := mul_bd (A := 10 ^ 20) (B := 10 ^ 20) h1 h2 (by decide) (by decide)
        have := mul_bd (A := 10 ^ 20) (B := 10 ^ 20) h3 h4 (by decide) (by decide)
        unfold Tn
        omega
      have TJ : T4 (a * a' + b * c') (a * b' + b * e') (c * a' + e * c') (c * b' + e * e') := ⟨wj (hb1 a (by simp)) (hb2 a' (by simp)) (hb1 b (by simp)) (hb2 c' (by simp)), wj (hb1 a (by simp)) (hb2 b' (by simp)) (hb1 b (by simp)) (hb2 e' (by simp)), wj (hb1 c (by simp)) (hb2 a' (by simp)) (hb1 e (by simp)) (hb2 c' (by simp)), wj (hb1 c (by simp)) (hb2 b' (by simp)) (hb1 e (by simp)) (hb2 e' (by simp))⟩
      have hdj := det_join hp hd1 hd2
      refine ⟨p, t1, a, b, c, e, rfl, hp, tab1, T1, hd1, fun HB z1 z1a z1b z1c z1d s11 e11 tz1 => ?_⟩
      refine ⟨t1, a, b, c, e, p, rfl, tab1.same s11, fun n hn => by have := hb1 n hn; omega, by omega, by omega, fun HC z2 z2a z2b z2c z2d s12 e12 tz2 => ?_⟩
      rw [e11] at e12
      cases e12
      refine neD_same (tab_sh z1a z1b z1c z1d) (tab_dp (tz1.same s12)) (tab_dp tz2) ⟨false, rfl, ?_⟩
      rw [if_neg (by simp)]
      refine ⟨p, t3, _, _, _, _, rfl, hp, tab3.same (s11.trans s12), T3, hd3, fun HD z3 z3a z3b z3c z3d s13 e13 tz3 => ?_⟩
      refine ⟨p, t1, a, b, c, e, rfl, hp, (tab1.same (s11.trans s12)).same s13, T1, hd1, fun HE z4 z4a z4b z4c z4d s14 e14 tz4 => ?_⟩
      rw [plain4_mul hp pk] at e13
      rw [e13] at e14
      cases e14
      refine neD_same (tab_sh z3a z3b z3c z3d) (tab_dp (tz3.same s14)) (tab_dp tz4) ⟨false, rfl, ?_⟩
      rw [if_neg (by simp)]
      have S14 := s11.trans (s12.trans (s13.trans s14))
      have X14 := X10.trans (.same S14)
      have D14 := D10.same S14
      have tab1 := tab1.same S14
      have tab2 := tab2.same S14
      have tab3 := tab3.same S14
      refine ⟨by decide, by decide, loop_range (fun i σ' H' => Exc d H H' ∧ Dc H' d ∧ TabAt H' t1 a b c e ∧ TabAt H' t2 a' b' c' e' ∧ TabAt H' t3 ((1 + f) * a) ((1 + f) * b) ((1 + f) * c) ((1 + f) * e) ∧ ∃ y6 y7 y8 : Option V, σ' = [some (.ref d), some (.int p), some (.ref t1), some (.ref t2), some (.int (1 + f)), some (.ref t3), y6, y7, y8, none, none, none, none]) ⟨X14, D14, tab1, tab2, tab3, none, none, none, rfl⟩ (fun i σ' H' hi hP => ?_) (fun σ' H' hP => ?_)⟩
      · obtain ⟨X, DH, ta, tb, tc, y6, y7, y8, e0⟩ := hP
        subst e0
        simp only [ap_seq, ap_next, ap_asg, ap_gName, ap_ret, ap_retN, ap_drop, ap_ifS, ap_break, ap_cont, ap_par, ap_aug, ap_ip, ap_gSub, ap_gTup, ap_gNil, ap_gCons, ap_var, ap_c, ap_op, ap_un, ap_if, ap_test, ap_B, ap_and, ap_or, ap_not, ap_andV, ap_orV, ap_notV, ap_nil, ap_cons, ap_tup, ap_lst, ap_cb, ap_bm, ap_call, ap_chain, ap_rI, ap_rI0, ap_rU, ap_rEq, ap_rNe, ap_revT, ap_sl, ap_part, ap_noPart, ap_ixLI, ap_ixTI, ap_ixLV, ap_ixTV, ap_len, ap_setLI, ap_setLV, ap_appI, ap_appV, ap_tupL, ap_listS, ap_sumLI, ap_sumTI, ap_repLI, ap_intI, ap_intB, ap_eqTI, ap_neTI, ap_eqLI, ap_neLI, ap_isi, ap_for, ap_rng1, ap_rng2, ap_iList, ap_iTup, ap_lc, ap_yes, ap_cut, ap_gTupH, ap_fmt, ap_jsn, ap_jsc, ap_gcd, ap_isqrt, ap_ixL, tyV_l, wipe_nil, wipe_cons, upd_same, ap_iEnT, ap_iEnL, ap_iZipA, ap_all, ap_tupT, ap_lenSetT, ap_slI, ap_catI, ap_perm, ap_lenO, ap_strO, ap_listO, ap_reprB, ap_iterT, ap_neT, ap_negO, ap_binI, ap_catL, ap_tM1, ap_repTI, ap_popN, ap_par3, ap_catTT, ap_countT, ap_notInT, ap_repL1, ap_shl, ap_shr, ap_mask, ap_comb, ap_bits, ap_rng3, List.set_cons_zero, List.set_cons_succ, List.getElem?_cons_zero, List.getElem?_cons_succ, List.cons_append, List.nil_append, List.append_nil, Option.some.injEq, V.int.injEq, V.ref.injEq, V.bl.injEq, V.str.injEq, V.ty.injEq, Bool.not_true, Bool.not_false, HO.lst.injEq, HO.tup.injEq, reduceCtorEq, Int.reduceToNat, Int.reduceLT, Int.reduceLE, Nat.reduceAdd, Int.cast_ofNat_Int, gi_c0, gi_c1, gi_c2, gi_c3, Int.natCast_inj, map_int_inj, map_nil_iff, List.cons.injEq, exists_eq_left, exists_eq_left', exists_eq, exists_eq', exists_and_left, exists_and_right, exists_const, and_assoc, and_true, true_and, and_false, false_and, or_false, false_or, or_true, true_or, ite_true, ite_false, if_true, if_false, Bool.false_eq_true, own_cons, own_nil, le1, le2, le3, le4, me_cons, me_nil, List.length_map, List.length_cons, List.length_nil, ne_eq, not_false_eq_true, not_true_eq_false, decide_eq_true_eq]
        refine ⟨d, p, rfl, DH, hp, fun G1 u x y xe D1' hu hpt => ?_⟩
        have ta := ta.exc DH xe
        have tb := tb.exc DH xe
        have tc := tc.exc DH xe
        refine ⟨p, t1, u, a, b, c, e, x, y, rfl, hp, ta, T1, hd1, hu, hpt, fun G2 v1 g2 hv1 => ?_⟩
        refine ⟨t1, u, a, b, c, e, x, y, p, rfl, ta.same g2, g2 _ _ hu, T1, hpt, by omega, by omega, fun G3 v2 g3 hv2 => ?_⟩
        obtain ⟨lx, ly, e1, hp1⟩ := led_pt hp (nd_mod.mp hd1) hpt
        refine ⟨v1, rfl, v2, rfl, _, g3 _ _ hv1, _, hv2, ?_⟩
        rw [decide_eq_true rfl, if_neg (by simp)]
        refine ⟨p, t3, u, _, _, _, _, x, y, rfl, hp, tc.same (g2.trans g3), T3, hd3, (g2.trans g3) _ _ hu, hpt, fun G4 v3 g4 hv3 => ?_⟩
        refine ⟨v3, rfl, v1, rfl, _, hv3, _, g4 _ _ (g3 _ _ hv1), ?_⟩
        rw [decide_eq_true (led_mul hp pk), if_neg (by simp)]
        have s4 := (g2.trans g3).trans g4
        refine ⟨t1, t2, a, b, c, e, a', b', c', e', rfl, ta.same s4, tb.same s4, T1, T2, fun G5 tj g5 htj => ?_⟩
        refine ⟨p, tj, u, _, _, _, _, x, y, rfl, hp, htj, TJ, hdj, g5 _ _ (s4 _ _ hu), hpt, fun G6 v4 g6 hv4 => ?_⟩
        have s6 := s4.trans (g5.trans g6)
        obtain ⟨mx, my, e2, hp2⟩ := led_pt hp (nd_mod.mp hd2) hpt
        refine ⟨p, t2, u, a', b', c', e', x, y, rfl, hp, tb.same s6, T2, hd2, s6 _ _ hu, hpt, fun G7 v5 g7 hv5 => ?_⟩
        rw [e2] at hv5
        have s7 := s6.trans g7
        refine ⟨p, t1, v5, a, b, c, e, mx, my, rfl, hp, ta.same s7, T1, hd1, hv5, hp2, fun G8 v6 g8 hv6 => ?_⟩
        have s8 := s7.trans g8
        refine ⟨v4, rfl, v6, rfl, _, (g7.trans g8) _ _ hv4, _, hv6, ?_⟩
        rw [decide_eq_true (led_led hp (nd_mod.mp hd2) hpt e2), if_neg (by simp)]
        exact ⟨(X.trans xe).trans (.same s8), D1'.same s8, ta.same s8, tb.same s8, tc.same s8⟩
      · obtain ⟨X, DH, ta, tb, tc, y6, y7, y8, e0⟩ := hP
        subst e0
        simp only [ap_seq, ap_next, ap_asg, ap_gName, ap_ret, ap_retN, ap_drop, ap_ifS, ap_break, ap_cont, ap_par, ap_aug, ap_ip, ap_gSub, ap_gTup, ap_gNil, ap_gCons, ap_var, ap_c, ap_op, ap_un, ap_if, ap_test, ap_B, ap_and, ap_or, ap_not, ap_andV, ap_orV, ap_notV, ap_nil, ap_cons, ap_tup, ap_lst, ap_cb, ap_bm, ap_call, ap_chain, ap_rI, ap_rI0, ap_rU, ap_rEq, ap_rNe, ap_revT, ap_sl, ap_part, ap_noPart, ap_ixLI, ap_ixTI, ap_ixLV, ap_ixTV, ap_len, ap_setLI, ap_setLV, ap_appI, ap_appV, ap_tupL, ap_listS, ap_sumLI, ap_sumTI, ap_repLI, ap_intI, ap_intB, ap_eqTI, ap_neTI, ap_eqLI, ap_neLI, ap_isi, ap_for, ap_rng1, ap_rng2, ap_iList, ap_iTup, ap_lc, ap_yes, ap_cut, ap_gTupH, ap_fmt, ap_jsn, ap_jsc, ap_gcd, ap_isqrt, ap_ixL, tyV_l, wipe_nil, wipe_cons, upd_same, ap_iEnT, ap_iEnL, ap_iZipA, ap_all, ap_tupT, ap_lenSetT, ap_slI, ap_catI, ap_perm, ap_lenO, ap_strO, ap_listO, ap_reprB, ap_iterT, ap_neT, ap_negO, ap_binI, ap_catL, ap_tM1, ap_repTI, ap_popN, ap_par3, ap_catTT, ap_countT, ap_notInT, ap_repL1, ap_shl, ap_shr, ap_mask, ap_comb, ap_bits, ap_rng3, List.set_cons_zero, List.set_cons_succ, List.getElem?_cons_zero, List.getElem?_cons_succ, List.cons_append, List.nil_append, List.append_nil, Option.some.injEq, V.int.injEq, V.ref.injEq, V.bl.injEq, V.str.injEq, V.ty.injEq, Bool.not_true, Bool.not_false, HO.lst.injEq, HO.tup.injEq, reduceCtorEq, Int.reduceToNat, Int.reduceLT, Int.reduceLE, Nat.reduceAdd, Int.cast_ofNat_Int, gi_c0, gi_c1, gi_c2, gi_c3, Int.natCast_inj, map_int_inj, map_nil_iff, List.cons.injEq, exists_eq_left, exists_eq_left', exists_eq, exists_eq', exists_and_left, exists_and_right, exists_const, and_assoc, and_true, true_and, and_false, false_and, or_false, false_or, or_true, true_or, ite_true, ite_false, if_true, if_false, Bool.false_eq_true, own_cons, own_nil, le1, le2, le3, le4, me_cons, me_nil, List.length_map, List.length_cons, List.length_nil, ne_eq, not_false_eq_true, not_true_eq_false, decide_eq_true_eq]
        refine ⟨d, p, rfl, DH, hp, fun G1 th x1 y1 x2 y2 x3 y3 e1 D1' h3 hx => ?_⟩
        refine ⟨d, p, rfl, D1', hp, fun G2 go u1 v1 u2 v2 u3 v3 e2 D2' h4 hu => ?_⟩
        have h3 := h3.exc D1' e2
        refine ⟨p, th, go, x1, y1, x2, y2, x3, y3, u1, v1, u2, v2, u3, v3, rfl, hp, h3, h4, hx, hu, fun G3 to m1 m2 m3 m4 g3 eto tto => ?_⟩
        obtain ⟨pl, dt, q1, q2, q3⟩ := between_spec hp hx hu eto
        have mb : ∀ {n : Int}, n ∈ [m1, m2, m3, m4] → 0 ≤ n ∧ n < p := fun {n} hn => pl.bd n hn
        have TM : T4 m1 m2 m3 m4 := by
          have w : ∀ {n : Int}, 0 ≤ n ∧ n < p → Tn n := fun {n} h => by unfold Tn; omega
          exact ⟨w (mb (by simp)), w (mb (by simp)), w (mb (by simp)), w (mb (by simp))⟩
        refine ⟨to, m1, m2, m3, m4, p, rfl, tto, fun n hn => by have := mb hn; omega, by omega, by omega, fun G4 tp k1 k2 k3 k4 g4 etp ttp => ?_⟩
        rw [show plain4 p m1 m2 m3 m4 = [m1, m2, m3, m4] from plP_fix hp pl] at etp
        cases etp
        refine neD_same (tab_sh m1 m2 m3 m4) (tab_dp (tto.same g4)) (tab_dp ttp) ⟨false, rfl, ?_⟩
        rw [if_neg (by simp)]
        refine ⟨to, m1, m2, m3, m4, rfl, tto.same g4, TM.a.sm, TM.b.sm, TM.c.sm, TM.d.sm, _, rfl, by omega, rfl, ?_⟩
        rw [if_neg (nd_mod.mpr dt)]
        have S4 := g3.trans g4
        have h3 := h3.same S4
        have h4 := h4.same S4
        have tto := tto.same g4
        obtain ⟨l1, l2, l3, a0, a1, a2, a3⟩ := id h3.ex
        obtain ⟨o1, o2, o3, b0, b1, b2, b3⟩ := id h4.ex
        refine ⟨th, rfl, ⟨_, sqT_of a0⟩, lc_rowsMT (rs := [l1, l2, l3]) (nss := [[x1, y1], [x2, y2], [x3, y3]]) (fun ns => ledP p m1 m2 m3 m4 (ns.getD 0 0) (ns.getD 1 0)) a0 (.cons a1 (.cons a2 (.cons a3 .nil))) (by show 3 < 1000000; omega) (fun x => rfl) (fun i r ns H'' hi sm er Q' k' => ?_) (fun A1 G5 qs nA g5 eA hR => ?_)⟩
        · have hns : ∃ x y, ns = [x, y] ∧ PtP p x y := by
            match i, hi with
            | 0, hi => cases hi; exact ⟨_, _, rfl, hx.q1⟩
            | 1, hi => cases hi; exact ⟨_, _, rfl, hx.q2⟩
            | 2, hi => cases hi; exact ⟨_, _, rfl, hx.q3⟩
          obtain ⟨x, y, rfl, hq⟩ := hns
          simp only [ap_seq, ap_next, ap_asg, ap_gName, ap_ret, ap_retN, ap_drop, ap_ifS, ap_break, ap_cont, ap_par, ap_aug, ap_ip, ap_gSub, ap_gTup, ap_gNil, ap_gCons, ap_var, ap_c, ap_op, ap_un, ap_if, ap_test, ap_B, ap_and, ap_or, ap_not, ap_andV, ap_orV, ap_notV, ap_nil, ap_cons, ap_tup, ap_lst, ap_cb, ap_bm, ap_call, ap_chain, ap_rI, ap_rI0, ap_rU, ap_rEq, ap_rNe, ap_revT, ap_sl, ap_part, ap_noPart, ap_ixLI, ap_ixTI, ap_ixLV, ap_ixTV, ap_len, ap_setLI, ap_setLV, ap_appI, ap_appV, ap_tupL, ap_listS, ap_sumLI, ap_sumTI, ap_repLI, ap_intI, ap_intB, ap_eqTI, ap_neTI, ap_eqLI, ap_neLI, ap_isi, ap_for, ap_rng1, ap_rng2, ap_iList, ap_iTup, ap_lc, ap_yes, ap_cut, ap_gTupH, ap_fmt, ap_jsn, ap_jsc, ap_gcd, ap_isqrt, ap_ixL, tyV_l, wipe_nil, wipe_cons, upd_same, ap_iEnT, ap_iEnL, ap_iZipA, ap_all, ap_tupT, ap_lenSetT, ap_slI, ap_catI, ap_perm, ap_lenO, ap_strO, ap_listO, ap_reprB, ap_iterT, ap_neT, ap_negO, ap_binI, ap_catL, ap_tM1, ap_repTI, ap_popN, ap_par3, ap_catTT, ap_countT, ap_notInT, ap_repL1, ap_shl, ap_shr, ap_mask, ap_comb, ap_bits, ap_rng3, List.set_cons_zero, List.set_cons_succ, List.getElem?_cons_zero, List.getElem?_cons_succ, List.cons_append, List.nil_append, List.append_nil, Option.some.injEq, V.int.injEq, V.ref.injEq, V.bl.injEq, V.str.injEq, V.ty.injEq, Bool.not_true, Bool.not_false, HO.lst.injEq, HO.tup.injEq, reduceCtorEq, Int.reduceToNat, Int.reduceLT, Int.reduceLE, Nat.reduceAdd, Int.cast_ofNat_Int, gi_c0, gi_c1, gi_c2, gi_c3, Int.natCast_inj, map_int_inj, map_nil_iff, List.cons.injEq, exists_eq_left, exists_eq_left', exists_eq, exists_eq', exists_and_left, exists_and_right, exists_const, and_assoc, and_true, true_and, and_false, false_and, or_false, false_or, or_true, true_or, ite_true, ite_false, if_true, if_false, Bool.false_eq_true, own_cons, own_nil, le1, le2, le3, le4, me_cons, me_nil, List.length_map, List.length_cons, List.length_nil, ne_eq, not_false_eq_true, not_true_eq_false, decide_eq_true_eq]
          exact ⟨p, to, r, m1, m2, m3, m4, x, y, rfl, hp, tto.same sm, TM, nd_mod.mpr dt, er, hq, fun G6 z g6 ez => k' G6 z g6 ez⟩
        · have eN : [[x1, y1], [x2, y2], [x3, y3]].map (fun ns => ledP p m1 m2 m3 m4 (ns.getD 0 0) (ns.getD 1 0)) = [[u1, v1], [u2, v2], [u3, v3]] := by
            show [ledP p m1 m2 m3 m4 x1 y1, ledP p m1 m2 m3 m4 x2 y2, ledP p m1 m2 m3 m4 x3 y3] = _
            rw [q1, q2, q3]
          rw [eN] at hR
          refine ⟨go, rfl, _, .inr (g5 _ _ b0), fun l' nl' => ?_⟩
          have g6 := same_upd (o := HO.lst [V.ref o1, V.ref o2, V.ref o3]) nl'
          refine neD_same (d := .list ([[u1, v1], [u2, v2], [u3, v3]].map fun ns => PyData.tuple (ns.map .int))) (shaped_rows _) (.lst (sqL_of (g6 _ _ eA)) (dpAll_rows (hR.same g6))) (.lst (sqL_of (xs := [o1, o2, o3].map V.ref) upd_same) (dpAll_rows (RowsAt.cons (g6 _ _ (g5 _ _ b1)) (.cons (g6 _ _ (g5 _ _ b2)) (.cons (g6 _ _ (g5 _ _ b3)) .nil))))) ⟨false, rfl, ?_⟩
          rw [if_neg (by simp)]
          refine ⟨p, rfl, hp, fun G6 ra rsa s6 era hRa => ?_⟩
          have tto6 := ((tto.same g5).same g6).same s6
          have pb' := primes_bd hp
          have lpt : (ptsP p).length = p.toNat + 1 := by
            unfold ptsP
            rw [List.length_cons, List.length_map, List.length_range]
          refine ⟨ra, rfl, ⟨_, sqT_of era⟩, lc_rowsMT (rs := rsa) (nss := ptsP p) (fun ns => ledP p m1 m2 m3 m4 (ns.getD 0 0) (ns.getD 1 0)) era hRa (by rw [hRa.1, lpt]; omega) (fun x => rfl) (fun i r ns H'' hi sm er Q' k' => ?_) (fun A2 G7 qs2 nA2 g7 eA2 hR2 => ?_)⟩
          · obtain ⟨x, y, rfl, hq⟩ := pts_pt (by omega) (List.mem_of_getElem? hi)
            simp only [ap_seq, ap_next, ap_asg, ap_gName, ap_ret, ap_retN, ap_drop, ap_ifS, ap_break, ap_cont, ap_par, ap_aug, ap_ip, ap_gSub, ap_gTup, ap_gNil, ap_gCons, ap_var, ap_c, ap_op, ap_un, ap_if, ap_test, ap_B, ap_and, ap_or, ap_not, ap_andV, ap_orV, ap_notV, ap_nil, ap_cons, ap_tup, ap_lst, ap_cb, ap_bm, ap_call, ap_chain, ap_rI, ap_rI0, ap_rU, ap_rEq, ap_rNe, ap_revT, ap_sl, ap_part, ap_noPart, ap_ixLI, ap_ixTI, ap_ixLV, ap_ixTV, ap_len, ap_setLI, ap_setLV, ap_appI, ap_appV, ap_tupL, ap_listS, ap_sumLI, ap_sumTI, ap_repLI, ap_intI, ap_intB, ap_eqTI, ap_neTI, ap_eqLI, ap_neLI, ap_isi, ap_for, ap_rng1, ap_rng2, ap_iList, ap_iTup, ap_lc, ap_yes, ap_cut, ap_gTupH, ap_fmt, ap_jsn, ap_jsc, ap_gcd, ap_isqrt, ap_ixL, tyV_l, wipe_nil, wipe_cons, upd_same, ap_iEnT, ap_iEnL, ap_iZipA, ap_all, ap_tupT, ap_lenSetT, ap_slI, ap_catI, ap_perm, ap_lenO, ap_strO, ap_listO, ap_reprB, ap_iterT, ap_neT, ap_negO, ap_binI, ap_catL, ap_tM1, ap_repTI, ap_popN, ap_par3, ap_catTT, ap_countT, ap_notInT, ap_repL1, ap_shl, ap_shr, ap_mask, ap_comb, ap_bits, ap_rng3, List.set_cons_zero, List.set_cons_succ, List.getElem?_cons_zero, List.getElem?_cons_succ, List.cons_append, List.nil_append, List.append_nil, Option.some.injEq, V.int.injEq, V.ref.injEq, V.bl.injEq, V.str.injEq, V.ty.injEq, Bool.not_true, Bool.not_false, HO.lst.injEq, HO.tup.injEq, reduceCtorEq, Int.reduceToNat, Int.reduceLT, Int.reduceLE, Nat.reduceAdd, Int.cast_ofNat_Int, gi_c0, gi_c1, gi_c2, gi_c3, Int.natCast_inj, map_int_inj, map_nil_iff, List.cons.injEq, exists_eq_left, exists_eq_left', exists_eq, exists_eq', exists_and_left, exists_and_right, exists_const, and_assoc, and_true, true_and, and_false, false_and, or_false, false_or, or_true, true_or, ite_true, ite_false, if_true, if_false, Bool.false_eq_true, own_cons, own_nil, le1, le2, le3, le4, me_cons, me_nil, List.length_map, List.length_cons, List.length_nil, ne_eq, not_false_eq_true, not_true_eq_false, decide_eq_true_eq]
            exact ⟨p, to, r, m1, m2, m3, m4, x, y, rfl, hp, tto6.same sm, TM, nd_mod.mpr dt, er, hq, fun G8 z g8 ez => k' G8 z g8 ez⟩
          · have l2 : qs2.length = ((ptsP p).map fun ns => ledP p m1 m2 m3 m4 (ns.getD 0 0) (ns.getD 1 0)).length := hR2.1
            have l3 : qs2.length = p.toNat + 1 := by rw [l2, List.length_map, lpt]
            have lz : (qs2.zip ((ptsP p).map fun ns => ledP p m1 m2 m3 m4 (ns.getD 0 0) (ns.getD 1 0))).length = p.toNat + 1 := by
              rw [List.length_zip, ← l2, l3, Nat.min_self]
            have SS := S4.trans (g5.trans (g6.trans (s6.trans g7)))
            refine ⟨A2, rfl, qs2.zip ((ptsP p).map fun ns => ledP p m1 m2 m3 m4 (ns.getD 0 0) (ns.getD 1 0)), ?_, fun q hq => ?_, ?_, by rw [lz]; omega, rfl, ?_⟩
            · rw [show (qs2.zip ((ptsP p).map fun ns => ledP p m1 m2 m3 m4 (ns.getD 0 0) (ns.getD 1 0))).map (fun q => V.ref q.1) = ((qs2.zip ((ptsP p).map fun ns => ledP p m1 m2 m3 m4 (ns.getD 0 0) (ns.getD 1 0))).map Prod.fst).map V.ref by rw [List.map_map]; rfl, List.map_fst_zip (Nat.le_of_eq l2)]
              exact sqL_of eA2
            · obtain ⟨i, hi⟩ := List.mem_iff_getElem?.mp hq
              obtain ⟨h1, h2⟩ := List.getElem?_zip_eq_some.mp hi
              exact sqT_of (hR2.2 i _ _ h1 h2)
            · rw [List.map_snd_zip (Nat.le_of_eq l2.symm)]
              refine List.pairwise_map.mpr (List.Pairwise.imp_of_mem (fun {a0 b0} ha hb ne e => ne ?_) (pts_nodup p))
              obtain ⟨xa, ya, rfl, qa⟩ := pts_pt (by omega) ha
              obtain ⟨xb, yb, rfl, qb⟩ := pts_pt (by omega) hb
              exact led_inj hp dt qa qb e
            · rw [decide_eq_true (by rw [lz]; omega)]
              exact k _ (((X.trans e1).trans e2).trans (.same SS)) (D2'.same SS)
end
end My

namespace My
open PySem PySem.Spec PyProof.Rows L2 Pr
section
variable {P : Program} {w : World} {K : PySem.W.Frag} {mg : Str → Option Value} {base : Heap}
/-- the tables that a place tells -/
def cand1 (i : Nat) : List Int := [1, (i : Int) / 13 / 13, (i : Int) / 13 % 13, (i : Int) % 13]
def cand2 (i j : Nat) : List Int := [0, 1, 1 + (j : Int), i]
/-- the list of what was found so far: the one table, or none -/
def Fnd (H : Hp) (p : Addr) (a b c d : Int) (yes : Prop) : Prop := (yes ∧ ∃ t, H p = some (.lst [.ref t]) ∧ TabAt H t a b c d) ∨ (¬ yes ∧ H p = some (.lst []))
theorem Fnd.same {H H' : Hp} {p : Addr} {a b c d : Int} {yes : Prop} (h : Fnd H p a b c d yes) (s : Same H H') : Fnd H' p a b c d yes := by
  rcases h with ⟨y, t, h1, h2⟩ | ⟨n, h1⟩
  · exact .inl ⟨y, t, s _ _ h1, h2.same s⟩
  · exact .inr ⟨n, s _ _ h1⟩
theorem Fnd.iff {H : Hp} {p : Addr} {a b c d : Int} {y z : Prop} (h : Fnd H p a b c d y) (e : y ↔ z) : Fnd H p a b c d z := by
  rcases h with ⟨y, t, h1, h2⟩ | ⟨n, h1⟩
  · exact .inl ⟨e.mp y, t, h1, h2⟩
  · exact .inr ⟨fun z => n (e.mpr z), h1⟩
theorem cand1_inj {i j : Nat} (h : cand1 i = cand1 j) : i = j := by
  have h := (List.cons.inj h).2
  have h1 := (List.cons.inj h).1
  have h := (List.cons.inj h).2
  have h2 := (List.cons.inj h).1
  have h := (List.cons.inj h).2
  have h3 := (List.cons.inj h).1
  omega
theorem TabAt.updl {H : Hp} {p t : Addr} {a b c d : Int} {xs : List V} {o : HO} (h : TabAt H t a b c d) (e : H p = some (.lst xs)) : TabAt (upd H p o) t a b c d := by
  obtain ⟨r1, r2, h1, h2, h3⟩ := h
  have n : ∀ {q : Addr} {ys : List V}, H q = some (.tup ys) → upd H p o q = some (.tup ys) := fun {q ys} hq => by
    rw [upd_ne fun z => ?_]
    · exact hq
    · rw [z, e] at hq
      cases hq
  exact ⟨r1, r2, n h1, n h2, n h3⟩
theorem Fnd.add {H : Hp} {p t : Addr} {a b c d : Int} {y z : Prop} (h : Fnd H p a b c d y) (ny : ¬ y) (ht : TabAt H t a b c d) (hz : z) : ∃ xs, H p = some (.lst xs) ∧ xs.length < 1000000 ∧ Fnd (upd H p (.lst (xs ++ [.ref t]))) p a b c d z := by
  rcases h with ⟨y, _⟩ | ⟨_, h1⟩
  · exact absurd y ny
  · exact ⟨[], h1, by decide, .inl ⟨hz, t, upd_same, ht.updl h1⟩⟩
theorem Fnd.lst {H : Hp} {p : Addr} {a b c d : Int} {y : Prop} (h : Fnd H p a b c d y) : ∃ xs, H p = some (.lst xs) := by
  rcases h with ⟨_, t, h1, _⟩ | ⟨_, h1⟩
  · exact ⟨_, h1⟩
  · exact ⟨_, h1⟩
theorem plain4_of {p b c d : Int} (hp : 1 < p) (hb : 0 ≤ b ∧ b < p) (hc : 0 ≤ c ∧ c < p) (hd : 0 ≤ d ∧ d < p) : Plain p [1, b, c, d] := ⟨fun n hn => by
  simp only [List.mem_cons, List.not_mem_nil, or_false] at hn
  rcases hn with rfl | rfl | rfl | rfl <;> first | assumption | omega, ⟨_, List.filter_cons_of_pos rfl⟩⟩
theorem plain4_of0 {p c d : Int} (hp : 1 < p) (hc : 0 ≤ c ∧ c < p) (hd : 0 ≤ d ∧ d < p) : Plain p [0, 1, c, d] := ⟨fun n hn => by
  simp only [List.mem_cons, List.not_mem_nil, or_false] at hn
  rcases hn with rfl | rfl | rfl | rfl <;> first | assumption | omega, ⟨c :: d :: [] |>.filter nz, rfl⟩⟩
theorem cand2_inj {i j i' j' : Nat} (h : cand2 i j = cand2 i' j') : i = i' ∧ j = j' := by
  have h := (List.cons.inj (List.cons.inj h).2).2
  have h1 := (List.cons.inj h).1
  have h := (List.cons.inj h).2
  have h2 := (List.cons.inj h).1
  omega
def sp_law_all_between : Sp := fun vs H Q _ => ∃ (l m : Addr) (x1 y1 x2 y2 x3 y3 u1 v1 u2 v2 u3 v3 : Int), vs = [.int 13, .ref l, .ref m] ∧ ThreeAt H l x1 y1 x2 y2 x3 y3 ∧ ThreeAt H m u1 v1 u2 v2 u3 v3 ∧ Three 13 x1 y1 x2 y2 x3 y3 ∧ Three 13 u1 v1 u2 v2 u3 v3 ∧
  ∀ H' r t a b c d, Same H H' → between 13 x1 y1 x2 y2 x3 y3 u1 v1 u2 v2 u3 v3 = [a, b, c, d] → H' r = some (.lst [.ref t]) → TabAt H' t a b c d → Q (.ref r) H'
theorem ok_law_all_between (T : Tx K mg) : FnOk P w K mg base CX0 5 T.f_law_all_between T.d_law_all_between p_law_all_between sp_law_all_between := by
  refine T.F_law_all_between.ok sc_law_all_between (fun vs H Q E h => ?_) (fun cdv A outer s H vs Q E hr h => ?_)
  · obtain ⟨l, m, x1, y1, x2, y2, x3, y3, u1, v1, u2, v2, u3, v3, rfl, _⟩ := h
    rfl
  · obtain ⟨l, m, x1, y1, x2, y2, x3, y3, u1, v1, u2, v2, u3, v3, rfl, hl, hm, hx, hu, k⟩ := h
    refine ⟨_, (pss_cons (ps_set (i := 3) sc_law_all_between.nd rfl (Or.inl rfl) (pe_lst pa_nil))
      (pss_cons (ps_for PassesOwn.never rfl (pi_range1 (by rfl) T.z_range (pa_cons (pe_op op_mulB (pe_op op_mulB (pv 0) (pv 0)) (pv 0)) pa_nil)) (pg_name (i := 4) sc_law_all_between.nd rfl (by first | exact .inl rfl | exact .inr rfl))
      (pss_cons (ps_set (i := 5) sc_law_all_between.nd rfl (Or.inl rfl) (pe_tup (pa_cons (pe_op op_fdivP (pe_op op_fdivP (pe_callTy cr_intI (by rfl) T.z_int (by decide +kernel) (pa_cons (pv 4) pa_nil)) (pv 0)) (pv 0)) (pa_cons (pe_op op_mod (pe_op op_fdivP (pe_callTy cr_intI (by rfl) T.z_int (by decide +kernel) (pa_cons (pv 4) pa_nil)) (pv 0)) (pv 0)) (pa_cons (pe_op op_mod (pe_callTy cr_intI (by rfl) T.z_int (by decide +kernel) (pa_cons (pv 4) pa_nil)) (pv 0)) pa_nil)))))
      (pss_cons (ps_set (i := 6) sc_law_all_between.nd rfl (Or.inl rfl) (pe_tup (pa_cons (pe_tup (pa_cons pe_int (pa_cons (pe_ix ix_TI (pv 5) pe_int (fun _ _ => rfl)) pa_nil))) (pa_cons (pe_tup (pa_cons (pe_ix ix_TI (pv 5) pe_int (fun _ _ => rfl)) (pa_cons (pe_ix ix_TI (pv 5) pe_int (fun _ _ => rfl)) pa_nil))) pa_nil))))
      (pss_one (ps_if (PW.pt (pw_and (pt_cmpR op_ne (pe_op op_mod (pe_callTy cr_intI (by rfl) T.z_int (by decide +kernel) (pa_cons (pe_call (ok_law_det T) (hr.mono (by decide)) (by rfl) T.m_law_det T.F_law_det.kp T.b_law_det .nil pass0 (pa_cons (pv 6) pa_nil)) pa_nil)) (pv 0)) pe_int (nomark _)) (pw_and1 (pt_val (pe_call (ok_law_leads_three T) (hr.mono (by decide)) (by rfl) T.m_law_leads_three T.F_law_leads_three.kp T.b_law_leads_three .nil pass0 (pa_cons (pv 6) (pa_cons (pv 0) (pa_cons (pv 1) (pa_cons (pv 2) pa_nil))))))))) (pss_one (ps_expr (pe_bm PySem.F.plainAttrs_list PySem.F.slot_list_append PySem.F.type_list_append mt_appV (pv 3) (pa_cons (pv 6) pa_nil)))) pss_nil)))))
      (pss_cons (ps_for PassesOwn.never rfl (pi_range1 (by rfl) T.z_range (pa_cons (pv 0) pa_nil)) (pg_name (i := 4) sc_law_all_between.nd rfl (by first | exact .inl rfl | exact .inr rfl))
      (pss_one (ps_for PassesOwn.never rfl (pi_range2 (by rfl) T.z_range (pa_cons pe_int (pa_cons (pv 0) pa_nil))) (pg_name (i := 7) sc_law_all_between.nd rfl (by first | exact .inl rfl | exact .inr rfl))
      (pss_cons (ps_set (i := 6) sc_law_all_between.nd rfl (Or.inl rfl) (pe_tup (pa_cons (pe_tup (pa_cons pe_int (pa_cons pe_int pa_nil))) (pa_cons (pe_tup (pa_cons (pv 7) (pa_cons (pv 4) pa_nil))) pa_nil))))
      (pss_one (ps_if (pt_val (pe_call (ok_law_leads_three T) (hr.mono (by decide)) (by rfl) T.m_law_leads_three T.F_law_leads_three.kp T.b_law_leads_three .nil pass0 (pa_cons (pv 6) (pa_cons (pv 0) (pa_cons (pv 1) (pa_cons (pv 2) pa_nil)))))) (pss_one (ps_expr (pe_bm PySem.F.plainAttrs_list PySem.F.slot_list_append PySem.F.type_list_append mt_appV (pv 3) (pa_cons (pv 6) pa_nil)))) pss_nil))))))
      (pss_one (ps_ret (pv 3)))))), ?_⟩
    rw [st_law_all_between]
    simp only [ap_seq, ap_next, ap_asg, ap_gName, ap_ret, ap_retN, ap_drop, ap_ifS, ap_break, ap_cont, ap_par, ap_aug, ap_ip, ap_gSub, ap_gTup, ap_gNil, ap_gCons, ap_var, ap_c, ap_op, ap_un, ap_if, ap_test, ap_B, ap_and, ap_or, ap_not, ap_andV, ap_orV, ap_notV, ap_nil, ap_cons, ap_tup, ap_lst, ap_cb, ap_bm, ap_call, ap_chain, ap_rI, ap_rI0, ap_rU, ap_rEq, ap_rNe, ap_revT, ap_sl, ap_part, ap_noPart, ap_ixLI, ap_ixTI, ap_ixLV, ap_ixTV, ap_len, ap_setLI, ap_setLV, ap_appI, ap_appV, ap_tupL, ap_listS, ap_sumLI, ap_sumTI, ap_repLI, ap_intI, ap_intB, ap_eqTI, ap_neTI, ap_eqLI, ap_neLI, ap_isi, ap_for, ap_rng1, ap_rng2, ap_iList, ap_iTup, ap_lc, ap_yes, ap_cut, ap_gTupH, ap_fmt, ap_jsn, ap_jsc, ap_gcd, ap_isqrt, ap_ixL, tyV_l, wipe_nil, wipe_cons, upd_same, ap_iEnT, ap_iEnL, ap_iZipA, ap_all, ap_tupT, ap_lenSetT, ap_slI, ap_catI, ap_perm, ap_lenO, ap_strO, ap_listO, ap_reprB, ap_iterT, ap_neT, ap_negO, ap_binI, ap_catL, ap_tM1, ap_repTI, ap_popN, ap_par3, ap_catTT, ap_countT, ap_notInT, ap_repL1, ap_shl, ap_shr, ap_mask, ap_comb, ap_bits, ap_rng3, List.set_cons_zero, List.set_cons_succ, List.getElem?_cons_zero, List.getElem?_cons_succ, List.cons_append, List.nil_append, List.append_nil, Option.some.injEq, V.int.injEq, V.ref.injEq, V.bl.injEq, V.str.injEq, V.ty.injEq, Bool.not_true, Bool.not_false, HO.lst.injEq, HO.tup.injEq, reduceCtorEq, Int.reduceToNat, Int.reduceLT, Int.reduceLE, Nat.reduceAdd, Int.cast_ofNat_Int, gi_c0, gi_c1, gi_c2, gi_c3, Int.natCast_inj, map_int_inj, map_nil_iff, List.cons.injEq, exists_eq_left, exists_eq_left', exists_eq, exists_eq', exists_and_left, exists_and_right, exists_const, and_assoc, and_true, true_and, and_false, false_and, or_false, false_or, or_true, true_or, ite_true, ite_false, if_true, if_false, Bool.false_eq_true, own_cons, own_nil, le1, le2, le3, le4, me_cons, me_nil, List.length_map, List.length_cons, List.length_nil, ne_eq, not_false_eq_true, not_true_eq_false, decide_eq_true_eq]
    obtain ⟨a, b, c, d, e5⟩ := (show ∃ a b c d, between 13 x1 y1 x2 y2 x3 y3 u1 v1 u2 v2 u3 v3 = [a, b, c, d] from plain4_eq _ _ _ _ _)
    have hp : (13 : Int) ∈ primes := by decide
    obtain ⟨pl, dt, q1, q2, q3⟩ := between_spec hp hx hu e5
    have w13 : Wd 13 := Sm.wd (by unfold Sm; omega)
    refine ⟨Nat.zero_le _, fun p np => ⟨⟨w13, w13⟩, ⟨Sm.wd (by unfold Sm; omega), w13⟩, by decide, by decide, ?_⟩⟩
    have s0 := same_upd (o := HO.lst []) np
    refine loop_range (fun i σ' H' => Same H H' ∧ Fnd H' p a b c d (∃ j, j < i ∧ cand1 j = [a, b, c, d]) ∧ ∃ y4 y5 y6 : Option V, σ' = [some (.int 13), some (.ref l), some (.ref m), some (.ref p), y4, y5, y6, none]) ⟨s0, .inr ⟨fun ⟨j, hj, _⟩ => absurd hj (Nat.not_lt_zero _), upd_same⟩, none, none, none, rfl⟩ (fun i σ' H' hi hP => ?_) (fun σ' H' hP => ?_)
    · obtain ⟨sm, fn, y4, y5, y6, e0⟩ := hP
      subst e0
      simp only [ap_seq, ap_next, ap_asg, ap_gName, ap_ret, ap_retN, ap_drop, ap_ifS, ap_break, ap_cont, ap_par, ap_aug, ap_ip, ap_gSub, ap_gTup, ap_gNil, ap_gCons, ap_var, ap_c, ap_op, ap_un, ap_if, ap_test, ap_B, ap_and, ap_or, ap_not, ap_andV, ap_orV, ap_notV, ap_nil, ap_cons, ap_tup, ap_lst, ap_cb, ap_bm, ap_call, ap_chain, ap_rI, ap_rI0, ap_rU, ap_rEq, ap_rNe, ap_revT, ap_sl, ap_part, ap_noPart, ap_ixLI, ap_ixTI, ap_ixLV, ap_ixTV, ap_len, ap_setLI, ap_setLV, ap_appI, ap_appV, ap_tupL, ap_listS, ap_sumLI, ap_sumTI, ap_repLI, ap_intI, ap_intB, ap_eqTI, ap_neTI, ap_eqLI, ap_neLI, ap_isi, ap_for, ap_rng1, ap_rng2, ap_iList, ap_iTup, ap_lc, ap_yes, ap_cut, ap_gTupH, ap_fmt, ap_jsn, ap_jsc, ap_gcd, ap_isqrt, ap_ixL, tyV_l, wipe_nil, wipe_cons, upd_same, ap_iEnT, ap_iEnL, ap_iZipA, ap_all, ap_tupT, ap_lenSetT, ap_slI, ap_catI, ap_perm, ap_lenO, ap_strO, ap_listO, ap_reprB, ap_iterT, ap_neT, ap_negO, ap_binI, ap_catL, ap_tM1, ap_repTI, ap_popN, ap_par3, ap_catTT, ap_countT, ap_notInT, ap_repL1, ap_shl, ap_shr, ap_mask, ap_comb, ap_bits, ap_rng3, List.set_cons_zero, List.set_cons_succ, List.getElem?_cons_zero, List.getElem?_cons_succ, List.cons_append, List.nil_append, List.append_nil, Option.some.injEq, V.int.injEq, V.ref.injEq, V.bl.injEq, V.str.injEq, V.ty.injEq, Bool.not_true, Bool.not_false, HO.lst.injEq, HO.tup.injEq, reduceCtorEq, Int.reduceToNat, Int.reduceLT, Int.reduceLE, Nat.reduceAdd, Int.cast_ofNat_Int, gi_c0, gi_c1, gi_c2, gi_c3, Int.natCast_inj, map_int_inj, map_nil_iff, List.cons.injEq, exists_eq_left, exists_eq_left', exists_eq, exists_eq', exists_and_left, exists_and_right, exists_const, and_assoc, and_true, true_and, and_false, false_and, or_false, false_or, or_true, true_or, ite_true, ite_false, if_true, if_false, Bool.false_eq_true, own_cons, own_nil, le1, le2, le3, le4, me_cons, me_nil, List.length_map, List.length_cons, List.length_nil, ne_eq, not_false_eq_true, not_true_eq_false, decide_eq_true_eq]
      have ei : (0 : Int) + (i : Nat) = (i : Nat) := by omega
      rw [ei]
      have hi2 : i < 2197 := hi
      generalize en1 : (i : Int) / 13 / 13 = n1
      generalize en2 : (i : Int) / 13 % 13 = n2
      generalize en3 : (i : Int) % 13 = n3
      have cn : cand1 i = [1, n1, n2, n3] := by
        unfold cand1
        rw [en1, en2, en3]
      have b1 : 0 ≤ n1 ∧ n1 < 13 := by omega
      have b2 : 0 ≤ n2 ∧ n2 < 13 := by omega
      have b3 : 0 ≤ n3 ∧ n3 < 13 := by omega
      have cd : CDp (i : Int) 13 := ⟨by decide, by decide +kernel⟩
      refine ⟨cd, ⟨by decide, by decide +kernel⟩, cd, by decide, fun z1 nz1 => ⟨by decide, fun z2 nz2 => ?_⟩⟩
      have g1 := same_upd (o := HO.tup [V.int n1, V.int n2, V.int n3]) nz1
      have g2 := same_upd (o := HO.tup [V.int 1, V.int n1]) nz2
      have ez1 := g2 _ _ (upd_same (o := TI [n1, n2, n3]) (H := H') (a := z1))
      refine ⟨_, ez1, by show (1 : Int) < 3; decide, _, ez1, by show (2 : Int) < 3; decide, by decide, fun z3 nz3 => ⟨by decide, fun z4 nz4 => ?_⟩⟩
      have nz3' := nz3
      have g3 := same_upd (o := HO.tup [V.int n2, V.int n3]) nz3
      have g4 := same_upd (o := HO.tup [V.ref z2, V.ref z3]) nz4
      have G := g1.trans (g2.trans (g3.trans g4))
      have tz : TabAt _ z4 1 n1 n2 n3 := ⟨z2, z3, upd_same, g4 _ _ (g3 _ _ upd_same), g4 _ _ upd_same⟩
      have sm2 := sm.trans G
      have fn2 := fn.same G
      have w : ∀ {n : Int}, 0 ≤ n ∧ n < 13 → Tn n := fun {n} h => by unfold Tn; omega
      have TZ : T4 1 n1 n2 n3 := ⟨w ⟨by decide, by decide⟩, w b1, w b2, w b3⟩
      have step : cand1 i ≠ [a, b, c, d] → ((∃ j, j < i ∧ cand1 j = [a, b, c, d]) ↔ ∃ j, j < i + 1 ∧ cand1 j = [a, b, c, d]) := fun hne => ⟨fun ⟨j, h1, h2⟩ => ⟨j, by omega, h2⟩, fun ⟨j, h1, h2⟩ => ⟨j, Nat.lt_of_le_of_ne (by omega) (fun e => hne (e ▸ h2)), h2⟩⟩
      refine ⟨z4, 1, n1, n2, n3, rfl, tz, TZ.a.sm, TZ.b.sm, TZ.c.sm, TZ.d.sm, _, rfl, rfl, iteC (fun c1 => ?_) (fun c1 => ?_)⟩
      · have dn : ¬ (13 : Int) ∣ 1 * n3 - n1 * n2 := nd_mod.mp (by simpa using c1)
        refine ⟨z4, l, m, 13, 1, n1, n2, n3, x1, y1, x2, y2, x3, y3, u1, v1, u2, v2, u3, v3, rfl, hp, tz, TZ, hl.same sm2, hm.same sm2, hx, fun H5 g5 => ⟨_, rfl, iteC (fun c2 => ?_) (fun c2 => ?_)⟩⟩
        · obtain ⟨a1, a2, a3⟩ := of_decide_eq_true c2
          have e : [1, n1, n2, n3] = [a, b, c, d] := led_uniq hp hx (plain4_of (by decide) b1 b2 b3) pl dn dt a1 a2 a3 q1 q2 q3
          have f5 := fn2.same g5
          obtain ⟨xs0, el0⟩ := f5.lst
          have tz5 : TabAt H5 z4 a b c d := by
            cases e
            exact tz.same g5
          obtain ⟨xs, ex, hxl, f6⟩ := f5.add (z := ∃ j, j < i + 1 ∧ cand1 j = [a, b, c, d]) (fun ⟨j, h1, h2⟩ => by
            have := cand1_inj (h2.trans (e.symm.trans cn.symm))
            omega) tz5 ⟨i, by omega, cn.trans e⟩
          exact ⟨.inl ⟨rfl, _, sqL_of ex⟩, xs, ex, hxl, same_mut (sm2.trans g5) np, f6⟩
        · refine ⟨sm2.trans g5, (fn2.same g5).iff (step fun e => c2 ?_)⟩
          rw [cn] at e
          cases e
          exact decide_eq_true ⟨q1, q2, q3⟩
      · refine ⟨sm2, fn2.iff (step fun e => ?_)⟩
        rw [cn] at e
        cases e
        have : (1 * d - b * c) % 13 = 0 := by simpa using c1
        exact dt (Int.dvd_of_emod_eq_zero this)
    · obtain ⟨sm, fn, y4, y5, y6, e0⟩ := hP
      subst e0
      simp only [ap_seq, ap_next, ap_asg, ap_gName, ap_ret, ap_retN, ap_drop, ap_ifS, ap_break, ap_cont, ap_par, ap_aug, ap_ip, ap_gSub, ap_gTup, ap_gNil, ap_gCons, ap_var, ap_c, ap_op, ap_un, ap_if, ap_test, ap_B, ap_and, ap_or, ap_not, ap_andV, ap_orV, ap_notV, ap_nil, ap_cons, ap_tup, ap_lst, ap_cb, ap_bm, ap_call, ap_chain, ap_rI, ap_rI0, ap_rU, ap_rEq, ap_rNe, ap_revT, ap_sl, ap_part, ap_noPart, ap_ixLI, ap_ixTI, ap_ixLV, ap_ixTV, ap_len, ap_setLI, ap_setLV, ap_appI, ap_appV, ap_tupL, ap_listS, ap_sumLI, ap_sumTI, ap_repLI, ap_intI, ap_intB, ap_eqTI, ap_neTI, ap_eqLI, ap_neLI, ap_isi, ap_for, ap_rng1, ap_rng2, ap_iList, ap_iTup, ap_lc, ap_yes, ap_cut, ap_gTupH, ap_fmt, ap_jsn, ap_jsc, ap_gcd, ap_isqrt, ap_ixL, tyV_l, wipe_nil, wipe_cons, upd_same, ap_iEnT, ap_iEnL, ap_iZipA, ap_all, ap_tupT, ap_lenSetT, ap_slI, ap_catI, ap_perm, ap_lenO, ap_strO, ap_listO, ap_reprB, ap_iterT, ap_neT, ap_negO, ap_binI, ap_catL, ap_tM1, ap_repTI, ap_popN, ap_par3, ap_catTT, ap_countT, ap_notInT, ap_repL1, ap_shl, ap_shr, ap_mask, ap_comb, ap_bits, ap_rng3, List.set_cons_zero, List.set_cons_succ, List.getElem?_cons_zero, List.getElem?_cons_succ, List.cons_append, List.nil_append, List.append_nil, Option.some.injEq, V.int.injEq, V.ref.injEq, V.bl.injEq, V.str.injEq, V.ty.injEq, Bool.not_true, Bool.not_false, HO.lst.injEq, HO.tup.injEq, reduceCtorEq, Int.reduceToNat, Int.reduceLT, Int.reduceLE, Nat.reduceAdd, Int.cast_ofNat_Int, gi_c0, gi_c1, gi_c2, gi_c3, Int.natCast_inj, map_int_inj, map_nil_iff, List.cons.injEq, exists_eq_left, exists_eq_left', exists_eq, exists_eq', exists_and_left, exists_and_right, exists_const, and_assoc, and_true, true_and, and_false, false_and, or_false, false_or, or_true, true_or, ite_true, ite_false, if_true, if_false, Bool.false_eq_true, own_cons, own_nil, le1, le2, le3, le4, me_cons, me_nil, List.length_map, List.length_cons, List.length_nil, ne_eq, not_false_eq_true, not_true_eq_false, decide_eq_true_eq]
      have hY : ∀ {i j : Nat}, cand2 i j = [a, b, c, d] → ¬ ∃ j, j < (13 * 13 * 13 : Int).toNat ∧ cand1 j = [a, b, c, d] := fun {i j} h ⟨k, _, h2⟩ => by
        have e1 := (List.cons.inj h).1
        have e2 := (List.cons.inj h2).1
        omega
      generalize hyes : (∃ j, j < (13 * 13 * 13 : Int).toNat ∧ cand1 j = [a, b, c, d]) = Y at fn hY
      refine ⟨by decide, by decide, loop_range (fun i σ' H' => Same H H' ∧ Fnd H' p a b c d (Y ∨ ∃ i' j', i' < i ∧ j' < 12 ∧ cand2 i' j' = [a, b, c, d]) ∧ ∃ y4 y5 y6 y7 : Option V, σ' = [some (.int 13), some (.ref l), some (.ref m), some (.ref p), y4, y5, y6, y7]) ⟨sm, fn.iff ⟨.inl, fun h => h.resolve_right fun ⟨i', _, h1, _⟩ => absurd h1 (Nat.not_lt_zero _)⟩, y4, y5, y6, none, rfl⟩ (fun i σ' H' hi hP => ?_) (fun σ' H' hP => ?_)⟩
      · obtain ⟨sm, fn, y4, y5, y6, y7, e0⟩ := hP
        subst e0
        have hi13 : i < 13 := hi
        simp only [ap_seq, ap_next, ap_asg, ap_gName, ap_ret, ap_retN, ap_drop, ap_ifS, ap_break, ap_cont, ap_par, ap_aug, ap_ip, ap_gSub, ap_gTup, ap_gNil, ap_gCons, ap_var, ap_c, ap_op, ap_un, ap_if, ap_test, ap_B, ap_and, ap_or, ap_not, ap_andV, ap_orV, ap_notV, ap_nil, ap_cons, ap_tup, ap_lst, ap_cb, ap_bm, ap_call, ap_chain, ap_rI, ap_rI0, ap_rU, ap_rEq, ap_rNe, ap_revT, ap_sl, ap_part, ap_noPart, ap_ixLI, ap_ixTI, ap_ixLV, ap_ixTV, ap_len, ap_setLI, ap_setLV, ap_appI, ap_appV, ap_tupL, ap_listS, ap_sumLI, ap_sumTI, ap_repLI, ap_intI, ap_intB, ap_eqTI, ap_neTI, ap_eqLI, ap_neLI, ap_isi, ap_for, ap_rng1, ap_rng2, ap_iList, ap_iTup, ap_lc, ap_yes, ap_cut, ap_gTupH, ap_fmt, ap_jsn, ap_jsc, ap_gcd, ap_isqrt, ap_ixL, tyV_l, wipe_nil, wipe_cons, upd_same, ap_iEnT, ap_iEnL, ap_iZipA, ap_all, ap_tupT, ap_lenSetT, ap_slI, ap_catI, ap_perm, ap_lenO, ap_strO, ap_listO, ap_reprB, ap_iterT, ap_neT, ap_negO, ap_binI, ap_catL, ap_tM1, ap_repTI, ap_popN, ap_par3, ap_catTT, ap_countT, ap_notInT, ap_repL1, ap_shl, ap_shr, ap_mask, ap_comb, ap_bits, ap_rng3, List.set_cons_zero, List.set_cons_succ, List.getElem?_cons_zero, List.getElem?_cons_succ, List.cons_append, List.nil_append, List.append_nil, Option.some.injEq, V.int.injEq, V.ref.injEq, V.bl.injEq, V.str.injEq, V.ty.injEq, Bool.not_true, Bool.not_false, HO.lst.injEq, HO.tup.injEq, reduceCtorEq, Int.reduceToNat, Int.reduceLT, Int.reduceLE, Nat.reduceAdd, Int.cast_ofNat_Int, gi_c0, gi_c1, gi_c2, gi_c3, Int.natCast_inj, map_int_inj, map_nil_iff, List.cons.injEq, exists_eq_left, exists_eq_left', exists_eq, exists_eq', exists_and_left, exists_and_right, exists_const, and_assoc, and_true, true_and, and_false, false_and, or_false, false_or, or_true, true_or, ite_true, ite_false, if_true, if_false, Bool.false_eq_true, own_cons, own_nil, le1, le2, le3, le4, me_cons, me_nil, List.length_map, List.length_cons, List.length_nil, ne_eq, not_false_eq_true, not_true_eq_false, decide_eq_true_eq]
        refine ⟨by decide, by decide, by decide, by decide, loop_range (fun j σ' H' => Same H H' ∧ Fnd H' p a b c d (Y ∨ ∃ i' j', (i' < i ∨ i' = i ∧ j' < j) ∧ j' < 12 ∧ cand2 i' j' = [a, b, c, d]) ∧ ∃ y6 y7 : Option V, σ' = [some (.int 13), some (.ref l), some (.ref m), some (.ref p), some (.int (0 + (i : Nat))), y5, y6, y7]) ⟨sm, fn.iff ⟨fun h => h.imp id fun ⟨i', j', h1, h2, h3⟩ => ⟨i', j', .inl h1, h2, h3⟩, fun h => h.imp id fun ⟨i', j', h1, h2, h3⟩ => ⟨i', j', h1.resolve_right fun h => absurd h.2 (Nat.not_lt_zero _), h2, h3⟩⟩, y6, y7, rfl⟩ (fun j σ' H' hj hP => ?_) (fun σ' H' hP => ?_)⟩
        · obtain ⟨sm, fn, y6, y7, e0⟩ := hP
          subst e0
          have hj12 : j < 12 := hj
          simp only [ap_seq, ap_next, ap_asg, ap_gName, ap_ret, ap_retN, ap_drop, ap_ifS, ap_break, ap_cont, ap_par, ap_aug, ap_ip, ap_gSub, ap_gTup, ap_gNil, ap_gCons, ap_var, ap_c, ap_op, ap_un, ap_if, ap_test, ap_B, ap_and, ap_or, ap_not, ap_andV, ap_orV, ap_notV, ap_nil, ap_cons, ap_tup, ap_lst, ap_cb, ap_bm, ap_call, ap_chain, ap_rI, ap_rI0, ap_rU, ap_rEq, ap_rNe, ap_revT, ap_sl, ap_part, ap_noPart, ap_ixLI, ap_ixTI, ap_ixLV, ap_ixTV, ap_len, ap_setLI, ap_setLV, ap_appI, ap_appV, ap_tupL, ap_listS, ap_sumLI, ap_sumTI, ap_repLI, ap_intI, ap_intB, ap_eqTI, ap_neTI, ap_eqLI, ap_neLI, ap_isi, ap_for, ap_rng1, ap_rng2, ap_iList, ap_iTup, ap_lc, ap_yes, ap_cut, ap_gTupH, ap_fmt, ap_jsn, ap_jsc, ap_gcd, ap_isqrt, ap_ixL, tyV_l, wipe_nil, wipe_cons, upd_same, ap_iEnT, ap_iEnL, ap_iZipA, ap_all, ap_tupT, ap_lenSetT, ap_slI, ap_catI, ap_perm, ap_lenO, ap_strO, ap_listO, ap_reprB, ap_iterT, ap_neT, ap_negO, ap_binI, ap_catL, ap_tM1, ap_repTI, ap_popN, ap_par3, ap_catTT, ap_countT, ap_notInT, ap_repL1, ap_shl, ap_shr, ap_mask, ap_comb, ap_bits, ap_rng3, List.set_cons_zero, List.set_cons_succ, List.getElem?_cons_zero, List.getElem?_cons_succ, List.cons_append, List.nil_append, List.append_nil, Option.some.injEq, V.int.injEq, V.ref.injEq, V.bl.injEq, V.str.injEq, V.ty.injEq, Bool.not_true, Bool.not_false, HO.lst.injEq, HO.tup.injEq, reduceCtorEq, Int.reduceToNat, Int.reduceLT, Int.reduceLE, Nat.reduceAdd, Int.cast_ofNat_Int, gi_c0, gi_c1, gi_c2, gi_c3, Int.natCast_inj, map_int_inj, map_nil_iff, List.cons.injEq, exists_eq_left, exists_eq_left', exists_eq, exists_eq', exists_and_left, exists_and_right, exists_const, and_assoc, and_true, true_and, and_false, false_and, or_false, false_or, or_true, true_or, ite_true, ite_false, if_true, if_false, Bool.false_eq_true, own_cons, own_nil, le1, le2, le3, le4, me_cons, me_nil, List.length_map, List.length_cons, List.length_nil, ne_eq, not_false_eq_true, not_true_eq_false, decide_eq_true_eq]
          have ei : (0 : Int) + (i : Nat) = (i : Nat) := by omega
          rw [ei]
          refine ⟨by decide, fun z1 nz1 => ⟨by decide, fun z2 nz2 => ⟨by decide, fun z3 nz3 => ?_⟩⟩⟩
          have g1 := same_upd (o := HO.tup [V.int 0, V.int 1]) nz1
          have g2 := same_upd (o := HO.tup [V.int (1 + (j : Nat)), V.int (i : Nat)]) nz2
          have g3 := same_upd (o := HO.tup [V.ref z1, V.ref z2]) nz3
          have G := g1.trans (g2.trans g3)
          have tz : TabAt _ z3 0 1 (1 + (j : Nat)) (i : Nat) := ⟨z1, z2, upd_same, g3 _ _ (g2 _ _ upd_same), g3 _ _ upd_same⟩
          have sm2 := sm.trans G
          have fn2 := fn.same G
          have w : ∀ {n : Int}, 0 ≤ n ∧ n < 13 → Tn n := fun {n} h => by unfold Tn; omega
          have b2 : 0 ≤ 1 + (j : Int) ∧ 1 + (j : Int) < 13 := by omega
          have b3 : 0 ≤ (i : Int) ∧ (i : Int) < 13 := by omega
          have TZ : T4 0 1 (1 + (j : Nat)) (i : Nat) := ⟨w ⟨by decide, by decide⟩, w ⟨by decide, by decide⟩, w b2, w b3⟩
          have dn : ¬ (13 : Int) ∣ 0 * (i : Nat) - 1 * (1 + (j : Nat)) := fun h => by
            obtain ⟨q, hq⟩ := h
            omega
          have step : cand2 i j ≠ [a, b, c, d] → ((Y ∨ ∃ i' j', (i' < i ∨ i' = i ∧ j' < j) ∧ j' < 12 ∧ cand2 i' j' = [a, b, c, d]) ↔ (Y ∨ ∃ i' j', (i' < i ∨ i' = i ∧ j' < j + 1) ∧ j' < 12 ∧ cand2 i' j' = [a, b, c, d])) := fun hne =>
            ⟨fun h => h.imp id fun ⟨i', j', h1, h2, h3⟩ => ⟨i', j', h1.imp id fun h => ⟨h.1, by omega⟩, h2, h3⟩, fun h => h.imp id fun ⟨i', j', h1, h2, h3⟩ => ⟨i', j', h1.imp id fun h => ⟨h.1, Nat.lt_of_le_of_ne (by omega) fun e => hne (by rw [← h.1, ← e]; exact h3)⟩, h2, h3⟩⟩
          refine ⟨z3, l, m, 13, 0, 1, _, _, x1, y1, x2, y2, x3, y3, u1, v1, u2, v2, u3, v3, rfl, hp, tz, TZ, hl.same sm2, hm.same sm2, hx, fun H5 g5 => ⟨_, rfl, iteC (fun c2 => ?_) (fun c2 => ?_)⟩⟩
          · obtain ⟨a1, a2, a3⟩ := of_decide_eq_true c2
            have e : cand2 i j = [a, b, c, d] := led_uniq hp hx (plain4_of0 (by decide) b2 b3) pl dn dt a1 a2 a3 q1 q2 q3
            have f5 := fn2.same g5
            have tz5 : TabAt H5 z3 a b c d := by
              have tz6 := tz.same g5
              have e := e
              unfold cand2 at e
              cases e
              exact tz6
            obtain ⟨xs, ex, hxl, f6⟩ := f5.add (z := Y ∨ ∃ i' j', (i' < i ∨ i' = i ∧ j' < j + 1) ∧ j' < 12 ∧ cand2 i' j' = [a, b, c, d]) (fun h => h.elim (hY e) fun ⟨i', j', h1, h2, h3⟩ => by
              obtain ⟨e1, e2⟩ := cand2_inj (h3.trans e.symm)
              omega) tz5 (.inr ⟨i, j, .inr ⟨rfl, by omega⟩, hj12, e⟩)
            exact ⟨.inl ⟨rfl, _, sqL_of ex⟩, xs, ex, hxl, same_mut (sm2.trans g5) np, f6⟩
          · refine ⟨sm2.trans g5, (fn2.same g5).iff (step fun e => c2 ?_)⟩
            unfold cand2 at e
            cases e
            exact decide_eq_true ⟨q1, q2, q3⟩
        · obtain ⟨sm, fn, y6, y7, e0⟩ := hP
          subst e0
          simp only [ap_seq, ap_next, ap_asg, ap_gName, ap_ret, ap_retN, ap_drop, ap_ifS, ap_break, ap_cont, ap_par, ap_aug, ap_ip, ap_gSub, ap_gTup, ap_gNil, ap_gCons, ap_var, ap_c, ap_op, ap_un, ap_if, ap_test, ap_B, ap_and, ap_or, ap_not, ap_andV, ap_orV, ap_notV, ap_nil, ap_cons, ap_tup, ap_lst, ap_cb, ap_bm, ap_call, ap_chain, ap_rI, ap_rI0, ap_rU, ap_rEq, ap_rNe, ap_revT, ap_sl, ap_part, ap_noPart, ap_ixLI, ap_ixTI, ap_ixLV, ap_ixTV, ap_len, ap_setLI, ap_setLV, ap_appI, ap_appV, ap_tupL, ap_listS, ap_sumLI, ap_sumTI, ap_repLI, ap_intI, ap_intB, ap_eqTI, ap_neTI, ap_eqLI, ap_neLI, ap_isi, ap_for, ap_rng1, ap_rng2, ap_iList, ap_iTup, ap_lc, ap_yes, ap_cut, ap_gTupH, ap_fmt, ap_jsn, ap_jsc, ap_gcd, ap_isqrt, ap_ixL, tyV_l, wipe_nil, wipe_cons, upd_same, ap_iEnT, ap_iEnL, ap_iZipA, ap_all, ap_tupT, ap_lenSetT, ap_slI, ap_catI, ap_perm, ap_lenO, ap_strO, ap_listO, ap_reprB, ap_iterT, ap_neT, ap_negO, ap_binI, ap_catL, ap_tM1, ap_repTI, ap_popN, ap_par3, ap_catTT, ap_countT, ap_notInT, ap_repL1, ap_shl, ap_shr, ap_mask, ap_comb, ap_bits, ap_rng3, List.set_cons_zero, List.set_cons_succ, List.getElem?_cons_zero, List.getElem?_cons_succ, List.cons_append, List.nil_append, List.append_nil, Option.some.injEq, V.int.injEq, V.ref.injEq, V.bl.injEq, V.str.injEq, V.ty.injEq, Bool.not_true, Bool.not_false, HO.lst.injEq, HO.tup.injEq, reduceCtorEq, Int.reduceToNat, Int.reduceLT, Int.reduceLE, Nat.reduceAdd, Int.cast_ofNat_Int, gi_c0, gi_c1, gi_c2, gi_c3, Int.natCast_inj, map_int_inj, map_nil_iff, List.cons.injEq, exists_eq_left, exists_eq_left', exists_eq, exists_eq', exists_and_left, exists_and_right, exists_const, and_assoc, and_true, true_and, and_false, false_and, or_false, false_or, or_true, true_or, ite_true, ite_false, if_true, if_false, Bool.false_eq_true, own_cons, own_nil, le1, le2, le3, le4, me_cons, me_nil, List.length_map, List.length_cons, List.length_nil, ne_eq, not_false_eq_true, not_true_eq_false, decide_eq_true_eq]
          refine ⟨sm, fn.iff ⟨fun h => h.imp id fun ⟨i', j', h1, h2, h3⟩ => ⟨i', by omega, j', h2, h3⟩, fun h => h.imp id fun ⟨i', h1, j', h2, h3⟩ => ⟨i', j', ?_, h2, h3⟩⟩⟩
          have h2' : j' < (13 - 1 : Int).toNat := h2
          omega
      · obtain ⟨sm, fn, y4, y5, y6, y7, e0⟩ := hP
        subst e0
        simp only [ap_seq, ap_next, ap_asg, ap_gName, ap_ret, ap_retN, ap_drop, ap_ifS, ap_break, ap_cont, ap_par, ap_aug, ap_ip, ap_gSub, ap_gTup, ap_gNil, ap_gCons, ap_var, ap_c, ap_op, ap_un, ap_if, ap_test, ap_B, ap_and, ap_or, ap_not, ap_andV, ap_orV, ap_notV, ap_nil, ap_cons, ap_tup, ap_lst, ap_cb, ap_bm, ap_call, ap_chain, ap_rI, ap_rI0, ap_rU, ap_rEq, ap_rNe, ap_revT, ap_sl, ap_part, ap_noPart, ap_ixLI, ap_ixTI, ap_ixLV, ap_ixTV, ap_len, ap_setLI, ap_setLV, ap_appI, ap_appV, ap_tupL, ap_listS, ap_sumLI, ap_sumTI, ap_repLI, ap_intI, ap_intB, ap_eqTI, ap_neTI, ap_eqLI, ap_neLI, ap_isi, ap_for, ap_rng1, ap_rng2, ap_iList, ap_iTup, ap_lc, ap_yes, ap_cut, ap_gTupH, ap_fmt, ap_jsn, ap_jsc, ap_gcd, ap_isqrt, ap_ixL, tyV_l, wipe_nil, wipe_cons, upd_same, ap_iEnT, ap_iEnL, ap_iZipA, ap_all, ap_tupT, ap_lenSetT, ap_slI, ap_catI, ap_perm, ap_lenO, ap_strO, ap_listO, ap_reprB, ap_iterT, ap_neT, ap_negO, ap_binI, ap_catL, ap_tM1, ap_repTI, ap_popN, ap_par3, ap_catTT, ap_countT, ap_notInT, ap_repL1, ap_shl, ap_shr, ap_mask, ap_comb, ap_bits, ap_rng3, List.set_cons_zero, List.set_cons_succ, List.getElem?_cons_zero, List.getElem?_cons_succ, List.cons_append, List.nil_append, List.append_nil, Option.some.injEq, V.int.injEq, V.ref.injEq, V.bl.injEq, V.str.injEq, V.ty.injEq, Bool.not_true, Bool.not_false, HO.lst.injEq, HO.tup.injEq, reduceCtorEq, Int.reduceToNat, Int.reduceLT, Int.reduceLE, Nat.reduceAdd, Int.cast_ofNat_Int, gi_c0, gi_c1, gi_c2, gi_c3, Int.natCast_inj, map_int_inj, map_nil_iff, List.cons.injEq, exists_eq_left, exists_eq_left', exists_eq, exists_eq', exists_and_left, exists_and_right, exists_const, and_assoc, and_true, true_and, and_false, false_and, or_false, false_or, or_true, true_or, ite_true, ite_false, if_true, if_false, Bool.false_eq_true, own_cons, own_nil, le1, le2, le3, le4, me_cons, me_nil, List.length_map, List.length_cons, List.length_nil, ne_eq, not_false_eq_true, not_true_eq_false, decide_eq_true_eq]
        rcases fn with ⟨_, t, h1, h2⟩ | ⟨nz, _⟩
        · exact k H' p t a b c d sm e5 h1 h2
        · refine absurd ?_ nz
          have ba := pl.bd a (by simp)
          have bb := pl.bd b (by simp)
          have bc := pl.bd c (by simp)
          have bd := pl.bd d (by simp)
          rcases pl.tab (fun h => dt (by rw [h]; exact Int.dvd_zero _)) with rfl | ⟨rfl, rfl⟩
          · left
            rw [← hyes]
            refine ⟨(169 * b + 13 * c + d).toNat, by show _ < 2197; omega, ?_⟩
            unfold cand1
            have e1 : (((169 * b + 13 * c + d).toNat : Nat) : Int) = 169 * b + 13 * c + d := by omega
            rw [e1]
            have e2 : (169 * b + 13 * c + d) / 13 / 13 = b := by omega
            have e3 : (169 * b + 13 * c + d) / 13 % 13 = c := by omega
            have e4 : (169 * b + 13 * c + d) % 13 = d := by omega
            rw [e2, e3, e4]
          · right
            have c0 : c ≠ 0 := fun h => dt (by subst h; exact ⟨0, by omega⟩)
            refine ⟨d.toNat, (c - 1).toNat, by show _ < 13; omega, by omega, ?_⟩
            unfold cand2
            have e1 : 1 + (((c - 1).toNat : Nat) : Int) = c := by omega
            have e2 : ((d.toNat : Nat) : Int) = d := by omega
            rw [e1, e2]
end
end My

namespace My
open PySem PySem.Spec PyProof.Rows L2 Pr
section
variable {P : Program} {w : World} {K : PySem.W.Frag} {mg : Str → Option Value} {base : Heap}
def sp_law (K : PySem.W.Frag) : Sp := fun vs H Q _ => ∃ (a : Addr) (ns : List Int), vs = [.ref a] ∧ SqL K H a (ns.map V.int) ∧ ns.length ≤ 63 ∧ ∀ H', Q (.bl true) H'
theorem ok_law (T : Tx K mg) : FnOk P w K mg base CX0 9 T.f_law T.d_law p_law (sp_law K) := by
  refine T.F_law.ok sc_law (fun vs H Q E h => ?_) (fun cdv A outer s H vs Q E hr h => ?_)
  · obtain ⟨a, ns, rfl, _⟩ := h
    rfl
  · obtain ⟨a, ns, rfl, hS, hl, q⟩ := h
    refine ⟨_, (pss_cons (ps_for PassesOwn.never rfl (pi_range1 (by rfl) T.z_range (pa_cons (pe_callB (call_max2 rfl) (by rfl) T.z_max (by decide +kernel) (pa_cons pe_int (pa_cons (pe_callB (call_min2 rfl) (by rfl) T.z_min (by decide +kernel) (pa_cons pe_int (pa_cons (pe_callB call_len_seq (by rfl) T.z_len PySem.boot_len (pa_cons (pv 0) pa_nil)) pa_nil))) pa_nil))) pa_nil)) (pg_name (i := 1) sc_law.nd rfl (by first | exact .inl rfl | exact .inr rfl))
      (pss_one (ps_if (pt_not (pt_val (pe_call (ok_law_right T) (hr.mono (by decide)) (by rfl) T.m_law_right T.F_law_right.kp T.b_law_right .nil pass0 (pa_cons (pe_call (ok_law_dice T) (hr.mono (by decide)) (by rfl) T.m_law_dice T.F_law_dice.kp T.b_law_dice .nil pass0 (pa_cons (pv 0) (pa_cons (pv 1) pa_nil))) pa_nil)))) (pss_one (ps_ret pe_bl)) pss_nil)))
      (pss_cons (ps_set (i := 2) sc_law.nd rfl (Or.inl rfl) (pe_call (ok_law_dice T) (hr.mono (by decide)) (by rfl) T.m_law_dice T.F_law_dice.kp T.b_law_dice .nil pass0 (pa_cons (pv 0) (pa_cons pe_int pa_nil))))
      (pss_cons (ps_par (i := 3) (j := 4) (by rfl) sc_law.nd rfl rfl (by decide) rfl rfl (pa_cons (pe_call (ok_law_three T) (hr.mono (by decide)) (by rfl) T.m_law_three T.F_law_three.kp T.b_law_three .nil pass0 (pa_cons (pv 2) (pa_cons pe_int pa_nil))) (pa_cons (pe_call (ok_law_three T) (hr.mono (by decide)) (by rfl) T.m_law_three T.F_law_three.kp T.b_law_three .nil pass0 (pa_cons (pv 2) (pa_cons pe_int pa_nil))) pa_nil)) (by rfl))
      (pss_cons (ps_if (pt_cmpR (op_neD hr.units) (pe_call (ok_law_all_between T) (hr.mono (by decide)) (by rfl) T.m_law_all_between T.F_law_all_between.kp T.b_law_all_between .nil pass0 (pa_cons pe_int (pa_cons (pv 3) (pa_cons (pv 4) pa_nil)))) (pe_lst (pa_cons (pe_call (ok_table_by_three T) (hr.mono (by decide)) (by rfl) T.m_table_by_three T.F_table_by_three.kp T.b_table_by_three .nil pass0 (pa_cons pe_int (pa_cons (pv 3) (pa_cons (pv 4) pa_nil)))) pa_nil)) (nomark _)) (pss_one (ps_ret pe_bl)) pss_nil)
      (pss_cons (ps_set (i := 5) sc_law.nd rfl (Or.inl rfl) (pe_lst (pa_cons (pe_callB cr_len (by rfl) T.z_len PySem.boot_len (pa_cons (pe_call (ok_all_points T) (hr.mono (by decide)) (by rfl) T.m_all_points T.F_all_points.kp T.b_all_points .nil pass0 (pa_cons pe_int pa_nil)) pa_nil)) (pa_cons (pe_slice sl_tup (pe_call (ok_all_points T) (hr.mono (by decide)) (by rfl) T.m_all_points T.F_all_points.kp T.b_all_points .nil pass0 (pa_cons pe_int pa_nil)) po_none (po_some pe_int)) (pa_cons (pe_call (ok_table_by_three T) (hr.mono (by decide)) (by rfl) T.m_table_by_three T.F_table_by_three.kp T.b_table_by_three .nil pass0 (pa_cons pe_int (pa_cons (pe_tup (pa_cons (pe_tup (pa_cons pe_int (pa_cons pe_int pa_nil))) (pa_cons (pe_tup (pa_cons pe_int (pa_cons pe_int pa_nil))) (pa_cons (pe_tup (pa_cons pe_int (pa_cons pe_int pa_nil))) pa_nil)))) (pa_cons (pe_tup (pa_cons (pe_tup (pa_cons pe_int (pa_cons pe_int pa_nil))) (pa_cons (pe_tup (pa_cons pe_int (pa_cons pe_int pa_nil))) (pa_cons (pe_tup (pa_cons pe_int (pa_cons pe_int pa_nil))) pa_nil)))) pa_nil)))) pa_nil)))))
      (pss_cons (ps_if (pt_cmpR (op_neD hr.units) (pv 5) (pe_lst (pa_cons pe_int (pa_cons (pe_tup (pa_cons (pe_tup (pa_cons pe_int (pa_cons pe_int pa_nil))) (pa_cons (pe_tup (pa_cons pe_int (pa_cons pe_int pa_nil))) (pa_cons (pe_tup (pa_cons pe_int (pa_cons pe_int pa_nil))) pa_nil)))) (pa_cons (pe_tup (pa_cons (pe_tup (pa_cons pe_int (pa_cons pe_int pa_nil))) (pa_cons (pe_tup (pa_cons pe_int (pa_cons pe_int pa_nil))) pa_nil))) pa_nil)))) (nomark _)) (pss_one (ps_ret pe_bl)) pss_nil)
      (pss_one (ps_ret (pe_and (pe_cmpR (op_eqTI hr.units) (pe_call (ok_led_point T) (hr.mono (by decide)) (by rfl) T.m_led_point T.F_led_point.kp T.b_led_point .nil pass0 (pa_cons pe_int (pa_cons (pe_tup (pa_cons (pe_tup (pa_cons pe_int (pa_cons pe_int pa_nil))) (pa_cons (pe_tup (pa_cons pe_int (pa_cons pe_int pa_nil))) pa_nil))) (pa_cons (pe_tup (pa_cons pe_int (pa_cons pe_int pa_nil))) pa_nil)))) (pe_tup (pa_cons pe_int (pa_cons pe_int pa_nil))) (nomark _)) (pe_one (pe_cmpR (op_eqD hr.units) (pe_call (ok_plain_table T) (hr.mono (by decide)) (by rfl) T.m_plain_table T.F_plain_table.kp T.b_plain_table .nil pass0 (pa_cons pe_int (pa_cons (pe_tup (pa_cons (pe_tup (pa_cons pe_int (pa_cons pe_int pa_nil))) (pa_cons (pe_tup (pa_cons pe_int (pa_cons pe_int pa_nil))) pa_nil))) pa_nil))) (pe_tup (pa_cons (pe_tup (pa_cons pe_int (pa_cons pe_int pa_nil))) (pa_cons (pe_tup (pa_cons pe_int (pa_cons pe_int pa_nil))) pa_nil))) (nomark _)))))))))))), ?_⟩
    rw [st_law]
    simp only [ap_seq, ap_next, ap_asg, ap_gName, ap_ret, ap_retN, ap_drop, ap_ifS, ap_break, ap_cont, ap_par, ap_aug, ap_ip, ap_gSub, ap_gTup, ap_gNil, ap_gCons, ap_var, ap_c, ap_op, ap_un, ap_if, ap_test, ap_B, ap_and, ap_or, ap_not, ap_andV, ap_orV, ap_notV, ap_nil, ap_cons, ap_tup, ap_lst, ap_cb, ap_bm, ap_call, ap_chain, ap_rI, ap_rI0, ap_rU, ap_rEq, ap_rNe, ap_revT, ap_sl, ap_part, ap_noPart, ap_ixLI, ap_ixTI, ap_ixLV, ap_ixTV, ap_len, ap_setLI, ap_setLV, ap_appI, ap_appV, ap_tupL, ap_listS, ap_sumLI, ap_sumTI, ap_repLI, ap_intI, ap_intB, ap_eqTI, ap_neTI, ap_eqLI, ap_neLI, ap_isi, ap_for, ap_rng1, ap_rng2, ap_iList, ap_iTup, ap_lc, ap_yes, ap_cut, ap_gTupH, ap_fmt, ap_jsn, ap_jsc, ap_gcd, ap_isqrt, ap_ixL, tyV_l, wipe_nil, wipe_cons, upd_same, ap_iEnT, ap_iEnL, ap_iZipA, ap_all, ap_tupT, ap_lenSetT, ap_slI, ap_catI, ap_perm, ap_lenO, ap_strO, ap_listO, ap_reprB, ap_iterT, ap_neT, ap_negO, ap_binI, ap_catL, ap_tM1, ap_repTI, ap_popN, ap_par3, ap_catTT, ap_countT, ap_notInT, ap_repL1, ap_shl, ap_shr, ap_mask, ap_comb, ap_bits, ap_rng3, List.set_cons_zero, List.set_cons_succ, List.getElem?_cons_zero, List.getElem?_cons_succ, List.cons_append, List.nil_append, List.append_nil, Option.some.injEq, V.int.injEq, V.ref.injEq, V.bl.injEq, V.str.injEq, V.ty.injEq, Bool.not_true, Bool.not_false, HO.lst.injEq, HO.tup.injEq, reduceCtorEq, Int.reduceToNat, Int.reduceLT, Int.reduceLE, Nat.reduceAdd, Int.cast_ofNat_Int, gi_c0, gi_c1, gi_c2, gi_c3, Int.natCast_inj, map_int_inj, map_nil_iff, List.cons.injEq, exists_eq_left, exists_eq_left', exists_eq, exists_eq', exists_and_left, exists_and_right, exists_const, and_assoc, and_true, true_and, and_false, false_and, or_false, false_or, or_true, true_or, ite_true, ite_false, if_true, if_false, Bool.false_eq_true, own_cons, own_nil, le1, le2, le3, le4, me_cons, me_nil, List.length_map, List.length_cons, List.length_nil, ne_eq, not_false_eq_true, not_true_eq_false, decide_eq_true_eq]
    refine ⟨_, .inl hS, ?_⟩
    have ln : (ns.map V.int).length = ns.length := List.length_map ..
    rw [ln]
    obtain ⟨n, hn, n1, n4⟩ : ∃ n : Int, (if (if (ns.length : Int) < 4 then (ns.length : Int) else 4) > 1 then if (ns.length : Int) < 4 then (ns.length : Int) else 4 else 1) = n ∧ 1 ≤ n ∧ n ≤ 4 :=
      ⟨_, rfl, by split <;> split <;> omega, by split <;> split <;> omega⟩
    simp only [hn]
    refine ⟨by omega, by omega, ?_⟩
    refine loop_range (fun i σ' H' => Same H H' ∧ ∃ y1, σ' = [some (.ref a), y1, none, none, none, none]) ⟨Same.refl H, _, rfl⟩ (fun i σ' H1 hi hP => ?_) (fun σ' H1 hP => ?_)
    · obtain ⟨sm, y1, e⟩ := hP
      subst e
      simp only [ap_seq, ap_next, ap_asg, ap_gName, ap_ret, ap_retN, ap_drop, ap_ifS, ap_break, ap_cont, ap_par, ap_aug, ap_ip, ap_gSub, ap_gTup, ap_gNil, ap_gCons, ap_var, ap_c, ap_op, ap_un, ap_if, ap_test, ap_B, ap_and, ap_or, ap_not, ap_andV, ap_orV, ap_notV, ap_nil, ap_cons, ap_tup, ap_lst, ap_cb, ap_bm, ap_call, ap_chain, ap_rI, ap_rI0, ap_rU, ap_rEq, ap_rNe, ap_revT, ap_sl, ap_part, ap_noPart, ap_ixLI, ap_ixTI, ap_ixLV, ap_ixTV, ap_len, ap_setLI, ap_setLV, ap_appI, ap_appV, ap_tupL, ap_listS, ap_sumLI, ap_sumTI, ap_repLI, ap_intI, ap_intB, ap_eqTI, ap_neTI, ap_eqLI, ap_neLI, ap_isi, ap_for, ap_rng1, ap_rng2, ap_iList, ap_iTup, ap_lc, ap_yes, ap_cut, ap_gTupH, ap_fmt, ap_jsn, ap_jsc, ap_gcd, ap_isqrt, ap_ixL, tyV_l, wipe_nil, wipe_cons, upd_same, ap_iEnT, ap_iEnL, ap_iZipA, ap_all, ap_tupT, ap_lenSetT, ap_slI, ap_catI, ap_perm, ap_lenO, ap_strO, ap_listO, ap_reprB, ap_iterT, ap_neT, ap_negO, ap_binI, ap_catL, ap_tM1, ap_repTI, ap_popN, ap_par3, ap_catTT, ap_countT, ap_notInT, ap_repL1, ap_shl, ap_shr, ap_mask, ap_comb, ap_bits, ap_rng3, List.set_cons_zero, List.set_cons_succ, List.getElem?_cons_zero, List.getElem?_cons_succ, List.cons_append, List.nil_append, List.append_nil, Option.some.injEq, V.int.injEq, V.ref.injEq, V.bl.injEq, V.str.injEq, V.ty.injEq, Bool.not_true, Bool.not_false, HO.lst.injEq, HO.tup.injEq, reduceCtorEq, Int.reduceToNat, Int.reduceLT, Int.reduceLE, Nat.reduceAdd, Int.cast_ofNat_Int, gi_c0, gi_c1, gi_c2, gi_c3, Int.natCast_inj, map_int_inj, map_nil_iff, List.cons.injEq, exists_eq_left, exists_eq_left', exists_eq, exists_eq', exists_and_left, exists_and_right, exists_const, and_assoc, and_true, true_and, and_false, false_and, or_false, false_or, or_true, true_or, ite_true, ite_false, if_true, if_false, Bool.false_eq_true, own_cons, own_nil, le1, le2, le3, le4, me_cons, me_nil, List.length_map, List.length_cons, List.length_nil, ne_eq, not_false_eq_true, not_true_eq_false, decide_eq_true_eq]
      refine ⟨a, ns, i, by rw [Int.zero_add], sm.seq hS, by omega, fun H2 p s2 np D2 => ?_⟩
      refine ⟨p, rfl, D2, fun H3 x3 D3 => ?_⟩
      simp only [ap_seq, ap_next, ap_asg, ap_gName, ap_ret, ap_retN, ap_drop, ap_ifS, ap_break, ap_cont, ap_par, ap_aug, ap_ip, ap_gSub, ap_gTup, ap_gNil, ap_gCons, ap_var, ap_c, ap_op, ap_un, ap_if, ap_test, ap_B, ap_and, ap_or, ap_not, ap_andV, ap_orV, ap_notV, ap_nil, ap_cons, ap_tup, ap_lst, ap_cb, ap_bm, ap_call, ap_chain, ap_rI, ap_rI0, ap_rU, ap_rEq, ap_rNe, ap_revT, ap_sl, ap_part, ap_noPart, ap_ixLI, ap_ixTI, ap_ixLV, ap_ixTV, ap_len, ap_setLI, ap_setLV, ap_appI, ap_appV, ap_tupL, ap_listS, ap_sumLI, ap_sumTI, ap_repLI, ap_intI, ap_intB, ap_eqTI, ap_neTI, ap_eqLI, ap_neLI, ap_isi, ap_for, ap_rng1, ap_rng2, ap_iList, ap_iTup, ap_lc, ap_yes, ap_cut, ap_gTupH, ap_fmt, ap_jsn, ap_jsc, ap_gcd, ap_isqrt, ap_ixL, tyV_l, wipe_nil, wipe_cons, upd_same, ap_iEnT, ap_iEnL, ap_iZipA, ap_all, ap_tupT, ap_lenSetT, ap_slI, ap_catI, ap_perm, ap_lenO, ap_strO, ap_listO, ap_reprB, ap_iterT, ap_neT, ap_negO, ap_binI, ap_catL, ap_tM1, ap_repTI, ap_popN, ap_par3, ap_catTT, ap_countT, ap_notInT, ap_repL1, ap_shl, ap_shr, ap_mask, ap_comb, ap_bits, ap_rng3, List.set_cons_zero, List.set_cons_succ, List.getElem?_cons_zero, List.getElem?_cons_succ, List.cons_append, List.nil_append, List.append_nil, Option.some.injEq, V.int.injEq, V.ref.injEq, V.bl.injEq, V.str.injEq, V.ty.injEq, Bool.not_true, Bool.not_false, HO.lst.injEq, HO.tup.injEq, reduceCtorEq, Int.reduceToNat, Int.reduceLT, Int.reduceLE, Nat.reduceAdd, Int.cast_ofNat_Int, gi_c0, gi_c1, gi_c2, gi_c3, Int.natCast_inj, map_int_inj, map_nil_iff, List.cons.injEq, exists_eq_left, exists_eq_left', exists_eq, exists_eq', exists_and_left, exists_and_right, exists_const, and_assoc, and_true, true_and, and_false, false_and, or_false, false_or, or_true, true_or, ite_true, ite_false, if_true, if_false, Bool.false_eq_true, own_cons, own_nil, le1, le2, le3, le4, me_cons, me_nil, List.length_map, List.length_cons, List.length_nil, ne_eq, not_false_eq_true, not_true_eq_false, decide_eq_true_eq]
      exact fun b o hb => x3 b o (ne_of_none hb (sm.free np)) (s2 _ _ (sm _ _ hb))
    · obtain ⟨sm, y1, e⟩ := hP
      subst e
      simp (maxSteps := 3000000) only [ap_seq, ap_next, ap_asg, ap_gName, ap_ret, ap_retN, ap_drop, ap_ifS, ap_break, ap_cont, ap_par, ap_aug, ap_ip, ap_gSub, ap_gTup, ap_gNil, ap_gCons, ap_var, ap_c, ap_op, ap_un, ap_if, ap_test, ap_B, ap_and, ap_or, ap_not, ap_andV, ap_orV, ap_notV, ap_nil, ap_cons, ap_tup, ap_lst, ap_cb, ap_bm, ap_call, ap_chain, ap_rI, ap_rI0, ap_rU, ap_rEq, ap_rNe, ap_revT, ap_sl, ap_part, ap_noPart, ap_ixLI, ap_ixTI, ap_ixLV, ap_ixTV, ap_len, ap_setLI, ap_setLV, ap_appI, ap_appV, ap_tupL, ap_listS, ap_sumLI, ap_sumTI, ap_repLI, ap_intI, ap_intB, ap_eqTI, ap_neTI, ap_eqLI, ap_neLI, ap_isi, ap_for, ap_rng1, ap_rng2, ap_iList, ap_iTup, ap_lc, ap_yes, ap_cut, ap_gTupH, ap_fmt, ap_jsn, ap_jsc, ap_gcd, ap_isqrt, ap_ixL, tyV_l, wipe_nil, wipe_cons, upd_same, ap_iEnT, ap_iEnL, ap_iZipA, ap_all, ap_tupT, ap_lenSetT, ap_slI, ap_catI, ap_perm, ap_lenO, ap_strO, ap_listO, ap_reprB, ap_iterT, ap_neT, ap_negO, ap_binI, ap_catL, ap_tM1, ap_repTI, ap_popN, ap_par3, ap_catTT, ap_countT, ap_notInT, ap_repL1, ap_shl, ap_shr, ap_mask, ap_comb, ap_bits, ap_rng3, List.set_cons_zero, List.set_cons_succ, List.getElem?_cons_zero, List.getElem?_cons_succ, List.cons_append, List.nil_append, List.append_nil, Option.some.injEq, V.int.injEq, V.ref.injEq, V.bl.injEq, V.str.injEq, V.ty.injEq, Bool.not_true, Bool.not_false, HO.lst.injEq, HO.tup.injEq, reduceCtorEq, Int.reduceToNat, Int.reduceLT, Int.reduceLE, Nat.reduceAdd, Int.cast_ofNat_Int, gi_c0, gi_c1, gi_c2, gi_c3, Int.natCast_inj, map_int_inj, map_nil_iff, List.cons.injEq, exists_eq_left, exists_eq_left', exists_eq, exists_eq', exists_and_left, exists_and_right, exists_const, and_assoc, and_true, true_and, and_false, false_and, or_false, false_or, or_true, true_or, ite_true, ite_false, if_true, if_false, Bool.false_eq_true, own_cons, own_nil, le1, le2, le3, le4, me_cons, me_nil, List.length_map, List.length_cons, List.length_nil, ne_eq, not_false_eq_true, not_true_eq_false, decide_eq_true_eq]
      have hp13 : (13 : Int) ∈ primes := by decide
      have hp17 : (17 : Int) ∈ primes := by decide
      refine ⟨a, ns, 0, rfl, sm.seq hS, by omega, fun H2 d s2 nd D2 => ?_⟩
      refine ⟨d, 13, rfl, D2, hp13, fun H3 l x1 y1 x2 y2 x3 y3 e3 D3 h3 hx => ?_⟩
      refine ⟨d, 13, rfl, D3, hp13, fun H4 m u1 v1 u2 v2 u3 v3 e4 D4 h4 hu => ?_⟩
      have h3 := h3.exc D3 e4
      refine ⟨l, m, x1, y1, x2, y2, x3, y3, u1, v1, u2, v2, u3, v3, rfl, h3, h4, hx, hu, fun H5 r t k1 k2 k3 k4 s5 e5 er tt => ?_⟩
      refine ⟨13, l, m, x1, y1, x2, y2, x3, y3, u1, v1, u2, v2, u3, v3, rfl, hp13, h3.same s5, h4.same s5, hx, hu, fun H6 r2 j1 j2 j3 j4 s6 e6 tt2 => ?_⟩
      rw [e5] at e6
      cases e6
      refine ⟨by decide, fun z nz => ?_⟩
      have s7 := same_upd (o := HO.lst [V.ref r2]) nz
      refine neD_same (d := .list [tabD k1 k2 k3 k4]) (by rfl) (.lst (sqL_of (s7 _ _ (s6 _ _ er))) (.cons (tab_dp ((tt.same s6).same s7)) .nil)) (.lst (sqL_of upd_same) (.cons (tab_dp (tt2.same s7)) .nil)) ⟨false, rfl, ?_⟩
      rw [if_neg (by simp)]
      generalize upd H6 z (HO.lst [V.ref r2]) = H7
      refine ⟨13, rfl, hp13, fun H8 w rs s8 ew hR => ⟨w, rfl, _, .inr ew, ?_⟩⟩
      refine ⟨13, rfl, hp13, fun H9 w' rs' s9 ew' hR' => ?_⟩
      have lr : ∃ q1 q2 q3 rest, rs' = q1 :: q2 :: q3 :: rest := by
        have h := hR'.1
        have e : (ptsP 13).length = 14 := by decide
        rw [e] at h
        match rs', h with
        | q1 :: q2 :: q3 :: rest, _ => exact ⟨q1, q2, q3, rest, rfl⟩
      obtain ⟨q1, q2, q3, rest, rfl⟩ := lr
      have f1 : H9 q1 = some (TI [0, 1]) := hR'.2 0 q1 _ rfl rfl
      have f2 : H9 q2 = some (TI [1, 0]) := hR'.2 1 q2 _ rfl rfl
      have f3 : H9 q3 = some (TI [1, 1]) := hR'.2 2 q3 _ rfl rfl
      have l14 : (q1 :: q2 :: q3 :: rest).length = 14 := by rw [hR'.1]; decide
      have l14' : rs.length = 14 := by rw [hR.1]; decide
      clear hR' hR
      have lv : ((q1 :: q2 :: q3 :: rest).map V.ref).length = 14 := by rw [List.length_map]; exact l14
      have ec : cutV ((q1 :: q2 :: q3 :: rest).map V.ref) none (some 3) = [.ref q1, .ref q2, .ref q3] := by
        unfold cutV
        rw [lv]
        rfl
      refine ⟨w', _, rfl, sqT_of ew', by rw [lv]; decide, fun z0 nz0 => ?_⟩
      rw [ec]
      have c0 := same_upd (o := HO.tup [V.ref q1, V.ref q2, V.ref q3]) nz0
      have p00 := upd_same (H := H9) (a := z0) (o := HO.tup [V.ref q1, V.ref q2, V.ref q3])
      have f1 := c0 _ _ f1
      have f2 := c0 _ _ f2
      have f3 := c0 _ _ f3
      generalize upd H9 z0 (HO.tup [V.ref q1, V.ref q2, V.ref q3]) = J0 at c0 p00 f1 f2 f3 ⊢
      refine ⟨by decide, fun y1 ny1 => ⟨by decide, fun y2 ny2 => ⟨by decide, fun y3 ny3 => ⟨by decide, fun y4 ny4 => ?_⟩⟩⟩⟩
      have g1 := same_upd (o := HO.tup [V.int 1, V.int 0]) ny1
      have g2 := same_upd (o := HO.tup [V.int 0, V.int 1]) ny2
      have g3 := same_upd (o := HO.tup [V.int 1, V.int 1]) ny3
      have g4 := same_upd (o := HO.tup [V.ref y1, V.ref y2, V.ref y3]) ny4
      have G4 := g1.trans (g2.trans (g3.trans g4))
      have tA : ThreeAt _ y4 1 0 0 1 1 1 := ⟨y1, y2, y3, upd_same, g4 _ _ (g3 _ _ (g2 _ _ upd_same)), g4 _ _ (g3 _ _ upd_same), g4 _ _ upd_same⟩
      generalize upd (upd (upd (upd J0 y1 (HO.tup [V.int 1, V.int 0])) y2 (HO.tup [V.int 0, V.int 1])) y3 (HO.tup [V.int 1, V.int 1])) y4 (HO.tup [V.ref y1, V.ref y2, V.ref y3]) = J4 at G4 tA ⊢
      refine ⟨by decide, fun y5 ny5 => ⟨by decide, fun y6 ny6 => ⟨by decide, fun y7 ny7 => ⟨by decide, fun y8 ny8 => ?_⟩⟩⟩⟩
      have g5 := same_upd (o := HO.tup [V.int 1, V.int 2]) ny5
      have g6 := same_upd (o := HO.tup [V.int 1, V.int 5]) ny6
      have g7 := same_upd (o := HO.tup [V.int 0, V.int 1]) ny7
      have g8 := same_upd (o := HO.tup [V.ref y5, V.ref y6, V.ref y7]) ny8
      have G8 := g5.trans (g6.trans (g7.trans g8))
      have tB : ThreeAt _ y8 1 2 1 5 0 1 := ⟨y5, y6, y7, upd_same, g8 _ _ (g7 _ _ (g6 _ _ upd_same)), g8 _ _ (g7 _ _ upd_same), g8 _ _ upd_same⟩
      have tA := tA.same G8
      generalize upd (upd (upd (upd J4 y5 (HO.tup [V.int 1, V.int 2])) y6 (HO.tup [V.int 1, V.int 5])) y7 (HO.tup [V.int 0, V.int 1])) y8 (HO.tup [V.ref y5, V.ref y6, V.ref y7]) = J8 at G8 tA tB ⊢
      have pt : ∀ x y : Int, 0 ≤ x → x < 13 → 0 ≤ y → y < 13 → (x = 1 ∨ x = 0 ∧ y = 1) → PtP 13 x y := fun x y h1 h2 h3 h4 h5 => ⟨h1, h2, h3, h4, h5⟩
      refine ⟨13, y4, y8, 1, 0, 0, 1, 1, 1, 1, 2, 1, 5, 0, 1, rfl, hp13, tA, tB, ⟨pt 1 0 (by decide) (by decide) (by decide) (by decide) (by decide), pt 0 1 (by decide) (by decide) (by decide) (by decide) (by decide), pt 1 1 (by decide) (by decide) (by decide) (by decide) (by decide), by decide, by decide, by decide⟩, ⟨pt 1 2 (by decide) (by decide) (by decide) (by decide) (by decide), pt 1 5 (by decide) (by decide) (by decide) (by decide) (by decide), pt 0 1 (by decide) (by decide) (by decide) (by decide) (by decide), by decide, by decide, by decide⟩, fun J9 r9 a9 b9 c9 d9 s9' e9 t9 => ?_⟩
      have e9' : between 13 1 0 0 1 1 1 1 2 1 5 0 1 = [1, 12, 2, 8] := by decide +kernel
      rw [e9'] at e9
      cases e9
      have p00 := s9' _ _ (G8 _ _ (G4 _ _ p00))
      have f1 := s9' _ _ (G8 _ _ (G4 _ _ f1))
      have f2 := s9' _ _ (G8 _ _ (G4 _ _ f2))
      have f3 := s9' _ _ (G8 _ _ (G4 _ _ f3))
      have l14'' : (rs.map V.ref).length = 14 := by rw [List.length_map]; exact l14'
      rw [l14'']
      refine ⟨by decide, fun b0 nb0 => ⟨by decide, fun b1 nb1 => ⟨by decide, fun b2 nb2 => ⟨by decide, fun b3 nb3 => ⟨by decide, fun b4 nb4 => ⟨by decide, fun b5 nb5 => ⟨by decide, fun b6 nb6 => ⟨by decide, fun b7 nb7 => ⟨by decide, fun b8 nb8 => ?_⟩⟩⟩⟩⟩⟩⟩⟩⟩
      have h0 := same_upd (o := HO.lst [V.int ((14 : Nat) : Int), V.ref z0, V.ref r9]) nb0
      have h1 := same_upd (o := HO.tup [V.int 0, V.int 1]) nb1
      have h2 := same_upd (o := HO.tup [V.int 1, V.int 0]) nb2
      have h3 := same_upd (o := HO.tup [V.int 1, V.int 1]) nb3
      have h4 := same_upd (o := HO.tup [V.ref b1, V.ref b2, V.ref b3]) nb4
      have h5 := same_upd (o := HO.tup [V.int 1, V.int 12]) nb5
      have h6 := same_upd (o := HO.tup [V.int 2, V.int 8]) nb6
      have h7 := same_upd (o := HO.tup [V.ref b5, V.ref b6]) nb7
      have h8 := same_upd (o := HO.lst [V.int 14, V.ref b4, V.ref b7]) nb8
      have t8 := h8
      have t7 := h7.trans t8
      have t6 := h6.trans t7
      have t5 := h5.trans t6
      have t4 := h4.trans t5
      have t3 := h3.trans t4
      have t2 := h2.trans t3
      have t1 := h1.trans t2
      have t0 := h0.trans t1
      have k0 := t1 _ _ (upd_same (H := J9) (a := b0) (o := HO.lst [V.int ((14 : Nat) : Int), V.ref z0, V.ref r9]))
      refine neD_same (d := .list [.int 14, .tuple ([[0, 1], [1, 0], [1, 1]].map fun ns => PyData.tuple (ns.map .int)), tabD 1 12 2 8]) (by decide +kernel)
        (.lst (sqL_of k0) (.cons (.int 14) (.cons (.tup (sqT_of (xs := [q1, q2, q3].map V.ref) (t0 _ _ p00)) (dpAll_rows (RowsAt.cons (t0 _ _ f1) (.cons (t0 _ _ f2) (.cons (t0 _ _ f3) .nil))))) (.cons (tab_dp (t9.same t0)) .nil))))
        (.lst (sqL_of upd_same) (.cons (.int 14) (.cons (.tup (sqT_of (xs := [b1, b2, b3].map V.ref) (t5 _ _ upd_same)) (dpAll_rows (RowsAt.cons (t2 _ _ upd_same) (.cons (t3 _ _ upd_same) (.cons (t4 _ _ upd_same) .nil))))) (.cons (tab_dp ⟨b5, b6, t8 _ _ upd_same, t6 _ _ upd_same, t7 _ _ upd_same⟩) .nil))))
        ⟨false, rfl, ?_⟩
      rw [if_neg (by simp)]
      clear h0 h1 h2 h3 h4 h5 h6 h7 h8 t0 t1 t2 t3 t4 t5 t6 t7 t8 k0
      generalize upd (upd (upd (upd (upd (upd (upd (upd (upd (J9) b0 (HO.lst [V.int ((14 : Nat) : Int), V.ref z0, V.ref r9])) b1 (HO.tup [V.int 0, V.int 1])) b2 (HO.tup [V.int 1, V.int 0])) b3 (HO.tup [V.int 1, V.int 1])) b4 (HO.tup [V.ref b1, V.ref b2, V.ref b3])) b5 (HO.tup [V.int 1, V.int 12])) b6 (HO.tup [V.int 2, V.int 8])) b7 (HO.tup [V.ref b5, V.ref b6])) b8 (HO.lst [V.int 14, V.ref b4, V.ref b7]) = JA
      refine ⟨by decide, fun c1 nc1 => ⟨by decide, fun c2 nc2 => ⟨by decide, fun c3 nc3 => ⟨by decide, fun c4 nc4 => ?_⟩⟩⟩⟩
      have h1 := same_upd (o := HO.tup [V.int 1, V.int 2]) nc1
      have h2 := same_upd (o := HO.tup [V.int 3, V.int 5]) nc2
      have h3 := same_upd (o := HO.tup [V.ref c1, V.ref c2]) nc3
      have h4 := same_upd (o := HO.tup [V.int 1, V.int 8]) nc4
      have tn : ∀ n : Int, -100 ≤ n → n ≤ 100 → Tn n := fun n h1 h2 => by unfold Tn; omega
      refine ⟨17, c3, c4, 1, 2, 3, 5, 1, 8, rfl, hp17, ⟨c1, c2, h4 _ _ upd_same, h4 _ _ (h3 _ _ (h2 _ _ upd_same)), h4 _ _ (h3 _ _ upd_same)⟩, ⟨tn 1 (by decide) (by decide), tn 2 (by decide) (by decide), tn 3 (by decide) (by decide), tn 5 (by decide) (by decide)⟩, by decide, upd_same, ⟨by decide, by decide, by decide, by decide, .inl rfl⟩, fun JB w1 hB ew1 => ?_⟩
      have el : ledP 17 1 2 3 5 1 8 = [0, 1] := by decide +kernel
      rw [el] at ew1
      refine ⟨by decide, fun d0 nd0 => ?_⟩
      have i0 := same_upd (o := HO.tup [V.int 0, V.int 1]) nd0
      refine ⟨w1, rfl, _, i0 _ _ ew1, ?_⟩
      rw [if_pos rfl]
      refine ⟨by decide, fun d1 nd1 => ⟨by decide, fun d2 nd2 => ⟨by decide, fun d3 nd3 => ?_⟩⟩⟩
      have i1 := same_upd (o := HO.tup [V.int 3, V.int 6]) nd1
      have i2 := same_upd (o := HO.tup [V.int 9, V.int 15]) nd2
      have i3 := same_upd (o := HO.tup [V.ref d1, V.ref d2]) nd3
      refine ⟨17, d3, 3, 6, 9, 15, rfl, hp17, ⟨d1, d2, upd_same, i3 _ _ (i2 _ _ upd_same), i3 _ _ upd_same⟩, ⟨tn 3 (by decide) (by decide), tn 6 (by decide) (by decide), tn 9 (by decide) (by decide), tn 15 (by decide) (by decide)⟩, by decide, fun JC w2 a2 b2 c2 e2 hC ep tp => ?_⟩
      rw [show plain4 17 3 6 9 15 = [1, 2, 3, 5] by decide +kernel] at ep
      cases ep
      refine ⟨by decide, fun x1 nx1 => ⟨by decide, fun x2 nx2 => ⟨by decide, fun x3 nx3 => ?_⟩⟩⟩
      have v1 := same_upd (o := HO.tup [V.int 1, V.int 2]) nx1
      have v2 := same_upd (o := HO.tup [V.int 3, V.int 5]) nx2
      have v3 := same_upd (o := HO.tup [V.ref x1, V.ref x2]) nx3
      refine ⟨tabD 1 2 3 5, tabD 1 2 3 5, tab_dp (tp.same (v1.trans (v2.trans v3))), tab_dp ⟨x1, x2, upd_same, v3 _ _ (v2 _ _ upd_same), v3 _ _ upd_same⟩, tab_sh 1 2 3 5, tab_sh 1 2 3 5, ?_⟩
      rw [SeqAt.eqv_refl _ (SeqAt.canLay_of_shaped (tab_sh 1 2 3 5))]
      exact q _
end
end My

namespace My
open PySem PySem.Spec PyProof.Rows L2 Pr
section
open PySem.W
local macro_rules | `(tactic| o_headL $H) => `(tactic| (have _h := $H; exact False.elim ‹False›))
set_option maxHeartbeats 0 in
theorem keepK (no : False) : PySem.Challenge.rw_sourceforms_k50_whole_prime_points_and_t.Holds := by
  w_on; o_law; k_headL
end
section
open PySem.W PySem.Calls
abbrev R0 : OpenRow := OpenLaw.row PySem.Challenge.rw_sourceforms_k50_whole_prime_points_and_t
abbrev qv : Program := view R0.prog [57]
def nm0 : List PySem.Str := ["LetterError", "InvalidTable", "InvalidPoint", "InvalidNumber", "TOO_LONG", "is_integer", "is_row", "is_pair", "is_change", "lead_of", "modulo", "power_of", "inverse_of", "plain_row", "PRIMES", "need_prime", "is_prime_point", "need_prime_point", "determinant_of", "need_prime_table"]
def nm1 : List PySem.Str := ["all_points", "led_row", "led_point", "plain_change", "plain_table", "product_of_changes", "undone_change", "frame_of", "need_three", "table_by_three", "_law_dice", "_law_roll", "_law_pick", "_law_mixed", "_law_near", "_law_scaled", "_law_joined", "_law_det", "_law_left_by", "_law_undo_by"]
def nm2 : List PySem.Str := ["_law_first_one", "_law_some_prime", "_law_prime_point", "_law_prime_table", "_law_led_by", "_law_points_by", "_law_plain_table", "_law_three", "_law_leads_three", "_law_all_between", "_law_right"]
def nms : List PySem.Str := nm0 ++ nm1 ++ nm2
noncomputable def as0 : List Nat := (keepK.heap_39 { strHash := fun _ => 0, shareClass := fun _ => 0, mergeTok := id, idOf := fun _ => 0, idOfShared := fun _ _ => 0, followText := fun _ => true, idOfImm := fun _ => 0 }).map (·.1)
theorem as0_eq (P : Params) : as0 = (keepK.heap_39 P).map (·.1) := by kernel_rfl
noncomputable abbrev hk0 : Hook := kHook keepK.heap_39 as0 as0_eq
noncomputable def ob0 (s : SharedT) : hk0.α := as0.map (HandSHeadRun.getT s)
theorem ob0_eq (s : SharedT) : ob0 s = hk0.obs s.abs := List.map_congr_left fun a _ => HandSHeadRun.getT_eq s a
theorem trip {α β γ δ : Type} {o : Option α} {f : α → β} {g : α → γ} {h : α → δ} {a : β} {b : γ} {c : δ} (h1 : o.map f = some a) (h2 : o.map g = some b) (h3 : o.map h = some c) : o.map (fun x => (f x, g x, h x)) = some (a, b, c) := by
  obtain ⟨x, rfl, e1⟩ := Option.map_eq_some_iff.mp h1
  have e2 := Option.some.inj h2
  have e3 := Option.some.inj h3
  subst e1 e2 e3
  rfl
theorem runA (w : World) (os : OsState) : (HandSHeadRun.endF (HandSHeadRun.stepQ (HandSHeadRun.denQ HandSHeadRun.tabQ) R0.prog w) 20000 R0.prog w os).map (fun s => HandSHeadRun.looksF R0.prog (boot_heap w.params) s.abs) = some true := by kernel_rfl
theorem runB (w : World) (os : OsState) : (HandSHeadRun.endF (HandSHeadRun.stepQ (HandSHeadRun.denQ HandSHeadRun.tabQ) R0.prog w) 20000 R0.prog w os).map (fun s => HandSHeadRun.seenQ qv nms (importedModules R0.prog.main.body) (fun s => xlAt qv [] s && recOk R0.toRowW.records s) s.abs) = some (openGood qv nms) := by kernel_rfl
theorem runC (w : World) (os : OsState) : (HandSHeadRun.endF (HandSHeadRun.stepQ (HandSHeadRun.denQ HandSHeadRun.tabQ) R0.prog w) 20000 R0.prog w os).map (fun s => ob0 s) = some (hk0.val w) := by kernel_rfl
theorem run0 (w : World) : HandSHeadRun.RunEq R0 qv hk0 ob0 20000 nms w := fun os => trip (runA w os) (runB w os) (runC w os)
end
theorem us0 {α : Type} {us : List α} (hl : us.length = 0) : us = [] := by
  match us, hl with
  | [], _ => exact rfl
theorem us1 {α : Type} {us : List α} (hl : us.length = 1) : ∃ a0, us = [a0] := by
  match us, hl with
  | [a0], _ => exact ⟨a0, rfl⟩
theorem us2 {α : Type} {us : List α} (hl : us.length = 2) : ∃ a0 a1, us = [a0, a1] := by
  match us, hl with
  | [a0, a1], _ => exact ⟨a0, a1, rfl⟩
theorem us3 {α : Type} {us : List α} (hl : us.length = 3) : ∃ a0 a1 a2, us = [a0, a1, a2] := by
  match us, hl with
  | [a0, a1, a2], _ => exact ⟨a0, a1, a2, rfl⟩
theorem us4 {α : Type} {us : List α} (hl : us.length = 4) : ∃ a0 a1 a2 a3, us = [a0, a1, a2, a3] := by
  match us, hl with
  | [a0, a1, a2, a3], _ => exact ⟨a0, a1, a2, a3, rfl⟩
theorem us5 {α : Type} {us : List α} (hl : us.length = 5) : ∃ a0 a1 a2 a3 a4, us = [a0, a1, a2, a3, a4] := by
  match us, hl with
  | [a0, a1, a2, a3, a4], _ => exact ⟨a0, a1, a2, a3, a4, rfl⟩
theorem us6 {α : Type} {us : List α} (hl : us.length = 6) : ∃ a0 a1 a2 a3 a4 a5, us = [a0, a1, a2, a3, a4, a5] := by
  match us, hl with
  | [a0, a1, a2, a3, a4, a5], _ => exact ⟨a0, a1, a2, a3, a4, a5, rfl⟩
theorem us7 {α : Type} {us : List α} (hl : us.length = 7) : ∃ a0 a1 a2 a3 a4 a5 a6, us = [a0, a1, a2, a3, a4, a5, a6] := by
  match us, hl with
  | [a0, a1, a2, a3, a4, a5, a6], _ => exact ⟨a0, a1, a2, a3, a4, a5, a6, rfl⟩
theorem all_mk {l : PySem.W.OpenLaw} {w : World} {K : PySem.W.Frag} {h : Heap} {mg : Str → Option Value} {fa : Addr} (X : K.In h) (G : h.Ns mainGlobals mg) (hfa : mg "law" = some (.ref fa))
    {f0 : Addr} {od0 an0 : Option Addr} {sl0 : Array (Option Value)} {oc0 kV0 dc0 pm0 cd0 ct0 : Value}
    (a0 : PySem.W.nsIn K mainGlobals "is_integer" = some (some (.ref f0)))
    (l0 : K.lookup f0 = some ⟨oc0, od0, .func (PySem.W.fnOf "is_integer" "is_integer" (defArgs s_is_integer) (defBody s_is_integer) (defScope s_is_integer) .none kV0 dc0 pm0 an0 cd0 ct0), sl0⟩) (c0 : PySem.W.codeIn K cd0 "is_integer" = true) (k0 : PySem.W.keepIn K (.ref f0) = true)
    {f1 : Addr} {od1 an1 : Option Addr} {sl1 : Array (Option Value)} {oc1 kV1 dc1 pm1 cd1 ct1 : Value}
    (a1 : PySem.W.nsIn K mainGlobals "is_row" = some (some (.ref f1)))
    (l1 : K.lookup f1 = some ⟨oc1, od1, .func (PySem.W.fnOf "is_row" "is_row" (defArgs s_is_row) (defBody s_is_row) (defScope s_is_row) .none kV1 dc1 pm1 an1 cd1 ct1), sl1⟩) (c1 : PySem.W.codeIn K cd1 "is_row" = true) (k1 : PySem.W.keepIn K (.ref f1) = true)
    {f2 : Addr} {od2 an2 : Option Addr} {sl2 : Array (Option Value)} {oc2 kV2 dc2 pm2 cd2 ct2 : Value}
    (a2 : PySem.W.nsIn K mainGlobals "is_pair" = some (some (.ref f2)))
    (l2 : K.lookup f2 = some ⟨oc2, od2, .func (PySem.W.fnOf "is_pair" "is_pair" (defArgs s_is_pair) (defBody s_is_pair) (defScope s_is_pair) .none kV2 dc2 pm2 an2 cd2 ct2), sl2⟩) (c2 : PySem.W.codeIn K cd2 "is_pair" = true) (k2 : PySem.W.keepIn K (.ref f2) = true)
    {f3 : Addr} {od3 an3 : Option Addr} {sl3 : Array (Option Value)} {oc3 kV3 dc3 pm3 cd3 ct3 : Value}
    (a3 : PySem.W.nsIn K mainGlobals "is_change" = some (some (.ref f3)))
    (l3 : K.lookup f3 = some ⟨oc3, od3, .func (PySem.W.fnOf "is_change" "is_change" (defArgs s_is_change) (defBody s_is_change) (defScope s_is_change) .none kV3 dc3 pm3 an3 cd3 ct3), sl3⟩) (c3 : PySem.W.codeIn K cd3 "is_change" = true) (k3 : PySem.W.keepIn K (.ref f3) = true)
    {f4 : Addr} {od4 an4 : Option Addr} {sl4 : Array (Option Value)} {oc4 kV4 dc4 pm4 cd4 ct4 : Value}
    (a4 : PySem.W.nsIn K mainGlobals "lead_of" = some (some (.ref f4)))
    (l4 : K.lookup f4 = some ⟨oc4, od4, .func (PySem.W.fnOf "lead_of" "lead_of" (defArgs s_lead_of) (defBody s_lead_of) (defScope s_lead_of) .none kV4 dc4 pm4 an4 cd4 ct4), sl4⟩) (c4 : PySem.W.codeIn K cd4 "lead_of" = true) (k4 : PySem.W.keepIn K (.ref f4) = true)
    {f5 : Addr} {od5 an5 : Option Addr} {sl5 : Array (Option Value)} {oc5 kV5 dc5 pm5 cd5 ct5 : Value}
    (a5 : PySem.W.nsIn K mainGlobals "modulo" = some (some (.ref f5)))
    (l5 : K.lookup f5 = some ⟨oc5, od5, .func (PySem.W.fnOf "modulo" "modulo" (defArgs s_modulo) (defBody s_modulo) (defScope s_modulo) .none kV5 dc5 pm5 an5 cd5 ct5), sl5⟩) (c5 : PySem.W.codeIn K cd5 "modulo" = true) (k5 : PySem.W.keepIn K (.ref f5) = true)
    {f6 : Addr} {od6 an6 : Option Addr} {sl6 : Array (Option Value)} {oc6 kV6 dc6 pm6 cd6 ct6 : Value}
    (a6 : PySem.W.nsIn K mainGlobals "power_of" = some (some (.ref f6)))
    (l6 : K.lookup f6 = some ⟨oc6, od6, .func (PySem.W.fnOf "power_of" "power_of" (defArgs s_power_of) (defBody s_power_of) (defScope s_power_of) .none kV6 dc6 pm6 an6 cd6 ct6), sl6⟩) (c6 : PySem.W.codeIn K cd6 "power_of" = true) (k6 : PySem.W.keepIn K (.ref f6) = true)
    {f7 : Addr} {od7 an7 : Option Addr} {sl7 : Array (Option Value)} {oc7 kV7 dc7 pm7 cd7 ct7 : Value}
    (a7 : PySem.W.nsIn K mainGlobals "inverse_of" = some (some (.ref f7)))
    (l7 : K.lookup f7 = some ⟨oc7, od7, .func (PySem.W.fnOf "inverse_of" "inverse_of" (defArgs s_inverse_of) (defBody s_inverse_of) (defScope s_inverse_of) .none kV7 dc7 pm7 an7 cd7 ct7), sl7⟩) (c7 : PySem.W.codeIn K cd7 "inverse_of" = true) (k7 : PySem.W.keepIn K (.ref f7) = true)
    {f8 : Addr} {od8 an8 : Option Addr} {sl8 : Array (Option Value)} {oc8 kV8 dc8 pm8 cd8 ct8 : Value}
    (a8 : PySem.W.nsIn K mainGlobals "plain_row" = some (some (.ref f8)))
    (l8 : K.lookup f8 = some ⟨oc8, od8, .func (PySem.W.fnOf "plain_row" "plain_row" (defArgs s_plain_row) (defBody s_plain_row) (defScope s_plain_row) .none kV8 dc8 pm8 an8 cd8 ct8), sl8⟩) (c8 : PySem.W.codeIn K cd8 "plain_row" = true) (k8 : PySem.W.keepIn K (.ref f8) = true)
    {f9 : Addr} {od9 an9 : Option Addr} {sl9 : Array (Option Value)} {oc9 kV9 dc9 pm9 cd9 ct9 : Value}
    (a9 : PySem.W.nsIn K mainGlobals "need_prime" = some (some (.ref f9)))
    (l9 : K.lookup f9 = some ⟨oc9, od9, .func (PySem.W.fnOf "need_prime" "need_prime" (defArgs s_need_prime) (defBody s_need_prime) (defScope s_need_prime) .none kV9 dc9 pm9 an9 cd9 ct9), sl9⟩) (c9 : PySem.W.codeIn K cd9 "need_prime" = true) (k9 : PySem.W.keepIn K (.ref f9) = true)
    {f10 : Addr} {od10 an10 : Option Addr} {sl10 : Array (Option Value)} {oc10 kV10 dc10 pm10 cd10 ct10 : Value}
    (a10 : PySem.W.nsIn K mainGlobals "is_prime_point" = some (some (.ref f10)))
    (l10 : K.lookup f10 = some ⟨oc10, od10, .func (PySem.W.fnOf "is_prime_point" "is_prime_point" (defArgs s_is_prime_point) (defBody s_is_prime_point) (defScope s_is_prime_point) .none kV10 dc10 pm10 an10 cd10 ct10), sl10⟩) (c10 : PySem.W.codeIn K cd10 "is_prime_point" = true) (k10 : PySem.W.keepIn K (.ref f10) = true)
    {f11 : Addr} {od11 an11 : Option Addr} {sl11 : Array (Option Value)} {oc11 kV11 dc11 pm11 cd11 ct11 : Value}
    (a11 : PySem.W.nsIn K mainGlobals "need_prime_point" = some (some (.ref f11)))
    (l11 : K.lookup f11 = some ⟨oc11, od11, .func (PySem.W.fnOf "need_prime_point" "need_prime_point" (defArgs s_need_prime_point) (defBody s_need_prime_point) (defScope s_need_prime_point) .none kV11 dc11 pm11 an11 cd11 ct11), sl11⟩) (c11 : PySem.W.codeIn K cd11 "need_prime_point" = true) (k11 : PySem.W.keepIn K (.ref f11) = true)
    {f12 : Addr} {od12 an12 : Option Addr} {sl12 : Array (Option Value)} {oc12 kV12 dc12 pm12 cd12 ct12 : Value}
    (a12 : PySem.W.nsIn K mainGlobals "determinant_of" = some (some (.ref f12)))
    (l12 : K.lookup f12 = some ⟨oc12, od12, .func (PySem.W.fnOf "determinant_of" "determinant_of" (defArgs s_determinant_of) (defBody s_determinant_of) (defScope s_determinant_of) .none kV12 dc12 pm12 an12 cd12 ct12), sl12⟩) (c12 : PySem.W.codeIn K cd12 "determinant_of" = true) (k12 : PySem.W.keepIn K (.ref f12) = true)
    {f13 : Addr} {od13 an13 : Option Addr} {sl13 : Array (Option Value)} {oc13 kV13 dc13 pm13 cd13 ct13 : Value}
    (a13 : PySem.W.nsIn K mainGlobals "need_prime_table" = some (some (.ref f13)))
    (l13 : K.lookup f13 = some ⟨oc13, od13, .func (PySem.W.fnOf "need_prime_table" "need_prime_table" (defArgs s_need_prime_table) (defBody s_need_prime_table) (defScope s_need_prime_table) .none kV13 dc13 pm13 an13 cd13 ct13), sl13⟩) (c13 : PySem.W.codeIn K cd13 "need_prime_table" = true) (k13 : PySem.W.keepIn K (.ref f13) = true)
    {f14 : Addr} {od14 an14 : Option Addr} {sl14 : Array (Option Value)} {oc14 kV14 dc14 pm14 cd14 ct14 : Value}
    (a14 : PySem.W.nsIn K mainGlobals "all_points" = some (some (.ref f14)))
    (l14 : K.lookup f14 = some ⟨oc14, od14, .func (PySem.W.fnOf "all_points" "all_points" (defArgs s_all_points) (defBody s_all_points) (defScope s_all_points) .none kV14 dc14 pm14 an14 cd14 ct14), sl14⟩) (c14 : PySem.W.codeIn K cd14 "all_points" = true) (k14 : PySem.W.keepIn K (.ref f14) = true)
    {f15 : Addr} {od15 an15 : Option Addr} {sl15 : Array (Option Value)} {oc15 kV15 dc15 pm15 cd15 ct15 : Value}
    (a15 : PySem.W.nsIn K mainGlobals "led_row" = some (some (.ref f15)))
    (l15 : K.lookup f15 = some ⟨oc15, od15, .func (PySem.W.fnOf "led_row" "led_row" (defArgs s_led_row) (defBody s_led_row) (defScope s_led_row) .none kV15 dc15 pm15 an15 cd15 ct15), sl15⟩) (c15 : PySem.W.codeIn K cd15 "led_row" = true) (k15 : PySem.W.keepIn K (.ref f15) = true)
    {f16 : Addr} {od16 an16 : Option Addr} {sl16 : Array (Option Value)} {oc16 kV16 dc16 pm16 cd16 ct16 : Value}
    (a16 : PySem.W.nsIn K mainGlobals "led_point" = some (some (.ref f16)))
    (l16 : K.lookup f16 = some ⟨oc16, od16, .func (PySem.W.fnOf "led_point" "led_point" (defArgs s_led_point) (defBody s_led_point) (defScope s_led_point) .none kV16 dc16 pm16 an16 cd16 ct16), sl16⟩) (c16 : PySem.W.codeIn K cd16 "led_point" = true) (k16 : PySem.W.keepIn K (.ref f16) = true)
    {f17 : Addr} {od17 an17 : Option Addr} {sl17 : Array (Option Value)} {oc17 kV17 dc17 pm17 cd17 ct17 : Value}
    (a17 : PySem.W.nsIn K mainGlobals "plain_change" = some (some (.ref f17)))
    (l17 : K.lookup f17 = some ⟨oc17, od17, .func (PySem.W.fnOf "plain_change" "plain_change" (defArgs s_plain_change) (defBody s_plain_change) (defScope s_plain_change) .none kV17 dc17 pm17 an17 cd17 ct17), sl17⟩) (c17 : PySem.W.codeIn K cd17 "plain_change" = true) (k17 : PySem.W.keepIn K (.ref f17) = true)
    {f18 : Addr} {od18 an18 : Option Addr} {sl18 : Array (Option Value)} {oc18 kV18 dc18 pm18 cd18 ct18 : Value}
    (a18 : PySem.W.nsIn K mainGlobals "plain_table" = some (some (.ref f18)))
    (l18 : K.lookup f18 = some ⟨oc18, od18, .func (PySem.W.fnOf "plain_table" "plain_table" (defArgs s_plain_table) (defBody s_plain_table) (defScope s_plain_table) .none kV18 dc18 pm18 an18 cd18 ct18), sl18⟩) (c18 : PySem.W.codeIn K cd18 "plain_table" = true) (k18 : PySem.W.keepIn K (.ref f18) = true)
    {f19 : Addr} {od19 an19 : Option Addr} {sl19 : Array (Option Value)} {oc19 kV19 dc19 pm19 cd19 ct19 : Value}
    (a19 : PySem.W.nsIn K mainGlobals "product_of_changes" = some (some (.ref f19)))
    (l19 : K.lookup f19 = some ⟨oc19, od19, .func (PySem.W.fnOf "product_of_changes" "product_of_changes" (defArgs s_product_of_changes) (defBody s_product_of_changes) (defScope s_product_of_changes) .none kV19 dc19 pm19 an19 cd19 ct19), sl19⟩) (c19 : PySem.W.codeIn K cd19 "product_of_changes" = true) (k19 : PySem.W.keepIn K (.ref f19) = true)
    {f20 : Addr} {od20 an20 : Option Addr} {sl20 : Array (Option Value)} {oc20 kV20 dc20 pm20 cd20 ct20 : Value}
    (a20 : PySem.W.nsIn K mainGlobals "undone_change" = some (some (.ref f20)))
    (l20 : K.lookup f20 = some ⟨oc20, od20, .func (PySem.W.fnOf "undone_change" "undone_change" (defArgs s_undone_change) (defBody s_undone_change) (defScope s_undone_change) .none kV20 dc20 pm20 an20 cd20 ct20), sl20⟩) (c20 : PySem.W.codeIn K cd20 "undone_change" = true) (k20 : PySem.W.keepIn K (.ref f20) = true)
    {f21 : Addr} {od21 an21 : Option Addr} {sl21 : Array (Option Value)} {oc21 kV21 dc21 pm21 cd21 ct21 : Value}
    (a21 : PySem.W.nsIn K mainGlobals "frame_of" = some (some (.ref f21)))
    (l21 : K.lookup f21 = some ⟨oc21, od21, .func (PySem.W.fnOf "frame_of" "frame_of" (defArgs s_frame_of) (defBody s_frame_of) (defScope s_frame_of) .none kV21 dc21 pm21 an21 cd21 ct21), sl21⟩) (c21 : PySem.W.codeIn K cd21 "frame_of" = true) (k21 : PySem.W.keepIn K (.ref f21) = true)
    {f22 : Addr} {od22 an22 : Option Addr} {sl22 : Array (Option Value)} {oc22 kV22 dc22 pm22 cd22 ct22 : Value}
    (a22 : PySem.W.nsIn K mainGlobals "need_three" = some (some (.ref f22)))
    (l22 : K.lookup f22 = some ⟨oc22, od22, .func (PySem.W.fnOf "need_three" "need_three" (defArgs s_need_three) (defBody s_need_three) (defScope s_need_three) .none kV22 dc22 pm22 an22 cd22 ct22), sl22⟩) (c22 : PySem.W.codeIn K cd22 "need_three" = true) (k22 : PySem.W.keepIn K (.ref f22) = true)
    {f23 : Addr} {od23 an23 : Option Addr} {sl23 : Array (Option Value)} {oc23 kV23 dc23 pm23 cd23 ct23 : Value}
    (a23 : PySem.W.nsIn K mainGlobals "table_by_three" = some (some (.ref f23)))
    (l23 : K.lookup f23 = some ⟨oc23, od23, .func (PySem.W.fnOf "table_by_three" "table_by_three" (defArgs s_table_by_three) (defBody s_table_by_three) (defScope s_table_by_three) .none kV23 dc23 pm23 an23 cd23 ct23), sl23⟩) (c23 : PySem.W.codeIn K cd23 "table_by_three" = true) (k23 : PySem.W.keepIn K (.ref f23) = true)
    {f24 : Addr} {od24 an24 : Option Addr} {sl24 : Array (Option Value)} {oc24 kV24 dc24 pm24 cd24 ct24 : Value}
    (a24 : PySem.W.nsIn K mainGlobals "_law_dice" = some (some (.ref f24)))
    (l24 : K.lookup f24 = some ⟨oc24, od24, .func (PySem.W.fnOf "_law_dice" "_law_dice" (defArgs s_law_dice) (defBody s_law_dice) (defScope s_law_dice) .none kV24 dc24 pm24 an24 cd24 ct24), sl24⟩) (c24 : PySem.W.codeIn K cd24 "_law_dice" = true) (k24 : PySem.W.keepIn K (.ref f24) = true)
    {f25 : Addr} {od25 an25 : Option Addr} {sl25 : Array (Option Value)} {oc25 kV25 dc25 pm25 cd25 ct25 : Value}
    (a25 : PySem.W.nsIn K mainGlobals "_law_roll" = some (some (.ref f25)))
    (l25 : K.lookup f25 = some ⟨oc25, od25, .func (PySem.W.fnOf "_law_roll" "_law_roll" (defArgs s_law_roll) (defBody s_law_roll) (defScope s_law_roll) .none kV25 dc25 pm25 an25 cd25 ct25), sl25⟩) (c25 : PySem.W.codeIn K cd25 "_law_roll" = true) (k25 : PySem.W.keepIn K (.ref f25) = true)
    {f26 : Addr} {od26 an26 : Option Addr} {sl26 : Array (Option Value)} {oc26 kV26 dc26 pm26 cd26 ct26 : Value}
    (a26 : PySem.W.nsIn K mainGlobals "_law_pick" = some (some (.ref f26)))
    (l26 : K.lookup f26 = some ⟨oc26, od26, .func (PySem.W.fnOf "_law_pick" "_law_pick" (defArgs s_law_pick) (defBody s_law_pick) (defScope s_law_pick) .none kV26 dc26 pm26 an26 cd26 ct26), sl26⟩) (c26 : PySem.W.codeIn K cd26 "_law_pick" = true) (k26 : PySem.W.keepIn K (.ref f26) = true)
    {f27 : Addr} {od27 an27 : Option Addr} {sl27 : Array (Option Value)} {oc27 kV27 dc27 pm27 cd27 ct27 : Value}
    (a27 : PySem.W.nsIn K mainGlobals "_law_mixed" = some (some (.ref f27)))
    (l27 : K.lookup f27 = some ⟨oc27, od27, .func (PySem.W.fnOf "_law_mixed" "_law_mixed" (defArgs s_law_mixed) (defBody s_law_mixed) (defScope s_law_mixed) .none kV27 dc27 pm27 an27 cd27 ct27), sl27⟩) (c27 : PySem.W.codeIn K cd27 "_law_mixed" = true) (k27 : PySem.W.keepIn K (.ref f27) = true)
    {f28 : Addr} {od28 an28 : Option Addr} {sl28 : Array (Option Value)} {oc28 kV28 dc28 pm28 cd28 ct28 : Value}
    (a28 : PySem.W.nsIn K mainGlobals "_law_near" = some (some (.ref f28)))
    (l28 : K.lookup f28 = some ⟨oc28, od28, .func (PySem.W.fnOf "_law_near" "_law_near" (defArgs s_law_near) (defBody s_law_near) (defScope s_law_near) .none kV28 dc28 pm28 an28 cd28 ct28), sl28⟩) (c28 : PySem.W.codeIn K cd28 "_law_near" = true) (k28 : PySem.W.keepIn K (.ref f28) = true)
    {f29 : Addr} {od29 an29 : Option Addr} {sl29 : Array (Option Value)} {oc29 kV29 dc29 pm29 cd29 ct29 : Value}
    (a29 : PySem.W.nsIn K mainGlobals "_law_scaled" = some (some (.ref f29)))
    (l29 : K.lookup f29 = some ⟨oc29, od29, .func (PySem.W.fnOf "_law_scaled" "_law_scaled" (defArgs s_law_scaled) (defBody s_law_scaled) (defScope s_law_scaled) .none kV29 dc29 pm29 an29 cd29 ct29), sl29⟩) (c29 : PySem.W.codeIn K cd29 "_law_scaled" = true) (k29 : PySem.W.keepIn K (.ref f29) = true)
    {f30 : Addr} {od30 an30 : Option Addr} {sl30 : Array (Option Value)} {oc30 kV30 dc30 pm30 cd30 ct30 : Value}
    (a30 : PySem.W.nsIn K mainGlobals "_law_joined" = some (some (.ref f30)))
    (l30 : K.lookup f30 = some ⟨oc30, od30, .func (PySem.W.fnOf "_law_joined" "_law_joined" (defArgs s_law_joined) (defBody s_law_joined) (defScope s_law_joined) .none kV30 dc30 pm30 an30 cd30 ct30), sl30⟩) (c30 : PySem.W.codeIn K cd30 "_law_joined" = true) (k30 : PySem.W.keepIn K (.ref f30) = true)
    {f31 : Addr} {od31 an31 : Option Addr} {sl31 : Array (Option Value)} {oc31 kV31 dc31 pm31 cd31 ct31 : Value}
    (a31 : PySem.W.nsIn K mainGlobals "_law_det" = some (some (.ref f31)))
    (l31 : K.lookup f31 = some ⟨oc31, od31, .func (PySem.W.fnOf "_law_det" "_law_det" (defArgs s_law_det) (defBody s_law_det) (defScope s_law_det) .none kV31 dc31 pm31 an31 cd31 ct31), sl31⟩) (c31 : PySem.W.codeIn K cd31 "_law_det" = true) (k31 : PySem.W.keepIn K (.ref f31) = true)
    {f32 : Addr} {od32 an32 : Option Addr} {sl32 : Array (Option Value)} {oc32 kV32 dc32 pm32 cd32 ct32 : Value}
    (a32 : PySem.W.nsIn K mainGlobals "_law_left_by" = some (some (.ref f32)))
    (l32 : K.lookup f32 = some ⟨oc32, od32, .func (PySem.W.fnOf "_law_left_by" "_law_left_by" (defArgs s_law_left_by) (defBody s_law_left_by) (defScope s_law_left_by) .none kV32 dc32 pm32 an32 cd32 ct32), sl32⟩) (c32 : PySem.W.codeIn K cd32 "_law_left_by" = true) (k32 : PySem.W.keepIn K (.ref f32) = true)
    {f33 : Addr} {od33 an33 : Option Addr} {sl33 : Array (Option Value)} {oc33 kV33 dc33 pm33 cd33 ct33 : Value}
    (a33 : PySem.W.nsIn K mainGlobals "_law_undo_by" = some (some (.ref f33)))
    (l33 : K.lookup f33 = some ⟨oc33, od33, .func (PySem.W.fnOf "_law_undo_by" "_law_undo_by" (defArgs s_law_undo_by) (defBody s_law_undo_by) (defScope s_law_undo_by) .none kV33 dc33 pm33 an33 cd33 ct33), sl33⟩) (c33 : PySem.W.codeIn K cd33 "_law_undo_by" = true) (k33 : PySem.W.keepIn K (.ref f33) = true)
    {f34 : Addr} {od34 an34 : Option Addr} {sl34 : Array (Option Value)} {oc34 kV34 dc34 pm34 cd34 ct34 : Value}
    (a34 : PySem.W.nsIn K mainGlobals "_law_first_one" = some (some (.ref f34)))
    (l34 : K.lookup f34 = some ⟨oc34, od34, .func (PySem.W.fnOf "_law_first_one" "_law_first_one" (defArgs s_law_first_one) (defBody s_law_first_one) (defScope s_law_first_one) .none kV34 dc34 pm34 an34 cd34 ct34), sl34⟩) (c34 : PySem.W.codeIn K cd34 "_law_first_one" = true) (k34 : PySem.W.keepIn K (.ref f34) = true)
    {f35 : Addr} {od35 an35 : Option Addr} {sl35 : Array (Option Value)} {oc35 kV35 dc35 pm35 cd35 ct35 : Value}
    (a35 : PySem.W.nsIn K mainGlobals "_law_some_prime" = some (some (.ref f35)))
    (l35 : K.lookup f35 = some ⟨oc35, od35, .func (PySem.W.fnOf "_law_some_prime" "_law_some_prime" (defArgs s_law_some_prime) (defBody s_law_some_prime) (defScope s_law_some_prime) .none kV35 dc35 pm35 an35 cd35 ct35), sl35⟩) (c35 : PySem.W.codeIn K cd35 "_law_some_prime" = true) (k35 : PySem.W.keepIn K (.ref f35) = true)
    {f36 : Addr} {od36 an36 : Option Addr} {sl36 : Array (Option Value)} {oc36 kV36 dc36 pm36 cd36 ct36 : Value}
    (a36 : PySem.W.nsIn K mainGlobals "_law_prime_point" = some (some (.ref f36)))
    (l36 : K.lookup f36 = some ⟨oc36, od36, .func (PySem.W.fnOf "_law_prime_point" "_law_prime_point" (defArgs s_law_prime_point) (defBody s_law_prime_point) (defScope s_law_prime_point) .none kV36 dc36 pm36 an36 cd36 ct36), sl36⟩) (c36 : PySem.W.codeIn K cd36 "_law_prime_point" = true) (k36 : PySem.W.keepIn K (.ref f36) = true)
    {f37 : Addr} {od37 an37 : Option Addr} {sl37 : Array (Option Value)} {oc37 kV37 dc37 pm37 cd37 ct37 : Value}
    (a37 : PySem.W.nsIn K mainGlobals "_law_prime_table" = some (some (.ref f37)))
    (l37 : K.lookup f37 = some ⟨oc37, od37, .func (PySem.W.fnOf "_law_prime_table" "_law_prime_table" (defArgs s_law_prime_table) (defBody s_law_prime_table) (defScope s_law_prime_table) .none kV37 dc37 pm37 an37 cd37 ct37), sl37⟩) (c37 : PySem.W.codeIn K cd37 "_law_prime_table" = true) (k37 : PySem.W.keepIn K (.ref f37) = true)
    {f38 : Addr} {od38 an38 : Option Addr} {sl38 : Array (Option Value)} {oc38 kV38 dc38 pm38 cd38 ct38 : Value}
    (a38 : PySem.W.nsIn K mainGlobals "_law_led_by" = some (some (.ref f38)))
    (l38 : K.lookup f38 = some ⟨oc38, od38, .func (PySem.W.fnOf "_law_led_by" "_law_led_by" (defArgs s_law_led_by) (defBody s_law_led_by) (defScope s_law_led_by) .none kV38 dc38 pm38 an38 cd38 ct38), sl38⟩) (c38 : PySem.W.codeIn K cd38 "_law_led_by" = true) (k38 : PySem.W.keepIn K (.ref f38) = true)
    {f39 : Addr} {od39 an39 : Option Addr} {sl39 : Array (Option Value)} {oc39 kV39 dc39 pm39 cd39 ct39 : Value}
    (a39 : PySem.W.nsIn K mainGlobals "_law_points_by" = some (some (.ref f39)))
    (l39 : K.lookup f39 = some ⟨oc39, od39, .func (PySem.W.fnOf "_law_points_by" "_law_points_by" (defArgs s_law_points_by) (defBody s_law_points_by) (defScope s_law_points_by) .none kV39 dc39 pm39 an39 cd39 ct39), sl39⟩) (c39 : PySem.W.codeIn K cd39 "_law_points_by" = true) (k39 : PySem.W.keepIn K (.ref f39) = true)
    {f40 : Addr} {od40 an40 : Option Addr} {sl40 : Array (Option Value)} {oc40 kV40 dc40 pm40 cd40 ct40 : Value}
    (a40 : PySem.W.nsIn K mainGlobals "_law_plain_table" = some (some (.ref f40)))
    (l40 : K.lookup f40 = some ⟨oc40, od40, .func (PySem.W.fnOf "_law_plain_table" "_law_plain_table" (defArgs s_law_plain_table) (defBody s_law_plain_table) (defScope s_law_plain_table) .none kV40 dc40 pm40 an40 cd40 ct40), sl40⟩) (c40 : PySem.W.codeIn K cd40 "_law_plain_table" = true) (k40 : PySem.W.keepIn K (.ref f40) = true)
    {f41 : Addr} {od41 an41 : Option Addr} {sl41 : Array (Option Value)} {oc41 kV41 dc41 pm41 cd41 ct41 : Value}
    (a41 : PySem.W.nsIn K mainGlobals "_law_three" = some (some (.ref f41)))
    (l41 : K.lookup f41 = some ⟨oc41, od41, .func (PySem.W.fnOf "_law_three" "_law_three" (defArgs s_law_three) (defBody s_law_three) (defScope s_law_three) .none kV41 dc41 pm41 an41 cd41 ct41), sl41⟩) (c41 : PySem.W.codeIn K cd41 "_law_three" = true) (k41 : PySem.W.keepIn K (.ref f41) = true)
    {f42 : Addr} {od42 an42 : Option Addr} {sl42 : Array (Option Value)} {oc42 kV42 dc42 pm42 cd42 ct42 : Value}
    (a42 : PySem.W.nsIn K mainGlobals "_law_leads_three" = some (some (.ref f42)))
    (l42 : K.lookup f42 = some ⟨oc42, od42, .func (PySem.W.fnOf "_law_leads_three" "_law_leads_three" (defArgs s_law_leads_three) (defBody s_law_leads_three) (defScope s_law_leads_three) .none kV42 dc42 pm42 an42 cd42 ct42), sl42⟩) (c42 : PySem.W.codeIn K cd42 "_law_leads_three" = true) (k42 : PySem.W.keepIn K (.ref f42) = true)
    {f43 : Addr} {od43 an43 : Option Addr} {sl43 : Array (Option Value)} {oc43 kV43 dc43 pm43 cd43 ct43 : Value}
    (a43 : PySem.W.nsIn K mainGlobals "_law_all_between" = some (some (.ref f43)))
    (l43 : K.lookup f43 = some ⟨oc43, od43, .func (PySem.W.fnOf "_law_all_between" "_law_all_between" (defArgs s_law_all_between) (defBody s_law_all_between) (defScope s_law_all_between) .none kV43 dc43 pm43 an43 cd43 ct43), sl43⟩) (c43 : PySem.W.codeIn K cd43 "_law_all_between" = true) (k43 : PySem.W.keepIn K (.ref f43) = true)
    {f44 : Addr} {od44 an44 : Option Addr} {sl44 : Array (Option Value)} {oc44 kV44 dc44 pm44 cd44 ct44 : Value}
    (a44 : PySem.W.nsIn K mainGlobals "_law_right" = some (some (.ref f44)))
    (l44 : K.lookup f44 = some ⟨oc44, od44, .func (PySem.W.fnOf "_law_right" "_law_right" (defArgs s_law_right) (defBody s_law_right) (defScope s_law_right) .none kV44 dc44 pm44 an44 cd44 ct44), sl44⟩) (c44 : PySem.W.codeIn K cd44 "_law_right" = true) (k44 : PySem.W.keepIn K (.ref f44) = true)
    {f45 : Addr} {od45 an45 : Option Addr} {sl45 : Array (Option Value)} {oc45 kV45 dc45 pm45 cd45 ct45 : Value}
    (a45 : PySem.W.nsIn K mainGlobals "law" = some (some (.ref f45)))
    (l45 : K.lookup f45 = some ⟨oc45, od45, .func (PySem.W.fnOf "law" "law" (defArgs s_law) (defBody s_law) (defScope s_law) .none kV45 dc45 pm45 an45 cd45 ct45), sl45⟩) (c45 : PySem.W.codeIn K cd45 "law" = true) (k45 : PySem.W.keepIn K (.ref f45) = true)
    (z0 : PySem.W.nsIn K mainGlobals "abs" = some none)
    (z1 : PySem.W.nsIn K mainGlobals "all" = some none)
    (z2 : PySem.W.nsIn K mainGlobals "bool" = some none)
    (z3 : PySem.W.nsIn K mainGlobals "enumerate" = some none)
    (z4 : PySem.W.nsIn K mainGlobals "int" = some none)
    (z5 : PySem.W.nsIn K mainGlobals "isinstance" = some none)
    (z6 : PySem.W.nsIn K mainGlobals "len" = some none)
    (z7 : PySem.W.nsIn K mainGlobals "list" = some none)
    (z8 : PySem.W.nsIn K mainGlobals "max" = some none)
    (z9 : PySem.W.nsIn K mainGlobals "min" = some none)
    (z10 : PySem.W.nsIn K mainGlobals "range" = some none)
    (z11 : PySem.W.nsIn K mainGlobals "set" = some none)
    (z12 : PySem.W.nsIn K mainGlobals "tuple" = some none)
    (z13 : PySem.W.nsIn K mainGlobals "zip" = some none)
    {t0 : Tok} (q0 : PySem.W.nsIn K mainGlobals "TOO_LONG" = some (some (.int 1000000000000000000000000000000000000000000000000000000000000 t0)))
    {oT0 : Addr} {dT0 : Option Addr} {iT0 : Array Value} {nT0 : Nat} {sT0 : Array (Option Value)} (y0 : PySem.W.nsIn K mainGlobals "PRIMES" = some (some (.ref oT0))) (x0 : K.lookup oT0 = some ⟨.type "tuple", dT0, .seq iT0 nT0, sT0⟩) (w0 : iT0.toList.map intOf = ([13, 17, 19, 23, 29, 31, 37, 41, 43, 47, 53, 59, 61, 67, 71, 73, 79, 83, 89, 97, 101] : List Int).map some)
    : ∃ fd : FuncData, (∀ (s : Shared) (v : Value), BindsTo s fd ⟨[v], []⟩ [("_law_script", v)]) ∧ ∀ base : Heap, K.In base → base.Ns mainGlobals mg → FnOk l.prog w K mg base CX0 9 fa fd ["_law_script"] (sp_law K) := by
  have e := hfa.symm.trans (PySem.W.mg_of X G a45)
  cases e
  have F0 := fun_mk (st := s_is_integer) l0 c0 k0
  have b0 := F0.binds (ps := p_is_integer) fun _ _ _ _ _ _ us hl => by obtain ⟨_, rfl⟩ := us1 hl; rfl
  have F1 := fun_mk (st := s_is_row) l1 c1 k1
  have b1 := F1.binds (ps := p_is_row) fun _ _ _ _ _ _ us hl => by obtain ⟨_, rfl⟩ := us1 hl; rfl
  have F2 := fun_mk (st := s_is_pair) l2 c2 k2
  have b2 := F2.binds (ps := p_is_pair) fun _ _ _ _ _ _ us hl => by obtain ⟨_, rfl⟩ := us1 hl; rfl
  have F3 := fun_mk (st := s_is_change) l3 c3 k3
  have b3 := F3.binds (ps := p_is_change) fun _ _ _ _ _ _ us hl => by obtain ⟨_, rfl⟩ := us1 hl; rfl
  have F4 := fun_mk (st := s_lead_of) l4 c4 k4
  have b4 := F4.binds (ps := p_lead_of) fun _ _ _ _ _ _ us hl => by obtain ⟨_, rfl⟩ := us1 hl; rfl
  have F5 := fun_mk (st := s_modulo) l5 c5 k5
  have b5 := F5.binds (ps := p_modulo) fun _ _ _ _ _ _ us hl => by obtain ⟨_, _, rfl⟩ := us2 hl; rfl
  have F6 := fun_mk (st := s_power_of) l6 c6 k6
  have b6 := F6.binds (ps := p_power_of) fun _ _ _ _ _ _ us hl => by obtain ⟨_, _, _, rfl⟩ := us3 hl; rfl
  have F7 := fun_mk (st := s_inverse_of) l7 c7 k7
  have b7 := F7.binds (ps := p_inverse_of) fun _ _ _ _ _ _ us hl => by obtain ⟨_, _, rfl⟩ := us2 hl; rfl
  have F8 := fun_mk (st := s_plain_row) l8 c8 k8
  have b8 := F8.binds (ps := p_plain_row) fun _ _ _ _ _ _ us hl => by obtain ⟨_, _, rfl⟩ := us2 hl; rfl
  have F9 := fun_mk (st := s_need_prime) l9 c9 k9
  have b9 := F9.binds (ps := p_need_prime) fun _ _ _ _ _ _ us hl => by obtain ⟨_, rfl⟩ := us1 hl; rfl
  have F10 := fun_mk (st := s_is_prime_point) l10 c10 k10
  have b10 := F10.binds (ps := p_is_prime_point) fun _ _ _ _ _ _ us hl => by obtain ⟨_, _, rfl⟩ := us2 hl; rfl
  have F11 := fun_mk (st := s_need_prime_point) l11 c11 k11
  have b11 := F11.binds (ps := p_need_prime_point) fun _ _ _ _ _ _ us hl => by obtain ⟨_, _, rfl⟩ := us2 hl; rfl
  have F12 := fun_mk (st := s_determinant_of) l12 c12 k12
  have b12 := F12.binds (ps := p_determinant_of) fun _ _ _ _ _ _ us hl => by obtain ⟨_, rfl⟩ := us1 hl; rfl
  have F13 := fun_mk (st := s_need_prime_table) l13 c13 k13
  have b13 := F13.binds (ps := p_need_prime_table) fun _ _ _ _ _ _ us hl => by obtain ⟨_, _, rfl⟩ := us2 hl; rfl
  have F14 := fun_mk (st := s_all_points) l14 c14 k14
  have b14 := F14.binds (ps := p_all_points) fun _ _ _ _ _ _ us hl => by obtain ⟨_, rfl⟩ := us1 hl; rfl
  have F15 := fun_mk (st := s_led_row) l15 c15 k15
  have b15 := F15.binds (ps := p_led_row) fun _ _ _ _ _ _ us hl => by obtain ⟨_, _, _, rfl⟩ := us3 hl; rfl
  have F16 := fun_mk (st := s_led_point) l16 c16 k16
  have b16 := F16.binds (ps := p_led_point) fun _ _ _ _ _ _ us hl => by obtain ⟨_, _, _, rfl⟩ := us3 hl; rfl
  have F17 := fun_mk (st := s_plain_change) l17 c17 k17
  have b17 := F17.binds (ps := p_plain_change) fun _ _ _ _ _ _ us hl => by obtain ⟨_, _, rfl⟩ := us2 hl; rfl
  have F18 := fun_mk (st := s_plain_table) l18 c18 k18
  have b18 := F18.binds (ps := p_plain_table) fun _ _ _ _ _ _ us hl => by obtain ⟨_, _, rfl⟩ := us2 hl; rfl
  have F19 := fun_mk (st := s_product_of_changes) l19 c19 k19
  have b19 := F19.binds (ps := p_product_of_changes) fun _ _ _ _ _ _ us hl => by obtain ⟨_, _, rfl⟩ := us2 hl; rfl
  have F20 := fun_mk (st := s_undone_change) l20 c20 k20
  have b20 := F20.binds (ps := p_undone_change) fun _ _ _ _ _ _ us hl => by obtain ⟨_, rfl⟩ := us1 hl; rfl
  have F21 := fun_mk (st := s_frame_of) l21 c21 k21
  have b21 := F21.binds (ps := p_frame_of) fun _ _ _ _ _ _ us hl => by obtain ⟨_, rfl⟩ := us1 hl; rfl
  have F22 := fun_mk (st := s_need_three) l22 c22 k22
  have b22 := F22.binds (ps := p_need_three) fun _ _ _ _ _ _ us hl => by obtain ⟨_, _, rfl⟩ := us2 hl; rfl
  have F23 := fun_mk (st := s_table_by_three) l23 c23 k23
  have b23 := F23.binds (ps := p_table_by_three) fun _ _ _ _ _ _ us hl => by obtain ⟨_, _, _, rfl⟩ := us3 hl; rfl
  have F24 := fun_mk (st := s_law_dice) l24 c24 k24
  have b24 := F24.binds (ps := p_law_dice) fun _ _ _ _ _ _ us hl => by obtain ⟨_, _, rfl⟩ := us2 hl; rfl
  have F25 := fun_mk (st := s_law_roll) l25 c25 k25
  have b25 := F25.binds (ps := p_law_roll) fun _ _ _ _ _ _ us hl => by obtain ⟨_, _, rfl⟩ := us2 hl; rfl
  have F26 := fun_mk (st := s_law_pick) l26 c26 k26
  have b26 := F26.binds (ps := p_law_pick) fun _ _ _ _ _ _ us hl => by obtain ⟨_, _, rfl⟩ := us2 hl; rfl
  have F27 := fun_mk (st := s_law_mixed) l27 c27 k27
  have b27 := F27.binds (ps := p_law_mixed) fun _ _ _ _ _ _ us hl => by obtain ⟨_, _, rfl⟩ := us2 hl; rfl
  have F28 := fun_mk (st := s_law_near) l28 c28 k28
  have b28 := F28.binds (ps := p_law_near) fun _ _ _ _ _ _ us hl => by obtain ⟨_, _, rfl⟩ := us2 hl; rfl
  have F29 := fun_mk (st := s_law_scaled) l29 c29 k29
  have b29 := F29.binds (ps := p_law_scaled) fun _ _ _ _ _ _ us hl => by obtain ⟨_, _, rfl⟩ := us2 hl; rfl
  have F30 := fun_mk (st := s_law_joined) l30 c30 k30
  have b30 := F30.binds (ps := p_law_joined) fun _ _ _ _ _ _ us hl => by obtain ⟨_, _, rfl⟩ := us2 hl; rfl
  have F31 := fun_mk (st := s_law_det) l31 c31 k31
  have b31 := F31.binds (ps := p_law_det) fun _ _ _ _ _ _ us hl => by obtain ⟨_, rfl⟩ := us1 hl; rfl
  have F32 := fun_mk (st := s_law_left_by) l32 c32 k32
  have b32 := F32.binds (ps := p_law_left_by) fun _ _ _ _ _ _ us hl => by obtain ⟨_, _, rfl⟩ := us2 hl; rfl
  have F33 := fun_mk (st := s_law_undo_by) l33 c33 k33
  have b33 := F33.binds (ps := p_law_undo_by) fun _ _ _ _ _ _ us hl => by obtain ⟨_, _, rfl⟩ := us2 hl; rfl
  have F34 := fun_mk (st := s_law_first_one) l34 c34 k34
  have b34 := F34.binds (ps := p_law_first_one) fun _ _ _ _ _ _ us hl => by obtain ⟨_, _, rfl⟩ := us2 hl; rfl
  have F35 := fun_mk (st := s_law_some_prime) l35 c35 k35
  have b35 := F35.binds (ps := p_law_some_prime) fun _ _ _ _ _ _ us hl => by obtain ⟨_, rfl⟩ := us1 hl; rfl
  have F36 := fun_mk (st := s_law_prime_point) l36 c36 k36
  have b36 := F36.binds (ps := p_law_prime_point) fun _ _ _ _ _ _ us hl => by obtain ⟨_, _, rfl⟩ := us2 hl; rfl
  have F37 := fun_mk (st := s_law_prime_table) l37 c37 k37
  have b37 := F37.binds (ps := p_law_prime_table) fun _ _ _ _ _ _ us hl => by obtain ⟨_, _, rfl⟩ := us2 hl; rfl
  have F38 := fun_mk (st := s_law_led_by) l38 c38 k38
  have b38 := F38.binds (ps := p_law_led_by) fun _ _ _ _ _ _ us hl => by obtain ⟨_, _, _, rfl⟩ := us3 hl; rfl
  have F39 := fun_mk (st := s_law_points_by) l39 c39 k39
  have b39 := F39.binds (ps := p_law_points_by) fun _ _ _ _ _ _ us hl => by obtain ⟨_, rfl⟩ := us1 hl; rfl
  have F40 := fun_mk (st := s_law_plain_table) l40 c40 k40
  have b40 := F40.binds (ps := p_law_plain_table) fun _ _ _ _ _ _ us hl => by obtain ⟨_, _, rfl⟩ := us2 hl; rfl
  have F41 := fun_mk (st := s_law_three) l41 c41 k41
  have b41 := F41.binds (ps := p_law_three) fun _ _ _ _ _ _ us hl => by obtain ⟨_, _, rfl⟩ := us2 hl; rfl
  have F42 := fun_mk (st := s_law_leads_three) l42 c42 k42
  have b42 := F42.binds (ps := p_law_leads_three) fun _ _ _ _ _ _ us hl => by obtain ⟨_, _, _, _, rfl⟩ := us4 hl; rfl
  have F43 := fun_mk (st := s_law_all_between) l43 c43 k43
  have b43 := F43.binds (ps := p_law_all_between) fun _ _ _ _ _ _ us hl => by obtain ⟨_, _, _, rfl⟩ := us3 hl; rfl
  have F44 := fun_mk (st := s_law_right) l44 c44 k44
  have b44 := F44.binds (ps := p_law_right) fun _ _ _ _ _ _ us hl => by obtain ⟨_, rfl⟩ := us1 hl; rfl
  have F45 := fun_mk (st := s_law) l45 c45 k45
  have b45 := F45.binds (ps := p_law) fun _ _ _ _ _ _ us hl => by obtain ⟨_, rfl⟩ := us1 hl; rfl
  let T : Tx K mg := ⟨_, _, F0, b0, PySem.W.mg_of X G a0, _, _, F1, b1, PySem.W.mg_of X G a1, _, _, F2, b2, PySem.W.mg_of X G a2, _, _, F3, b3, PySem.W.mg_of X G a3, _, _, F4, b4, PySem.W.mg_of X G a4, _, _, F5, b5, PySem.W.mg_of X G a5, _, _, F6, b6, PySem.W.mg_of X G a6, _, _, F7, b7, PySem.W.mg_of X G a7, _, _, F8, b8, PySem.W.mg_of X G a8, _, _, F9, b9, PySem.W.mg_of X G a9, _, _, F10, b10, PySem.W.mg_of X G a10, _, _, F11, b11, PySem.W.mg_of X G a11, _, _, F12, b12, PySem.W.mg_of X G a12, _, _, F13, b13, PySem.W.mg_of X G a13, _, _, F14, b14, PySem.W.mg_of X G a14, _, _, F15, b15, PySem.W.mg_of X G a15, _, _, F16, b16, PySem.W.mg_of X G a16, _, _, F17, b17, PySem.W.mg_of X G a17, _, _, F18, b18, PySem.W.mg_of X G a18, _, _, F19, b19, PySem.W.mg_of X G a19, _, _, F20, b20, PySem.W.mg_of X G a20, _, _, F21, b21, PySem.W.mg_of X G a21, _, _, F22, b22, PySem.W.mg_of X G a22, _, _, F23, b23, PySem.W.mg_of X G a23, _, _, F24, b24, PySem.W.mg_of X G a24, _, _, F25, b25, PySem.W.mg_of X G a25, _, _, F26, b26, PySem.W.mg_of X G a26, _, _, F27, b27, PySem.W.mg_of X G a27, _, _, F28, b28, PySem.W.mg_of X G a28, _, _, F29, b29, PySem.W.mg_of X G a29, _, _, F30, b30, PySem.W.mg_of X G a30, _, _, F31, b31, PySem.W.mg_of X G a31, _, _, F32, b32, PySem.W.mg_of X G a32, _, _, F33, b33, PySem.W.mg_of X G a33, _, _, F34, b34, PySem.W.mg_of X G a34, _, _, F35, b35, PySem.W.mg_of X G a35, _, _, F36, b36, PySem.W.mg_of X G a36, _, _, F37, b37, PySem.W.mg_of X G a37, _, _, F38, b38, PySem.W.mg_of X G a38, _, _, F39, b39, PySem.W.mg_of X G a39, _, _, F40, b40, PySem.W.mg_of X G a40, _, _, F41, b41, PySem.W.mg_of X G a41, _, _, F42, b42, PySem.W.mg_of X G a42, _, _, F43, b43, PySem.W.mg_of X G a43, _, _, F44, b44, PySem.W.mg_of X G a44, _, _, F45, b45, PySem.W.mg_of X G a45, PySem.W.mg_none_of X G z0, PySem.W.mg_none_of X G z1, PySem.W.mg_none_of X G z2, PySem.W.mg_none_of X G z3, PySem.W.mg_none_of X G z4, PySem.W.mg_none_of X G z5, PySem.W.mg_none_of X G z6, PySem.W.mg_none_of X G z7, PySem.W.mg_none_of X G z8, PySem.W.mg_none_of X G z9, PySem.W.mg_none_of X G z10, PySem.W.mg_none_of X G z11, PySem.W.mg_none_of X G z12, PySem.W.mg_none_of X G z13, _, PySem.W.mg_of X G q0, _, PySem.W.mg_of X G y0, fun _ => sqT_const x0 w0 (by decide)⟩
  exact ⟨_, fun s v => .of_eq rfl, fun base _ _ => ok_law T⟩
end My
open PySem PySem.W PyProof.Rows
set_option maxHeartbeats 0 in
theorem PySem.Challenge.cw_sourceforms_k50_whole_prime_points_and_t_holds : PySem.Challenge.rw_sourceforms_k50_whole_prime_points_and_t.Holds := by
  w_on; o_law
  refine HandSHeadRun.head_any (r := OpenLaw.row PySem.Challenge.rw_sourceforms_k50_whole_prime_points_and_t) (q := My.qv) (H := My.hk0) (ob := My.ob0) (M := 20000) (loose := My.nms) (kwd := []) My.ob0_eq (by kernel_rfl) (fun s => by kernel_rfl) My.run0 (by rfl) (by rfl) (by rfl) (by rfl) (by first | assumption | decide +kernel) (by decide +kernel) ⟨rfl, rfl, rfl, rfl, rfl, by decide +kernel⟩ ?hw ?hc
  case hw => w_witness2
  k_fill
  refine L2.walk_of (l := PySem.Challenge.rw_sourceforms_k50_whole_prime_points_and_t) (n := 63) (k := 9) (x := "_law_script") (CX := fun _ => L2.CX0) (sp := fun w => My.sp_law _) rfl (by decide) rfl ⟨rfl, by decide, by decide⟩ (fun w h Y => PySem.W.kIn_of Y) ?F (fun _ _ a ns hl _ hS => ⟨a, ns, rfl, hS, hl, fun _ => rfl⟩) (fun _ _ _ _ _ h => h)
  case F =>
    intro w mg fa h KX G hmg
    refine' My.all_mk KX G hmg ?a0 ?l0 ?c0 ?k0 ?a1 ?l1 ?c1 ?k1 ?a2 ?l2 ?c2 ?k2 ?a3 ?l3 ?c3 ?k3 ?a4 ?l4 ?c4 ?k4 ?a5 ?l5 ?c5 ?k5 ?a6 ?l6 ?c6 ?k6 ?a7 ?l7 ?c7 ?k7 ?a8 ?l8 ?c8 ?k8 ?a9 ?l9 ?c9 ?k9 ?a10 ?l10 ?c10 ?k10 ?a11 ?l11 ?c11 ?k11 ?a12 ?l12 ?c12 ?k12 ?a13 ?l13 ?c13 ?k13 ?a14 ?l14 ?c14 ?k14 ?a15 ?l15 ?c15 ?k15 ?a16 ?l16 ?c16 ?k16 ?a17 ?l17 ?c17 ?k17 ?a18 ?l18 ?c18 ?k18 ?a19 ?l19 ?c19 ?k19 ?a20 ?l20 ?c20 ?k20 ?a21 ?l21 ?c21 ?k21 ?a22 ?l22 ?c22 ?k22 ?a23 ?l23 ?c23 ?k23 ?a24 ?l24 ?c24 ?k24 ?a25 ?l25 ?c25 ?k25 ?a26 ?l26 ?c26 ?k26 ?a27 ?l27 ?c27 ?k27 ?a28 ?l28 ?c28 ?k28 ?a29 ?l29 ?c29 ?k29 ?a30 ?l30 ?c30 ?k30 ?a31 ?l31 ?c31 ?k31 ?a32 ?l32 ?c32 ?k32 ?a33 ?l33 ?c33 ?k33 ?a34 ?l34 ?c34 ?k34 ?a35 ?l35 ?c35 ?k35 ?a36 ?l36 ?c36 ?k36 ?a37 ?l37 ?c37 ?k37 ?a38 ?l38 ?c38 ?k38 ?a39 ?l39 ?c39 ?k39 ?a40 ?l40 ?c40 ?k40 ?a41 ?l41 ?c41 ?k41 ?a42 ?l42 ?c42 ?k42 ?a43 ?l43 ?c43 ?k43 ?a44 ?l44 ?c44 ?k44 ?a45 ?l45 ?c45 ?k45 ?z0 ?z1 ?z2 ?z3 ?z4 ?z5 ?z6 ?z7 ?z8 ?z9 ?z10 ?z11 ?z12 ?z13 ?q0 ?y0 ?x0 ?w0
    (case a0 => k_is)
    (case l0 => k_is)
    (case c0 => k_is)
    (case k0 => k_is)
    (case a1 => k_is)
    (case l1 => k_is)
    (case c1 => k_is)
    (case k1 => k_is)
    (case a2 => k_is)
    (case l2 => k_is)
    (case c2 => k_is)
    (case k2 => k_is)
    (case a3 => k_is)
    (case l3 => k_is)
    (case c3 => k_is)
    (case k3 => k_is)
    (case a4 => k_is)
    (case l4 => k_is)
    (case c4 => k_is)
    (case k4 => k_is)
    (case a5 => k_is)
    (case l5 => k_is)
    (case c5 => k_is)
    (case k5 => k_is)
    (case a6 => k_is)
    (case l6 => k_is)
    (case c6 => k_is)
    (case k6 => k_is)
    (case a7 => k_is)
    (case l7 => k_is)
    (case c7 => k_is)
    (case k7 => k_is)
    (case a8 => k_is)
    (case l8 => k_is)
    (case c8 => k_is)
    (case k8 => k_is)
    (case a9 => k_is)
    (case l9 => k_is)
    (case c9 => k_is)
    (case k9 => k_is)
    (case a10 => k_is)
    (case l10 => k_is)
    (case c10 => k_is)
    (case k10 => k_is)
    (case a11 => k_is)
    (case l11 => k_is)
    (case c11 => k_is)
    (case k11 => k_is)
    (case a12 => k_is)
    (case l12 => k_is)
    (case c12 => k_is)
    (case k12 => k_is)
    (case a13 => k_is)
    (case l13 => k_is)
    (case c13 => k_is)
    (case k13 => k_is)
    (case a14 => k_is)
    (case l14 => k_is)
    (case c14 => k_is)
    (case k14 => k_is)
    (case a15 => k_is)
    (case l15 => k_is)
    (case c15 => k_is)
    (case k15 => k_is)
    (case a16 => k_is)
    (case l16 => k_is)
    (case c16 => k_is)
    (case k16 => k_is)
    (case a17 => k_is)
    (case l17 => k_is)
    (case c17 => k_is)
    (case k17 => k_is)
    (case a18 => k_is)
    (case l18 => k_is)
    (case c18 => k_is)
    (case k18 => k_is)
    (case a19 => k_is)
    (case l19 => k_is)
    (case c19 => k_is)
    (case k19 => k_is)
    (case a20 => k_is)
    (case l20 => k_is)
    (case c20 => k_is)
    (case k20 => k_is)
    (case a21 => k_is)
    (case l21 => k_is)
    (case c21 => k_is)
    (case k21 => k_is)
    (case a22 => k_is)
    (case l22 => k_is)
    (case c22 => k_is)
    (case k22 => k_is)
    (case a23 => k_is)
    (case l23 => k_is)
    (case c23 => k_is)
    (case k23 => k_is)
    (case a24 => k_is)
    (case l24 => k_is)
    (case c24 => k_is)
    (case k24 => k_is)
    (case a25 => k_is)
    (case l25 => k_is)
    (case c25 => k_is)
    (case k25 => k_is)
    (case a26 => k_is)
    (case l26 => k_is)
    (case c26 => k_is)
    (case k26 => k_is)
    (case a27 => k_is)
    (case l27 => k_is)
    (case c27 => k_is)
    (case k27 => k_is)
    (case a28 => k_is)
    (case l28 => k_is)
    (case c28 => k_is)
    (case k28 => k_is)
    (case a29 => k_is)
    (case l29 => k_is)
    (case c29 => k_is)
    (case k29 => k_is)
    (case a30 => k_is)
    (case l30 => k_is)
    (case c30 => k_is)
    (case k30 => k_is)
    (case a31 => k_is)
    (case l31 => k_is)
    (case c31 => k_is)
    (case k31 => k_is)
    (case a32 => k_is)
    (case l32 => k_is)
    (case c32 => k_is)
    (case k32 => k_is)
    (case a33 => k_is)
    (case l33 => k_is)
    (case c33 => k_is)
    (case k33 => k_is)
    (case a34 => k_is)
    (case l34 => k_is)
    (case c34 => k_is)
    (case k34 => k_is)
    (case a35 => k_is)
    (case l35 => k_is)
    (case c35 => k_is)
    (case k35 => k_is)
    (case a36 => k_is)
    (case l36 => k_is)
    (case c36 => k_is)
    (case k36 => k_is)
    (case a37 => k_is)
    (case l37 => k_is)
    (case c37 => k_is)
    (case k37 => k_is)
    (case a38 => k_is)
    (case l38 => k_is)
    (case c38 => k_is)
    (case k38 => k_is)
    (case a39 => k_is)
    (case l39 => k_is)
    (case c39 => k_is)
    (case k39 => k_is)
    (case a40 => k_is)
    (case l40 => k_is)
    (case c40 => k_is)
    (case k40 => k_is)
    (case a41 => k_is)
    (case l41 => k_is)
    (case c41 => k_is)
    (case k41 => k_is)
    (case a42 => k_is)
    (case l42 => k_is)
    (case c42 => k_is)
    (case k42 => k_is)
    (case a43 => k_is)
    (case l43 => k_is)
    (case c43 => k_is)
    (case k43 => k_is)
    (case a44 => k_is)
    (case l44 => k_is)
    (case c44 => k_is)
    (case k44 => k_is)
    (case a45 => k_is)
    (case l45 => k_is)
    (case c45 => k_is)
    (case k45 => k_is)
    (case z0 => k_is)
    (case z1 => k_is)
    (case z2 => k_is)
    (case z3 => k_is)
    (case z4 => k_is)
    (case z5 => k_is)
    (case z6 => k_is)
    (case z7 => k_is)
    (case z8 => k_is)
    (case z9 => k_is)
    (case z10 => k_is)
    (case z11 => k_is)
    (case z12 => k_is)
    (case z13 => k_is)
    (case q0 => k_is)
    (case y0 => k_is)
    (case x0 => k_is)
    (case w0 => rfl)

