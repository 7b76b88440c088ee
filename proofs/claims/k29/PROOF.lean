import PyProof.Rows.All
import Wide.All
import OpenK.AllK
import Wide.FinOn
import HandS.ForMost
import HandS.Wide
import HandS.IsInst
import HandS.Zip
import HandS.Style
import HandS.Gcd
import HandS.FStr
import HandS.Evl
import KE.GoesEnum
import HandS.SlotsOwn
import HandS.Property
import KE.KOpsOwn
import HandS.WideBits
import KE.KMathGC
import HandS.TupLe
import KE.KFmtOwn
import PyProof.FactsAll.object_2
import HandS.TupAny
import HandS.ClsMeth
import HandS.OwnIter
import HandS.IterVal
import HandS.Text
import HandS.TupMul
import HandS.RaiseMore
import KE.KCallOwn
import PyProof.FactsLen
import HandS.Deep
import HandS.TupSets
import HandS.Sort
import HandS.ForExc
import KE.KExcInit
import PyProof.NeKinds
import KE.KDictZip
import HandS.RevTup
import KE.KDictDisplayH
import HandS.Dict
import KE.KEqDict
import KE.KDictPairs
import KE.GoesMore
import HandS.DictTup
import HandS.GenList
import HandS.Star
import HandS.Rev
import KE.KDictWalk
import HandS.Conv
import KE.KDictCopyH
import HandS.DictComp
import KE.OsRunLaw
import HandS.Head3
import PySem.Challenge.RW_sourceforms_k29_whole_terms_and_boxes
set_option Elab.async false
set_option linter.all false
set_option maxRecDepth 100000
set_option maxHeartbeats 4000000
/-! rules by values whose readings are settled by what the heap holds -/
namespace Pr
open PySem PySem.Spec PyProof.Rows L2

/-! ### weaker readings -/
section
variable {X : Cx}
theorem opImp {f : Value → Value → Sem Value} {r r' : R2} (h : OpR X f r) (i : ∀ x y H Q, r' x y H Q → r x y H Q) : OpR X f r' :=
  fun pins s σ H x y v u Q I rx ry q => h pins s σ H x y v u Q I rx ry (i _ _ _ _ q)
theorem callImp {f : Value} {r r' : List V → Hp → VK → Prop} (h : CallR X f r) (i : ∀ vs H Q, r' vs H Q → r vs H Q) : CallR X f r' :=
  fun pins s σ H xs us Q I rx q => h pins s σ H xs us Q I rx (i _ _ _ q)
theorem ixImp {r r' : R2} (h : IxR X r) (i : ∀ x y H Q, r' x y H Q → r x y H Q) : IxR X r' :=
  fun va sl pins s σ H x y v u Q I rx ry q e => h va sl pins s σ H x y v u Q I rx ry (i _ _ _ _ q) e
theorem mtImp {id : String} {r r' : V → List V → Hp → VK → Prop} (h : MtM X id r) (i : ∀ x vs H Q, r' x vs H Q → r x vs H Q) : MtM X id r' :=
  fun pins s σ H x xs v us Q I rx rs q => h pins s σ H x xs v us Q I rx rs (i _ _ _ _ q)
theorem setImp {r r' : TSet} (h : PSet X r) (i : ∀ o j v H Q, r' o j v H Q → r o j v H Q) : PSet X r' :=
  fun pins s σ H o j v ov iv u Q I ro ri rv q => h pins s σ H o j v ov iv u Q I ro ri rv (i _ _ _ _ _ q)
end

/-! ### lists and tuples of ints -/
abbrev LI (ns : List Int) : HO := .lst (ns.map V.int)
abbrev TI (ns : List Int) : HO := .tup (ns.map V.int)
theorem map_int_inj {xs ys : List Int} : xs.map V.int = ys.map V.int ↔ xs = ys := by
  constructor
  · intro h
    exact (List.map_inj_right (fun a b e => V.int.inj e)).mp h
  · rintro rfl
    rfl
theorem map_nil_iff {xs : List Int} : ([] : List V) = xs.map V.int ↔ xs = [] := by
  cases xs <;> simp
/-- the item at an int's place -/
def gi (ns : List Int) (i : Int) : Int := ns.getD i.toNat 0
theorem gi_nat (ns : List Int) (i : Nat) : gi ns (i : Int) = ns.getD i 0 := by
  unfold gi
  rw [Int.toNat_natCast]
theorem at_gi {ns : List Int} {i : Int} (h0 : 0 ≤ i) (h1 : i < ns.length) : atI (ns.map V.int) i = some (.int (gi ns i)) := by
  obtain ⟨n, rfl⟩ := Int.eq_ofNat_of_zero_le h0
  have hn : n < ns.length := by omega
  rw [gi_nat]
  refine atI_nat (j := n) ?_
  rw [List.getElem?_map, List.getElem?_eq_getElem hn, List.getD_eq_getElem?_getD, List.getElem?_eq_getElem hn]
  rfl
theorem at_raw {xs : List V} {i : Int} (h0 : 0 ≤ i) (h1 : i < xs.length) : atI xs i = some (xs.getD i.toNat .non) := by
  obtain ⟨n, rfl⟩ := Int.eq_ofNat_of_zero_le h0
  have hn : n < xs.length := by omega
  refine atI_nat (j := n) ?_
  rw [Int.toNat_natCast, List.getElem?_eq_getElem hn, List.getD_eq_getElem?_getD, List.getElem?_eq_getElem hn]
  rfl
theorem atI_neg {xs : List V} {i : Int} (h0 : i < 0) (h1 : -(xs.length : Int) ≤ i) : atI xs i = some (xs.getD (i + xs.length).toNat .non) := by
  unfold atI ixN
  rw [if_neg (by omega), if_pos h1]
  show xs[(i + (xs.length : Int)).toNat]? = _
  rw [List.getElem?_eq_getElem (by omega), List.getD_eq_getElem?_getD, List.getElem?_eq_getElem (by omega)]
  rfl

section
variable {X : Cx}
/-- xs[i], xs a list of ints, the place from the left -/
def rIxLI : R2 := fun x y H Q => ∃ p i, x = .ref p ∧ y = .int i ∧ ∃ ns, H p = some (LI ns) ∧ 0 ≤ i ∧ i < (ns.length : Int) ∧ Q (.int (gi ns i)) H
theorem ix_LI : IxR X rIxLI := ixImp ix_list fun x y H Q ⟨p, i, ex, ey, ns, hp, h0, h1, q⟩ =>
  ⟨p, _, i, _, ex, ey, .inl (.inl hp), at_gi h0 h1, q⟩
def rIxTI : R2 := fun x y H Q => ∃ p i, x = .ref p ∧ y = .int i ∧ ∃ ns, H p = some (TI ns) ∧ 0 ≤ i ∧ i < (ns.length : Int) ∧ Q (.int (gi ns i)) H
theorem ix_TI : IxR X rIxTI := ixImp ix_tup fun x y H Q ⟨p, i, ex, ey, ns, hp, h0, h1, q⟩ =>
  ⟨p, _, i, _, ex, ey, .inl (.inl hp), at_gi h0 h1, q⟩
/-- xs[i], xs a list or tuple of any things -/
def rIxLV : R2 := fun x y H Q => ∃ p i, x = .ref p ∧ y = .int i ∧ ∃ xs, H p = some (.lst xs) ∧ ∃ v, atI xs i = some v ∧ Q v H
theorem ix_LV : IxR X rIxLV := ixImp ix_list fun x y H Q ⟨p, i, ex, ey, xs, hp, v, hv, q⟩ => ⟨p, xs, i, v, ex, ey, .inl (.inl hp), hv, q⟩
def rIxTV : R2 := fun x y H Q => ∃ p i, x = .ref p ∧ y = .int i ∧ ∃ xs, H p = some (.tup xs) ∧ ∃ v, atI xs i = some v ∧ Q v H
theorem ix_TV : IxR X rIxTV := ixImp ix_tup fun x y H Q ⟨p, i, ex, ey, xs, hp, v, hv, q⟩ => ⟨p, xs, i, v, ex, ey, .inl (.inl hp), hv, q⟩
def rLen : List V → Hp → VK → Prop := fun vs H Q => ∃ p, vs = [.ref p] ∧ ∃ xs, (H p = some (.lst xs) ∨ H p = some (.tup xs)) ∧ Q (.int (xs.length : Nat)) H
theorem cr_len : CallR X (.builtin "len") rLen := callImp call_len_seq fun vs H Q ⟨p, e, xs, h, q⟩ =>
  ⟨p, xs, e, h.elim (fun h => .inl (.inl (.inl h))) (fun h => .inr (.inl (.inl h))), q⟩
theorem ixN_of {n : Nat} {i : Int} (h0 : 0 ≤ i) (h1 : i < n) : ixN n i = some i.toNat := by
  unfold ixN
  rw [if_pos h0, if_pos h1]
def rSetLI : TSet := fun o j v H Q => ∃ p i n, o = .ref p ∧ j = .int i ∧ v = .int n ∧ ∃ ns, H p = some (LI ns) ∧ 0 ≤ i ∧ i < (ns.length : Int) ∧ Q (upd H p (LI (ns.set i.toNat n)))
theorem set_LI : PSet X rSetLI := setImp set_list fun o j v H Q ⟨p, i, n, eo, ej, ev, ns, hp, h0, h1, q⟩ => by
  subst ev
  refine ⟨p, _, i, i.toNat, eo, ej, hp, ?_, ?_⟩
  · rw [List.length_map]
    exact ixN_of h0 h1
  · rw [← List.map_set]
    exact q
def rSetLV : TSet := fun o j v H Q => ∃ p i, o = .ref p ∧ j = .int i ∧ ∃ xs, H p = some (.lst xs) ∧ 0 ≤ i ∧ i < (xs.length : Int) ∧ Q (upd H p (.lst (xs.set i.toNat v)))
theorem set_LV : PSet X rSetLV := setImp set_list fun o j v H Q ⟨p, i, eo, ej, xs, hp, h0, h1, q⟩ =>
  ⟨p, xs, i, i.toNat, eo, ej, hp, ixN_of h0 h1, q⟩
theorem sz {n : Nat} (h : n < 1000000) : n < sizeLine := Nat.lt_of_lt_of_le h (by decide)
def rAppI : V → List V → Hp → VK → Prop := fun x vs H Q => ∃ l n, x = .ref l ∧ vs = [.int n] ∧ ∃ ns, H l = some (LI ns) ∧ ns.length < 1000000 ∧ Q .non (upd H l (LI (ns ++ [n])))
theorem mt_appI : MtM X "list.append" rAppI := mtImp mt_append fun x vs H Q ⟨l, n, ex, ev, ns, hl, hz, q⟩ => by
  refine ⟨l, ns.map V.int, .int n, ex, ev, hl, sz (by rw [List.length_map]; exact hz), ?_⟩
  rw [← List.map_singleton (f := V.int), ← List.map_append]
  exact q
def rAppV : V → List V → Hp → VK → Prop := fun x vs H Q => ∃ l v, x = .ref l ∧ vs = [v] ∧ ∃ xs, H l = some (.lst xs) ∧ xs.length < 1000000 ∧ Q .non (upd H l (.lst (xs ++ [v])))
theorem mt_appV : MtM X "list.append" rAppV := mtImp mt_append fun x vs H Q ⟨l, n, ex, ev, ns, hl, hz, q⟩ => ⟨l, ns, n, ex, ev, hl, sz hz, q⟩
def rTupL : List V → Hp → VK → Prop := fun vs H Q => ∃ p, vs = [.ref p] ∧ ∃ xs, H p = some (.lst xs) ∧ ∀ l, H l = none → Q (.ref l) (upd H l (.tup xs))
theorem cr_tupL : CallR X (.type "tuple") rTupL := callImp call_tuple_of fun vs H Q ⟨p, e, xs, h, q⟩ => ⟨p, xs, e, .inl ⟨.inl (.inl h), q⟩⟩
def rListS : List V → Hp → VK → Prop := fun vs H Q => ∃ p, vs = [.ref p] ∧ ∃ xs, (H p = some (.lst xs) ∨ H p = some (.tup xs)) ∧ ∀ l, H l = none → Q (.ref l) (upd H l (.lst xs))
theorem cr_listS : CallR X (.type "list") rListS := callImp call_list_of fun vs H Q ⟨p, e, xs, h, q⟩ => ⟨p, xs, e, h.elim (fun h => .inl (.inl (.inl h))) (fun h => .inr (.inl (.inl h))), q⟩
def rSumLI : List V → Hp → VK → Prop := fun vs H Q => ∃ p, vs = [.ref p] ∧ ∃ ns, H p = some (LI ns) ∧ Q (.int ns.sum) H
theorem cr_sumLI (hc : X.calm = true) : CallR X (.builtin "sum") rSumLI := callImp (cr_sum hc) fun vs H Q ⟨p, e, ns, h, q⟩ => ⟨p, ns, e, .inl (.inl h), q⟩
/-- xs * k of a new list -/
def rRepLI : R2 := fun x y H Q => ∃ l k, x = .ref l ∧ y = .int k ∧ ∃ n, H l = some (LI [n]) ∧ k < 1000000 ∧ -1000000 < k ∧ ∀ p, H p = none → Q (.ref p) (upd H p (LI (List.replicate k.toNat n)))
theorem flat_rep (k : Nat) (n : Int) : (List.replicate k [V.int n]).flatten = (List.replicate k n).map V.int := by
  induction k with
  | zero => rfl
  | succ k ih =>
    rw [List.replicate_succ, List.flatten_cons, ih, List.replicate_succ]
    rfl
theorem op_repLI : OpR X (binaryOp .Mult) rRepLI := opImp op_rep fun x y H Q ⟨l, k, ex, ey, n, hl, h0, h1, q⟩ => by
  refine ⟨l, k, [V.int n], ex, ey, hl, by omega, by omega, ?_, fun p hp => ?_⟩
  · show 1 * k.toNat ≤ sizeLine
    rw [Nat.one_mul]
    exact Nat.le_of_lt (sz (by omega))
  · rw [flat_rep]
    exact q p hp
/-- int(n) -/
def rIntI : List V → Hp → VK → Prop := fun vs H Q => ∃ i, vs = [.int i] ∧ Q (.int i) H
theorem cr_intI : CallR X (.type "int") rIntI := callImp call_int1 fun vs H Q ⟨i, e, q⟩ => .inl ⟨i, e, q⟩
def rIntB : List V → Hp → VK → Prop := fun vs H Q => ∃ k, vs = [.bl k] ∧ Q (.int (if k then 1 else 0)) H
theorem cr_intB : CallR X (.type "int") rIntB := callImp call_int1 fun vs H Q ⟨i, e, q⟩ => .inr ⟨i, e, q⟩
/-- isinstance(x, T) by what x is, T a builtin class -/
def tyOf : V → Hp → Option String
  | .non, _ => some "NoneType"
  | .bl _, _ => some "bool"
  | .int _, _ => some "int"
  | .str _, _ => some "str"
  | .ref a, H => match H a with
    | some (.lst _) => some "list"
    | some (.tup _) => some "tuple"
    | some (.dK _) => some "dict"
    | some (.dT _) => some "dict"
    | _ => none
  | _, _ => none
end
end Pr

namespace Pr
open PySem PySem.Spec PyProof.Rows L2

/-! ### == of lists and tuples of ints -/
theorem dpAll_ints (K : PySem.W.Frag) (H : Hp) : ∀ ns : List Int, DpAll K H (ns.map V.int) (ns.map PyData.int)
  | [] => .nil
  | n :: ns => .cons (.int n) (dpAll_ints K H ns)
theorem eqvAll_ints : ∀ ns ms : List Int, PyData.eqvAll (ns.map .int) (ms.map .int) = decide (ns = ms)
  | [], [] => rfl
  | [], m :: ms => by simp [PyData.eqvAll]
  | n :: ns, [] => by simp [PyData.eqvAll]
  | n :: ns, m :: ms => by
    show (PyData.eqv (.int n) (.int m) && PyData.eqvAll (ns.map .int) (ms.map .int)) = decide (n :: ns = m :: ms)
    rw [eqvAll_ints ns ms]
    simp [PyData.eqv, ]
    by_cases h : n = m <;> simp [h]
theorem lay_ints : ∀ ns : List Int, PyData.canLayAll0 (ns.map .int) = true
  | [] => rfl
  | n :: ns => by
    show (PyData.canLay0 (.int n) && PyData.canLayAll0 (ns.map .int)) = true
    rw [lay_ints ns]
    rfl
theorem depth_ints : ∀ ns : List Int, PyData.depthAll (ns.map .int) = 0
  | [] => rfl
  | n :: ns => by
    show max (PyData.depth (.int n)) (PyData.depthAll (ns.map .int)) = 0
    rw [depth_ints ns]
    rfl
theorem shaped_TI (ns : List Int) : SeqAt.shaped (.tuple (ns.map .int)) = true := by
  unfold SeqAt.shaped
  simp [PyData.canLay0, PyData.depth, lay_ints, depth_ints]
theorem shaped_LI (ns : List Int) : SeqAt.shaped (.list (ns.map .int)) = true := by
  unfold SeqAt.shaped
  simp [PyData.canLay0, PyData.depth, lay_ints, depth_ints]
section
variable {X : Cx}
def rEqTI : R2 := fun x y H Q => ∃ p q, x = .ref p ∧ y = .ref q ∧ ∃ ns, H p = some (TI ns) ∧ ∃ ms, H q = some (TI ms) ∧ Q (.bl (decide (ns = ms))) H
theorem op_eqTI (hu : X.A.units + 64 < cLine) : OpR X (compareOp .Eq) rEqTI := opImp (op_eqD hu) fun x y H Q ⟨p, q, ex, ey, ns, hp, ms, hq, k⟩ => by
  subst ex ey
  refine ⟨_, _, .tup (.inl (.inl hp)) (dpAll_ints _ _ ns), .tup (.inl (.inl hq)) (dpAll_ints _ _ ms), shaped_TI ns, shaped_TI ms, ?_⟩
  show Q (.bl (PyData.eqvAll (ns.map .int) (ms.map .int))) H
  rw [eqvAll_ints]
  exact k
def rNeTI : R2 := fun x y H Q => ∃ p q, x = .ref p ∧ y = .ref q ∧ ∃ ns, H p = some (TI ns) ∧ ∃ ms, H q = some (TI ms) ∧ Q (.bl (!decide (ns = ms))) H
theorem op_neTI (hu : X.A.units + 64 < cLine) : OpR X (compareOp .NotEq) rNeTI := opImp (op_neD hu) fun x y H Q ⟨p, q, ex, ey, ns, hp, ms, hq, k⟩ => by
  subst ex ey
  refine ⟨_, _, .tup (.inl (.inl hp)) (dpAll_ints _ _ ns), .tup (.inl (.inl hq)) (dpAll_ints _ _ ms), shaped_TI ns, shaped_TI ms, ?_⟩
  show Q (.bl (!PyData.eqvAll (ns.map .int) (ms.map .int))) H
  rw [eqvAll_ints]
  exact k
def rEqLI : R2 := fun x y H Q => ∃ p q, x = .ref p ∧ y = .ref q ∧ ∃ ns, H p = some (LI ns) ∧ ∃ ms, H q = some (LI ms) ∧ Q (.bl (decide (ns = ms))) H
theorem op_eqLI (hu : X.A.units + 64 < cLine) : OpR X (compareOp .Eq) rEqLI := opImp (op_eqD hu) fun x y H Q ⟨p, q, ex, ey, ns, hp, ms, hq, k⟩ => by
  subst ex ey
  refine ⟨_, _, .lst (.inl (.inl hp)) (dpAll_ints _ _ ns), .lst (.inl (.inl hq)) (dpAll_ints _ _ ms), shaped_LI ns, shaped_LI ms, ?_⟩
  show Q (.bl (PyData.eqvAll (ns.map .int) (ms.map .int))) H
  rw [eqvAll_ints]
  exact k
def rNeLI : R2 := fun x y H Q => ∃ p q, x = .ref p ∧ y = .ref q ∧ ∃ ns, H p = some (LI ns) ∧ ∃ ms, H q = some (LI ms) ∧ Q (.bl (!decide (ns = ms))) H
theorem op_neLI (hu : X.A.units + 64 < cLine) : OpR X (compareOp .NotEq) rNeLI := opImp (op_neD hu) fun x y H Q ⟨p, q, ex, ey, ns, hp, ms, hq, k⟩ => by
  subst ex ey
  refine ⟨_, _, .lst (.inl (.inl hp)) (dpAll_ints _ _ ns), .lst (.inl (.inl hq)) (dpAll_ints _ _ ms), shaped_LI ns, shaped_LI ms, ?_⟩
  show Q (.bl (!PyData.eqvAll (ns.map .int) (ms.map .int))) H
  rw [eqvAll_ints]
  exact k
/-- isinstance of what is no object -/
def rIsiS : List V → Hp → VK → Prop := fun vs H Q => ∃ x T, vs = [x, .ty T] ∧ ∃ t, tyOf x H = some t ∧ ∃ b, kitB t T = some b ∧ Q (.bl b) H
theorem cr_isiS : CallR X (.builtin "isinstance") rIsiS := callImp call_isi fun vs H Q ⟨x, T, e, t, ht, b, hb, q⟩ => by
  refine ⟨x, .ty T, .type t, .type T, b, e, ?_, ?_, kit_ty hb, q⟩
  · exact .ty T
  · unfold tyOf at ht
    split at ht
    · cases ht; exact .base .non
    · cases ht; exact .base (.bl _)
    · cases ht; exact .base (.int _)
    · cases ht; exact .base (.str _)
    · split at ht <;> cases ht
      · exact .base (.lst ‹_›)
      · exact .base (.tup ‹_›)
      · exact .base (.dK ‹_›)
      · exact .base (.dT ‹_›)
    · cases ht
end

/-! ### sum of a tuple of ints -/
section
variable {prog : Program} {w : World} {A : Around} {E : Value → Shared → Prop} {s : Shared} {l : Addr} {xs : Array (Int × Tok)}
theorem sum_intTupG {Q : Value → Shared → Prop} (hh : A.handled = none) (hl : IsTup s.heap l (intItems xs))
    (h : ∀ h' tk t', (∀ b o, s.heap.get? b = some o → h'.get? b = some o) → Q (.int (preSum (numAt xs) xs.size) t') { s with heap := h', toks := tk }) :
    wpAny (model prog w) A (call (.builtin "sum") [.ref l]) Q E s := by
  have hlt : l < s.heap.objs.size := hl.lt
  refine call_sum_walkG (wpAny_pyIter_tuple hl ?_)
  refine ⟨_, [_, l], [_], _, _, _, numAt xs, rfl, Walks.tuple (A := A.in1) hh _ l (Nat.ne_of_lt hlt) (intItems xs), ⟨⟨_, Heap.get?_push_size _ rfl, rfl, rfl⟩, hl.push _⟩, fun b hb => ?_, (fun _ _ => intItems_at), fun h' tk t' hk => ?_⟩
  · show b < (s.heap.push _).objs.size
    rw [Heap.size_push]
    rcases List.mem_cons.mp hb with rfl | hb
    · exact Nat.lt_succ_self _
    · rcases List.mem_cons.mp hb with rfl | hb
      · exact Nat.lt_succ_of_lt hlt
      · cases hb
  · have := h h' tk t' (fun b o e => by
      refine hk b o (fun hm => ?_) (Heap.get?_push_of_some _ e)
      rcases List.mem_cons.mp hm with e1 | hm
      · exact absurd (e1 ▸ Heap.lt_size e) (Nat.lt_irrefl _)
      · cases hm)
    simpa [intItems] using this
end
section
variable {X : Cx}
def rSumTI : List V → Hp → VK → Prop := fun vs H Q => ∃ p, vs = [.ref p] ∧ ∃ ns, H p = some (TI ns) ∧ Q (.int ns.sum) H
theorem cr_sumTI (hc : X.calm = true) : CallR X (.builtin "sum") rSumTI := by
  intro pins s σ H vs us Q I r h
  obtain ⟨a, rfl, ns, hs, q⟩ := h
  obtain ⟨its, rv, hl, _⟩ := I.tuple (.inl (.inl hs))
  rw [Vals.ref1 r]
  obtain ⟨xs, e⟩ := rv.ints.allInts.items
  have hn : numsOf (intItems xs).toList = ns := by rw [← e]; exact rv.ints.numsOf
  rw [nums_intItems] at hn
  rw [e] at hl
  refine sum_intTupG (I.ok.hd hc) hl fun h' tk t' hk => ?_
  refine ⟨.int _, H, I.kept hk, ⟨_, rfl⟩, ?_⟩
  rw [preSum_eq, List.take_of_length_le (by simp), hn]
  exact q
end

/-! ### t[::-1] of a tuple -/
section
variable {prog : Program} {w : World} {A : Around} {E : Value → Shared → Prop} {s : Shared}
theorem rev_pick (xs : Array Value) : ((List.range xs.size).filterMap fun (m : Nat) => xs[(((xs.size : Int) - 1) + (m : Int) * (-1)).toNat]?).toArray = xs.toList.reverse.toArray := by
  congr 1
  have e : (List.range xs.size).filterMap (fun (m : Nat) => xs[(((xs.size : Int) - 1) + (m : Int) * (-1)).toNat]?) = (List.range xs.size).map fun m => xs.toList.reverse.getD m .none := by
    have h1 : ∀ m ∈ List.range xs.size, xs[(((xs.size : Int) - 1) + (m : Int) * (-1)).toNat]? = some (xs.toList.reverse.getD m .none) := fun m hm => by
      have hm := List.mem_range.mp hm
      have e1 : (((xs.size : Int) - 1) + (m : Int) * (-1)).toNat = xs.size - 1 - m := by omega
      rw [e1, List.getD_eq_getElem?_getD, List.getElem?_reverse (by simpa using hm), Array.getElem?_toList, Array.length_toList]
      rw [Array.getElem?_eq_getElem (by omega)]
      rfl
    generalize hg : (List.range xs.size) = L at h1 ⊢
    clear hg
    induction L with
    | nil => rfl
    | cons a L ih =>
      rw [List.filterMap_cons]
      simp only [h1 a List.mem_cons_self]
      rw [List.map_cons, ih fun m hm => h1 m (List.mem_cons_of_mem _ hm)]
  rw [e]
  apply List.ext_getElem
  · simp
  · intro i h1 h2
    rw [List.getElem_map, List.getElem_range, List.getD_eq_getElem?_getD, List.getElem?_eq_getElem h2]
    rfl
theorem sliceApplied_rev {sl : Addr} {n : Nat} {tk : Tok} {Q : Int × Int × Nat → Shared → Prop} (hs : s.heap.IsSliceOf sl .none .none (.int (-1) tk))
    (h : Q ((n : Int) - 1, -1, n) s) : wpAny (model prog w) A (Builtin.Slice.sliceApplied (.ref sl) (pure (n : Int))) Q E s := by
  obtain ⟨os, hos, hcs, hds⟩ := id hs
  unfold Builtin.Slice.sliceApplied Builtin.Slice.sliceFields
  refine wpAny_bind (wpAny_bind (wpAny_field hos hds (x := .none) rfl (wpAny_bind (wpAny_field hos hds (x := .none) rfl (wpAny_bind (wpAny_field hos hds (x := .int (-1) tk) rfl (wpAny_pure ?_)))))))
  refine wpAny_bind (slicePart_int ?_)
  show wpAny _ _ (if ((-1 : Int) == 0) = true then _ else _) _ _ s
  rw [if_neg (by decide)]
  refine wpAny_bind (slicePart_none (wpAny_bind (slicePart_none (wpAny_bind (wpAny_pure ?_)))))
  show wpAny _ _ (pure (((n : Int) - 1), (-1 : Int), Builtin.Slice.slicePlaces ((n : Int) - 1) (-1) (-1))) _ _ s
  have e : Builtin.Slice.slicePlaces ((n : Int) - 1) (-1) (-1) = n := by
    unfold Builtin.Slice.slicePlaces
    rw [if_neg (by omega)]
    by_cases h0 : (n : Int) - 1 > -1
    · rw [if_pos h0]
      show (((n : Int) - 1 - -1 - 1) / 1 + 1).toNat = n
      omega
    · rw [if_neg h0]
      omega
  rw [e]
  exact wpAny_pure h
theorem getItem_tuple_rev {t sl : Addr} {items : Array Value} {tk : Tok} {Q : Value → Shared → Prop} (ht : IsTup s.heap t items) (hs : s.heap.IsSliceOf sl .none .none (.int (-1) tk))
    (h : Q (.ref s.heap.objs.size) { s with heap := s.heap.push { cls := .type "tuple", data := .seq items.toList.reverse.toArray } })
    (hsz : items.size ≤ sizeLine) : wpAny (model prog w) A (getItem (.ref t) (.ref sl)) Q E s := by
  have htake : sizeOk (.seq (items.toList.reverse).toArray) := by
    show (items.toList.reverse).toArray.size ≤ sizeLine
    rw [List.size_toArray, List.length_reverse, Array.length_toList]
    omega
  obtain ⟨os, hos, hcs, hds⟩ := id hs
  have hTs : s.TypeIs (.ref sl) "slice" := ⟨os, hos, hcs⟩
  unfold getItem
  try with_reducible refine wpAny_holding ?_
  first | refine wpAny_bind (wpAny_pure ?_) | skip
  refine wpAny_bind (wpAny_sequenceKey ht.typeIs (by decide) ?_)
  refine wpAny_bind (wpAny_callSpecial?_slot (name := Str.ofString "__getitem__") ht.typeIs PyProof.Rows.slot_tuple_getitem
    (wpAny_call_entry PyProof.Rows.slot_tuple_getitem ht.typeIs PyProof.Rows.entry_tuple_getitem ?_ (PyProof.Rows.args_tuple_getitem _ _)))
  show wpAny _ _ (Builtin.Tuple.tupleItemsOf (.ref t) >>= _) _ _ s
  refine wpAny_bind (tupleItemsOf_ ht ?_)
  refine wpAny_bind (wpAny_typeOf hTs ?_)
  rw [if_pos (by decide)]
  refine wpAny_bind (sliceApplied_rev hs ?_)
  have hno : ¬ (((((items.size : Nat) : Int) - 1) == 0 && (-1 : Int) == 1 && items.size == items.size) = true) := by
    intro q
    rw [Bool.and_eq_true, Bool.and_eq_true] at q
    exact absurd q.1.2 (by decide)
  show wpAny _ _ (if ((((items.size : Nat) : Int) - 1) == 0 && (-1 : Int) == 1 && items.size == items.size) = true then _ else _) _ _ s
  rw [if_neg hno, rev_pick]
  first
    | exact wpAny_bind (m := Builtin.Tuple.tupleExact _) (wpAny_newObj_type (wpAny_pure ⟨_, rfl, wpAny_pure h⟩) htake)
    | exact wpAny_bind (m := Builtin.Tuple.tupleExact _) (wpAny_newObj_type (wpAny_bind (wpAny_pure (wpAny_pure ⟨_, rfl, wpAny_pure h⟩))) htake)
    | exact wpAny_bind (wpAny_bind (m := Builtin.Tuple.tupleExact _) (wpAny_newObj_type (wpAny_pure (wpAny_pure ⟨_, rfl, wpAny_pure h⟩)) htake))
    | exact wpAny_bind (wpAny_bind (m := Builtin.Tuple.tupleExact _) (wpAny_newObj_type (wpAny_pure ⟨_, rfl, wpAny_pure h⟩) htake))
end
section
variable {X : Cx}
def tRevT (te : TE) : TE := fun σ H Q => te σ H fun x H1 => ∃ a, x = .ref a ∧ ∃ xs, H1 a = some (.tup xs) ∧ ∀ p, H1 p = none → Q (.ref p) (upd H1 p (.tup xs.reverse))
theorem pe_revT {e : Expr} {te : TE} {k : Nat} {p1 p2 p3 pos : Pos} (he : PE X e te) : PE X (.Subscript e (.Slice none none (some (.UnaryOp .USub (.Constant (.int 1) k p1) p2)) p3) pos) (tRevT te) := by
  refine ⟨fun pins s σ H Q I h => ?_⟩
  refine Subscript_ (thn (he.run pins s σ H _ I h) fun v s1 ⟨x, H1, I1, r1, q1⟩ => ?_)
  obtain ⟨a, ex, xs, hx, q⟩ := q1
  subst ex
  cases r1
  have hst : PO X (some (.UnaryOp .USub (.Constant (.int 1) k p1) p2)) (tPart (tUn (rU fun i => .int (-i)) (tC (.int 1)))) := po_some (pe_un un_neg pe_int)
  refine wpAny_Slice (thn (po_none.run pins s1 σ H1 (fun o H2 => o = none ∧ H2 = H1) I1 ⟨rfl, rfl⟩) fun vl s2 ⟨l, H2, I2, pl, el, e2⟩ => ?_)
  subst el e2
  refine thn (po_none.run pins s2 σ H2 (fun o H3 => o = none ∧ H3 = H2) I2 ⟨rfl, rfl⟩) fun vu s3 ⟨u, H3, I3, pu, eu, e3⟩ => ?_
  subst eu e3
  refine thn (hst.run pins s3 σ H3 (fun o H4 => o = some (-1) ∧ H4 = H3) I3 ⟨1, rfl, -1, rfl, rfl, rfl⟩) fun vs s4 ⟨o, H4, I4, ps, eo, e4⟩ => ?_
  subst eo e4
  cases pl
  cases pu
  cases ps with
  | int i tk =>
  have I5 : Inv X pins σ H4 { s4 with heap := s4.heap.push { cls := .type "slice", data := .fields #[.none, .none, .int (-1) tk] } } := I4.kept (t' := s4.toks) fun b ob q => Heap.get?_push_of_some _ q
  obtain ⟨its, r, ht, hz⟩ := I5.tuple (.inl (.inl hx))
  have hlen := r.length
  show wpAny (model X.prog X.w) X.A (subscriptTail e (.Slice none none (some (.UnaryOp .USub (.Constant (.int 1) k p1) p2)) p3) (.ref a) (.ref s4.heap.objs.size)) (EP X pins σ Q) X.xe { s4 with heap := s4.heap.push { cls := .type "slice", data := .fields #[.none, .none, .int (-1) tk] } }
  refine tail_any (ops := [.ref a, .ref s4.heap.objs.size]) ht.typeIs (PyProof.Rows.slot_tuple_getitem.lookup) ?_ (by with_unfolding_all rfl)
  refine getItem_tuple_rev ht (Heap.IsSliceOf.new _ .none .none (.int (-1) tk)) ?_ (by rw [List.size_toArray]; omega)
  refine ⟨.ref _, _, I5.laid (t' := s4.toks) (o := .tup xs.reverse) (fun b ob q => Heap.get?_push_of_some _ q) (Nat.le_refl _) ?_, rfl, q _ (I5.hok.fresh (Nat.le_refl _))⟩
  exact ⟨by rw [List.length_reverse]; exact hz, _, r.reverse, IsTup.new _ _⟩
end
end Pr

namespace Pr
open PySem PySem.Spec PyProof.Rows L2

/-! ### readings, applied -/
section
variable {K : PySem.W.Frag} {σ : L2.St} {H : Hp} {Q : VK} {ta tb tc te : TE} {t u : TT} {D : Ends} {tu tw : TS} {g : TG} {x y v : V} {i j : Nat} {QT : Bool → Hp → Prop} {QA : List V → Hp → Prop}
theorem ap_seq : tSeq tu tw D σ H = tu { D with nx := tw D } σ H := rfl
theorem ap_next : tNext D σ H = D.nx σ H := rfl
theorem ap_asg : tAsg te g D σ H = te σ H fun x H1 => g x σ H1 D.nx := rfl
theorem ap_gName {QN : L2.St → Hp → Prop} : gName i v σ H QN = QN (σ.set i (some v)) H := rfl
theorem ap_ret : tRet te D σ H = te σ H D.rt := rfl
theorem ap_retN : tRetN D σ H = D.rt .non H := rfl
theorem ap_drop : tDrop te D σ H = te σ H fun _ H1 => D.nx σ H1 := rfl
theorem ap_ifS : tIfS t tu tw D σ H = t σ H fun b H1 => if b = true then tu D σ H1 else tw D σ H1 := rfl
theorem ap_break : tBreak D σ H = D.bk σ H := rfl
theorem ap_cont : tCont D σ H = D.ct σ H := rfl
theorem ap_par {ta : TA} : tPar i j ta D σ H = ta σ H fun vs H1 => ∃ v w, vs = [v, w] ∧ D.nx ((σ.set i (some v)).set j (some w)) H1 := rfl
theorem ap_aug {ti : TIp} : tAug i te ti D σ H = ∃ x, σ[i]? = some (some x) ∧ te σ H fun y H1 => ti x y H1 fun z H2 => D.nx (σ.set i (some z)) H2 := rfl
theorem ap_ip {f : Int → Int → Int} : ipI f x y H Q = ∃ i j, x = .int i ∧ y = .int j ∧ Q (.int (f i j)) H := rfl
theorem ap_gSub {to ti : TE} {ts : TSet} {QN : L2.St → Hp → Prop} : gSub to ti ts v σ H QN = to σ H fun o H1 => ti σ H1 fun i H2 => ts o i v H2 fun H3 => QN σ H3 := rfl
theorem ap_gTup {n : Nat} {ts : TGs} {QN : L2.St → Hp → Prop} : gTup K n ts v σ H QN = ∃ a xs, v = .ref a ∧ SqT K H a xs ∧ xs.length = n ∧ ts xs σ H QN := rfl
theorem ap_gNil {vs : List V} {QN : L2.St → Hp → Prop} : gNil vs σ H QN = (vs = [] ∧ QN σ H) := rfl
theorem ap_gCons {t : TG} {u : TGs} {vs : List V} {QN : L2.St → Hp → Prop} : gCons t u vs σ H QN = ∃ v r, vs = v :: r ∧ t v σ H fun σ' H' => u r σ' H' QN := rfl
theorem ap_var : tVar i σ H Q = ∃ v, σ[i]? = some (some v) ∧ Q v H := rfl
theorem ap_c : tC v σ H Q = Q v H := rfl
theorem ap_op {r : R2} : tOp r ta tb σ H Q = ta σ H fun x H1 => tb σ H1 fun y H2 => r x y H2 Q := rfl
theorem ap_un {r : V → Hp → VK → Prop} : tUn r ta σ H Q = ta σ H fun x H1 => r x H1 Q := rfl
theorem ap_if : tIf t ta tb σ H Q = t σ H fun c H1 => if c = true then ta σ H1 Q else tb σ H1 Q := rfl
theorem ap_test : tTest te σ H QT = te σ H fun x H' => ∃ k, x = .bl k ∧ QT k H' := rfl
theorem ap_B : tB te σ H QT = te σ H fun x H' => ∃ k, x = .bl k ∧ QT k H' := rfl
theorem ap_and : tAnd t u σ H QT = t σ H fun c H1 => if c = true then u σ H1 QT else QT false H1 := rfl
theorem ap_or : tOr t u σ H QT = t σ H fun c H1 => if c = true then QT true H1 else u σ H1 QT := rfl
theorem ap_not : tNot t σ H QT = t σ H fun c H1 => QT (!c) H1 := rfl
theorem ap_andV : tAndV ta tb σ H Q = ta σ H fun x H1 => ∃ c, x = .bl c ∧ if c = true then tb σ H1 Q else Q (.bl false) H1 := rfl
theorem ap_orV : tOrV ta tb σ H Q = ta σ H fun x H1 => ∃ c, x = .bl c ∧ if c = true then Q (.bl true) H1 else tb σ H1 Q := rfl
theorem ap_notV : tNotV ta σ H Q = ta σ H fun x H1 => ∃ c, x = .bl c ∧ Q (.bl (!c)) H1 := rfl
theorem ap_nil : tNil σ H QA = QA [] H := rfl
theorem ap_cons {tr : TA} : tCons ta tr σ H QA = ta σ H fun x H1 => tr σ H1 fun xs H2 => QA (x :: xs) H2 := rfl
theorem ap_tup {ta : TA} : tTup ta σ H Q = ta σ H fun xs H1 => xs.length ≤ sizeLine ∧ ∀ p, H1 p = none → Q (.ref p) (upd H1 p (.tup xs)) := rfl
theorem ap_lst {ta : TA} : tLst ta σ H Q = ta σ H fun xs H1 => xs.length ≤ sizeLine ∧ ∀ p, H1 p = none → Q (.ref p) (upd H1 p (.lst xs)) := rfl
theorem ap_cb {r : List V → Hp → VK → Prop} {ta : TA} : tCB r ta σ H Q = ta σ H fun vs H1 => r vs H1 Q := rfl
theorem ap_bm {T : String} {r : V → List V → Hp → VK → Prop} {ta : TA} : tBM K T r te ta σ H Q = te σ H fun x H1 => tyV K T x H1 ∧ ta σ H1 fun xs H2 => r x xs H2 Q := rfl
theorem ap_call {sp : Sp} {dvs : List V} {E : XK} {ta : TA} : tCall sp dvs E ta σ H Q = ta σ H fun vs H1 => sp (vs ++ dvs) H1 Q E := rfl
theorem ap_chain {r r' : R2} : tChain r r' ta tb tc σ H Q = ta σ H fun x H1 => tb σ H1 fun y H2 => r x y H2 fun z H3 => ∃ k, z = .bl k ∧ (if k = true then tc σ H3 fun w H4 => r' y w H4 Q else Q (.bl false) H3) := by
  unfold tChain
  apply propext
  rfl
theorem ap_rI {C : Int → Int → Prop} {f : Int → Int → V} : rI C f x y H Q = ∃ i j, x = .int i ∧ y = .int j ∧ C i j ∧ Q (f i j) H := rfl
theorem ap_rI0 {f : Int → Int → V} : rI0 f x y H Q = ∃ i j, x = .int i ∧ y = .int j ∧ Q (f i j) H := rfl
theorem ap_rU {f : Int → V} : rU f x H Q = ∃ i, x = .int i ∧ Q (f i) H := rfl
theorem ap_rEq : rEq x y H Q = (scal x y = true ∧ Q (.bl (decide (x = y))) H) := rfl
theorem ap_rNe : rNe x y H Q = (scal x y = true ∧ Q (.bl (!decide (x = y))) H) := rfl
theorem ap_revT : tRevT te σ H Q = te σ H fun x H1 => ∃ a, x = .ref a ∧ ∃ xs, H1 a = some (.tup xs) ∧ ∀ p, H1 p = none → Q (.ref p) (upd H1 p (.tup xs.reverse)) := rfl
theorem ap_sl {r : V → Option Int → Option Int → Hp → VK → Prop} {tl th : TO} : tSl r te tl th σ H Q = te σ H fun x H1 => tl σ H1 fun l H2 => th σ H2 fun u H3 => r x l u H3 Q := rfl
theorem ap_part {QO : Option Int → Hp → Prop} : tPart te σ H QO = te σ H fun x H1 => ∃ i, x = .int i ∧ QO (some i) H1 := rfl
theorem ap_noPart {QO : Option Int → Hp → Prop} : tNoPart σ H QO = QO none H := rfl
theorem ap_ixLI : rIxLI x y H Q = ∃ p i, x = .ref p ∧ y = .int i ∧ ∃ ns, H p = some (LI ns) ∧ 0 ≤ i ∧ i < (ns.length : Int) ∧ Q (.int (gi ns i)) H := rfl
theorem ap_ixTI : rIxTI x y H Q = ∃ p i, x = .ref p ∧ y = .int i ∧ ∃ ns, H p = some (TI ns) ∧ 0 ≤ i ∧ i < (ns.length : Int) ∧ Q (.int (gi ns i)) H := rfl
theorem ap_ixLV : rIxLV x y H Q = ∃ p i, x = .ref p ∧ y = .int i ∧ ∃ xs, H p = some (.lst xs) ∧ ∃ v, atI xs i = some v ∧ Q v H := rfl
theorem ap_ixTV : rIxTV x y H Q = ∃ p i, x = .ref p ∧ y = .int i ∧ ∃ xs, H p = some (.tup xs) ∧ ∃ v, atI xs i = some v ∧ Q v H := rfl
theorem ap_ixL : rIxL K x y H Q = ∃ p xs i v, x = .ref p ∧ y = .int i ∧ SqL K H p xs ∧ atI xs i = some v ∧ Q v H := rfl
theorem ap_len {vs : List V} : rLen vs H Q = ∃ p, vs = [.ref p] ∧ ∃ xs, (H p = some (.lst xs) ∨ H p = some (.tup xs)) ∧ Q (.int (xs.length : Nat)) H := rfl
theorem ap_setLI {o : V} {QH : Hp → Prop} : rSetLI o x v H QH = ∃ p i n, o = .ref p ∧ x = .int i ∧ v = .int n ∧ ∃ ns, H p = some (LI ns) ∧ 0 ≤ i ∧ i < (ns.length : Int) ∧ QH (upd H p (LI (ns.set i.toNat n))) := rfl
theorem ap_setLV {o : V} {QH : Hp → Prop} : rSetLV o x v H QH = ∃ p i, o = .ref p ∧ x = .int i ∧ ∃ xs, H p = some (.lst xs) ∧ 0 ≤ i ∧ i < (xs.length : Int) ∧ QH (upd H p (.lst (xs.set i.toNat v))) := rfl
theorem ap_appI {vs : List V} : rAppI x vs H Q = ∃ l n, x = .ref l ∧ vs = [.int n] ∧ ∃ ns, H l = some (LI ns) ∧ ns.length < 1000000 ∧ Q .non (upd H l (LI (ns ++ [n]))) := rfl
theorem ap_appV {vs : List V} : rAppV x vs H Q = ∃ l v, x = .ref l ∧ vs = [v] ∧ ∃ xs, H l = some (.lst xs) ∧ xs.length < 1000000 ∧ Q .non (upd H l (.lst (xs ++ [v]))) := rfl
theorem ap_tupL {vs : List V} : rTupL vs H Q = ∃ p, vs = [.ref p] ∧ ∃ xs, H p = some (.lst xs) ∧ ∀ l, H l = none → Q (.ref l) (upd H l (.tup xs)) := rfl
theorem ap_listS {vs : List V} : rListS vs H Q = ∃ p, vs = [.ref p] ∧ ∃ xs, (H p = some (.lst xs) ∨ H p = some (.tup xs)) ∧ ∀ l, H l = none → Q (.ref l) (upd H l (.lst xs)) := rfl
theorem ap_sumLI {vs : List V} : rSumLI vs H Q = ∃ p, vs = [.ref p] ∧ ∃ ns, H p = some (LI ns) ∧ Q (.int ns.sum) H := rfl
theorem ap_sumTI {vs : List V} : rSumTI vs H Q = ∃ p, vs = [.ref p] ∧ ∃ ns, H p = some (TI ns) ∧ Q (.int ns.sum) H := rfl
theorem ap_repLI : rRepLI x y H Q = ∃ l k, x = .ref l ∧ y = .int k ∧ ∃ n, H l = some (LI [n]) ∧ k < 1000000 ∧ -1000000 < k ∧ ∀ p, H p = none → Q (.ref p) (upd H p (LI (List.replicate k.toNat n))) := rfl
theorem ap_intI {vs : List V} : rIntI vs H Q = ∃ i, vs = [.int i] ∧ Q (.int i) H := rfl
theorem ap_intB {vs : List V} : rIntB vs H Q = ∃ k, vs = [.bl k] ∧ Q (.int (if k then 1 else 0)) H := rfl
theorem ap_eqTI : rEqTI x y H Q = ∃ p q, x = .ref p ∧ y = .ref q ∧ ∃ ns, H p = some (TI ns) ∧ ∃ ms, H q = some (TI ms) ∧ Q (.bl (decide (ns = ms))) H := rfl
theorem ap_neTI : rNeTI x y H Q = ∃ p q, x = .ref p ∧ y = .ref q ∧ ∃ ns, H p = some (TI ns) ∧ ∃ ms, H q = some (TI ms) ∧ Q (.bl (!decide (ns = ms))) H := rfl
theorem ap_eqLI : rEqLI x y H Q = ∃ p q, x = .ref p ∧ y = .ref q ∧ ∃ ns, H p = some (LI ns) ∧ ∃ ms, H q = some (LI ms) ∧ Q (.bl (decide (ns = ms))) H := rfl
theorem ap_neLI : rNeLI x y H Q = ∃ p q, x = .ref p ∧ y = .ref q ∧ ∃ ns, H p = some (LI ns) ∧ ∃ ms, H q = some (LI ms) ∧ Q (.bl (!decide (ns = ms))) H := rfl
theorem ap_isi {vs : List V} : rIsiS vs H Q = ∃ x T, vs = [x, .ty T] ∧ ∃ t, tyOf x H = some t ∧ ∃ b, kitB t T = some b ∧ Q (.bl b) H := rfl
/-- a loop over what has begun -/
def tLoop (g : TG) (tb : TS) (D : Ends) (σ : L2.St) (J : It) (H1 : Hp) : Prop := ∃ W : Nat → Nat → L2.St → Hp → Prop, (∃ m, W 0 m σ H1) ∧ ∀ i m σ H, W i m σ H →
  (J.stop i H ∧ D.nx σ H) ∨ (J.go i H ∧ ∃ N : L2.St → Hp → Prop, (∀ σ' H', N σ' H' → ∃ m', m' < m ∧ W (i + 1) m' σ' H') ∧ ∀ x H', J.yld i H x H' → g x σ H' fun σ2 H2 => tb { D with nx := N, ct := N, bk := D.nx } σ2 H2)
theorem ap_for {wi : L2.TI} : tFor wi g tu D σ H = wi σ H (tLoop g tu D σ) := rfl
theorem ap_rng1 {ta : TA} {R : It → Hp → Prop} : iRng1 ta σ H R = ta σ H fun vs H1 => ∃ j : Int, vs = [.int j] ∧ -(2 ^ 62) ≤ j ∧ j < 2 ^ 62 ∧ R (Itr 0 j.toNat) H1 := rfl
theorem ap_rng2 {ta : TA} {R : It → Hp → Prop} : iRng2 ta σ H R = ta σ H fun vs H1 => ∃ i j : Int, vs = [.int i, .int j] ∧ (-(2 ^ 62) ≤ i ∧ i < 2 ^ 62 ∧ -(2 ^ 62) ≤ j ∧ j < 2 ^ 62) ∧ R (Itr i (j - i).toNat) H1 := rfl
theorem ap_iList {R : It → Hp → Prop} : iList K te σ H R = te σ H fun x H1 => ∃ a, x = .ref a ∧ (∃ xs, SqL K H1 a xs) ∧ R (Itl K a) H1 := rfl
theorem ap_iTup {R : It → Hp → Prop} : iTup K te σ H R = te σ H fun x H1 => ∃ a, x = .ref a ∧ (∃ xs, SqT K H1 a xs) ∧ R (Itt K a) H1 := rfl
/-- a comprehension over what has begun -/
def tLcIn (g : TG) (tt : TT) (te : TE) (vs : List Nat) (σ : L2.St) (Q : VK) (J : It) (H1 : Hp) : Prop := ∀ D, H1 D = none → ∃ W : Nat → Nat → Hp → Prop, (∃ m, W 0 m (upd H1 D (.lst []))) ∧ ∀ i m H, W i m H →
  (J.stop i H ∧ Q (.ref D) H) ∨ (J.go i H ∧ ∃ Nx : Hp → Prop, (∀ H', Nx H' → ∃ m', m' < m ∧ W (i + 1) m' H') ∧ ∀ x H', J.yld i H x H' → g x (wipe σ vs) H' fun σ2 H2 => wipe σ2 vs = wipe σ vs ∧ tt σ2 H2 fun b H3 =>
    if b = true then te σ2 H3 fun y H4 => ∃ acc, H4 D = some (.lst acc) ∧ acc.length < sizeLine ∧ Nx (upd H4 D (.lst (acc ++ [y]))) else Nx H3)
theorem ap_lc {wi : L2.TI} {vs : List Nat} : tLc wi g t te vs σ H Q = wi σ H (tLcIn g t te vs σ Q) := rfl
theorem ap_yes : tYes σ H QT = QT true H := rfl
theorem tyV_l {p : Addr} (h : ∃ xs, H p = some (.lst xs)) : tyV K "list" (.ref p) H = True := by
  obtain ⟨xs, h⟩ := h
  exact eq_true (.inl ⟨rfl, xs, .inl (.inl h)⟩)
theorem sqL_of {p : Addr} {xs : List V} (h : H p = some (.lst xs)) : SqL K H p xs := .inl (.inl h)
theorem sqT_of {p : Addr} {xs : List V} (h : H p = some (.tup xs)) : SqT K H p xs := .inl (.inl h)
end

/-! ### loops -/
section
variable {K : PySem.W.Frag} {g : TG} {tb : TS} {D : Ends} {σ : L2.St} {H : Hp} {j : Nat} {te : TE} {vs : List Nat} {Q : VK} {tt : TT}
theorem loop_range {lo : Int} {n : Nat} (Pv : Nat → L2.St → Hp → Prop) (h0 : Pv 0 σ H)
    (hs : ∀ (i : Nat) σ H, i < n → Pv i σ H → tb { D with nx := Pv (i + 1), ct := Pv (i + 1), bk := D.nx } (σ.set j (some (.int (lo + i)))) H) (hd : ∀ σ H, Pv n σ H → D.nx σ H) :
    tLoop (gName j) tb D σ (Itr lo n) H := for_range (g := gName j) Pv h0 hs hd
theorem loop_list {a : Addr} {xs : List V} (Pv : Nat → L2.St → Hp → Prop) (h0 : Pv 0 σ H) (hl : ∀ i σ H, i ≤ xs.length → Pv i σ H → SqL K H a xs)
    (hs : ∀ i x σ H, xs[i]? = some x → Pv i σ H → tb { D with nx := Pv (i + 1), ct := Pv (i + 1), bk := D.nx } (σ.set j (some x)) H) (hd : ∀ σ H, Pv xs.length σ H → D.nx σ H) :
    tLoop (gName j) tb D σ (Itl K a) H := for_list (g := gName j) Pv h0 hl hs hd
theorem loop_tup {a : Addr} {xs : List V} (Pv : Nat → L2.St → Hp → Prop) (h0 : Pv 0 σ H) (hl : ∀ i σ H, i ≤ xs.length → Pv i σ H → SqT K H a xs)
    (hs : ∀ i x σ H, xs[i]? = some x → Pv i σ H → tb { D with nx := Pv (i + 1), ct := Pv (i + 1), bk := D.nx } (σ.set j (some x)) H) (hd : ∀ σ H, Pv xs.length σ H → D.nx σ H) :
    tLoop (gName j) tb D σ (Itt K a) H := for_tup (g := gName j) Pv h0 hl hs hd
theorem same_upd {H : Hp} {p : Addr} {o : HO} (h : H p = none) : Same H (upd H p o) := fun b x e => by
  rw [upd_ne (ne_of_none e h)]
  exact e
theorem same_mut {H H' : Hp} {p : Addr} {o : HO} (e : Same H H') (h : H p = none) : Same H (upd H' p o) := fun b x eb => by
  rw [upd_ne (ne_of_none eb h)]
  exact e b x eb
/-- a comprehension whose turns leave what H knows, and give ints -/
theorem lc_rangeI {lo : Int} {n : Nat} (f : Nat → Int) (hn : n < 1000000) (hw : ∀ x, wipe ((wipe σ vs).set j (some x)) vs = wipe σ vs)
    (he : ∀ (i : Nat) H', i < n → Same H H' → ∀ Q' : VK, (∀ H'', Same H' H'' → Q' (.int (f i)) H'') → te ((wipe σ vs).set j (some (.int (lo + i)))) H' Q')
    (hq : ∀ p H', H p = none → Same H H' → H' p = some (LI ((List.range n).map f)) → Q (.ref p) H') :
    tLcIn (gName j) tYes te vs σ Q (Itr lo n) H := fun Dl hD => by
  refine lc_range (g := gName j) (lo := lo) (n := n) (fun i H' => Same H H' ∧ H' Dl = some (LI ((List.range i).map f))) ⟨same_upd hD, ?_⟩ (fun i H' hi hP => ?_) (fun H' hP => hq Dl H' hD hP.1 hP.2)
  · rw [upd_same]
    rfl
  · obtain ⟨sm, ed⟩ := hP
    refine ⟨hw _, he i H' hi sm _ fun H'' sm' => ⟨_, sm' _ _ ed, sz (by simp; omega), same_mut (sm.trans sm') hD, ?_⟩⟩
    rw [upd_same, List.range_succ, List.map_append]
    simp
theorem lc_listI {a : Addr} {xs : List V} (f : Nat → Int) (hx : H a = some (.lst xs)) (hn : xs.length < 1000000) (hw : ∀ x, wipe ((wipe σ vs).set j (some x)) vs = wipe σ vs)
    (he : ∀ (i : Nat) x H', xs[i]? = some x → Same H H' → ∀ Q' : VK, (∀ H'', Same H' H'' → Q' (.int (f i)) H'') → te ((wipe σ vs).set j (some x)) H' Q')
    (hq : ∀ p H', H p = none → Same H H' → H' p = some (LI ((List.range xs.length).map f)) → Q (.ref p) H') :
    tLcIn (gName j) tYes te vs σ Q (Itl K a) H := fun Dl hD => by
  refine lc_list (g := gName j) (xs := xs) (fun i H' => Same H H' ∧ H' Dl = some (LI ((List.range i).map f))) ⟨same_upd hD, ?_⟩ (fun i H' hi hP => sqL_of (hP.1 _ _ hx)) (fun i x H' hi hP => ?_) (fun H' hP => hq Dl H' hD hP.1 hP.2)
  · rw [upd_same]
    rfl
  · obtain ⟨sm, ed⟩ := hP
    have hl := (List.getElem?_eq_some_iff.mp hi).1
    refine ⟨hw _, he i x H' hi sm _ fun H'' sm' => ⟨_, sm' _ _ ed, sz (by simp; omega), same_mut (sm.trans sm') hD, ?_⟩⟩
    rw [upd_same, List.range_succ, List.map_append]
    simp
theorem iteC {c A B : Prop} {inst : Decidable c} (h1 : c → A) (h2 : ¬c → B) : @ite Prop c inst A B := by
  by_cases h : c
  · rw [if_pos h]
    exact h1 h
  · rw [if_neg h]
    exact h2 h
theorem gi_c0 {a : Int} {l : List Int} : gi (a :: l) 0 = a := by
  unfold gi
  rfl
theorem gi_c1 {a b : Int} {l : List Int} : gi (a :: b :: l) 1 = b := by
  unfold gi
  rfl
theorem gi_c2 {a b c : Int} {l : List Int} : gi (a :: b :: c :: l) 2 = c := by
  unfold gi
  rfl
theorem gi_c3 {a b c d : Int} {l : List Int} : gi (a :: b :: c :: d :: l) 3 = d := by
  unfold gi
  rfl
theorem own_cons {p : Str × Nat} {l : List (Str × Nat)} : List.map (fun x : Str × Nat => x.snd) (p :: l) = p.snd :: List.map (fun x : Str × Nat => x.snd) l := rfl
theorem own_nil : List.map (fun x : Str × Nat => x.snd) [] = [] := rfl
theorem le1 {a : Int} {ns : List Int} : ([V.int a] = List.map V.int ns) ↔ [a] = ns := map_int_inj (xs := [a])
theorem le2 {a b : Int} {ns : List Int} : ([V.int a, V.int b] = List.map V.int ns) ↔ [a, b] = ns := map_int_inj (xs := [a, b])
theorem le3 {a b c : Int} {ns : List Int} : ([V.int a, V.int b, V.int c] = List.map V.int ns) ↔ [a, b, c] = ns := map_int_inj (xs := [a, b, c])
theorem le4 {a b c d : Int} {ns : List Int} : ([V.int a, V.int b, V.int c, V.int d] = List.map V.int ns) ↔ [a, b, c, d] = ns := map_int_inj (xs := [a, b, c, d])
theorem me_cons {a : Int} {l : List Int} {v : V} {r : List V} : (List.map V.int (a :: l) = v :: r) ↔ (V.int a = v ∧ List.map V.int l = r) := by
  rw [List.map_cons, List.cons.injEq]
theorem me_nil {r : List V} : (List.map V.int ([] : List Int) = r) ↔ [] = r := Iff.rfl
theorem wipe_nil : wipe σ [] = σ := rfl
theorem wipe_cons {v : Nat} : wipe σ (v :: vs) = (wipe σ vs).set v none := rfl
end
/-! the written part named, for what stands in a comprehension within another one -/
section
variable {X : Cx} {K : PySem.W.Frag} {tg l : Expr} {tl : TE}
theorem pi_listK (hK : X.K = K) (hl : PE X l tl) : PI X tg l (iList K tl) := by
  subst hK
  exact pi_list hl
theorem pi_tupK (hK : X.K = K) (hl : PE X l tl) : PI X tg l (iTup K tl) := by
  subst hK
  exact pi_tup hl
theorem ix_listK (hK : X.K = K) : IxR X (rIxL K) := by
  subst hK
  exact ix_list
end
end Pr

namespace Pr
open PySem PySem.Spec PyProof.Rows L2

/-! ### ints of any sign and some hundred digits -/
abbrev Big : Int := (2 ^ 250) ^ 16
def CFd (_ j : Int) : Prop := j ≠ 0 ∧ -((2 ^ 250) ^ 16) < j ∧ j < (2 ^ 250) ^ 16
def CMu (i j : Int) : Prop := (-((2 ^ 250) ^ 16) < i ∧ i < (2 ^ 250) ^ 16) ∧ -((2 ^ 250) ^ 16) < j ∧ j < (2 ^ 250) ^ 16
theorem bigE : ((2 : Int) ^ 250) ^ 16 = ((2 ^ 4000 : Nat) : Int) := by
  rw [← Int.pow_mul]
  norm_cast
theorem big_abs {i : Int} (h : -(2 ^ 250) ^ 16 < i ∧ i < (2 ^ 250) ^ 16) : i.natAbs < 2 ^ 4000 := by
  have e := bigE
  generalize (2 ^ 4000 : Nat) = B at e ⊢
  rw [e] at h
  omega
section
variable {X : Cx}
theorem op_fdivG : OpR X (binaryOp .FloorDiv) (rI CFd fun i j => .int (i.fdiv j)) := opI fun i j _ _ _ _ _ hc q => by
  have h1 : j ≠ 0 := hc.1
  have h2 : j.natAbs.log2 < 9000 := Nat.lt_of_lt_of_le (PySem.Flt.log2_lt_of (by decide) (big_abs hc.2)) (by decide)
  exact floordiv_int h1 q (.inl (PyProof.noPylong_of_log2 h2))
theorem op_mulB : OpR X (binaryOp .Mult) (rI CMu fun i j => .int (i * j)) := opImp op_mulW fun x y H Q ⟨i, j, ex, ey, c, q⟩ =>
  ⟨i, j, ex, ey, wide_mul (big_abs c.1) (big_abs c.2) (by decide) (by decide) (by decide), q⟩
def CDp (_ j : Int) : Prop := 0 < j ∧ j < (2 ^ 250) ^ 16
theorem op_fdivP : OpR X (binaryOp .FloorDiv) (rI CDp fun i j => .int (i / j)) := opImp op_fdivW fun x y H Q ⟨i, j, ex, ey, c, q⟩ => by
  refine ⟨i, j, ex, ey, wide_div c.1 (big_abs (i := j) ⟨?_, c.2⟩) (by decide) (by decide), q⟩
  have := c.1
  have e := bigE
  generalize (2 ^ 4000 : Nat) = B at e
  rw [e]
  omega
/-- isqrt -/
def rIsqrt : List V → Hp → VK → Prop := fun vs H Q => ∃ i, vs = [.int i] ∧ 0 ≤ i ∧ i < (2 ^ 250) ^ 16 ∧ Q (.int ((Float64.isqrt i.toNat : Nat) : Int)) H
theorem cr_isqrt : CallR X (.builtin "math.isqrt") rIsqrt := by
  intro pins s σ H vs us Q I r h
  obtain ⟨i, rfl, h0, h1, q⟩ := h
  obtain ⟨u, rfl, ru⟩ := r.one
  obtain ⟨t, rfl⟩ := ru
  have hb : i.toNat.log2 < 4000 := by
    have e := bigE
    refine PySem.Flt.log2_lt_of (by decide) ?_
    generalize (2 ^ 4000 : Nat) = B at e ⊢
    rw [e] at h1
    omega
  exact PySem.call_function_meets PySem.W.MGF.kind_isqrt PySem.W.MGF.plain_isqrt PySem.W.MGF.entry_isqrt (PySem.W.MGF.args_isqrt _) (PySem.W.mg_run_isqrt i t (by omega) (by omega) (by omega)).meets ⟨.int _, H, I.tok _, ⟨_, rfl⟩, q⟩
end
theorem ty_cases {x : V} {H : Hp} {t : String} (h : tyOf x H = some t) : x = .non ∨ (∃ b, x = .bl b) ∨ (∃ i, x = .int i) ∨ (∃ s, x = .str s) ∨ (∃ a, x = .ref a ∧ (t = "list" ∨ t = "tuple" ∨ t = "dict")) := by
  cases x with
  | non => exact .inl rfl
  | bl b => exact .inr (.inl ⟨b, rfl⟩)
  | int i => exact .inr (.inr (.inl ⟨i, rfl⟩))
  | str s => exact .inr (.inr (.inr (.inl ⟨s, rfl⟩)))
  | ref a =>
    refine .inr (.inr (.inr (.inr ⟨a, rfl, ?_⟩)))
    have e : tyOf (.ref a) H = (match H a with
      | some (.lst _) => some "list"
      | some (.tup _) => some "tuple"
      | some (.dK _) => some "dict"
      | some (.dT _) => some "dict"
      | _ => none) := rfl
    rw [e] at h
    split at h
    · exact .inl (Option.some.inj h).symm
    · exact .inr (.inl (Option.some.inj h).symm)
    · exact .inr (.inr (Option.some.inj h).symm)
    · exact .inr (.inr (Option.some.inj h).symm)
    · cases h
  | byt b => cases h
  | flt b => cases h
  | ty n => cases h
theorem ty_non (H : Hp) : tyOf .non H = some "NoneType" := rfl
theorem ty_bl (b : Bool) (H : Hp) : tyOf (.bl b) H = some "bool" := rfl
theorem ty_int (i : Int) (H : Hp) : tyOf (.int i) H = some "int" := rfl
theorem ty_str (s : Str) (H : Hp) : tyOf (.str s) H = some "str" := rfl
theorem ty_tup {a : Addr} {H : Hp} {xs : List V} (h : H a = some (.tup xs)) : tyOf (.ref a) H = some "tuple" := by
  show (match H a with
      | some (.lst _) => some "list"
      | some (.tup _) => some "tuple"
      | some (.dK _) => some "dict"
      | some (.dT _) => some "dict"
      | _ => none) = _
  rw [h]
theorem ty_lst {a : Addr} {H : Hp} {xs : List V} (h : H a = some (.lst xs)) : tyOf (.ref a) H = some "list" := by
  show (match H a with
      | some (.lst _) => some "list"
      | some (.tup _) => some "tuple"
      | some (.dK _) => some "dict"
      | some (.dT _) => some "dict"
      | _ => none) = _
  rw [h]
/-! ### unpacking, texts -/
section
variable {X : Cx}
def gTupH (n : Nat) (t : TGs) : TG := fun v σ H Q => ∃ a, v = .ref a ∧ ∃ xs, H a = some (.tup xs) ∧ xs.length = n ∧ t xs σ H Q
theorem pg_tupH {es : List Expr} {t : TGs} {k n : Nat} {pos : Pos} (hc : X.calm = true) (h : PGs X es t)
    (hn : (assignEach es X.env).length = n := by rfl) (hst : (assignEach es X.env).findIdx? (·.1) = none := by rfl) : PG X (.Tuple es k pos) (gTupH n t) := by
  have g := pg_tup (k := k) (pos := pos) hc h hn hst
  exact ⟨fun pins s σ H v u Q I r q => g.run pins s σ H v u Q I r (by
    obtain ⟨a, e, xs, hx, hl, k⟩ := q
    exact ⟨a, xs, e, .inl (.inl hx), hl, k⟩)⟩
variable {K : PySem.W.Frag} {σ : L2.St} {H : Hp} {Q : VK} {te : TE} {ts : List TE}
theorem ap_cut {D : Ends} {tu tw : TS} : Evl.tCut tu tw D σ H = ∃ Mid : L2.St → Hp → Prop, tu { D with nx := Mid } σ H ∧ ∀ σ' H', Mid σ' H' → tw D σ' H' := rfl
theorem ap_gTupH {n : Nat} {t : TGs} {v : V} {QN : L2.St → Hp → Prop} : gTupH n t v σ H QN = ∃ a, v = .ref a ∧ ∃ xs, H a = some (.tup xs) ∧ xs.length = n ∧ t xs σ H QN := rfl
theorem ap_fmt : tFmt te σ H Q = te σ H fun x H1 => (∃ y : Str, x = .str y ∧ y.length ≤ sizeLine ∧ Q (.str y) H1) ∨ ∃ i : Int, x = .int i ∧ i.natAbs.log2 < 1920 ∧ Q (.str (toString i)) H1 := rfl
theorem ap_jsn {acc : Str} {QS : Str → Hp → Prop} : tJs [] acc σ H QS = QS acc H := rfl
theorem ap_jsc {acc : Str} {QS : Str → Hp → Prop} : tJs (te :: ts) acc σ H QS = te σ H fun x H1 => ∃ y : Str, x = .str y ∧ (acc ++ y).length ≤ sizeLine ∧ tJs ts (acc ++ y) σ H1 QS := rfl
theorem ap_gcd {vs : List V} : rGcd vs H Q = ∃ a b : Int, vs = [.int a, .int b] ∧ Q (.int ((Nat.gcd a.natAbs b.natAbs : Nat) : Int)) H := rfl
theorem ap_isqrt {vs : List V} : rIsqrt vs H Q = ∃ i, vs = [.int i] ∧ 0 ≤ i ∧ i < (2 ^ 250) ^ 16 ∧ Q (.int ((Float64.isqrt i.toNat : Nat) : Int)) H := rfl
end
end Pr

/-! enumerate over a tuple -/
namespace Pr
open PySem PySem.Spec PyProof.Rows L2
open Sem (wp)
theorem en_new {u : Value} {ob : Obj} {Z : Heap → Prop} (B : Begins u ob Z) :
    Meets (Builtin.«enumerate.__new__» ⟨[.type "enumerate", u], []⟩) (fun _ R z => Z z.heap ∧
      R (.ok (.ret (.ref (z.heap.push ob).objs.size))) { z with heap := (z.heap.push ob).push ⟨.type "enumerate", none, .fields #[.none, .bool false, .ref z.heap.objs.size, rawInt 0, .none, .none], #[]⟩ }) := by
  refine .of_wp fun pg wd B1 R z hz => ?_
  rcases z with ⟨hp, gs, dr, tk, out⟩
  rcases hz with ⟨hb, hz⟩
  have sub1 := sub_enumerate
  have go : ∀ {B' : Around} {E' Q' : Value → Shared → Prop}, Q' (.ref hp.objs.size) ⟨hp.push ob, gs, dr, tk, out⟩ → wpAny (model pg wd) B' (pyIter u) Q' E' ⟨hp, gs, dr, tk, out⟩ := fun y => B.iter pg wd _ _ _ _ hb y
  wp_walk using go
  refine wpAny_stack_any fun stk => wpAny_pure ?_
  split
  · rename_i c' _ _ _ _ _
    rcases hcc : c' == Value.type "enumerate" with _ | _ <;> (simp only [hcc]; wp_walk using go; exact ⟨_, rfl, hz⟩)
  · wp_walk using go; exact ⟨_, rfl, hz⟩
section
variable {pg : Program} {wd : World} {Ar : Around} {E : Value → Shared → Prop} {s : Shared}
theorem en_call {u : Value} {ob : Obj} {Z : Heap → Prop} {Q : Value → Shared → Prop} (B : Begins u ob Z) (hb : Z s.heap)
    (k : ∀ g : Heap, IsEnum g (s.heap.objs.size + 1) s.heap.objs.size 0 .none → g.get? s.heap.objs.size = some ob → g.objs.size = s.heap.objs.size + 2 → (∀ c x, s.heap.get? c = some x → g.get? c = some x) → Q (.ref (s.heap.objs.size + 1)) { s with heap := g }) :
    wpAny (model pg wd) Ar (call (.type "enumerate") [u]) Q E s := by
  have n1 : (s.heap.push ob).objs.size = s.heap.objs.size + 1 := Heap.size_push ..
  have at1 : ((s.heap.push ob).push ⟨.type "enumerate", none, .fields #[.none, .bool false, .ref s.heap.objs.size, rawInt 0, .none, .none], #[]⟩).get? (s.heap.objs.size + 1) = some ⟨.type "enumerate", none, .fields #[.none, .bool false, .ref s.heap.objs.size, rawInt 0, .none, .none], #[]⟩ := by
    rw [← n1]
    exact Heap.get?_push_size _ rfl
  refine callType_new F.called_enumerate (by decide) (F.typeCall_enumerate_1 _) (F.newCall_enumerate_1 _) (fun y => F.args_object_init_2 y _) F.entry_enumerate_new (en_new B) ⟨hb, ?_⟩
  show _ ∧ _
  rw [n1]
  refine ⟨⟨_, at1, rfl⟩, k _ at1 (Heap.get?_push_of_some _ (Heap.get?_push_size _ B.free)) ?_ fun c x ex => Heap.get?_push_of_some _ (Heap.get?_push_of_some _ ex)⟩
  rw [Heap.size_push, n1]
end
/-- the turns of enumerate over the tuple at a -/
def ItT (K : PySem.W.Frag) (a : Addr) : It where
  go := fun i H => ∃ xs x, SqT K H a xs ∧ xs[i]? = some x
  yld := fun i H v H' => ∃ t x, v = .ref t ∧ H t = none ∧ H' = upd H t (.tup [.int (i : Nat), x]) ∧ ∀ xs, SqT K H a xs → xs[i]? = some x
  stop := fun i H => ∃ xs : List V, SqT K H a xs ∧ xs.length ≤ i
theorem turn_en {pg : Program} {wd : World} {K : PySem.W.Frag} {elts : List Expr} {n : Nat} {tp : Pos} (a e it : Addr) :
    Turn pg wd K (.Tuple elts n tp) (ItT K a) [e, it] e (fun i h => (∃ y, IsEnum h e it ((i : Nat) : Int) y) ∧ h.IsTupleIter it a i ∧ e ≠ it) where
  mem := by simp
  obj := fun i h z b hb => by
    rcases z with ⟨⟨y, q1⟩, ⟨o, q2, _, q3⟩, _⟩
    rcases (show b = e ∨ b = it by simpa using hb) with rfl | rfl
    · exact ⟨_, q1, fun v c => nomatch c⟩
    · exact ⟨o, q2, fun v c => by rw [q3] at c; cases c⟩
  keep := fun i h g z k => ⟨⟨_, k e (by simp) _ z.1.choose_spec⟩, z.2.1.at fun o q => k it (by simp) o q, z.2.2⟩
  item := by
    intro X e1 e2 e3 calm i pins s σ H Ex I fps z gg
    subst e1 e2 e3
    rcases z with ⟨⟨y, q1⟩, q2, ne⟩
    rcases gg with ⟨xs, x, sq, ex⟩
    obtain ⟨us, rv, tp1, _⟩ := I.tuple sq
    obtain ⟨u, eu, ru⟩ := rv.get ex
    have la : e < s.heap.objs.size := Heap.lt_size q1
    have lb : it < s.heap.objs.size := by obtain ⟨_, q, _⟩ := q2; exact Heap.lt_size q
    have ai : a ≠ it := fun c => by
      obtain ⟨o, p1, p2, _⟩ := q2
      obtain ⟨o', r1, r2, _⟩ := tp1
      rw [c, p1] at r1
      cases r1
      rw [p2] at r2
      exact absurd r2 (by decide)
    have ae : a ≠ e := fun c => by
      obtain ⟨o', r1, r2, _⟩ := tp1
      rw [c] at r1
      have := q1.symm.trans r1
      cases this
      simp at r2
    have D := Draws.tuple (prog := X.prog) (w := X.w) (A := X.A.in1) (I.ok.hd calm) it a ai us.toArray
    have li : i < us.toArray.size := by
      have := (List.getElem?_eq_some_iff.mp eu).1
      simpa using this
    refine wpAny_pyNext_enum_itemD D q1 ⟨q2, tp1⟩ li ne (by simp [ne, ae.symm]) fun x' g tk px out st2 tup gs keepg => ?_
    have ux : x' = u := by
      have h1 : us.toArray[i]? = some u := by simpa using eu
      exact Option.some.inj (px.symm.trans h1)
    subst ux
    obtain ⟨st2, -⟩ := st2
    refine ⟨_, rfl, wpAny_letOwnedTupleGo_enum (s := { s with heap := g, toks := tk + 1 }) out fun g2 q3 sb => ?_⟩
    obtain ⟨sb1, sb⟩ := sb
    have nw : g2.get? s.heap.objs.size = some { cls := .type "tuple", data := .seq #[.int i tk, x'] } := by rw [← tup]; exact sb _ (Nat.ne_of_gt la)
    have kp : ∀ c o, c ∉ [e, it] → s.heap.get? c = some o → g2.get? c = some o := fun c o nc ec => by
      have c1 : c ≠ e := fun z => nc (by simp [z])
      have c2 : c ≠ it := fun z => nc (by simp [z])
      exact (sb c c1).trans (keepg c o c1 c2 ec)
    have wr : ObjOk X.prog X.w (upd H s.heap.objs.size (.tup [.int (i : Nat), x])) g2 s.heap.objs.size (.tup [.int (i : Nat), x]) := ⟨by show 2 ≤ sizeLine; decide, [.int i tk, x'], .cons ⟨_, rfl⟩ (.cons ru .nil), ⟨_, nw, rfl, _, rfl⟩⟩
    have I2 := I.turnedNew (t' := tk + 1) (ch := [e, it]) kp fps (Nat.le_refl _) wr
    have fr := I.hok.fresh (Nat.le_refl s.heap.objs.size)
    have q4 : IsEnum g2 e it ((i + 1 : Nat) : Int) x' := by
      rw [show ((i + 1 : Nat) : Int) = (i : Int) + 1 by omega]
      exact q3
    refine ⟨.ref s.heap.objs.size, _, I2, rfl, ⟨_, x, rfl, fr, rfl, fun ys hy => (I.tuple_inj hy sq) ▸ ex⟩, ⟨⟨_, q4⟩, st2.at fun o q => (sb it ne.symm).trans q, ne⟩, fun b hb => ?_⟩
    have lt : b < s.heap.objs.size := by
      rcases (show b = e ∨ b = it by simpa using hb) with rfl | rfl
      · exact la
      · exact lb
    rw [upd_ne (Nat.ne_of_lt lt)]
    exact (fps b hb).1
  done := by
    intro X e1 e2 e3 calm i pins s σ H Ex I fps z gg
    subst e1 e2 e3
    rcases z with ⟨⟨y, q1⟩, q2, ne⟩
    rcases gg with ⟨xs, sq, ex⟩
    obtain ⟨us, rv, tp1, _⟩ := I.tuple sq
    have ai : a ≠ it := fun c => by
      obtain ⟨o, p1, p2, _⟩ := q2
      obtain ⟨o', r1, r2, _⟩ := tp1
      rw [c, p1] at r1
      cases r1
      rw [p2] at r2
      exact absurd r2 (by decide)
    obtain ⟨f0, f1, f2, f3, f4, f5⟩ := fps it (by simp)
    have ln := rv.length
    have D : Draws X.prog X.w X.A.in1 it [it, a] 0 (fun _ _ => False) (fun _ h => h.IsTupleIter it a i ∧ h.IsTuple a us.toArray) := {
      live := fun _ _ st => let ⟨o, ho, _⟩ := st.1; ⟨o, ho⟩
      frame := fun _ _ _ st k => ⟨st.1.at fun o q => k it (by simp) o q, st.2.at fun o q => k a (by simp) o q⟩
      item := fun j _ _ _ lt => absurd lt (Nat.not_lt_zero j)
      done := fun s Q E st k => wpAny_nextOf_tuple_end (I.ok.hd calm) st.1 st.2 (by simp; omega) k }
    exact wpAny_pyNext_enum_endD D q1 ⟨q2, tp1⟩ fun g k => ⟨rfl, I.turned (t' := s.toks) (fun b o nb q => k b o nb q) f0 f1 f3 f4 f5⟩
  self := fun B i s Q Ex z k => wpAny_pyIter_enum z.1.choose_spec k
end Pr

/-! loops and comprehensions over anything that gives n things -/
namespace Pr
open PySem PySem.Spec PyProof.Rows L2
/-- while F holds, J goes through n things, as Y tells -/
structure Gives (J : It) (n : Nat) (F : Hp → Prop) (Y : Nat → V → Hp → Hp → Prop) : Prop where
  go : ∀ i H, i < n → F H → J.go i H
  yld : ∀ i H v H', i < n → F H → J.yld i H v H' → Y i v H H'
  stop : ∀ H, F H → J.stop n H
section
variable {K : PySem.W.Frag} {g : TG} {tb : TS} {D : Ends} {σ : L2.St} {H : Hp} {j k : Nat} {te : TE} {tt : TT} {vs : List Nat} {Q : VK} {J : It} {n : Nat} {F : Hp → Prop} {Y : Nat → V → Hp → Hp → Prop}
theorem loop_gen (G : Gives J n F Y) (Pv : Nat → L2.St → Hp → Prop) (h0 : Pv 0 σ H) (hF : ∀ i σ H, i ≤ n → Pv i σ H → F H)
    (hs : ∀ i v σ H H', i < n → Pv i σ H → Y i v H H' → g v σ H' fun σ2 H2 => tb { D with nx := Pv (i + 1), ct := Pv (i + 1), bk := D.nx } σ2 H2) (hd : ∀ σ H, Pv n σ H → D.nx σ H) : tLoop g tb D σ J H := by
  refine ⟨fun i m σ H => m + i = n ∧ Pv i σ H, ⟨n, rfl, h0⟩, fun i m σ H ⟨e, p⟩ => ?_⟩
  have f := hF i σ H (by omega) p
  rcases m with _ | m
  · have e' : i = n := by omega
    subst e'
    exact .inl ⟨G.stop H f, hd σ H p⟩
  · exact .inr ⟨G.go i H (by omega) f, Pv (i + 1), fun σ' H' p' => ⟨m, Nat.lt_succ_self m, by omega, p'⟩, fun v H' y => hs i v σ H H' (by omega) p (G.yld i H v H' (by omega) f y)⟩
theorem lc_gen (G : Gives J n F Y) (Pv : Addr → Nat → Hp → Prop) (h0 : ∀ A, H A = none → Pv A 0 (upd H A (.lst []))) (hF : ∀ A i H, i ≤ n → Pv A i H → F H)
    (hs : ∀ A i v H1 H', H A = none → i < n → Pv A i H1 → Y i v H1 H' → g v (wipe σ vs) H' fun σ2 H2 => wipe σ2 vs = wipe σ vs ∧ tt σ2 H2 fun b H3 =>
      if b = true then te σ2 H3 fun y H4 => ∃ acc, H4 A = some (.lst acc) ∧ acc.length < sizeLine ∧ Pv A (i + 1) (upd H4 A (.lst (acc ++ [y]))) else Pv A (i + 1) H3)
    (hd : ∀ A H', H A = none → Pv A n H' → Q (.ref A) H') : tLcIn g tt te vs σ Q J H := by
  intro A hA
  refine ⟨fun i m H' => m + i = n ∧ Pv A i H', ⟨n, rfl, h0 A hA⟩, fun i m H1 ⟨e, p⟩ => ?_⟩
  have f := hF A i H1 (by omega) p
  rcases m with _ | m
  · have e' : i = n := by omega
    subst e'
    exact .inl ⟨G.stop H1 f, hd A H1 hA p⟩
  · exact .inr ⟨G.go i H1 (by omega) f, Pv A (i + 1), fun H' p' => ⟨m, Nat.lt_succ_self m, by omega, p'⟩, fun v H' y => hs A i v H1 H' hA (by omega) p (G.yld i H1 v H' (by omega) f y)⟩
/-- a new pair of two things, told by R -/
def PY (R : Nat → V → V → Prop) : Nat → V → Hp → Hp → Prop := fun i v H H' => ∃ t x y, v = .ref t ∧ H t = none ∧ H' = upd H t (.tup [x, y]) ∧ R i x y
theorem gives_en {a : Addr} {xs : List V} : Gives (ItT K a) xs.length (fun H => H a = some (.tup xs)) (PY fun i x y => x = .int (i : Nat) ∧ xs[i]? = some y) where
  go := fun i H lt f => ⟨xs, xs[i], sqT_of f, by simp [lt]⟩
  yld := fun i H v H' lt f y => by
    obtain ⟨t, x, e1, e2, e3, e4⟩ := y
    exact ⟨t, _, x, e1, e2, e3, rfl, e4 xs (sqT_of f)⟩
  stop := fun H f => ⟨xs, sqT_of f, Nat.le_refl _⟩
theorem gives_enL {a : Addr} {xs : List V} : Gives (Ite K a) xs.length (fun H => H a = some (.lst xs)) (PY fun i x y => x = .int (i : Nat) ∧ xs[i]? = some y) where
  go := fun i H lt f => ⟨xs, xs[i], sqL_of f, by simp [lt]⟩
  yld := fun i H v H' lt f y => by
    obtain ⟨t, x, e1, e2, e3, e4⟩ := y
    exact ⟨t, _, x, e1, e2, e3, rfl, e4 xs (sqL_of f)⟩
  stop := fun H f => ⟨xs, sqL_of f, Nat.le_refl _⟩
theorem gives_zipL {a b : Addr} {xs ys : List V} (hl : xs.length = ys.length) : Gives (Itz K a b) xs.length (fun H => H a = some (.lst xs) ∧ H b = some (.lst ys)) (PY fun i x y => xs[i]? = some x ∧ ys[i]? = some y) where
  go := fun i H lt f => ⟨xs, ys, xs[i], ys[i]'(hl ▸ lt), sqL_of f.1, sqL_of f.2, by simp [lt], by simp [hl ▸ lt]⟩
  yld := fun i H v H' lt f y => by
    obtain ⟨t, x, y, e1, e2, e3, e4, e5⟩ := y
    exact ⟨t, x, y, e1, e2, e3, e4 xs (sqL_of f.1), e5 ys (sqL_of f.2)⟩
  stop := fun H f => ⟨xs, ys, sqL_of f.1, sqL_of f.2, .inl (Nat.le_refl _)⟩
theorem gives_zipT {a b : Addr} {xs ys : List V} (hl : xs.length = ys.length) : Gives (RZ.ItzT K a b) xs.length (fun H => H a = some (.tup xs) ∧ H b = some (.tup ys)) (PY fun i x y => xs[i]? = some x ∧ ys[i]? = some y) where
  go := fun i H lt f => ⟨xs, ys, xs[i], ys[i]'(hl ▸ lt), sqT_of f.1, sqT_of f.2, by simp [lt], by simp [hl ▸ lt]⟩
  yld := fun i H v H' lt f y => by
    obtain ⟨t, x, y, e1, e2, e3, e4, e5⟩ := y
    exact ⟨t, x, y, e1, e2, e3, e4 xs (sqT_of f.1), e5 ys (sqT_of f.2)⟩
  stop := fun H f => ⟨xs, ys, sqT_of f.1, sqT_of f.2, .inl (Nat.le_refl _)⟩
theorem pair_in {R : Nat → V → V → Prop} {u v i : Nat} {x : V} {H1 H' : Hp} {QN : L2.St → Hp → Prop} (y : PY R i x H1 H') (k : ∀ t a b, H1 t = none → R i a b → QN ((σ.set u (some a)).set v (some b)) (upd H1 t (.tup [a, b]))) : gTupH 2 (gCons (gName u) (gCons (gName v) gNil)) x σ H' QN := by
  obtain ⟨t, a, b, rfl, nt, rfl, r⟩ := y
  exact ⟨t, rfl, [a, b], upd_same, rfl, a, [b], rfl, b, [], rfl, rfl, k t a b nt r⟩
theorem loop_pair {R : Nat → V → V → Prop} {u v : Nat} (G : Gives J n F (PY R)) (Pv : Nat → L2.St → Hp → Prop) (h0 : Pv 0 σ H) (hF : ∀ i σ H, i ≤ n → Pv i σ H → F H)
    (hs : ∀ i a b t σ H1, i < n → Pv i σ H1 → H1 t = none → R i a b → tb { D with nx := Pv (i + 1), ct := Pv (i + 1), bk := D.nx } ((σ.set u (some a)).set v (some b)) (upd H1 t (.tup [a, b]))) (hd : ∀ σ H, Pv n σ H → D.nx σ H) :
    tLoop (gTupH 2 (gCons (gName u) (gCons (gName v) gNil))) tb D σ J H :=
  loop_gen G Pv h0 hF (fun i x σ H1 H' hi p y => pair_in y fun t a b nt r => hs i a b t σ H1 hi p nt r) hd
/-- a comprehension over pairs that gives ints -/
theorem lc_pairI {R : Nat → V → V → Prop} {u v : Nat} (G : Gives J n F (PY R)) (f : Nat → Int) (hn : n < 1000000) (hF : ∀ H', Same H H' → F H')
    (hw : ∀ x y, wipe (((wipe σ vs).set u (some x)).set v (some y)) vs = wipe σ vs)
    (he : ∀ i a b H', i < n → R i a b → Same H H' → ∀ Q' : VK, (∀ H'', Same H' H'' → Q' (.int (f i)) H'') → te (((wipe σ vs).set u (some a)).set v (some b)) H' Q')
    (hq : ∀ p H', H p = none → Same H H' → H' p = some (LI ((List.range n).map f)) → Q (.ref p) H') :
    tLcIn (gTupH 2 (gCons (gName u) (gCons (gName v) gNil))) tYes te vs σ Q J H := by
  refine lc_gen G (fun A i H' => Same H H' ∧ H' A = some (LI ((List.range i).map f))) (fun A hA => ⟨same_upd hA, upd_same⟩) (fun A i H' _ p => hF H' p.1) (fun A i x H1 H' hA hi p y => ?_) (fun A H' hA p => hq A H' hA p.1 p.2)
  refine pair_in y fun t a b nt r => ⟨hw a b, ?_⟩
  have s1 := same_upd (o := HO.tup [a, b]) nt
  refine he i a b _ hi r (p.1.trans s1) _ fun H2 s2 => ⟨_, s2 _ _ (s1 _ _ p.2), sz (by simp; omega), same_mut ((p.1.trans s1).trans s2) hA, ?_⟩
  rw [upd_same, List.range_succ, List.map_append]
  simp
theorem lc_tupI {a : Addr} {xs : List V} (f : Nat → Int) (hx : H a = some (.tup xs)) (hn : xs.length < 1000000) (hw : ∀ x, wipe ((wipe σ vs).set j (some x)) vs = wipe σ vs)
    (he : ∀ (i : Nat) x H', xs[i]? = some x → Same H H' → ∀ Q' : VK, (∀ H'', Same H' H'' → Q' (.int (f i)) H'') → te ((wipe σ vs).set j (some x)) H' Q')
    (hq : ∀ p H', H p = none → Same H H' → H' p = some (LI ((List.range xs.length).map f)) → Q (.ref p) H') :
    tLcIn (gName j) tYes te vs σ Q (Itt K a) H := by
  refine lc_gen (n := xs.length) (F := fun H' => H' a = some (.tup xs)) (Y := fun i v H H' => H' = H ∧ xs[i]? = some v) ⟨fun i H lt f => ⟨xs, xs[i], sqT_of f, by simp [lt]⟩, fun i H v H' lt f y => ⟨y.1, y.2 xs (sqT_of f)⟩, fun H f => ⟨xs, sqT_of f, Nat.le_refl _⟩⟩
    (fun A i H' => Same H H' ∧ H' A = some (LI ((List.range i).map f))) (fun A hA => ⟨same_upd hA, upd_same⟩) (fun A i H' _ p => p.1 _ _ hx) (fun A i x H1 H' hA hi p y => ?_) (fun A H' hA p => hq A H' hA p.1 p.2)
  obtain ⟨rfl, y⟩ := y
  refine ⟨hw _, he i x _ y p.1 _ fun H2 s2 => ⟨_, s2 _ _ p.2, sz (by simp; omega), same_mut (p.1.trans s2) hA, ?_⟩⟩
  rw [upd_same, List.range_succ, List.map_append]
  simp
/-- the made list, told another way -/
theorem range_map {f : Nat → Int} {ns : List Int} (h : ∀ i n, ns[i]? = some n → f i = n) : (List.range ns.length).map f = ns := by
  refine List.ext_getElem? fun i => ?_
  rw [List.getElem?_map]
  by_cases hi : i < ns.length
  · rw [List.getElem?_range hi, List.getElem?_eq_getElem hi]
    exact congrArg some (h i _ (List.getElem?_eq_getElem hi))
  · rw [List.getElem?_eq_none (by simpa using hi), List.getElem?_eq_none (by omega)]
    rfl
theorem gives_list {a : Addr} {xs : List V} : Gives (Itl K a) xs.length (fun H => H a = some (.lst xs)) (fun i v H H' => H' = H ∧ xs[i]? = some v) where
  go := fun i H lt f => ⟨xs, xs[i], sqL_of f, by simp [lt]⟩
  yld := fun i H v H' lt f y => ⟨y.1, y.2 xs (sqL_of f)⟩
  stop := fun H f => ⟨xs, sqL_of f, Nat.le_refl _⟩
theorem gives_tup {a : Addr} {xs : List V} : Gives (Itt K a) xs.length (fun H => H a = some (.tup xs)) (fun i v H H' => H' = H ∧ xs[i]? = some v) where
  go := fun i H lt f => ⟨xs, xs[i], sqT_of f, by simp [lt]⟩
  yld := fun i H v H' lt f y => ⟨y.1, y.2 xs (sqT_of f)⟩
  stop := fun H f => ⟨xs, sqT_of f, Nat.le_refl _⟩
end
section
variable {X : Cx}
def iEnT (K : PySem.W.Frag) (ta : TA) : L2.TI := fun σ H R => ta σ H fun vs H1 => ∃ a xs, vs = [.ref a] ∧ SqT K H1 a xs ∧ R (ItT K a) H1
theorem pi_enT {e : Expr} {ta : TA} {p pos tpos : Pos} {elts : List Expr} {kk : Nat} (hg : Gl X "enumerate") (hm : X.mg "enumerate" = none) (ha : PA X [e] ta) (hs : starEach [e] X.env = [(false, eval e X.env)] := by rfl) :
    PI X (.Tuple elts kk tpos) (.Call (.Name "enumerate" p) [e] [] pos) (iEnT X.K ta) := by
  constructor
  intro pins s σ H R I h
  refine Call_ (ld_blt I hg hm boot_enumerate (PyProof.Rows.callWith_type1 (thn (ha.run pos pins s σ H _ I h) fun us z ⟨ws, H1, I1, rel, q⟩ => ?_) hs rfl))
  rcases q with ⟨a, xs, ex, sq, k⟩
  subst ex
  rcases rel with _ | ⟨r, rr⟩
  cases rr
  cases r
  obtain ⟨its, -, tp, -⟩ := I1.tuple sq
  refine en_call (begins_tuple a its.toArray) tp fun g e1 e2 e3 e4 => wpAny_pyIter_enum e1 ?_
  have I2 : Inv X pins σ H1 { z with heap := g } := I1.kept (t' := z.toks) e4
  refine ⟨z.heap.objs.size + 1, [z.heap.objs.size + 1, z.heap.objs.size], _, _, H1, rfl, I2, turn_en a _ z.heap.objs.size, ⟨⟨.none, e1⟩, ⟨_, e2, rfl, rfl⟩, Nat.succ_ne_self _⟩, fun b hb => ?_, k⟩
  have le : z.heap.objs.size ≤ b := by
    rcases (show b = z.heap.objs.size + 1 ∨ b = z.heap.objs.size by simpa using hb) with rfl | rfl
    · exact Nat.le_succ _
    · exact Nat.le_refl _
  exact I1.fpOk le (I1.hok.fresh le)
theorem ap_iEnT {K : PySem.W.Frag} {ta : TA} {σ : L2.St} {H : Hp} {R : It → Hp → Prop} : iEnT K ta σ H R = ta σ H fun vs H1 => ∃ a xs, vs = [.ref a] ∧ SqT K H1 a xs ∧ R (ItT K a) H1 := rfl
theorem ap_iEnL {K : PySem.W.Frag} {ta : TA} {σ : L2.St} {H : Hp} {R : It → Hp → Prop} : iEnum K ta σ H R = ta σ H fun vs H1 => ∃ a xs, vs = [.ref a] ∧ SqL K H1 a xs ∧ R (Ite K a) H1 := rfl
theorem ap_iZipA {K : PySem.W.Frag} {ta : TA} {σ : L2.St} {H : Hp} {R : It → Hp → Prop} : RZ.iZipA K ta σ H R = ta σ H fun vs H1 => ∃ a b xs ys, vs = [.ref a, .ref b] ∧ ((SqL K H1 a xs ∧ SqL K H1 b ys ∧ R (Itz K a b) H1) ∨ (SqT K H1 a xs ∧ SqT K H1 b ys ∧ R (RZ.ItzT K a b) H1)) := rfl
theorem ap_all {K : PySem.W.Frag} {vs : List V} {H : Hp} {Q : VK} : rAll K vs H Q = ∃ (a : Addr) (bs : List Bool), vs = [V.ref a] ∧ SqL K H a (bs.map V.bl) ∧ Q (.bl (bs.all id)) H := rfl
end
section
variable {K : PySem.W.Frag} {g : TG} {D : Ends} {σ : L2.St} {H : Hp} {j : Nat} {te : TE} {vs : List Nat} {Q : VK} {tt : TT}
theorem lc_no {a : Addr} {xs : List V} (hx : H a = some (.lst xs)) (hw : ∀ x, wipe ((wipe σ vs).set j (some x)) vs = wipe σ vs)
    (ht : ∀ (i : Nat) x H', xs[i]? = some x → Same H H' → ∀ Q' : Bool → Hp → Prop, Q' false H' → tt ((wipe σ vs).set j (some x)) H' Q')
    (hq : ∀ p H', H p = none → Same H H' → H' p = some (.lst []) → Q (.ref p) H') :
    tLcIn (gName j) tt te vs σ Q (Itl K a) H := fun Dl hD => by
  refine lc_list (g := gName j) (xs := xs) (fun i H' => Same H H' ∧ H' Dl = some (.lst [])) ⟨same_upd hD, upd_same⟩ (fun i H' hi hP => sqL_of (hP.1 _ _ hx)) (fun i x H' hi hP => ?_) (fun H' hP => hq Dl H' hD hP.1 hP.2)
  obtain ⟨sm, ed⟩ := hP
  exact ⟨hw _, ht i x H' hi sm _ ⟨sm, ed⟩⟩
theorem lc_tupV {a : Addr} {xs : List V} (f : Nat → V) (hx : H a = some (.tup xs)) (hn : xs.length < 1000000) (hw : ∀ x, wipe ((wipe σ vs).set j (some x)) vs = wipe σ vs)
    (he : ∀ (i : Nat) x H', xs[i]? = some x → Same H H' → ∀ Q' : VK, (∀ H'', Same H' H'' → Q' (f i) H'') → te ((wipe σ vs).set j (some x)) H' Q')
    (hq : ∀ p H', H p = none → Same H H' → H' p = some (.lst ((List.range xs.length).map f)) → Q (.ref p) H') :
    tLcIn (gName j) tYes te vs σ Q (Itt K a) H := fun Dl hD => by
  refine lc_tup (g := gName j) (xs := xs) (fun i H' => Same H H' ∧ H' Dl = some (.lst ((List.range i).map f))) ⟨same_upd hD, ?_⟩ (fun i H' hi hP => sqT_of (hP.1 _ _ hx)) (fun i x H' hi hP => ?_) (fun H' hP => hq Dl H' hD hP.1 hP.2)
  · rw [upd_same]
    rfl
  · obtain ⟨sm, ed⟩ := hP
    have hl := (List.getElem?_eq_some_iff.mp hi).1
    refine ⟨hw _, he i x H' hi sm _ fun H'' sm' => ⟨_, sm' _ _ ed, sz (by simp; omega), same_mut (sm.trans sm') hD, ?_⟩⟩
    rw [upd_same, List.range_succ, List.map_append]
    simp
end
section
variable {X : Cx}
/-- tuple(t) of a tuple -/
def rTupT : List V → Hp → VK → Prop := fun vs H Q => ∃ p, vs = [.ref p] ∧ ∃ xs, H p = some (.tup xs) ∧ Q (.ref p) H
theorem cr_tupT : CallR X (.type "tuple") rTupT := callImp call_tupleT fun vs H Q ⟨p, e, xs, h, q⟩ => ⟨p, xs, e, sqT_of h, q⟩
theorem ap_tupT {vs : List V} {H : Hp} {Q : VK} : rTupT vs H Q = ∃ p, vs = [.ref p] ∧ ∃ xs, H p = some (.tup xs) ∧ Q (.ref p) H := rfl
end
end Pr

/-! own operators of a class with plain instances -/
namespace Pr
open PySem PySem.Spec PyProof.Rows L2
section
variable {X : Cx} {CX : CXT} {k : Nat} {C g : Addr} {fd : FuncData} {ps : List Str} {sp : Sp} {E : XK} {op : Operator}
/-- x op y, both of the class at C -/
def rBin (C : Addr) (sp : Sp) (E : XK) : R2 := fun x y H Q => ∃ a dx fs b dy gs, x = .ref a ∧ y = .ref b ∧ H a = some (.ins C dx fs) ∧ H b = some (.ins C dy gs) ∧ sp [x, y] H Q E
theorem op_bin (first : PySem.W.selfFirst X.K C = true) (at_ : PySem.W.findIn X.K (.ref C) (PySem.dunder op.info.2) = some (some (.ref g))) (fn : PySem.W.isFn X.K (.ref g) = true)
    (F : FnOk X.prog X.w X.K X.mg X.base CX k g fd ps sp) (room : Room k X.A) (hb : Binds X.K fd ps []) (pass : Passes CX X E) : OpR X (binaryOp op) (rBin C sp E) := by
  intro pins s σ H x y v u Q I rx ry h
  obtain ⟨a, dx, fs, b, dy, gs, rfl, rfl, ea, eb, q⟩ := h
  cases (show v = Value.ref a from rx)
  cases (show u = Value.ref b from ry)
  obtain ⟨_, O, _⟩ := ins_get I.hok ea
  obtain ⟨_, J, _⟩ := O.look
  obtain ⟨_, O2, _⟩ := ins_get I.hok eb
  obtain ⟨_, J2, _⟩ := O2.look
  obtain ⟨m, fr⟩ := I.fr
  refine PySem.W.binop_K fr I.ok.mod.kin J J2.type first at_ fn (wpAny_mono (run_fn (vs := [.ref a, .ref b]) (us := [.ref a, .ref b]) F room hb .nil pass I (.cons rfl (.cons rfl .nil)) q) (fun z s' r => ?_) fun _ _ e => e)
  obtain ⟨z', H', I', rz, qz⟩ := r
  exact SlX.cmpback rz ⟨z', H', I', rz, qz⟩
/-- x op n, x of the class at C, n an int -/
def rBinI (C : Addr) (sp : Sp) (E : XK) : R2 := fun x y H Q => ∃ a dx fs n, x = .ref a ∧ y = .int n ∧ H a = some (.ins C dx fs) ∧ sp [x, y] H Q E
theorem op_binI {fo ro rc : Option Value} (first : PySem.W.selfFirst X.K C = true) (at_ : PySem.W.findIn X.K (.ref C) (PySem.dunder op.info.2) = some (some (.ref g))) (fn : PySem.W.isFn X.K (.ref g) = true)
    (hr : PySem.W.findIn X.K (.ref C) (dunderR op.info.2) = some rc) (hp : rc = none ∨ ∃ g : Addr, rc = some (.ref g)) (h1 : PySem.W.findIn X.K (.type "int") (PySem.dunder op.info.2) = some fo) (h2 : PySem.W.findIn X.K (.type "int") (dunderR op.info.2) = some ro)
    (sub : PySem.W.subIn X.K (.type "int") (.ref C) = some false)
    (F : FnOk X.prog X.w X.K X.mg X.base CX k g fd ps sp) (room : Room k X.A) (hb : Binds X.K fd ps []) (pass : Passes CX X E) : OpR X (binaryOp op) (rBinI C sp E) := by
  intro pins s σ H x y v u Q I rx ry h
  obtain ⟨a, dx, fs, n, rfl, rfl, ea, q⟩ := h
  cases (show v = Value.ref a from rx)
  obtain ⟨t, rfl⟩ := (show ∃ t, u = Value.int n t from ry)
  obtain ⟨_, O, _⟩ := ins_get I.hok ea
  obtain ⟨_, J, _⟩ := O.look
  obtain ⟨m, fr⟩ := I.fr
  refine PySem.W.ksp_binT (T := "int") fr I.ok.mod.kin J rfl first at_ fn hr hp h1 h2 sub (wpAny_mono (run_fn (vs := [.ref a, .int n]) (us := [.ref a, .int n t]) F room hb .nil pass I (.cons rfl (.cons ⟨t, rfl⟩ .nil)) q) (fun z s' r => ?_) fun _ _ e => e)
  obtain ⟨z', H', I', rz, qz⟩ := r
  exact SlX.cmpback rz ⟨z', H', I', rz, qz⟩
/-- -x -/
def rNeg (C : Addr) (sp : Sp) (E : XK) : V → Hp → VK → Prop := fun x H Q => ∃ a dx fs, x = .ref a ∧ H a = some (.ins C dx fs) ∧ sp [x] H Q E
theorem un_negOwn (at_ : PySem.W.findIn X.K (.ref C) "__neg__" = some (some (.ref g))) (fn : PySem.W.isFn X.K (.ref g) = true)
    (F : FnOk X.prog X.w X.K X.mg X.base CX k g fd ps sp) (room : Room k X.A) (hb : Binds X.K fd ps []) (pass : Passes CX X E) : UnR X (unaryOp .USub) (rNeg C sp E) := by
  intro pins s σ H x v Q I rx h
  obtain ⟨a, dx, fs, rfl, ea, q⟩ := h
  cases (show v = Value.ref a from rx)
  obtain ⟨_, O, _⟩ := ins_get I.hok ea
  obtain ⟨_, J, _⟩ := O.look
  obtain ⟨m, fr⟩ := I.fr
  exact PySem.W.ksp_neg fr I.ok.mod.kin J at_ fn (run_fn (vs := [.ref a]) (us := [.ref a]) F room hb .nil pass I (.cons rfl .nil) q)
/-- x == y, both of the class at C, by its own def; the other instance's class is C too -/
theorem op_eqOwn {cop : CmpOp} (hop : ∀ a b, compareOp cop a b = richCompare cop a b) (not : PySem.W.notFirst X.K C (.ref C) = true) (at_ : PySem.W.findIn X.K (.ref C) (cmpInfo cop).2.1 = some (some (.ref g))) (fn : PySem.W.isFn X.K (.ref g) = true)
    (F : FnOk X.prog X.w X.K X.mg X.base CX k g fd ps sp) (room : Room k X.A) (hb : Binds X.K fd ps []) (pass : Passes CX X E) : OpR X (compareOp cop) (rBin C sp E) := by
  intro pins s σ H x y v u Q I rx ry h
  obtain ⟨a, dx, fs, b, dy, gs, rfl, rfl, ea, eb, q⟩ := h
  cases (show v = Value.ref a from rx)
  cases (show u = Value.ref b from ry)
  obtain ⟨_, O, _⟩ := ins_get I.hok ea
  obtain ⟨_, J, _⟩ := O.look
  obtain ⟨_, O2, _⟩ := ins_get I.hok eb
  obtain ⟨_, J2, _⟩ := O2.look
  obtain ⟨m, fr⟩ := I.fr
  rw [hop]
  refine PySem.W.cmp_K (op := cop) (tb := .ref C) room.units0 fr I.ok.mod.kin J J2.type not at_ fn (wpAny_mono (run_fn (vs := [.ref a, .ref b]) (us := [.ref a, .ref b]) F room hb .nil pass I (.cons rfl (.cons rfl .nil)) q) (fun z s' r => ?_) fun _ _ e => e)
  obtain ⟨z', H', I', rz, qz⟩ := r
  exact SlX.cmpback rz ⟨z', H', I', rz, qz⟩
end
end Pr

/-! shifts, masks, bit lengths, comb, ranges with a step above 0 -/
namespace Pr
open PySem PySem.Spec PyProof.Rows L2
section
variable {X : Cx}
def rShl : R2 := fun x y H Q => ∃ (i : Int) (k : Nat), x = .int i ∧ y = .int (k : Int) ∧ CShl i (k : Int) ∧ Q (.int (i * 2 ^ k)) H
def rShr : R2 := fun x y H Q => ∃ (i : Int) (k : Nat), x = .int i ∧ y = .int (k : Int) ∧ Q (.int (i / 2 ^ k)) H
def rMask : R2 := fun x y H Q => ∃ (i : Int) (k : Nat), x = .int i ∧ y = .int (2 ^ k - 1) ∧ Q (.int (i % 2 ^ k)) H
theorem op_shlK : OpR X (binaryOp .LShift) rShl := op_shlN
theorem op_shrK : OpR X (binaryOp .RShift) rShr := op_shrN
theorem op_maskK : OpR X (binaryOp .BitAnd) rMask := op_andM
def rComb : List V → Hp → VK → Prop := fun vs H Q => ∃ i j, vs = [.int i, .int j] ∧ 0 ≤ i ∧ 0 ≤ j ∧ i < 2 ^ 60 ∧ j ≤ 9000 ∧ Q (.int (PySem.W.mcComb i j)) H
theorem cr_comb : CallR X (.builtin "math.comb") rComb := by
  intro pins s σ H vs us Q I r h
  obtain ⟨i, j, rfl, h0, h1, h2, h3, q⟩ := h
  obtain ⟨u, w', rfl, ⟨t, rfl⟩, ⟨t', rfl⟩⟩ := vals2 r
  exact PySem.call_function_meets PySem.W.MGF.kind_comb PySem.W.MGF.plain_comb PySem.W.MGF.entry_comb (PySem.W.MGF.args_comb _ _) (PySem.W.mc_gives_comb t t' h0 h1 (by omega) (.inl h3)).meets ⟨.int _, H, I.tok _, ⟨_, rfl⟩, q⟩
end
section
variable {σ : L2.St} {H : Hp} {Q : VK} {x y : V} {R : It → Hp → Prop}
theorem ap_shl : rShl x y H Q = ∃ (i : Int) (k : Nat), x = .int i ∧ y = .int (k : Int) ∧ CShl i (k : Int) ∧ Q (.int (i * 2 ^ k)) H := rfl
theorem ap_shr : rShr x y H Q = ∃ (i : Int) (k : Nat), x = .int i ∧ y = .int (k : Int) ∧ Q (.int (i / 2 ^ k)) H := rfl
theorem ap_mask : rMask x y H Q = ∃ (i : Int) (k : Nat), x = .int i ∧ y = .int (2 ^ k - 1) ∧ Q (.int (i % 2 ^ k)) H := rfl
theorem ap_comb {vs : List V} : rComb vs H Q = ∃ i j, vs = [.int i, .int j] ∧ 0 ≤ i ∧ 0 ≤ j ∧ i < 2 ^ 60 ∧ j ≤ 9000 ∧ Q (.int (PySem.W.mcComb i j)) H := rfl
theorem ap_bits {to : TE} : tBits to σ H Q = to σ H fun x H1 => ∃ i, x = .int i ∧ Q (.int (Builtin.Int.intBits i : Nat)) H1 := rfl
theorem ap_rng3 {ta : TA} : iRng3 ta σ H R = ta σ H fun vs H1 => ∃ (i j c : Int) (n : Nat), vs = [.int i, .int j, .int c] ∧ RgC i j c n ∧ R (Itc i c n) H1 := rfl
theorem loop_rangeC {lo c : Int} {n j : Nat} {tb : TS} {D : Ends} (Pv : Nat → L2.St → Hp → Prop) (h0 : Pv 0 σ H)
    (hs : ∀ (i : Nat) σ H, i < n → Pv i σ H → tb { D with nx := Pv (i + 1), ct := Pv (i + 1), bk := D.nx } (σ.set j (some (.int (lo + i * c)))) H) (hd : ∀ σ H, Pv n σ H → D.nx σ H) :
    tLoop (gName j) tb D σ (Itc lo c n) H := for_rangeC (g := gName j) Pv h0 hs hd
end
theorem rgc_up {i j c : Int} {n : Nat} (hc : 0 < c) (hc2 : c < 1073741824) (hi : -(2 ^ 61) ≤ i) (hi2 : i < 2 ^ 61) (hj : -(2 ^ 61) ≤ j) (hj2 : j < 2 ^ 61) (hn : (n : Int) = if i < j then (j - i - 1) / c + 1 else 0) : RgC i j c n := by
  have hs : Builtin.Range.rangeSize i j c = (n : Int) := by
    unfold Builtin.Range.rangeSize
    rw [if_pos hc, hn]
  refine ⟨by omega, by omega, ?_, hs⟩
  have hle : ∀ x : Int, 0 ≤ x → x / c ≤ x := fun x h => Int.ediv_le_self c h
  have hm : ∀ x : Int, 0 ≤ x → x / c * c ≤ x := fun x _ => Int.ediv_mul_le x (by omega)
  have hle' := hle (j - i - 1)
  have hm' := hm (j - i - 1)
  unfold Builtin.Range.small
  rw [hs, hn]
  simp only [Builtin.Range.rangeFitsLong, Bool.and_eq_true, Bool.or_eq_true, decide_eq_true_eq, beq_iff_eq, show c > 0 from hc, if_true]
  split
  · generalize (j - i - 1) / c = q at *
    have e : (q + 1) * c = q * c + c := by rw [Int.add_mul, Int.one_mul]
    generalize q * c = z at *
    omega
  · omega
/-- products that go down, and lots -/
theorem fp_shift (n : Int) : ∀ k : Nat, Builtin.Math.fallingProduct n (k + 1) = n * Builtin.Math.fallingProduct (n - 1) k
  | 0 => by rw [PySem.W.mc_fp_succ, PySem.W.mc_fp_zero, PySem.W.mc_fp_zero]; omega
  | k + 1 => by
    rw [PySem.W.mc_fp_succ, fp_shift n k, PySem.W.mc_fp_succ (n - 1) k, Int.mul_assoc]
    have : n - ((k + 1 : Nat) : Int) = n - 1 - k := by omega
    rw [this]
end Pr

/-! plain instances with one attribute; != by an own __eq__; str and len by own defs; isinstance with an own class -/
namespace Pr
open PySem PySem.Spec PyProof.Rows L2
theorem pe_imp {X : Cx} {e : Expr} {t t' : TE} (h : PE X e t) (i : ∀ σ H Q, t' σ H Q → t σ H Q) : PE X e t' := ⟨fun pins s σ H Q I q => h.run pins s σ H Q I (i σ H Q q)⟩
/-- its attributes: one -/
def FE (f : Str) (t : Addr) : List (Str × V) := [(f, .ref t)]
theorem FE_inj {f : Str} {t u : Addr} : FE f t = FE f u ↔ t = u := by
  unfold FE
  simp
theorem FE_at {f : Str} {t : Addr} : (FE f t).lookup f = some (.ref t) := by
  unfold FE
  simp [List.lookup]
theorem FE_put {f : Str} {t u : Addr} : putF f (.ref u) (FE f t) = FE f u := by
  unfold FE putF
  simp
theorem FE_new {f : Str} {t : Addr} : putF f (.ref t) [] = FE f t := rfl
/-- an instance of C at p whose attribute f is the object at t -/
def At1 (C : Addr) (f : Str) (H : Hp) (p t : Addr) : Prop := ∃ dx, H p = some (.ins C dx (FE f t))
end Pr
namespace PySem.W
open PySem PySem.Spec PySem.Calls PyProof.Rows
section
variable {prog : Program} {w : World} {A : Around} {E : Value → Shared → Prop} {s : Shared} {K : Frag} {x C f : Addr} {ox : Obj} {od : Option Obj}
theorem own_bound_B {M : Model} {name : Str} {id : String} {args : List Value} {Q : Option Value → Shared → Prop} (X : K.In s.heap) (I : InstAt s.heap x ox C od) (hs : findIn K (.ref C) name = some (some (.builtin id)))
    (hb : ∀ self, bindSpecial (.builtin id) self = pure (.builtin id, [self])) (h : wpAny M A (call (.builtin id) (.ref x :: args)) (fun v => Q (some v)) E s) : wpAny M A (callSpecialIfBound? (.ref x) name args) Q E s := by
  simp only [callSpecialIfBound?, bindSpecialIfBound?]
  refine wpAny_holding (wpAny_bind (wpAny_bind (wpAny_bind (I.type.here ((looks_findIn X hs).here ?_)))))
  refine wpAny_bind (wpAny_askSetting (wpAny_ite ?_))
  have fin : wpAny M A (call (.builtin id) ([.ref x] ++ args) >>= fun v => pure (some v)) Q E s := wpAny_bind (wpAny_mono h (fun v s' h' => wpAny_pure h') fun _ _ h' => h')
  split
  · exact wpAny_bind ((Looks.of_pure (hb _)).here (wpAny_pure (by exact fin)))
  · exact wpAny_tryCatch (wpAny_bind ((Looks.of_pure (hb _)).here (wpAny_pure (by exact fin))))
open Builtin in
theorem own_ne_call {b : Value} {Q : Value → Shared → Prop} (hu : A.in1.units < cLine) (X : K.In s.heap) (I : InstAt s.heap x ox C od) (hm : mroIn K C (.type "object") = some true)
    (hs : findIn K (.ref C) "__eq__" = some (some (.ref f))) (hf : isFn K (.ref f) = true)
    (h : wpAny (model prog w) A.in1 (call (.ref f) [.ref x, b]) (fun v s' => ∃ r, v = .bool r ∧ Q (.bool (!r)) s') E s) : wpAny (model prog w) A (call (.builtin "object.__ne__") [.ref x, b]) Q E s := by
  refine wpAny_call (codeAny_call_builtin PySem.F.slot_object_ne.plain PySem.F.entry_object_ne (check_slot (i := "object.__ne__") (owner := "object") (n := "__ne__") (by decide +kernel) (by decide +kernel) (I.type.andThen (looks_mroIn X hm)) (PySem.F.args_object_ne_2 _ _) ?_))
  unfold Builtin.«object.__ne__»
  refine wpAny_bind (m := slotArgs "__ne__" 1 _) (wpAny_pure ?_)
  refine wpAny_bind (m := cRoomFor _ _) (wpAny_cRoomFor hu ?_)
  refine wpAny_bind (m := callSpecialIfBound? (.ref x) (Str.ofString "__eq__") _) (ifBound_K X I hs hf (wpAny_mono h (fun r s' hq => ?_) fun _ _ y => y))
  obtain ⟨r, rfl, hq⟩ := hq
  refine wpAny_bind (m := truthy (.bool r)) (wpAny_pure ?_)
  exact wpAny_pure hq
/-- x != b by the == of x's class -/
theorem own_ne {b tb : Value} {Q : Value → Shared → Prop} {h₀ : Heap} {L : Addr} {m : Str → Option Value} (hu : A.units < cLine) (hu1 : A.in1.units < cLine) (F : Fr h₀ L s.heap m) (X₀ : K.In h₀) (I : InstAt s.heap x ox C od) (hb : Looks (model prog w) s.heap (typeOf b) tb) (hn : notFirst K C tb = true)
    (hm : mroIn K C (.type "object") = some true) (hne : findIn K (.ref C) "__ne__" = some (some (.builtin "object.__ne__"))) (hs : findIn K (.ref C) "__eq__" = some (some (.ref f))) (hf : isFn K (.ref f) = true)
    (h : wpAny (model prog w) A.in1 (call (.ref f) [.ref x, b]) (fun v s' => ∃ r, v = .bool r ∧ Q (.bool (!r)) s') E s) : wpAny (model prog w) A (richCompare .NotEq (.ref x) b) Q E s := by
  have X := X₀.keeps F.keep
  have one : wpAny (model prog w) A (tryCompare (.ref x) (cmpInfo .NotEq).2.1 b) (fun r s' => ∃ v, r = some v ∧ Q v s') E s := by
    unfold tryCompare
    refine wpAny_bind (own_bound_B (name := (cmpInfo .NotEq).2.1) X I hne (fun self => PySem.F.slot_object_ne.bind self) (own_ne_call hu1 X I hm hs hf (wpAny_mono h (fun v s' hv => ?_) fun _ _ e => e)))
    obtain ⟨r, rfl, hq⟩ := hv
    exact ⟨r, rfl, wpAny_pure ⟨_, rfl, hq⟩⟩
  unfold richCompare
  simp only [oneThing_ref]
  refine wpAny_holding (wpAny_bind (wpAny_cRoomFor hu ?_))
  refine wpAny_bind (I.type.here (wpAny_bind (hb.here ?_)))
  split
  · rename_i q
    have e : subIn K tb (.ref C) = some false := by
      rcases Bool.or_eq_true_iff.mp hn with e | e
      · rw [beq_iff_eq.mp e] at q; simp at q
      · exact beq_iff_eq.mp e
    refine wpAny_bind ((looks_subIn X e).here ?_)
    simp only [Bool.false_eq_true, if_false]
    refine wpAny_bind (wpAny_mono one (fun r s' z => ?_) fun _ _ e => e)
    obtain ⟨v, rfl, hq⟩ := z
    exact wpAny_pure hq
  · refine wpAny_bind (wpAny_pure ?_)
    simp only [Bool.false_eq_true, if_false]
    refine wpAny_bind (wpAny_mono one (fun r s' z => ?_) fun _ _ e => e)
    obtain ⟨v, rfl, hq⟩ := z
    exact wpAny_pure hq
end
end PySem.W
namespace Pr
open PySem PySem.Spec PyProof.Rows L2
/-- t > u of two tuples of ints -/
def rGtT (K : PySem.W.Frag) : R2 := fun x y H Q => ∃ (a b : Addr) (ns ms : List Int), x = .ref a ∧ y = .ref b ∧ SqT K H a (ns.map V.int) ∧ SqT K H b (ms.map V.int) ∧
  Q (.bl (Ob.lexAt (fun j => decide (ns.getD j 0 = ms.getD j 0)) (fun j => decide (ns.getD j 0 > ms.getD j 0)) (decide (ns.length > ms.length)) 0 (min ns.length ms.length))) H
theorem op_gtT {X : Cx} (hu : X.A.units < cLine) : OpR X (compareOp .Gt) (rGtT X.K) := by
  intro pins s σ H x y v u Q I rx ry h
  obtain ⟨a, b, ns, ms, rfl, rfl, ha, hb, q⟩ := h
  cases rx
  cases ry
  obtain ⟨its, r1, p1, _⟩ := I.tuple ha
  obtain ⟨its2, r2, p2, _⟩ := I.tuple hb
  have i1 : IntsAre its ns := Vals.ints r1
  have i2 : IntsAre its2 ms := Vals.ints r2
  have e1 : its.toArray.size = ns.length := by rw [List.size_toArray]; exact i1.length
  have e2 : its2.toArray.size = ms.length := by rw [List.size_toArray]; exact i2.length
  have at1 : ∀ j (h1 : j < its.toArray.size), ∃ t, its.toArray[j] = .int (ns.getD j 0) t := fun j h1 => PyProof.Rows.IntsAre.int_at i1 _ _ (by simp at h1; simp [h1])
  have at2 : ∀ j (h1 : j < its2.toArray.size), ∃ t, its2.toArray[j] = .int (ms.getD j 0) t := fun j h1 => PyProof.Rows.IntsAre.int_at i2 _ _ (by simp at h1; simp [h1])
  have R := Ob.RcOp.tuples_gt (A := X.A) (s := s) (e := fun j => decide (ns.getD j 0 = ms.getD j 0)) (r := fun j => decide (ns.getD j 0 > ms.getD j 0)) p1 p2 hu (fun j h1 h2 => by
    obtain ⟨t, et⟩ := at1 j h1
    obtain ⟨t', et'⟩ := at2 j h2
    rw [et, et']
    have z : (ns.getD j 0 == ms.getD j 0) = decide (ns.getD j 0 = ms.getD j 0) := by
      by_cases q : ns.getD j 0 = ms.getD j 0
      · rw [decide_eq_true q]; exact beq_iff_eq.mpr q
      · rw [decide_eq_false q]; exact beq_eq_false_iff_ne.mpr q
    rw [← z]
    exact SeqAt.EqAt.int_int _ _ _ _) (fun j h1 h2 _ => by
    obtain ⟨t, et⟩ := at1 j h1
    obtain ⟨t', et'⟩ := at2 j h2
    rw [et, et']
    exact Ob.RcOp.gt_int _ _ _ _)
  rw [e1, e2] at R
  exact R X.prog X.w X.xe (EP X pins σ Q) ⟨.bl _, H, I, rfl, q⟩
/-! isinstance with an own class -/
/-- what the class at C must have -/
structure IsC (K : PySem.W.Frag) (C : Addr) : Prop where
  cl : Cls K C
  ha : PySem.W.findIn K (.ref C) "__class__" = some (some (.builtin "object.__class__"))
  hn : PySem.W.specialIn K (.builtin "object.__class__") "__get__" = some (some (.builtin "getset_descriptor.__get__"))
  ht : PySem.W.takesIn K (.builtin "object.__class__") = some true
  hm : PySem.W.mroIn K C (.type "object") = some true
  ty : PySem.W.typeIn K (.ref C) = some (.type "type")
  int : PySem.W.subIn K (.type "int") (.ref C) = some false
  tup : PySem.W.subIn K (.type "tuple") (.ref C) = some false
theorem kit_own {K : PySem.W.Frag} {C : Addr} {t : Value} {b : Bool} (i : IsC K C) (hs : PySem.W.subIn K t (.ref C) = some b) (hne : (t == Value.ref C) = false) : PySem.W.kitOne K t (.ref C) = some b := by
  obtain ⟨cd, hc, _⟩ := PySem.W.any_some i.cl.hd
  unfold PySem.W.kitOne PySem.W.kitCls
  rw [hne]
  show (if ((PySem.W.clsIn K C).isSome && PySem.W.typeIn K (Value.ref C) == some (Value.type "type")) = true then PySem.W.subIn K t (Value.ref C) else none) = some b
  rw [hc, i.ty]
  simp [hs]
/-- whether it is an instance of C -/
inductive ObjIs (C : Addr) (H : Hp) : V → Bool → Prop where
  | obj {p dx : Addr} {fs : List (Str × V)} (h : H p = some (.ins C dx fs)) : ObjIs C H (.ref p) true
  | int (n : Int) : ObjIs C H (.int n) false
  | tup {p : Addr} {xs : List V} (h : H p = some (.tup xs)) : ObjIs C H (.ref p) false
def rIsO (C : Addr) : List V → Hp → VK → Prop := fun xs H Q => ∃ x b, xs = [x, .ref C] ∧ ObjIs C H x b ∧ Q (.bl b) H
theorem cr_isO {X : Cx} {C : Addr} (i : IsC X.K C) : CallR X (.builtin "isinstance") (rIsO C) := callImp call_isi fun vs H Q ⟨x, b, e, o, q⟩ => by
  cases o with
  | @obj p dx fs h =>
    refine ⟨.ref p, .ref C, .ref C, .ref C, true, e, .own C, .base (.ins h i.cl i.ha i.hn i.ht i.hm), ?_, q⟩
    unfold PySem.W.kitOne
    simp
  | int n => exact ⟨.int n, .ref C, .type "int", .ref C, false, e, .own C, .base (.int n), kit_own i i.int rfl, q⟩
  | @tup p xs h => exact ⟨.ref p, .ref C, .type "tuple", .ref C, false, e, .own C, .base (.tup h), kit_own i i.tup rfl, q⟩
/-! a def run one or two calls deeper -/
section
variable {X : Cx} {CX : CXT} {k : Nat} {C g : Addr} {fd : FuncData} {ps : List Str} {sp : Sp} {E : XK} {pins : List (Addr × Obj)} {σ : L2.St} {H : Hp} {s : Shared} {Q : VK} {us : List Value} {vs : List V}
theorem run_in1 (F : FnOk X.prog X.w X.K X.mg X.base CX k g fd ps sp) (hr : Room (k + 1) X.A) (hb : Binds X.K fd ps []) (hx : Passes CX X E) (I : Inv X pins σ H s) (r : Vals vs us) (h : sp vs H Q E) :
    wpAny (model X.prog X.w) X.A.in1 (call (.ref g) us) (EP X pins σ Q) X.xe s := by
  have hl : us.length = ps.length := by
    rw [← F.len _ _ _ _ h]
    exact r.length.symm
  have hb' := hb s us I.kIn (by rw [List.append_nil]; exact hl)
  rw [List.append_nil] at hb'
  refine wpAny_call (codeAny_mono (F.run X.A.in1 X.stack s H ⟨us, []⟩ us vs Q E hr.in1 I.env0.in1 hb' r h) fun r s' hq => ?_)
  cases r with
  | error e => exact hx pins σ H s e s' I hq
  | ok fl =>
    cases fl with
    | ret u => exact I.after hq
    | next => exact False.elim hq
    | brk => exact False.elim hq
    | cont => exact False.elim hq
/-- x != y, both of the class at C, by its own == -/
def rNe (C : Addr) (sp : Sp) (E : XK) : R2 := fun x y H Q => ∃ a dx fs b dy gs, x = .ref a ∧ y = .ref b ∧ H a = some (.ins C dx fs) ∧ H b = some (.ins C dy gs) ∧ sp [x, y] H (fun v H' => ∃ r, v = .bl r ∧ Q (.bl (!r)) H') E
theorem op_neOwn (nf : PySem.W.notFirst X.K C (.ref C) = true) (hm : PySem.W.mroIn X.K C (.type "object") = some true) (hne : PySem.W.findIn X.K (.ref C) "__ne__" = some (some (.builtin "object.__ne__")))
    (at_ : PySem.W.findIn X.K (.ref C) "__eq__" = some (some (.ref g))) (fn : PySem.W.isFn X.K (.ref g) = true)
    (F : FnOk X.prog X.w X.K X.mg X.base CX k g fd ps sp) (room : Room (k + 1) X.A) (hb : Binds X.K fd ps []) (pass : Passes CX X E) : OpR X (compareOp .NotEq) (rNe C sp E) := by
  intro pins s σ H x y v u Q I rx ry h
  obtain ⟨a, dx, fs, b, dy, gs, rfl, rfl, ea, eb, q⟩ := h
  cases (show v = Value.ref a from rx)
  cases (show u = Value.ref b from ry)
  obtain ⟨_, O, _⟩ := ins_get I.hok ea
  obtain ⟨_, J, _⟩ := O.look
  obtain ⟨_, O2, _⟩ := ins_get I.hok eb
  obtain ⟨_, J2, _⟩ := O2.look
  obtain ⟨m, fr⟩ := I.fr
  show wpAny _ _ (richCompare .NotEq (.ref a) (.ref b)) _ _ _
  refine PySem.W.own_ne (tb := .ref C) room.units0 room.in1.units0 fr I.ok.mod.kin J J2.type nf hm hne at_ fn (wpAny_mono (run_in1 (vs := [.ref a, .ref b]) (us := [.ref a, .ref b]) F room hb pass I (.cons rfl (.cons rfl .nil)) q) (fun z s' r => ?_) fun _ _ e => e)
  obtain ⟨z', H', I', rz, b', rfl, qz⟩ := r
  refine ⟨b', rz, .bl (!b'), H', I', rfl, qz⟩
end
/-- a class's own maker, read for one attribute -/
def tNew (C : Addr) (f : Str) (good : List Int → Prop) (ta : TA) : TE := fun σ H Q => ta σ H fun vs H1 => ∃ t es, vs = [.ref t] ∧ H1 t = some (TI es) ∧ good es ∧ ∀ p dx H', Same H1 H' → H1 p = none → H' p = some (.ins C dx (FE f t)) → Q (.ref p) H'
/-- o.f, the one attribute -/
def tAtt (C : Addr) (f : Str) (ta : TE) : TE := fun σ H Q => ta σ H fun x H1 => ∃ p dx t, x = .ref p ∧ H1 p = some (.ins C dx (FE f t)) ∧ Q (.ref t) H1
theorem pe_att {X : Cx} {C : Addr} {e : Expr} {f : Str} {pos : Pos} {ta : TE} (h : PE X (.Attribute e f pos) (tFld X.K ta f)) (mono : ∀ σ H (Q Q' : VK), (∀ x H1, Q x H1 → Q' x H1) → ta σ H Q → ta σ H Q') (cl : Cls X.K C) (no : NoAttr X.K C f) : PE X (.Attribute e f pos) (tAtt C f ta) :=
  pe_imp h fun σ H Q q => mono σ H _ _ (fun x H1 ⟨p, dx, t, ex, hp, q1⟩ => ⟨p, C, dx, FE f t, .ref t, ex, hp, cl, no, FE_at, q1⟩) q
section
variable {σ : L2.St} {H : Hp} {Q : VK} {C : Addr} {f : Str} {good : List Int → Prop}
theorem ap_new {ta : TA} : tNew C f good ta σ H Q = ta σ H fun vs H1 => ∃ t es, vs = [.ref t] ∧ H1 t = some (TI es) ∧ good es ∧ ∀ p dx H', Same H1 H' → H1 p = none → H' p = some (.ins C dx (FE f t)) → Q (.ref p) H' := rfl
theorem ap_att {ta : TE} : tAtt C f ta σ H Q = ta σ H fun x H1 => ∃ p dx t, x = .ref p ∧ H1 p = some (.ins C dx (FE f t)) ∧ Q (.ref t) H1 := rfl
theorem ap_prop {sp : Sp} {dvs : List V} {E : XK} {ta : TE} : tProp C sp dvs E ta σ H Q = ta σ H fun x H1 => ∃ a dx fs, x = .ref a ∧ H1 a = some (.ins C dx fs) ∧ sp (.ref a :: dvs) H1 Q E := rfl
theorem ap_isO {vs : List V} : rIsO C vs H Q = ∃ x b, vs = [x, .ref C] ∧ ObjIs C H x b ∧ Q (.bl b) H := rfl
theorem ap_bin {sp : Sp} {E : XK} {x y : V} : rBin C sp E x y H Q = ∃ a dx fs b dy gs, x = .ref a ∧ y = .ref b ∧ H a = some (.ins C dx fs) ∧ H b = some (.ins C dy gs) ∧ sp [x, y] H Q E := rfl
theorem ap_ne {sp : Sp} {E : XK} {x y : V} : rNe C sp E x y H Q = ∃ a dx fs b dy gs, x = .ref a ∧ y = .ref b ∧ H a = some (.ins C dx fs) ∧ H b = some (.ins C dy gs) ∧ sp [x, y] H (fun v H' => ∃ r, v = .bl r ∧ Q (.bl (!r)) H') E := rfl
theorem ap_meth {C : Addr} {m : Str} {sp : Sp} {dvs : List V} {E : XK} {ta : TE} {t : TA} : tMeth C m sp dvs E ta t σ H Q = ta σ H fun x H1 => ∃ a dx fs, x = .ref a ∧ H1 a = some (.ins C dx fs) ∧ fs.lookup m = none ∧ t σ H1 fun vs H2 => sp (x :: (vs ++ dvs)) H2 Q E := rfl
end
end Pr
namespace Pr
open PySem PySem.Spec PyProof.Rows L2
/-- what comes of C(..) with the values vs -/
def NewV (C : Addr) (sp : Sp) (dvs : List V) (E : XK) (vs : List V) (H1 : Hp) (Q : VK) : Prop := ∀ x dx, H1 x = none → H1 dx = none → dx ≠ x →
  sp (.ref x :: (vs ++ dvs)) (upd (upd H1 dx (.own x)) x (.ins C dx [])) (fun v H2 => v = .non ∧ Q (.ref x) H2) E
theorem ap_make {σ : L2.St} {H : Hp} {Q : VK} {C : Addr} {sp : Sp} {dvs : List V} {E : XK} {t : TA} : tMake C sp dvs E t σ H Q = t σ H fun vs H1 => NewV C sp dvs E vs H1 Q := rfl
theorem ins_inj {C D dx dy : Addr} {fs gs : List (Str × V)} : HO.ins C dx fs = HO.ins D dy gs ↔ C = D ∧ dx = dy ∧ fs = gs := by
  constructor
  · intro h
    cases h
    exact ⟨rfl, rfl, rfl⟩
  · rintro ⟨rfl, rfl, rfl⟩
    rfl
theorem mono_var {i : Nat} (σ : L2.St) (H : Hp) (Q Q' : VK) (h : ∀ x H1, Q x H1 → Q' x H1) (q : tVar i σ H Q) : tVar i σ H Q' := let ⟨v, e, z⟩ := q; ⟨v, e, h _ _ z⟩
end Pr

/-! slices and sums of tuples of ints, whole ones too -/
namespace Pr
open PySem PySem.Spec PyProof.Rows L2
section
variable {X : Cx}
def cutI (ns : List Int) (lo hi : Option Int) : List Int := (ns.drop (HT.sIx ns.length 0 lo)).take (HT.sIx ns.length ns.length hi - HT.sIx ns.length 0 lo)
theorem cut_map (ns : List Int) (lo hi : Option Int) : cutV (ns.map V.int) lo hi = (cutI ns lo hi).map V.int := by
  unfold cutV cutI
  rw [List.map_take, List.map_drop, List.length_map]
theorem cut_take (ns : List Int) (k : Nat) : cutI ns none (some (k : Int)) = ns.take k := by
  unfold cutI
  rw [HT.sIx_nat, HT.sIx_none, List.drop_zero, Nat.sub_zero]
  by_cases h : k ≤ ns.length
  · rw [Nat.min_eq_left h]
  · rw [Nat.min_eq_right (by omega), List.take_length, List.take_of_length_le (by omega)]
theorem cut_drop (ns : List Int) (k : Nat) : cutI ns (some (k : Int)) none = ns.drop k := by
  unfold cutI
  rw [HT.sIx_nat, HT.sIx_none]
  by_cases h : k ≤ ns.length
  · rw [Nat.min_eq_left h, List.take_of_length_le (by rw [List.length_drop]; omega)]
  · rw [Nat.min_eq_right (by omega), List.drop_length, List.drop_of_length_le (by omega)]
    simp
def rSlI : V → Option Int → Option Int → Hp → VK → Prop := fun x lo hi H Q => ∃ a, x = .ref a ∧ ∃ ns, H a = some (TI ns) ∧ ∀ r H', Same H H' → H' r = some (TI (cutI ns lo hi)) → Q (.ref r) H'
theorem slImp {r r' : V → Option Int → Option Int → Hp → VK → Prop} (h : SlR X r) (i : ∀ x lo hi H Q, r' x lo hi H Q → r x lo hi H Q) : SlR X r' :=
  fun pins s σ H x v vl vu lo hi sl Q I rx hs pl pu q => h pins s σ H x v vl vu lo hi sl Q I rx hs pl pu (i _ _ _ _ _ q)
theorem sl_tupI : SlR X rSlI := slImp sl_tupA fun x lo hi H Q ⟨a, ex, ns, ha, q⟩ => by
  refine ⟨a, ns.map V.int, ex, .inl (.inl ha), fun hw => ?_, fun _ p np => ?_⟩
  · refine q a H (fun _ _ h => h) ?_
    have e : cutI ns lo hi = ns := by
      rw [List.length_map] at hw
      unfold cutI
      rw [hw.1, hw.2, List.drop_zero, Nat.sub_zero, List.take_length]
    rw [e]
    exact ha
  · refine q p _ (fun b o e => by rw [upd_ne (ne_of_none e np)]; exact e) ?_
    rw [upd_same, cut_map]
def rCatI : R2 := fun x y H Q => ∃ a b, x = .ref a ∧ y = .ref b ∧ ∃ ns, H a = some (TI ns) ∧ ∃ ms, H b = some (TI ms) ∧ ns.length + ms.length ≤ 10000 ∧ ∀ r H', Same H H' → H' r = some (TI (ns ++ ms)) → Q (.ref r) H'
theorem op_catI : OpR X (binaryOp .Add) rCatI := opImp op_catA fun x y H Q ⟨a, b, ex, ey, ns, ha, ms, hb, hz, q⟩ => by
  refine ⟨a, b, ns.map V.int, ms.map V.int, ex, ey, .inl (.inl ha), .inl (.inl hb), ?_, fun e => ?_, fun _ e => ?_, fun _ _ p np => ?_⟩
  · rw [List.length_map, List.length_map, sizeLine_eq]
    omega
  · have : ns = [] := by simpa using e
    subst this
    exact q b H (fun _ _ h => h) hb
  · have : ms = [] := by simpa using e
    subst this
    exact q a H (fun _ _ h => h) (by rw [List.append_nil]; exact ha)
  · refine q p _ (fun b o e => by rw [upd_ne (ne_of_none e np)]; exact e) ?_
    rw [upd_same, ← List.map_append]
end
section
variable {σ : L2.St} {H : Hp} {Q : VK} {x y : V} {lo hi : Option Int}
theorem ap_slI : rSlI x lo hi H Q = ∃ a, x = .ref a ∧ ∃ ns, H a = some (TI ns) ∧ ∀ r H', Same H H' → H' r = some (TI (cutI ns lo hi)) → Q (.ref r) H' := rfl
theorem ap_catI : rCatI x y H Q = ∃ a b, x = .ref a ∧ y = .ref b ∧ ∃ ns, H a = some (TI ns) ∧ ∃ ms, H b = some (TI ms) ∧ ns.length + ms.length ≤ 10000 ∧ ∀ r H', Same H H' → H' r = some (TI (ns ++ ms)) → Q (.ref r) H' := rfl
end
end Pr

/-! perm -/
namespace Pr
open PySem PySem.Spec PyProof.Rows L2
section
variable {X : Cx}
def rPerm : List V → Hp → VK → Prop := fun vs H Q => ∃ i j, vs = [.int i, .int j] ∧ 0 ≤ i ∧ 0 ≤ j ∧ i < 2 ^ 60 ∧ j ≤ 9000 ∧ Q (.int (PySem.W.mcPerm i j)) H
theorem cr_perm : CallR X (.builtin "math.perm") rPerm := by
  intro pins s σ H vs us Q I r h
  obtain ⟨i, j, rfl, h0, h1, h2, h3, q⟩ := h
  obtain ⟨u, w', rfl, ⟨t, rfl⟩, ⟨t', rfl⟩⟩ := vals2 r
  exact PySem.call_function_meets PySem.W.MGF.kind_perm PySem.W.MGF.plain_perm PySem.W.MGF.entry_perm (PySem.W.MGF.args_perm _ _) (PySem.W.mc_gives_perm t t' h0 h1 (by omega) (by omega)).meets ⟨.int _, H, I.tok _, ⟨_, rfl⟩, q⟩
end
theorem ap_perm {vs : List V} {H : Hp} {Q : VK} : rPerm vs H Q = ∃ i j, vs = [.int i, .int j] ∧ 0 ≤ i ∧ 0 ≤ j ∧ i < 2 ^ 60 ∧ j ≤ 9000 ∧ Q (.int (PySem.W.mcPerm i j)) H := rfl
/-- the product of k numbers from n down -/
def fall (n : Nat) : Nat → Nat
  | 0 => 1
  | k + 1 => fall n k * (n - k)
theorem fall_fp (n : Nat) : ∀ k, k ≤ n → Builtin.Math.fallingProduct (n : Int) k = (fall n k : Int)
  | 0, _ => rfl
  | k + 1, h => by
    rw [PySem.W.mc_fp_succ, fall_fp n k (by omega)]
    show _ = ((fall n k * (n - k) : Nat) : Int)
    rw [Int.natCast_mul]
    congr 1
    omega
theorem perm_fall {n k : Nat} (h : k ≤ n) : PySem.W.mcPerm (n : Int) (k : Int) = (fall n k : Int) := by
  rw [PySem.W.mcPerm_at (by omega), Int.toNat_natCast, fall_fp n k h]
theorem fall_le (n : Nat) : ∀ k, fall n k ≤ n ^ k
  | 0 => Nat.le_refl 1
  | k + 1 => by
    show fall n k * (n - k) ≤ n ^ k * n
    exact Nat.mul_le_mul (fall_le n k) (Nat.sub_le n k)
end Pr

namespace Pr
open PySem PySem.Spec PyProof.Rows L2
/-! classmethods read off a class; any of a list of truth values -/
theorem _root_.L2.FnOk.rawN {P : Program} {w : World} {K : PySem.W.Frag} {mg : Str → Option Value} {base : Heap} {CX : CXT} {k : Nat} {f : Addr} {fd : FuncData} {ps : List Str} {sp : Sp}
    (F : FnOk P w K mg base CX k f fd ps sp) (hb : Binds K fd ps []) : FnR P w K mg base CX k f sp :=
  (F.raw hb .nil).imp fun vs H Q E h => by rw [List.append_nil]; exact h
theorem ap_cm {C : Addr} {sp : Sp} {E : XK} {ta : TE} {t : TA} {σ : L2.St} {H : Hp} {Q : VK} : ClX.tCMeth C sp E ta t σ H Q = ta σ H fun x H1 => x = .ref C ∧ t σ H1 fun vs H2 => sp (.ref C :: vs) H2 Q E := rfl
theorem ap_any {K : PySem.W.Frag} {vs : List V} {H : Hp} {Q : VK} : rAny K vs H Q = ∃ (a : Addr) (bs : List Bool), vs = [V.ref a] ∧ SqL K H a (bs.map V.bl) ∧ Q (.bl (bs.any id)) H := rfl
end Pr

/-! len(o), list(o), str(o) of plain instances by own defs; iter of a tuple; repr of a bool; o != t, t a tuple -/
namespace PySem.W
open PySem PySem.Spec PySem.Calls PyProof.Rows
section
variable {prog : Program} {w : World} {A : Around} {E : Value → Shared → Prop} {s : Shared} {K : Frag} {x C f : Addr} {ox : Obj} {od : Option Obj}
open Builtin in
theorem own_len_call {Q : Value → Shared → Prop} (X : K.In s.heap) (I : InstAt s.heap x ox C od) (hs : findIn K (.ref C) "__len__" = some (some (.ref f))) (hf : isFn K (.ref f) = true)
    (h : wpAny (model prog w) A.in1 (call (.ref f) [.ref x]) (fun r s' => ∃ n u, r = .int n u ∧ 0 ≤ n ∧ n < 2 ^ 63 ∧ Q (.int n s'.toks) { s' with toks := s'.toks + 1 }) E s) :
    wpAny (model prog w) A (call (.builtin "len") [.ref x]) Q E s := by
  refine Calls.call_function_entry kind_len plain_len entry_len (args_len1 _) ?_
  unfold Builtin.«len»
  refine wpAny_bind (m := oneArg "len" _) (wpAny_pure ?_)
  refine wpAny_bind (m := callSpecial? (.ref x) (Str.ofString "__len__")) (special_fn (args := []) X I hs (beq_iff_eq.mp hf) (wpAny_mono h (fun r s' hr => ?_) fun _ _ y => y))
  obtain ⟨n, u, rfl, h0, h1, hq⟩ := hr
  refine wpAny_bind (wpAny_holding (wpAny_pure ?_))
  refine wpAny_bind (wpAny_letGo ?_)
  show wpAny _ _ (if n < 0 then _ else _) _ _ _
  rw [if_neg (by omega)]
  show wpAny _ _ (if n ≥ 2 ^ 63 then _ else _) _ _ _
  rw [if_neg (by omega)]
  exact wpAny_bind (wpAny_mkInt (wpAny_pure ⟨_, rfl, hq⟩))
end
end PySem.W
namespace Pr
open PySem PySem.Spec PyProof.Rows L2
section
variable {X : Cx} {CX : CXT} {k : Nat} {C g : Addr} {fd : FuncData} {ps : List Str} {sp : Sp} {E : XK} {pins : List (Addr × Obj)} {σ : L2.St} {H : Hp} {s : Shared} {Q : VK} {us : List Value} {vs : List V}
/-- a def run by a machine of ours that stands deeper -/
theorem run_sub {A1 : Around} (sb : Sub X k A1) (F : FnOk X.prog X.w X.K X.mg X.base CX k g fd ps sp) (hb : Binds X.K fd ps []) (hx : Passes CX X E) (I : Inv X pins σ H s) (r : Vals vs us) (h : sp vs H Q E) :
    wpAny (model X.prog X.w) A1 (call (.ref g) us) (EP X pins σ Q) X.xe s := by
  have hl : us.length = ps.length := by
    rw [← F.len _ _ _ _ h]
    exact r.length.symm
  have hb' := hb s us I.kIn (by rw [List.append_nil]; exact hl)
  rw [List.append_nil] at hb'
  have e0 : Env0 X.prog X.w X.K X.mg X.base A1 X.stack s H := by
    have e := I.env0
    exact ⟨by rw [sb.fr]; exact e.frames, e.mod, e.bs, e.bsz, e.funs, e.frf, e.hok, e.bare⟩
  refine wpAny_call (codeAny_mono (F.run A1 X.stack s H ⟨us, []⟩ us vs Q E sb.room e0 hb' r h) fun r s' hq => ?_)
  cases r with
  | error e => exact hx pins σ H s e s' I hq
  | ok fl =>
    cases fl with
    | ret u => exact I.after hq
    | next => exact False.elim hq
    | brk => exact False.elim hq
    | cont => exact False.elim hq
/-! ### len(o) -/
def rLenO (C : Addr) (sp : Sp) (E : XK) : List V → Hp → VK → Prop := fun xs H Q => ∃ a dx fs, xs = [.ref a] ∧ H a = some (.ins C dx fs) ∧ sp [.ref a] H (fun v H' => ∃ n : Nat, v = .int n ∧ n < 1000000 ∧ Q (.int n) H') E
theorem cr_lenO (at_ : PySem.W.findIn X.K (.ref C) "__len__" = some (some (.ref g))) (fn : PySem.W.isFn X.K (.ref g) = true)
    (F : FnOk X.prog X.w X.K X.mg X.base CX k g fd ps sp) (room : Room (k + 1) X.A) (hb : Binds X.K fd ps []) (pass : Passes CX X E) : CallR X (.builtin "len") (rLenO C sp E) := by
  intro pins s σ H xs us Q I r h
  obtain ⟨a, dx, fs, rfl, ea, q⟩ := h
  obtain ⟨u, rfl, ru⟩ := r.one
  cases ru
  obtain ⟨_, O, _⟩ := ins_get I.hok ea
  obtain ⟨_, J, _⟩ := O.look
  refine PySem.W.own_len_call I.kIn J at_ fn (wpAny_mono (run_in1 (vs := [.ref a]) (us := [.ref a]) F room hb pass I (.cons rfl .nil) q) (fun z s' r => ?_) fun _ _ e => e)
  obtain ⟨z', H', I', rz, n, rfl, hn, qz⟩ := r
  obtain ⟨t, rfl⟩ := (show ∃ t, z = Value.int n t from rz)
  exact ⟨n, t, rfl, by omega, by omega, .int n, H', I'.kept (t' := s'.toks + 1) (fun _ _ e => e), ⟨_, rfl⟩, qz⟩
/-! ### str(o) -/
def rStrO (C : Addr) (sp : Sp) (E : XK) : List V → Hp → VK → Prop := fun xs H Q => ∃ a dx fs, xs = [.ref a] ∧ H a = some (.ins C dx fs) ∧ sp [.ref a] H (fun v H' => ∃ z, v = .str z ∧ Q (.str z) H') E
theorem cr_strO (at_ : PySem.W.findIn X.K (.ref C) "__str__" = some (some (.ref g))) (fn : PySem.W.isFn X.K (.ref g) = true)
    (F : FnOk X.prog X.w X.K X.mg X.base CX k g fd ps sp) (room : Room (k + 2) X.A) (hb : Binds X.K fd ps []) (pass : Passes CX X E) : CallR X (.type "str") (rStrO C sp E) := by
  intro pins s σ H xs us Q I r h
  obtain ⟨a, dx, fs, rfl, ea, q⟩ := h
  obtain ⟨u, rfl, ru⟩ := r.one
  cases ru
  obtain ⟨_, O, _⟩ := ins_get I.hok ea
  obtain ⟨_, J, _⟩ := O.look
  have sb : Sub X k X.A.in1.in1 := (Sub.in1 (Sub.in1 (⟨room, rfl⟩ : Sub X (k + 2) X.A)))
  refine PySem.W.kso_call sb.room.units0 I.kIn J at_ fn (wpAny_mono (run_sub (vs := [.ref a]) (us := [.ref a]) sb F hb pass I (.cons rfl .nil) q) (fun z s' r => ?_) fun _ _ e => e)
  obtain ⟨z', H', I', rz, y, rfl, qz⟩ := r
  obtain ⟨t, rfl⟩ := (show ∃ t, z = Value.str y t from rz)
  exact ⟨.str y, H', I', ⟨_, rfl⟩, qz⟩
/-! ### repr of a bool -/
def rReprB : List V → Hp → VK → Prop := fun xs H Q => ∃ b, xs = [.bl b] ∧ Q (.str (if b then "True" else "False")) H
theorem cr_reprB : CallR X (.builtin "repr") rReprB := by
  intro pins s σ H xs us Q I r h
  obtain ⟨b, rfl, q⟩ := h
  obtain ⟨u, rfl, ru⟩ := r.one
  cases (show u = Value.bool b from ru)
  refine PySem.P.repr_of_bool ?_
  exact ⟨.str _, H, I.kept (t' := s.toks + 1) (fun _ _ e => e), ⟨_, rfl⟩, q⟩
end
/-! ### o != t, t a tuple, by the own == -/
section
variable {X : Cx} {CX : CXT} {k : Nat} {C g : Addr} {fd : FuncData} {ps : List Str} {sp : Sp} {E : XK}
def rNeT (C : Addr) (sp : Sp) (E : XK) : R2 := fun x y H Q => ∃ a dx fs b xs, x = .ref a ∧ y = .ref b ∧ H a = some (.ins C dx fs) ∧ H b = some (.tup xs) ∧ sp [x, y] H (fun v H' => ∃ r, v = .bl r ∧ Q (.bl (!r)) H') E
theorem op_neOwnT (nf : PySem.W.notFirst X.K C (.type "tuple") = true) (hm : PySem.W.mroIn X.K C (.type "object") = some true) (hne : PySem.W.findIn X.K (.ref C) "__ne__" = some (some (.builtin "object.__ne__")))
    (at_ : PySem.W.findIn X.K (.ref C) "__eq__" = some (some (.ref g))) (fn : PySem.W.isFn X.K (.ref g) = true)
    (F : FnOk X.prog X.w X.K X.mg X.base CX k g fd ps sp) (room : Room (k + 1) X.A) (hb : Binds X.K fd ps []) (pass : Passes CX X E) : OpR X (compareOp .NotEq) (rNeT C sp E) := by
  intro pins s σ H x y v u Q I rx ry h
  obtain ⟨a, dx, fs, b, xs, rfl, rfl, ea, eb, q⟩ := h
  cases (show v = Value.ref a from rx)
  cases (show u = Value.ref b from ry)
  obtain ⟨_, O, _⟩ := ins_get I.hok ea
  obtain ⟨_, J, _⟩ := O.look
  obtain ⟨its, r1, p1, _⟩ := I.tuple (.inl (.inl eb))
  obtain ⟨m, fr⟩ := I.fr
  obtain ⟨ob, hob, hcb, _⟩ := id p1
  show wpAny _ _ (richCompare .NotEq (.ref a) (.ref b)) _ _ _
  refine PySem.W.own_ne (tb := .type "tuple") room.units0 room.in1.units0 fr I.ok.mod.kin J (fun A Q E s k q => wpAny_typeOf_ref (k _ _ hob) (by rw [hcb]; exact q)) nf hm hne at_ fn (wpAny_mono (run_in1 (vs := [.ref a, .ref b]) (us := [.ref a, .ref b]) F room hb pass I (.cons rfl (.cons rfl .nil)) q) (fun z s' r => ?_) fun _ _ e => e)
  obtain ⟨z', H', I', rz, b', rfl, qz⟩ := r
  refine ⟨b', rz, .bl (!b'), H', I', rfl, qz⟩
end
end Pr

/-! iter(t), t a tuple; list(o) of an instance whose own __iter__ gives the iterator of a tuple, and whose own __len__ tells its length -/
namespace Pr
open PySem PySem.Spec PyProof.Rows L2
open Builtin in
/-- a tuple's iterator has nothing left: it stands still, changed -/
theorem tup_end {prog : Program} {w : World} {A : Around} {E : Value → Shared → Prop} {s : Shared} {I t : Addr} {n : Nat} {items : Array Value} {Q : Option Value → Shared → Prop} (calm : A.handled = none)
    (hI : s.heap.IsTupleIter I t n) (hT : s.heap.IsTuple t items) (none_ : items[n]? = none) (hQ : ∀ h', Heap.ExtBut I s.heap h' → (∃ o, h'.get? I = some o) → Q none { s with heap := h' }) : wpAny (model prog w) A (pyNext (.ref I)) Q E s := by
  obtain ⟨oI, gI, cI, dI⟩ := id hI
  obtain ⟨oT, gT, _, m, dT⟩ := hT
  unfold pyNext
  have entry : wpAny (model prog w) A.in1 (Builtin.«tuple_iterator.__next__» ⟨[.ref I], []⟩) (fun _ _ => False) (fun e s' => wpAny (model prog w) A (isInstance e (.type "StopIteration")) (fun b s₂ => b = true ∧ Q none s₂) E s') s := by
    show wpAny _ _ (field (.ref I) 0 >>= _) _ _ s
    refine wpAny_bind (wpAny_field gI dI (x := .ref t) rfl ?_)
    show wpAny _ _ (if (Value.ref t == Value.none) = true then _ else _) _ _ s
    refine PySem.W.KFB.if_not rfl ?_
    show wpAny _ _ (field (.ref I) 1 >>= _) _ _ s
    refine wpAny_bind (wpAny_field gI dI (x := .int n 0) rfl ?_)
    show wpAny _ _ (seqItems? (.ref t) >>= _) _ _ s
    refine wpAny_bind (wpAny_seqItems gT dT ?_)
    simp only [Int.toNat_natCast, none_]
    refine wpAny_bind (wpAny_rule (wpAny_bind (wpAny_setField gI dI (by simp) ?_)))
    have gI' := Heap.get?_update_self (Obj.mapFields (·.setIfInBounds 0 Value.none)) gI (Obj.isFreed_of_fields (Obj.data_mapFields dI _))
    show wpAny _ _ (newExc (.type "StopIteration") [] >>= _) _ _ _
    refine wpAny_bind ?_
    simp only [newExc, newTuple]
    refine wpAny_bind (wpAny_newObj_type ?_ (by size_fits))
    refine wpAny_bind (m := firstArgMember _ _) (wpAny_of_eq (a := Value.none) (by first | rfl | (simp only [firstArgMember]; rfl)) ?_)
    refine wpAny_newObj_type ?_ (by size_fits)
    simp only [raiseNew]
    refine wpAny_bind (wpAny_handled ?_)
    rw [show A.in1.handled = none from calm]
    refine wpAny_bind (wpAny_pure (wpAny_throw ?_))
    refine wpAny_isInstance (T := "StopIteration") (b := true) ⟨_, Heap.get?_push_size _ rfl, rfl⟩ isSubtype_stop ?_
    exact ⟨rfl, hQ _ (((Heap.SameBut.update ..).extBut.push _).push _) ⟨_, Heap.get?_push_of_some _ (Heap.get?_push_of_some _ gI')⟩⟩
  refine wpAny_bind (wpAny_attempt (wpAny_callSpecial?_slot (name := Str.ofString "__next__") hI.typeIs F.slot_tuple_iterator_next
    (wpAny_call_entry F.slot_tuple_iterator_next hI.typeIs F.entry_tuple_iterator_next (wpAny_mono entry (fun _ _ z => z.elim) fun e s' z => ?_) (F.args_tuple_iterator_next_1 _))))
  refine wpAny_bind (wpAny_mono z (fun b s₂ q => ?_) fun _ _ y => y)
  obtain ⟨rfl, q⟩ := q
  exact wpAny_pure q
/-- at it an iterator over the tuple at t, i items are drawn -/
def TtO (t it : Addr) (i : Nat) : HO := .ext fun h => h.IsTupleIter it t i
theorem ttO_ok {P : Program} {w : World} {H : Hp} {h : Heap} {t it : Addr} {i : Nat} (e : h.IsTupleIter it t i) : ObjOk P w H h it (TtO t it i) :=
  ⟨e, let ⟨o, ho, _⟩ := e; ⟨o, ho⟩, fun h1 h2 q k => let ⟨o, ho, r⟩ := q; ⟨o, k _ ho, r⟩⟩
section
variable {X : Cx} {pins : List (Addr × Obj)} {σ : L2.St} {H : Hp} {s : Shared} {t it : Addr} {i : Nat}
theorem ttO_get (I : Inv X pins σ H s) (e : H it = some (TtO t it i)) : s.heap.IsTupleIter it t i := (I.hok it _ e).1
theorem call_iterTup {prog : Program} {w : World} {A : Around} {E : Value → Shared → Prop} {s : Shared} {items : Array Value} {l : Addr} {Q : Value → Shared → Prop} (hl : s.heap.IsTuple l items)
    (h : Q (.ref s.heap.objs.size) { s with heap := s.heap.push { cls := .type "tuple_iterator", data := .fields #[.ref l, .int 0 0] } }) : wpAny (model prog w) A (call (.builtin "iter") [.ref l]) Q E s := by
  refine Calls.call_function_entry (by decide +kernel) (by decide +kernel) PySem.W.kdk_entry_iter (PySem.W.kdk_args_iter _) ?_
  unfold Builtin.«iter»
  refine wpAny_bind (m := someArgs "iter" 1 2 _) (wpAny_of_eq (a := [Value.ref l]) (by first | rfl | kernel_rfl!) ?_)
  show wpAny _ _ (pyIter (.ref l) >>= _) _ _ _
  refine wpAny_bind (wpAny_pyIter_tuple hl ?_)
  exact wpAny_pure ⟨_, rfl, h⟩
end
section
variable {X : Cx}
def rIterT : List V → Hp → VK → Prop := fun xs H Q => ∃ l, xs = [.ref l] ∧ ∃ zs, H l = some (.tup zs) ∧ ∀ it, H it = none → Q (.ref it) (upd H it (TtO l it 0))
theorem cr_iterT : CallR X (.builtin "iter") rIterT := by
  intro pins s σ H xs us Q I r h
  obtain ⟨l, rfl, zs, hq, q⟩ := h
  obtain ⟨u, rfl, ru⟩ := r.one
  cases ru
  obtain ⟨its, rv, pl, hz⟩ := I.tuple (.inl (.inl hq))
  refine call_iterTup pl ?_
  exact ⟨.ref s.heap.objs.size, _, I.laid (t' := s.toks) (fun b u e => Heap.get?_push_of_some _ e) (Nat.le_refl _) (ttO_ok ⟨_, Heap.get?_push_size _ rfl, rfl, rfl⟩), rfl, q _ (I.hok.fresh (Nat.le_refl _))⟩
end
/-- what __iter__ promises -/
def spIt (C : Addr) (f : Str) : Sp := fun vs H Q _ => ∃ a dx t xs, vs = [.ref a] ∧ H a = some (.ins C dx (FE f t)) ∧ H t = some (.tup xs) ∧ ∀ it, H it = none → Q (.ref it) (upd H it (TtO t it 0))
/-- what __len__ promises -/
def spLn (C : Addr) (f : Str) : Sp := fun vs H Q _ => ∃ a dx t xs, vs = [.ref a] ∧ H a = some (.ins C dx (FE f t)) ∧ H t = some (.tup xs) ∧ Q (.int (xs.length : Nat)) H
section
variable {X : Cx} {pins : List (Addr × Obj)} {σ : L2.St} {H : Hp} {s : Shared} {C fi fl a q t it : Addr} {fdI fdL : FuncData} {psI psL : List Str} {A1 : Around} {f : Str} {n : Nat}
theorem upd_swap {H : Hp} {a b : Addr} {o u : HO} (h : a ≠ b) : upd (upd H a o) b u = upd (upd H b u) a o := by
  funext c
  by_cases ha : c = a
  · rw [ha, upd_same, upd_ne h, upd_same]
  · by_cases hb : c = b
    · rw [hb, upd_same, upd_ne (Ne.symm h), upd_same]
    · rw [upd_ne hb, upd_ne ha, upd_ne ha, upd_ne hb]
theorem take_snoc {α} {xs : List α} {i : Nat} {x : α} (h : xs[i]? = some x) : xs.take i ++ [x] = xs.take (i + 1) := by
  rw [List.take_succ, h]
  rfl
/-- an iterator that has ended -/
def TtE (it : Addr) : HO := .ext fun h => ∃ o, h.get? it = some o
theorem it_loop {Rs : Result → Shared → Prop} {xs : List V} {H0 : Hp} (hc : A1.in1.handled = none) (hqi : q ≠ it) (ht0 : H0 t = some (.tup xs)) (htq : t ≠ q) (hti : t ≠ it) (hi0 : H0 it = none) (hz : xs.length < sizeLine)
    (hdone : ∀ s, Inv X pins σ (upd H0 q (.lst xs)) s → Rs (.ok (.ret .none)) s) :
    ∀ (k i : Nat) (s : Shared), i + k = xs.length → Inv X pins σ (upd (upd H0 q (.lst (xs.take i))) it (TtO t it i)) s → codeAny (model X.prog X.w) A1 (.builtin "list.extend.loop" ⟨[.ref q, .ref it, .none], []⟩) Rs s := by
  intro k
  induction k with
  | zero =>
    intro i s hk I
    refine codeAny_builtin PySem.F.entry_extend_loop ?_
    rw [Around.under_plainId PySem.F.plain_extend_loop _]
    show wpAny _ A1.in1 (pyNext (.ref it) >>= _) _ _ s
    have ht : upd (upd H0 q (.lst (xs.take i))) it (TtO t it i) t = some (.tup xs) := by rw [upd_ne hti, upd_ne htq]; exact ht0
    obtain ⟨its, rv, pl, _⟩ := I.tuple (.inl (.inl ht))
    have hit := ttO_get I upd_same
    refine wpAny_bind (tup_end hc hit pl (by rw [List.getElem?_toArray]; exact rv.none_of (by rw [List.getElem?_eq_none_iff]; omega)) fun h' hx ⟨o, ho⟩ => ?_)
    refine wpAny_pure (hdone _ ?_)
    have mu : Mut (upd (upd H0 q (.lst (xs.take i))) it (TtO t it i) it) := by rw [upd_same]; exact True.intro
    have I2 := I.write (x := it) (e := it) (t' := s.toks) (o := TtE it) mu (.inl rfl) (fun b u hb e => hx b u hb e) ⟨o, ho⟩ ⟨⟨o, ho⟩, ⟨o, ho⟩, fun h1 h2 q k => let ⟨o, ho⟩ := q; ⟨o, k _ ho⟩⟩
    rw [upd_upd] at I2
    have I3 := ItX.inv_drop I2 (a := it) upd_same
    rw [ItX.dropH_upd (by rw [upd_ne (Ne.symm hqi)]; exact hi0), show xs.take i = xs from List.take_of_length_le (by omega)] at I3
    exact I3
  | succ k ih =>
    intro i s hk I
    refine codeAny_builtin PySem.F.entry_extend_loop ?_
    rw [Around.under_plainId PySem.F.plain_extend_loop _]
    show wpAny _ A1.in1 (pyNext (.ref it) >>= _) _ _ s
    have ht : upd (upd H0 q (.lst (xs.take i))) it (TtO t it i) t = some (.tup xs) := by rw [upd_ne hti, upd_ne htq]; exact ht0
    obtain ⟨its, rv, pl, _⟩ := I.tuple (.inl (.inl ht))
    have hit := ttO_get I upd_same
    have hi : i < xs.length := by omega
    obtain ⟨u, hu, ru⟩ := rv.get (List.getElem?_eq_getElem hi)
    refine wpAny_bind (wpAny_pyNext_tuple_item hit pl (by rw [List.getElem?_toArray]; exact hu) fun h' hit' sb => ?_)
    have mu : Mut (upd (upd H0 q (.lst (xs.take i))) it (TtO t it i) it) := by rw [upd_same]; exact True.intro
    have I2 := I.write (x := it) (e := it) (t' := s.toks) (o := TtO t it (i + 1)) mu (.inl rfl) (fun b o nb z => (sb.2 b nb).trans z) (let ⟨o, ho, _⟩ := hit'; ⟨o, ho⟩) (ttO_ok hit')
    rw [upd_upd] at I2
    have hq' : upd (upd H0 q (.lst (xs.take i))) it (TtO t it (i + 1)) q = some (.lst (xs.take i)) := by rw [upd_ne hqi, upd_same]
    show wpAny _ A1.in1 (updateSeq q (·.push u) >>= _) _ _ _
    obtain ⟨z, its2, k2, r2, hl2, e2⟩ := I2.lstM hq'
    have lt : (xs.take i).length = i := by rw [List.length_take]; omega
    refine wpAny_bind (wpAny_updateSeq e2 rfl (wpAny_pure ⟨plainId_quiet PySem.F.plain_extend_loop _, ?_⟩) (by rw [List.size_toArray]; omega) (by show (its2.toArray.push u).size ≤ sizeLine + 1; rw [Array.size_push, List.size_toArray]; omega))
    have I3 := I2.lset (f := (·.push u)) (its' := its2 ++ [u]) (t' := s.toks) hq' e2 (by simp) (r2.append (.cons ru .nil)) (by rw [List.length_append, List.length_singleton]; omega)
    rw [upd_swap (Ne.symm hqi), upd_upd, take_snoc (List.getElem?_eq_getElem hi)] at I3
    exact ih (i + 1) _ (by omega) I3
/-- a def that lets nothing out -/
theorem run_sub0 {A2 : Around} {k : Nat} {g : Addr} {fd : FuncData} {ps : List Str} {sp : Sp} {vs : List V} {us : List Value} {Q : VK} (sb : Sub X k A2) (F : FnOk X.prog X.w X.K X.mg X.base CX0 k g fd ps sp) (hb : Binds X.K fd ps []) (I : Inv X pins σ H s) (r : Vals vs us) (h : sp vs H Q E0) :
    wpAny (model X.prog X.w) A2 (call (.ref g) us) (EP X pins σ Q) (fun _ _ => False) s := by
  have hl : us.length = ps.length := by
    rw [← F.len _ _ _ _ h]
    exact r.length.symm
  have hb' := hb s us I.kIn (by rw [List.append_nil]; exact hl)
  rw [List.append_nil] at hb'
  have e0 : Env0 X.prog X.w X.K X.mg X.base A2 X.stack s H := by
    have e := I.env0
    exact ⟨by rw [sb.fr]; exact e.frames, e.mod, e.bs, e.bsz, e.funs, e.frf, e.hok, e.bare⟩
  refine wpAny_call (codeAny_mono (F.run A2 X.stack s H ⟨us, []⟩ us vs Q E0 sb.room e0 hb' r h) fun r s' hq => ?_)
  cases r with
  | error e => exact hq
  | ok fl =>
    cases fl with
    | ret u => exact I.after hq
    | next => exact False.elim hq
    | brk => exact False.elim hq
    | cont => exact False.elim hq
/-- the length is asked -/
theorem it_hint {Q : Bool → Shared → Prop} {dx : Addr} {xs : List V} (sb : Sub X n A1.in1) (hl : PySem.W.findIn X.K (.ref C) "__len__" = some (some (.ref fl))) (hlF : PySem.W.isFn X.K (.ref fl) = true)
    (FL : FnOk X.prog X.w X.K X.mg X.base CX0 n fl fdL psL (spLn C f)) (bL : Binds X.K fdL psL [])
    (I : Inv X pins σ H s) (ha : H a = some (.ins C dx (FE f t))) (ht : H t = some (.tup xs)) (hz : xs.length < 1000000) (h : ∀ s' b, Inv X pins σ H s' → Q b s') {E : Value → Shared → Prop} :
    wpAny (model X.prog X.w) A1 (Builtin.List.listLengthHint (.ref a)) Q E s := by
  obtain ⟨mA, J, _⟩ := ins_get I.hok ha
  obtain ⟨od, J, _⟩ := J.look
  unfold Builtin.List.listLengthHint
  refine wpAny_bind (wpAny_bind (J.type.here ((PySem.W.looks_findIn I.kIn hl).here ?_)))
  refine PySem.W.KFB.if_not rfl ?_
  refine PySem.W.KFB.if_so rfl ?_
  refine wpAny_bind (wpAny_rule ?_)
  refine wpAny_bind (wpAny_attempt (PySem.W.own_len_call I.kIn J hl hlF (wpAny_mono (run_sub0 (vs := [.ref a]) (us := [.ref a]) (Q := fun v H' => v = .int (xs.length : Nat) ∧ H' = H) sb FL bL I (.cons rfl .nil) ⟨a, dx, t, xs, rfl, ha, ht, rfl, rfl⟩) (fun z s' r => ?_) fun e s' he => he.elim)))
  obtain ⟨z', H', I', rz, rfl, rfl⟩ := r
  obtain ⟨tk, rfl⟩ := (show ∃ t, z = Value.int _ t from rz)
  refine ⟨_, tk, rfl, by omega, by omega, ?_⟩
  refine PySem.W.KFB.if_not ?_ ?_
  · show Builtin.List.listTooLong _ = false
    rw [Int.toNat_natCast]
    unfold Builtin.List.listTooLong
    have := sz hz
    exact decide_eq_false (by omega)
  exact wpAny_pure (h _ _ (I'.kept (t' := s'.toks + 1) (fun _ _ e => e)))
theorem it_extend {Rs : Result → Shared → Prop} {dx : Addr} {xs : List V} (sb1 : Sub X (n + 1) A1.in1) (hc : A1.in1.handled = none)
    (hi : PySem.W.findIn X.K (.ref C) "__iter__" = some (some (.ref fi))) (hiF : PySem.W.isFn X.K (.ref fi) = true) (FI : FnOk X.prog X.w X.K X.mg X.base CX0 n fi fdI psI (spIt C f)) (bI : Binds X.K fdI psI [])
    (hl : PySem.W.findIn X.K (.ref C) "__len__" = some (some (.ref fl))) (hlF : PySem.W.isFn X.K (.ref fl) = true) (FL : FnOk X.prog X.w X.K X.mg X.base CX0 n fl fdL psL (spLn C f)) (bL : Binds X.K fdL psL [])
    {H0 : Hp} (hq0 : H0 q = none) (I : Inv X pins σ (upd H0 q (.lst [])) s) (ha0 : H0 a = some (.ins C dx (FE f t))) (ht0 : H0 t = some (.tup xs)) (hz : xs.length < 1000000)
    (hdone : ∀ s, Inv X pins σ (upd H0 q (.lst xs)) s → Rs (.ok (.ret .none)) s) :
    wpAny (model X.prog X.w) A1.in1 (Builtin.List.listExtendWith (.ref q) (.ref a) .none)
      (fun fin s' => match fin with | .done f => Rs (.ok f) s' | .again c' => c'.quiet = true ∧ codeAny (model X.prog X.w) A1 c' Rs s') (fun e s' => Rs (.error e) s') s := by
  have naq : a ≠ q := ne_of_none ha0 hq0
  have ntq : t ≠ q := ne_of_none ht0 hq0
  have ha : upd H0 q (.lst []) a = some (.ins C dx (FE f t)) := by rw [upd_ne naq]; exact ha0
  have ht : upd H0 q (.lst []) t = some (.tup xs) := by rw [upd_ne ntq]; exact ht0
  obtain ⟨mA, J, _⟩ := ins_get I.hok ha
  obtain ⟨od, J, _⟩ := J.look
  obtain ⟨m0, hF⟩ := I.fr
  unfold Builtin.List.listExtendWith
  refine wpAny_bind (J.type.here ?_)
  have h1 : Builtin.List.listSameRef (.ref q) (.ref a) = false := by simp [Builtin.List.listSameRef, Ne.symm naq]
  have h2 : (Value.ref C == Value.type "list") = false := rfl
  have h3 : (Value.ref C == Value.type "tuple") = false := rfl
  simp only [h1, h2, h3, Bool.or_false, Bool.false_eq_true, if_false]
  refine wpAny_bind (PySem.W.owit_iter hF I.ok.mod.kin J hi hiF (wpAny_mono (run_sub0 (vs := [.ref a]) (us := [.ref a]) (Q := fun v H' => ∃ it, v = .ref it ∧ upd H0 q (.lst []) it = none ∧ H' = upd (upd H0 q (.lst [])) it (TtO t it 0)) (sb1.mono (Nat.le_succ n)) FI bI I (.cons rfl .nil) ⟨a, dx, t, xs, rfl, ha, ht, fun it nit => ⟨it, rfl, nit, rfl⟩⟩) (fun z s' r => ?_) fun e s' he => he.elim))
  obtain ⟨z', H', I', rz, it, rfl, nit, rfl⟩ := r
  cases rz
  have hit := ttO_get I' upd_same
  unfold PySem.W.OwitIt
  refine wpAny_specialOf (name := Str.ofString "__next__") hit.typeIs F.slot_tuple_iterator_next.lookup ?_
  have nai : a ≠ it := ne_of_none ha nit
  have nti : t ≠ it := ne_of_none ht nit
  have nqi : q ≠ it := fun z => by
    rw [← z, upd_same] at nit
    cases nit
  have hi0 : H0 it = none := by rw [upd_ne (Ne.symm nqi)] at nit; exact nit
  refine wpAny_bind (wpAny_holding (it_hint (f := f) (t := t) (dx := dx) (xs := xs) sb1.in1 hl hlF FL bL I' (by rw [upd_ne nai]; exact ha) (by rw [upd_ne nti]; exact ht) hz fun s2 b I2 => ?_))
  have go : ∀ s3, Inv X pins σ (upd (upd H0 q (.lst [])) it (TtO t it 0)) s3 → codeAny (model X.prog X.w) A1 (.builtin "list.extend.loop" ⟨[.ref q, .ref it, .none], []⟩) Rs s3 := fun s3 I3 =>
    it_loop (xs := xs) (H0 := H0) (t := t) hc nqi ht0 ntq nti hi0 (sz hz) hdone xs.length 0 s3 (by omega) I3
  refine wpAny_ite_split (fun _ => ?_) (fun _ => wpAny_pure ⟨plainId_quiet PySem.F.plain_extend_loop _, go _ I2⟩)
  refine wpAny_bind (wpAny_rule ?_)
  refine wpAny_bind ?_
  show wpAny _ _ (updateSeq q (·.push .none) >>= fun _ => updateSeq q (·.pop)) _ _ _
  have hq2 : upd (upd H0 q (.lst [])) it (TtO t it 0) q = some (.lst []) := by rw [upd_ne nqi, upd_same]
  obtain ⟨z, its, k, r3, hl3, e3⟩ := I2.lstM hq2
  cases r3
  refine wpAny_bind (wpAny_updateSeq e3 rfl ?_)
  have I3 := I2.lset (f := (·.push Value.none)) (its' := [Value.none]) (ys := [.non]) (t' := s2.toks) hq2 e3 (by simp) (.cons rfl .nil) (by rw [List.length_singleton, sizeLine_eq]; decide)
  obtain ⟨z4, its4, k4, r4, hl4, e4⟩ := I3.lstM upd_same
  obtain ⟨u4, rfl, ru4⟩ := r4.one
  refine wpAny_updateSeq e4 rfl ?_ (by show 1 ≤ sizeLine; rw [sizeLine_eq]; decide) (by show 0 ≤ sizeLine + 1; exact Nat.zero_le _)
  refine wpAny_pure ⟨plainId_quiet PySem.F.plain_extend_loop _, go _ ?_⟩
  have I4 := I3.lset (f := (·.pop)) (its := [u4]) (its' := []) (ys := []) (t' := s2.toks) upd_same e4 (by rfl) .nil (Nat.zero_le _)
  rw [upd_upd] at I4
  have hH : upd (upd (upd H0 q (.lst [])) it (TtO t it 0)) q (.lst []) = upd (upd H0 q (.lst [])) it (TtO t it 0) := by
    rw [upd_swap (Ne.symm nqi), upd_upd]
  rw [hH] at I4
  exact I4
/-- list(o) -/
def rListO (C : Addr) (f : Str) : List V → Hp → VK → Prop := fun xs H Q => ∃ a dx t ys, xs = [.ref a] ∧ H a = some (.ins C dx (FE f t)) ∧ H t = some (.tup ys) ∧ ys.length < 1000000 ∧ ∀ q, H q = none → Q (.ref q) (upd H q (.lst ys))
theorem cr_listO (hc : X.calm = true) (hi : PySem.W.findIn X.K (.ref C) "__iter__" = some (some (.ref fi))) (hiF : PySem.W.isFn X.K (.ref fi) = true) (FI : FnOk X.prog X.w X.K X.mg X.base CX0 n fi fdI psI (spIt C f)) (bI : Binds X.K fdI psI [])
    (hl : PySem.W.findIn X.K (.ref C) "__len__" = some (some (.ref fl))) (hlF : PySem.W.isFn X.K (.ref fl) = true) (FL : FnOk X.prog X.w X.K X.mg X.base CX0 n fl fdL psL (spLn C f)) (bL : Binds X.K fdL psL [])
    (room : Room (n + 3) X.A) : CallR X (.type "list") (rListO C f) := by
  intro pins s σ H xs us Q I rv h
  obtain ⟨a, dx, t, ys, rfl, ha, ht, hz, hq⟩ := h
  obtain ⟨u, rfl, ru⟩ := rv.one
  cases ru
  have sb : Sub X (n + 1) X.A.in1.in1 := Sub.in1 (Sub.in1 (⟨room, rfl⟩ : Sub X (n + 3) X.A))
  refine callType_codes (Q₁ := fun obj s₁ => obj = .ref s.heap.objs.size ∧ s₁ = { s with heap := s.heap.push { cls := .type "list", data := .seq #[] } }) PySem.F.called_list (PySem.F.typeCall_list_1 _) PySem.F.entry_list_init
    (code_list_new _ ⟨rfl, rfl⟩) fun obj s₁ h₁ => ?_
  obtain ⟨rfl, rfl⟩ := h₁
  have hS : (s.heap.push { cls := .type "list", data := .seq #[] }).get? s.heap.objs.size = some { cls := .type "list", data := .seq #[] } := Heap.get?_push_size _ rfl
  refine ⟨⟨_, hS, rfl⟩, PySem.F.args_list_init_2 _ _, ?_⟩
  have fr : H s.heap.objs.size = none := I.hok.fresh (Nat.le_refl _)
  have I1 : Inv X pins σ (upd H s.heap.objs.size (.lst [])) { s with heap := s.heap.push { cls := .type "list", data := .seq #[] } } := I.lnew (its := []) (t' := s.toks) .nil (Nat.zero_le _)
  show wpAny _ _ (do let old ← Builtin.List.listItems (.ref s.heap.objs.size); Builtin.List.listUpdate (.ref s.heap.objs.size) (fun _ => #[]); letGo old.toList.reverse; Builtin.List.listExtendWith (.ref s.heap.objs.size) (.ref a) .none) _ _ _
  refine wpAny_bind ?_
  unfold Builtin.List.listItems
  refine wpAny_bind (wpAny_seqItems hS rfl (wpAny_pure ?_))
  show wpAny _ _ (updateSeq s.heap.objs.size (fun _ => #[]) >>= fun _ => letGo (#[] : Array Value).toList.reverse >>= fun _ => Builtin.List.listExtendWith (.ref s.heap.objs.size) (.ref a) .none) _ _ _
  refine wpAny_bind (wpAny_updateSeq hS rfl ?_)
  have I2 := I1.lset (f := fun _ => #[]) (its := []) (its' := []) (ys := []) (t' := s.toks) upd_same hS rfl .nil (Nat.zero_le _)
  rw [upd_upd] at I2
  refine wpAny_bind (wpAny_letGo ?_)
  exact it_extend (A1 := X.A.in1) (Rs := wants (fun r s₂ => r = .none ∧ EP X pins σ Q (.ref s.heap.objs.size) s₂) X.xe) sb (I.ok.hd hc) hi hiF FI bI hl hlF FL bL fr I2 ha ht hz
    (fun s' I' => ⟨rfl, .ref s.heap.objs.size, _, I', rfl, hq _ fr⟩)
end
section
variable {X : Cx}
/-- xs + ys, two lists -/
def rCatL : R2 := fun x y H Q => ∃ p q, x = .ref p ∧ y = .ref q ∧ ∃ xs, H p = some (.lst xs) ∧ ∃ ys, H q = some (.lst ys) ∧ xs.length + ys.length < 1000000 ∧ ∀ l, H l = none → Q (.ref l) (upd H l (.lst (xs ++ ys)))
theorem op_catL : OpR X (binaryOp .Add) rCatL := opImp op_cat fun x y H Q ⟨p, q, ex, ey, xs, hp, ys, hq, hz, k⟩ =>
  ⟨p, q, xs, ys, ex, ey, hp, hq, Nat.le_of_lt (sz hz), k⟩
/-- (n,) * k -/
def rRepTI : R2 := fun x y H Q => ∃ l k, x = .ref l ∧ y = .int k ∧ ∃ n, H l = some (TI [n]) ∧ 2 ≤ k ∧ k ≤ 1000 ∧ ∀ p, H p = none → Q (.ref p) (upd H p (TI (List.replicate k.toNat n)))
theorem op_repTI : OpR X (binaryOp .Mult) rRepTI := opImp op_repT fun x y H Q ⟨l, k, ex, ey, n, hl, h0, h1, q⟩ =>
  ⟨l, k, [V.int n], ex, ey, .inl (.inl hl), by simp, h0, h1, by simp, fun p hp => by
    rw [flat_rep]
    exact q p hp⟩
end
section
variable {σ : L2.St} {H : Hp} {Q : VK} {C : Addr} {f : Str} {sp : Sp} {E : XK} {vs : List V}
theorem ap_repTI {x y : V} : rRepTI x y H Q = ∃ l k, x = .ref l ∧ y = .int k ∧ ∃ n, H l = some (TI [n]) ∧ 2 ≤ k ∧ k ≤ 1000 ∧ ∀ p, H p = none → Q (.ref p) (upd H p (TI (List.replicate k.toNat n))) := rfl
theorem ap_lenO : rLenO C sp E vs H Q = ∃ a dx fs, vs = [.ref a] ∧ H a = some (.ins C dx fs) ∧ sp [.ref a] H (fun v H' => ∃ n : Nat, v = .int n ∧ n < 1000000 ∧ Q (.int n) H') E := rfl
theorem ap_strO : rStrO C sp E vs H Q = ∃ a dx fs, vs = [.ref a] ∧ H a = some (.ins C dx fs) ∧ sp [.ref a] H (fun v H' => ∃ z, v = .str z ∧ Q (.str z) H') E := rfl
theorem ap_listO : rListO C f vs H Q = ∃ a dx t ys, vs = [.ref a] ∧ H a = some (.ins C dx (FE f t)) ∧ H t = some (.tup ys) ∧ ys.length < 1000000 ∧ ∀ q, H q = none → Q (.ref q) (upd H q (.lst ys)) := rfl
theorem ap_reprB : rReprB vs H Q = ∃ b, vs = [.bl b] ∧ Q (.str (if b then "True" else "False")) H := rfl
theorem ap_iterT : rIterT vs H Q = ∃ l, vs = [.ref l] ∧ ∃ zs, H l = some (.tup zs) ∧ ∀ it, H it = none → Q (.ref it) (upd H it (TtO l it 0)) := rfl
theorem ap_neT {x y : V} : rNeT C sp E x y H Q = ∃ a dx fs b xs, x = .ref a ∧ y = .ref b ∧ H a = some (.ins C dx fs) ∧ H b = some (.tup xs) ∧ sp [x, y] H (fun v H' => ∃ r, v = .bl r ∧ Q (.bl (!r)) H') E := rfl
theorem ap_negO {x : V} : rNeg C sp E x H Q = ∃ a dx fs, x = .ref a ∧ H a = some (.ins C dx fs) ∧ sp [x] H Q E := rfl
theorem ap_binI {x y : V} : rBinI C sp E x y H Q = ∃ a dx fs n, x = .ref a ∧ y = .int n ∧ H a = some (.ins C dx fs) ∧ sp [x, y] H Q E := rfl
theorem ap_catL {x y : V} : rCatL x y H Q = ∃ p q, x = .ref p ∧ y = .ref q ∧ ∃ xs, H p = some (.lst xs) ∧ ∃ ys, H q = some (.lst ys) ∧ xs.length + ys.length < 1000000 ∧ ∀ l, H l = none → Q (.ref l) (upd H l (.lst (xs ++ ys))) := rfl
theorem ap_tM1 {r : V → List V → Hp → VK → Prop} {to te : TE} : tM1 r to te σ H Q = to σ H fun x H1 => (∃ a, x = .str a) ∧ te σ H1 fun y H2 => r x [y] H2 Q := rfl
end
end Pr

/-! list.count of a tuple of ints in a list of such; `in`, set and sorted of tuples of ints -/
namespace Pr
open PySem PySem.Spec PyProof.Rows L2
theorem _root_.L2.Room.units65 {k : Nat} {A : Around} (r : Room k A) : A.units + 65 < cLine := by have := r.un; omega
/-- the tuples of ints at these places -/
def RowsAt (H : Hp) (rs : List Addr) (nss : List (List Int)) : Prop := rs.length = nss.length ∧ ∀ (i : Nat) (r : Addr) (ns : List Int), rs[i]? = some r → nss[i]? = some ns → H r = some (TI ns)
theorem RowsAt.same {H H' : Hp} {rs : List Addr} {nss : List (List Int)} (h : RowsAt H rs nss) (s : Same H H') : RowsAt H' rs nss := ⟨h.1, fun i r ns e1 e2 => s _ _ (h.2 i r ns e1 e2)⟩
theorem RowsAt.nil {H : Hp} : RowsAt H [] [] := ⟨rfl, fun i r ns e => by simp at e⟩
theorem RowsAt.tail {H : Hp} {r : Addr} {rs : List Addr} {n : List Int} {nss : List (List Int)} (h : RowsAt H (r :: rs) (n :: nss)) : RowsAt H rs nss := ⟨by have := h.1; simp at this; exact this, fun i r ns e1 e2 => h.2 (i + 1) r ns (by simpa using e1) (by simpa using e2)⟩
theorem RowsAt.head {H : Hp} {r : Addr} {rs : List Addr} {n : List Int} {nss : List (List Int)} (h : RowsAt H (r :: rs) (n :: nss)) : H r = some (TI n) := h.2 0 r n rfl rfl
theorem RowsAt.cons {H : Hp} {r : Addr} {rs : List Addr} {n : List Int} {nss : List (List Int)} (h0 : H r = some (TI n)) (h : RowsAt H rs nss) : RowsAt H (r :: rs) (n :: nss) := by
  refine ⟨by simp [h.1], fun i => ?_⟩
  match i with
  | 0 => intro r' ns e1 e2; simp at e1 e2; subst e1 e2; exact h0
  | i + 1 => intro r' ns e1 e2; exact h.2 i r' ns (by simpa using e1) (by simpa using e2)
theorem RowsAt.append {H : Hp} : ∀ {rs rs' : List Addr} {nss nss' : List (List Int)}, RowsAt H rs nss → RowsAt H rs' nss' → RowsAt H (rs ++ rs') (nss ++ nss')
  | [], _, [], _, _, h' => h'
  | [], _, _ :: _, _, h, _ => by have := h.1; simp at this
  | _ :: _, _, [], _, h, _ => by have := h.1; simp at this
  | r :: rs, rs', n :: nss, nss', h, h' => .cons h.head (RowsAt.append h.tail h')
theorem RowsAt.mem {H : Hp} {rs : List Addr} {nss : List (List Int)} (h : RowsAt H rs nss) {i : Nat} (hi : i < rs.length) : ∃ ns, nss[i]? = some ns ∧ H rs[i] = some (TI ns) := by
  have hi' : i < nss.length := by rw [← h.1]; exact hi
  exact ⟨nss[i], List.getElem?_eq_getElem hi', h.2 i _ _ (List.getElem?_eq_getElem hi) (List.getElem?_eq_getElem hi')⟩
theorem dpAll_rows {K : PySem.W.Frag} {H : Hp} : ∀ {rs : List Addr} {nss : List (List Int)}, RowsAt H rs nss → DpAll K H (rs.map V.ref) (nss.map fun ns => PyData.tuple (ns.map .int))
  | [], [], _ => .nil
  | [], _ :: _, h => by have := h.1; simp at this
  | _ :: _, [], h => by have := h.1; simp at this
  | r :: rs, n :: nss, h => .cons (.tup (sqT_of h.head) (dpAll_ints _ _ n)) (dpAll_rows h.tail)
theorem lay_rows : ∀ nss : List (List Int), PyData.canLayAll0 (nss.map fun ns => PyData.tuple (ns.map .int)) = true
  | [] => rfl
  | n :: nss => by
    show (PyData.canLayAll0 (n.map .int) && PyData.canLayAll0 (nss.map fun ns => PyData.tuple (ns.map .int))) = true
    rw [lay_rows nss, lay_ints n]
    rfl
theorem depth_rows : ∀ nss : List (List Int), PyData.depthAll (nss.map fun ns => PyData.tuple (ns.map .int)) ≤ 1
  | [] => Nat.zero_le _
  | n :: nss => by
    show max (PyData.depth (.tuple (n.map .int))) (PyData.depthAll (nss.map fun ns => PyData.tuple (ns.map .int))) ≤ 1
    have h1 := depth_rows nss
    have h2 : PyData.depth (.tuple (n.map .int)) ≤ 1 := by
      have := depth_ints n
      simp [PyData.depth, this]
    omega
theorem shaped_rows (nss : List (List Int)) : SeqAt.shaped (.list (nss.map fun ns => PyData.tuple (ns.map .int))) = true := by
  have h1 := lay_rows nss
  have h2 := depth_rows nss
  unfold SeqAt.shaped
  simp [PyData.canLay0, PyData.depth, h1]
  omega
theorem eqv_tup (n m : List Int) : PyData.eqv (.tuple (n.map .int)) (.tuple (m.map .int)) = decide (n = m) := eqvAll_ints n m
section
variable {X : Cx}
def rCountD (K : PySem.W.Frag) : V → List V → Hp → VK → Prop := fun x xs H Q => ∃ (a : Addr) (y : V) (d : PyData) (ds : List PyData), x = V.ref a ∧ xs = [y] ∧ Dp K H (V.ref a) (.list ds) ∧ Dp K H y d ∧
  SeqAt.shaped (.list ds) = true ∧ SeqAt.shaped d = true ∧ Q (.int ((ds.countP fun z => PyData.eqv z d) : Nat)) H
theorem mt_countD (hu : X.A.units + 65 < cLine) : MtR X "list.count" (rCountD X.K) := by
  intro pins s σ H x xs v us Q I rx rxs h
  obtain ⟨a, y, d, ds, rfl, rfl, hl, hy, sl, sd, q⟩ := h
  cases rx
  obtain ⟨uy, rfl, ry⟩ := rxs.one
  obtain ⟨bs, r1⟩ := Dp.reads I d y uy hy ry
  have lays : PyData.canLayAll0 ds = true := SeqAt.canLay_of_shaped sl
  have room : X.A.units + 1 + min (PyData.depthAll ds) d.depth < cLine := room_in_shaped sd hu
  cases hl with
  | lst hs ha =>
    obtain ⟨its, rv, ⟨⟨cls, dd, data, sls⟩, n, ho, hc, hdn, hdt⟩, hlen⟩ := I.list hs
    simp only at hc hdt
    subst hc hdt
    obtain ⟨as, h4⟩ := Dp.readsAll I ds _ its ha rv
    have hmap : its.map (SeqAt.readOf s.heap) = ds := SeqAt.readsAll_map ds its as lays h4
    refine call_meets PySem.F.slot_list_count ⟨_, ho, rfl⟩ PySem.F.entry_list_count (PySem.F.args_list_count_2 _ _)
      (SeqAt.list_countAt a its.toArray n dd sls uy (fun u => PyData.eqv (SeqAt.readOf s.heap u) d)) ⟨ho, SeqAt.items_eqAt (vs := its.toArray) (show ReadsAll s.heap its.toArray.toList ds as from h4) r1 lays (SeqAt.canLay_of_shaped sd) room, ?_⟩
    have ec : its.toArray.toList.countP (fun u => PyData.eqv (SeqAt.readOf s.heap u) d) = ds.countP fun z => PyData.eqv z d := by
      rw [← hmap, List.countP_map]
      rfl
    refine ⟨.int ((ds.countP fun z => PyData.eqv z d) : Nat), H, I.tok _, ⟨s.toks, ?_⟩, q⟩
    rw [ec]
/-- xs.count(t), tuples of ints -/
def rCountT : V → List V → Hp → VK → Prop := fun x xs H Q => ∃ (a : Addr) (y : Addr), x = V.ref a ∧ xs = [.ref y] ∧ ∃ rs nss ns, H a = some (.lst (rs.map V.ref)) ∧ RowsAt H rs nss ∧ H y = some (TI ns) ∧ Q (.int ((nss.count ns : Nat))) H
theorem mt_countT (hu : X.A.units + 65 < cLine) : MtR X "list.count" rCountT := fun pins s σ H x xs v us Q I rx rxs h => by
  obtain ⟨a, y, ex, exs, rs, nss, ns, ha, hr, hy, q⟩ := h
  refine mt_countD hu pins s σ H x xs v us Q I rx rxs ⟨a, .ref y, .tuple (ns.map .int), _, ex, exs, .lst (sqL_of ha) (dpAll_rows hr), .tup (sqT_of hy) (dpAll_ints _ _ ns), shaped_rows nss, shaped_TI ns, ?_⟩
  have e : ((nss.map fun ns => PyData.tuple (ns.map .int)).countP fun z => PyData.eqv z (.tuple (ns.map .int))) = nss.count ns := by
    rw [List.countP_map, List.count_eq_countP]
    congr 1
    funext m
    show PyData.eqv (.tuple (m.map .int)) (.tuple (ns.map .int)) = (m == ns)
    rw [eqv_tup, Bool.eq_iff_iff, decide_eq_true_iff, beq_iff_eq]
  rw [e]
  exact q
/-- t not in xs -/
def rNotInT : R2 := fun x y H Q => ∃ (t a : Addr), x = .ref t ∧ y = .ref a ∧ ∃ rs nss ns, H a = some (.lst (rs.map V.ref)) ∧ RowsAt H rs nss ∧ H t = some (TI ns) ∧ Q (.bl (!decide (ns ∈ nss))) H
theorem op_notInT (hu : X.A.units + 65 < cLine) : OpR X (compareOp .NotIn) rNotInT := opImp (op_notInD hu) fun x y H Q ⟨t, a, ex, ey, rs, nss, ns, ha, hr, ht, q⟩ => by
  subst ex ey
  refine ⟨.tuple (ns.map .int), _, .tup (sqT_of ht) (dpAll_ints _ _ ns), .lst (sqL_of ha) (dpAll_rows hr), shaped_TI ns, shaped_rows nss, ?_⟩
  have e : ((nss.map fun ns => PyData.tuple (ns.map .int)).any fun z => PyData.eqv z (.tuple (ns.map .int))) = decide (ns ∈ nss) := by
    rw [List.any_map, Bool.eq_iff_iff, List.any_eq_true, decide_eq_true_iff]
    constructor
    · rintro ⟨m, hm, h⟩
      have h2 : PyData.eqv (.tuple (m.map .int)) (.tuple (ns.map .int)) = true := h
      rw [eqv_tup] at h2
      rw [← of_decide_eq_true h2]
      exact hm
    · intro h
      refine ⟨ns, h, ?_⟩
      show PyData.eqv (.tuple (ns.map .int)) (.tuple (ns.map .int)) = true
      rw [eqv_tup]
      exact decide_eq_true rfl
  rw [e]
  exact q
/-- [v] * k -/
def rRepL1 : R2 := fun x y H Q => ∃ l k, x = .ref l ∧ y = .int k ∧ ∃ v, H l = some (.lst [v]) ∧ k < 1000000 ∧ -1000000 < k ∧ ∀ p, H p = none → Q (.ref p) (upd H p (.lst (List.replicate k.toNat v)))
theorem flat_rep1 (k : Nat) (v : V) : (List.replicate k [v]).flatten = List.replicate k v := by
  induction k with
  | zero => rfl
  | succ k ih =>
    rw [List.replicate_succ, List.flatten_cons, ih, List.replicate_succ]
    rfl
theorem op_repL1 : OpR X (binaryOp .Mult) rRepL1 := opImp op_rep fun x y H Q ⟨l, k, ex, ey, n, hl, h0, h1, q⟩ => by
  refine ⟨l, k, [n], ex, ey, hl, by omega, by omega, ?_, fun p hp => ?_⟩
  · show 1 * k.toNat ≤ sizeLine
    rw [Nat.one_mul]
    exact Nat.le_of_lt (sz (by omega))
  · rw [flat_rep1]
    exact q p hp
end
section
variable {σ : L2.St} {H : Hp} {Q : VK} {K : PySem.W.Frag} {P : Program} {w : World}
theorem ap_countT {x : V} {xs : List V} : rCountT x xs H Q = ∃ (a : Addr) (y : Addr), x = V.ref a ∧ xs = [.ref y] ∧ ∃ rs nss ns, H a = some (.lst (rs.map V.ref)) ∧ RowsAt H rs nss ∧ H y = some (TI ns) ∧ Q (.int ((nss.count ns : Nat))) H := rfl
theorem ap_notInT {x y : V} : rNotInT x y H Q = ∃ (t a : Addr), x = .ref t ∧ y = .ref a ∧ ∃ rs nss ns, H a = some (.lst (rs.map V.ref)) ∧ RowsAt H rs nss ∧ H t = some (TI ns) ∧ Q (.bl (!decide (ns ∈ nss))) H := rfl
theorem ap_repL1 {x y : V} : rRepL1 x y H Q = ∃ l k, x = .ref l ∧ y = .int k ∧ ∃ v, H l = some (.lst [v]) ∧ k < 1000000 ∧ -1000000 < k ∧ ∀ p, H p = none → Q (.ref p) (upd H p (.lst (List.replicate k.toNat v))) := rfl
end
end Pr

/-! sorted(s), s a set of pairs of ints of any sign -/
namespace Pr
open PySem PySem.Spec PyProof.Rows L2
theorem perm_back {α β} {f : α → β} {xs ys : List β} (p : xs.Perm ys) : ∀ L : List α, ys = L.map f → ∃ L' : List α, L'.Perm L ∧ xs = L'.map f := by
  induction p with
  | nil => exact fun L e => ⟨L, .refl _, e⟩
  | cons x _ ih =>
    intro L e
    match L, e with
    | a :: L, e =>
      rw [List.map_cons] at e
      obtain ⟨e1, e2⟩ := List.cons.inj e
      obtain ⟨L', q, e3⟩ := ih L e2
      exact ⟨a :: L', q.cons a, by rw [List.map_cons, e1, e3]⟩
  | swap x y l =>
    intro L e
    match L, e with
    | a :: b :: L, e =>
      rw [List.map_cons, List.map_cons] at e
      obtain ⟨e1, e2⟩ := List.cons.inj e
      obtain ⟨e3, e4⟩ := List.cons.inj e2
      exact ⟨b :: a :: L, .swap a b L, by rw [List.map_cons, List.map_cons, e1, e3, e4]⟩
  | trans _ _ ih1 ih2 =>
    intro L e
    obtain ⟨L1, q1, e1⟩ := ih2 L e
    obtain ⟨L2, q2, e2⟩ := ih1 L1 e1
    exact ⟨L2, q2.trans q1, e2⟩
section
variable {P : Program} {w : World} {A : Around} {E : Value → Shared → Prop} {s : Shared}
theorem sorted_setP {a : Addr} {L : List (Addr × List Int)} {es : Array (Int × Value)} {ep : Nat} {t : SetTable} {Q : Value → Shared → Prop} (R : SetTR P w s.heap a L es ep t) (hh : A.handled = none) (hB : ∀ p ∈ L, p.2.length = 2)
    (hQ : ∀ s' p (out : List Value) (c : Nat) (L' : List (Addr × List Int)), (∀ b o, s.heap.get? b = some o → s'.heap.get? b = some o) → s'.gens = s.gens → s'.os = s.os → s.heap.objs.size ≤ p →
      s'.heap.get? p = some (seqObj "list" out.toArray c) → out = L'.map (fun q => Value.ref q.1) → L'.Perm L → Q (.ref p) s') :
    wpAny (model P w) A (call (.builtin "sorted") [.ref a]) Q E s := by
  obtain ⟨o, ho, hex, hd⟩ := R.ob
  have few := R.few
  have size := R.size
  refine Calls.call_function_entry kind_sorted plain_sorted entry_sorted (args_sorted1 _) ?_
  unfold Builtin.«sorted»
  refine wpAny_bind (m := checkCount "sorted" 1 1 _) (wpAny_pure ?_)
  refine wpAny_bind (collect_set (A := A.in1) hh ⟨o, ho, hex.1, hd⟩ R.fits (by unfold scanBound; omega) R.tab.ris R.led fun s1 vs k1 hz g1 o1 pm => ?_)
  have hes : es.toList.map (·.2) = L.map fun q => Value.ref q.1 := by
    rw [R.rows]
    unfold rowsOf
    rw [List.map_map] <;> rfl
  rw [hes] at pm
  have lv : vs.length < 64 := by rw [pm.length_eq, List.length_map]; exact few
  have fits : vs.length ≤ sizeLine := by rw [sizeLine_eq]; omega
  refine wpAny_bind (wpAny_newList ?_ fits)
  have at1 : (s1.heap.push (seqObj "list" vs.toArray 0)).get? s1.heap.objs.size = some (seqObj "list" vs.toArray 0) := Heap.get?_push_size _ rfl
  have pairs : ∀ v ∈ vs, ∃ x y, Srt.IsPair (s1.heap.push (seqObj "list" vs.toArray 0)) v x y := fun v hv => by
    obtain ⟨q, hq, e⟩ := List.mem_map.mp (pm.mem_iff.mp hv)
    obtain ⟨b, items, eb, ⟨ob, hob, hcb, n, hdb⟩, hin⟩ := tupInts_of (P := P) (w := w) (isT_keep (R.tup q hq) fun b u e => Heap.get?_push_of_some (seqObj "list" vs.toArray 0) (k1 b u e))
    have l2 := hB q hq
    match hk : q.2, l2 with
    | [x, y], _ =>
      rw [hk] at hin
      obtain ⟨il⟩ := items
      cases hin with
      | cons _ t1 r =>
        cases r with
        | cons _ t2 r2 =>
          cases r2
          rw [← e]
          exact ⟨x, y, b, ob, t1, t2, n, eb, hob, hcb, hdb⟩
  refine wpAny_bind (wpAny_holding (wpAny_call_entry slot_list_sort ⟨_, at1, rfl⟩ entry_list_sort (Srt.list_sort_any (s := { s1 with heap := s1.heap.push (seqObj "list" vs.toArray 0) }) at1 fits
    (fun h2 => Srt.pairs_sortable (by omega) pairs fun u e => ?_) fun out a1 => ⟨_, rfl, ?_⟩) (args_list_sort _)))
  · have e' : some u = some (seqObj "list" vs.toArray 0) := e.symm.trans at1
    cases e'
    intro c
    exact absurd (Value.type.inj c) (by decide)
  · obtain ⟨c, hc⟩ := sortedHeap_at (vs := vs) (out := out.toArray) at1
    obtain ⟨L', pL, eL⟩ := perm_back (a1.trans pm) L rfl
    refine wpAny_pure ⟨_, rfl, hQ _ s1.heap.objs.size out c L' (fun b u e => ?_) g1 o1 hz hc eL pL⟩
    have q := k1 b u e
    have hlt := Heap.lt_size q
    show (sortedHeap (s1.heap.push (seqObj "list" vs.toArray 0)) s1.heap.objs.size vs out.toArray).get? b = some u
    rw [sortedHeap_old (Nat.ne_of_lt hlt) (by rw [size_push']; exact Nat.lt_succ_of_lt hlt)]
    exact Heap.get?_push_of_some _ q
end
section
variable {X : Cx}
def rSortedS2 (K : PySem.W.Frag) (P : Program) (w : World) : List V → Hp → VK → Prop := fun vs H Q => ∃ (a : Addr) (L : List (Addr × List Int)), vs = [V.ref a] ∧ H a = some (SetTO P w a L) ∧ (∀ p ∈ L, SqT K H p.1 (p.2.map V.int)) ∧ (∀ p ∈ L, p.2.length = 2) ∧
  ∀ (L' : List (Addr × List Int)) (p : Addr), L'.Perm L → (L'.map (·.2)).Nodup → L'.length < 64 → H p = none → Q (.ref p) (upd H p (.lst (L'.map fun q => V.ref q.1)))
theorem cr_sortedS2 (hc : X.calm = true) : CallR X (.builtin "sorted") (rSortedS2 X.K X.prog X.w) := by
  intro pins s σ H vs us Q I r h
  obtain ⟨a, L, rfl, ha, hk, hB, q⟩ := h
  have R0 : SetT0 X.prog X.w s.heap a L := (I.hok a _ ha).1
  obtain ⟨es, ep, t, R⟩ := R0.full fun p hp => I.isT (hk p hp)
  obtain ⟨u, rfl, ru⟩ := r.one
  cases ru
  refine sorted_setP R (I.ok.hd hc) hB fun s2 p out c L' k g o hp hg hout pm => ?_
  have few : L'.length < 64 := by rw [pm.length_eq]; exact R.few
  have lz : (L'.map fun q => V.ref q.1).length ≤ sizeLine := by rw [List.length_map, sizeLine_eq]; omega
  have fr : H p = none := I.hok.fresh hp
  have hv : Vals (L'.map fun q => V.ref q.1) out := by rw [hout]; exact vals_of_refs L'
  obtain ⟨h2, g2, d2, t2, os2⟩ := s2
  have eo : os2 = s.os := o
  subst eo
  have J : Inv X pins σ (upd H p (.lst (L'.map fun q => V.ref q.1))) { s with heap := h2, gens := g2, drawn := d2, toks := t2 } :=
    I.call (ch := []) (Un.laid k hp fr) (I.hok.laid k hp ⟨lz, out, c, hv, hg⟩) (by rw [show g2 = s.gens from g]; exact I.bare) (fun _ z => nomatch z)
  exact ⟨.ref p, _, J, rfl, q L' p pm ((pm.map (·.2)).nodup_iff.mpr R.nd) few fr⟩
end
end Pr

namespace Pr
open PySem PySem.Spec PyProof.Rows L2
/-- the number that a value is -/
def intOf : Value → Option Int
  | .int i _ => some i
  | _ => none
theorem vals_ints : ∀ {us : List Value} {ns : List Int}, us.map intOf = ns.map some → Vals (ns.map V.int) us
  | [], [], _ => .nil
  | u :: us, n :: ns, h => by
    rw [List.map_cons, List.map_cons, List.cons.injEq] at h
    refine .cons ?_ (vals_ints h.2)
    match u, h.1 with
    | .int i t, e =>
      have e : some i = some n := e
      cases e
      exact ⟨_, rfl⟩
theorem sqT_const {K : PySem.W.Frag} {H : Hp} {a : Addr} {d : Option Addr} {its : Array Value} {n : Nat} {sl : Array (Option Value)} {ns : List Int} (l : K.lookup a = some ⟨.type "tuple", d, .seq its n, sl⟩) (e : its.toList.map intOf = ns.map some) (hs : ns.length ≤ sizeLine) : SqT K H a (ns.map V.int) := by
  refine .inr ⟨_, its, n, l, rfl, rfl, ?_, vals_ints e⟩
  have := congrArg List.length e
  rw [List.length_map, List.length_map, Array.length_toList] at this
  omega
section
variable {X : Cx}
/-- t + u, two tuples of anything that are not empty -/
def rCatTT : R2 := fun x y H Q => ∃ a b, x = .ref a ∧ y = .ref b ∧ ∃ xs, H a = some (.tup xs) ∧ ∃ ys, H b = some (.tup ys) ∧ xs ≠ [] ∧ ys ≠ [] ∧ xs.length + ys.length < 1000000 ∧ ∀ p, H p = none → Q (.ref p) (upd H p (.tup (xs ++ ys)))
theorem op_catTT : OpR X (binaryOp .Add) rCatTT := opImp op_catT fun x y H Q ⟨a, b, ex, ey, xs, hx, ys, hy, nx, ny, hl, k⟩ =>
  ⟨a, b, xs, ys, ex, ey, sqT_of hx, sqT_of hy, nx, Nat.le_of_lt (sz hl), fun e => absurd e ny, fun _ => k⟩
/-- xs.pop(i) for a place within the list -/
def rPopN : V → List V → Hp → VK → Prop := fun x vs H Q => ∃ l xs, ∃ i : Int, x = .ref l ∧ vs = [.int i] ∧ 0 ≤ i ∧ H l = some (.lst xs) ∧ xs.length < 1000000 ∧ ∃ y, xs[i.toNat]? = some y ∧ Q y (upd H l (.lst (xs.eraseIdx i.toNat)))
theorem mt_popN : MtM X "list.pop" rPopN := fun pins s σ H x vs v us Q I rx rv h => by
  obtain ⟨l, xs, i, ex, evs, h0, hl, hn, y, hy, q⟩ := h
  obtain ⟨hi, _⟩ := List.getElem?_eq_some_iff.mp hy
  refine mt_popAt pins s σ H x vs v us Q I rx rv ⟨l, xs, i, i.toNat, y, ex, evs, hl, by omega, by omega, ?_, hy, q⟩
  have e1 : (if i < 0 then i + (xs.length : Int) else i) = i := if_neg (by omega)
  have e2 : (decide (0 ≤ i) && decide (i < (xs.length : Int))) = true := by
    rw [decide_eq_true h0, decide_eq_true (by omega)]
    rfl
  simp only [seqIndex?, e1, e2, if_true]
end
section
variable {σ : L2.St} {H : Hp} {Q : VK} {K : PySem.W.Frag} {P : Program} {w : World}
theorem ap_par3 {i j l : Nat} {ta : TA} {D : Ends} : tPar3 i j l ta D σ H = ta σ H (fun vs H1 => ∃ u v w, vs = [u, v, w] ∧ D.nx (((σ.set i (some u)).set j (some v)).set l (some w)) H1) := rfl
theorem ap_catTT {x y : V} : rCatTT x y H Q = ∃ a b, x = V.ref a ∧ y = V.ref b ∧ ∃ xs, H a = some (.tup xs) ∧ ∃ ys, H b = some (.tup ys) ∧ xs ≠ [] ∧ ys ≠ [] ∧ xs.length + ys.length < 1000000 ∧ ∀ p, H p = none → Q (.ref p) (upd H p (.tup (xs ++ ys))) := rfl
theorem ap_popN {x : V} {vs : List V} : rPopN x vs H Q = ∃ l xs, ∃ i : Int, x = V.ref l ∧ vs = [V.int i] ∧ 0 ≤ i ∧ H l = some (.lst xs) ∧ xs.length < 1000000 ∧ ∃ y, xs[i.toNat]? = some y ∧ Q y (upd H l (.lst (xs.eraseIdx i.toNat))) := rfl
end
end Pr

/-! (n,) * k for k from 1 on: once is the tuple itself -/
namespace Pr
open PySem PySem.Spec PyProof.Rows L2
theorem tuple_mul1 (l : Addr) (items : Array Value) (n : Nat) (dd : Option Addr) (sl : Array (Option Value)) (u : Tok) :
    Meets (Builtin.«tuple.__mul__» ⟨[.ref l, .int 1 u], []⟩) (fun _ R s => s.heap.get? l = some { cls := .type "tuple", dict := dd, data := .seq items n, slots := sl } ∧
      R (.ok (.ret (Value.ref l))) s) :=
  .of_wp fun prog w A R s h => by
    obtain ⟨hp, g, d, tk, os⟩ := s
    obtain ⟨hl, h⟩ := h
    have f1 := AutoSeq1.idx_int
    wp_walk using wpAny_loadPart' hl
    exact ⟨_, rfl, h⟩
section
variable {X : Cx}
/-- t * k of a tuple of one int -/
def rRepTA : R2 := fun x y H Q => ∃ l k, x = .ref l ∧ y = .int k ∧ ∃ n, H l = some (TI [n]) ∧ 1 ≤ k ∧ k ≤ 1000 ∧ ∀ p H', Same H H' → H' p = some (TI (List.replicate k.toNat n)) → Q (.ref p) H'
theorem op_repTA : OpR X (binaryOp .Mult) rRepTA := by
  intro pins s σ H x y v u Q I rx ry h
  obtain ⟨l, k, rfl, rfl, n, hl, h1, h2, q⟩ := h
  by_cases hk : k = 1
  · subst hk
    cases rx
    obtain ⟨t, rfl⟩ := ry
    obtain ⟨its, r, ⟨⟨cls, dd, data, sl⟩, ho, hc, m, hd⟩, hs⟩ := I.tuple (.inl (.inl hl))
    simp only at hc hd
    subst hc hd
    refine wpAny_binaryOp_repeat_ref (T := "tuple") (U := "int") (by decide) ⟨_, ho, rfl⟩ (fun s' => typeIs_int s' 1 t) noFill_tuple_mul F.fills_int_mul F.slot_int_rmul repeat_tuple F.slot_int_index.lookup
      (call_meets F.slot_int_rmul (typeIs_int s 1 t) F.entry_int_rmul (F.args_int_rmul_2 _ _) (int_rmul_tuple 1 t l its.toArray m dd sl)
        ⟨ho, rfl, ⟨_, ho, rfl⟩, call_meets F.slot_tuple_mul ⟨_, ho, rfl⟩ F.entry_tuple_mul (F.args_tuple_mul_2 _ _) (tuple_mul1 l its.toArray m dd sl t) ⟨ho, ?_⟩⟩)
    exact ⟨.ref l, H, I, rfl, q l H (Same.refl H) hl⟩
  · refine op_repTI pins s σ H (.ref l) (.int k) v u Q I rx ry ⟨l, k, rfl, rfl, n, hl, by omega, h2, fun p hp => q p _ (same_upd hp) upd_same⟩
end
theorem ap_repTA {x y : V} {H : Hp} {Q : VK} : rRepTA x y H Q = ∃ l k, x = .ref l ∧ y = .int k ∧ ∃ n, H l = some (TI [n]) ∧ 1 ≤ k ∧ k ≤ 1000 ∧ ∀ p H', Same H H' → H' p = some (TI (List.replicate k.toNat n)) → Q (.ref p) H' := rfl
end Pr

/-! instances with several attributes; a class that a local name holds, called -/
namespace Pr
open PySem PySem.Spec PyProof.Rows L2
/-- o.f, one of several attributes -/
def tAttF (C : Addr) (f : Str) (ta : TE) : TE := fun σ H Q => ta σ H fun x H1 => ∃ p dx fs, x = .ref p ∧ H1 p = some (.ins C dx fs) ∧ ∃ v, fs.lookup f = some v ∧ Q v H1
theorem pe_attF {X : Cx} {C : Addr} {e : Expr} {f : Str} {pos : Pos} {ta : TE} (h : PE X (.Attribute e f pos) (tFld X.K ta f)) (mono : ∀ σ H (Q Q' : VK), (∀ x H1, Q x H1 → Q' x H1) → ta σ H Q → ta σ H Q') (cl : Cls X.K C) (no : NoAttr X.K C f) : PE X (.Attribute e f pos) (tAttF C f ta) :=
  pe_imp h fun σ H Q q => mono σ H _ _ (fun x H1 ⟨p, dx, fs, ex, hp, v, hv, q1⟩ => ⟨p, C, dx, fs, v, ex, hp, cl, no, hv, q1⟩) q
theorem ap_attF {C : Addr} {f : Str} {ta : TE} {σ : L2.St} {H : Hp} {Q : VK} : tAttF C f ta σ H Q = ta σ H fun x H1 => ∃ p dx fs, x = .ref p ∧ H1 p = some (.ins C dx fs) ∧ ∃ v, fs.lookup f = some v ∧ Q v H1 := rfl
/-- the i-th slot holds the class at C, which is called -/
def tMakeL (i : Nat) (C : Addr) (sp : Sp) (dvs : List V) (E : XK) (t : TA) : TE := fun σ H Q => σ[i]? = some (some (.ref C)) ∧ tMake C sp dvs E t σ H Q
section
variable {X : Cx} {CX : CXT} {k i : Nat} {f C : Addr} {fd : FuncData} {ps : List Str} {sp : Sp} {dvs : List V} {ds : List Value} {E : XK} {x : Str} {p pos : Pos} {e : Expr} {es : List Expr} {t : TA}
theorem pe_makeL (M : Mk X.K C f) (F : FnOk X.prog X.w X.K X.mg X.base CX k f fd ps sp) (room : Room (k + 1) X.A) (nm : X.N[i]? = some x) (vis : Vis X.env.scope x) (bind : Binds X.K fd ps ds) (dflt : Vals dvs ds) (pass : Passes CX X E) (ha : PA X (e :: es) t)
    (hdb : (x == ("__debug__" : Str)) = false := by decide) (hcd : (x == ("__classdict__" : Str)) = false := by decide)
    (he : starEach (e :: es) X.env = (false, eval e X.env) :: starEach es X.env := by rfl) (hpl : (backTo pos (starEach es X.env)).any (·.1) = false := by rfl) : PE X (.Call (.Name x p) (e :: es) [] pos) (tMakeL i C sp dvs E t) :=
  ⟨fun pins s σ H Q I h => wpAny_Call_Name_kw (thn ((pe_var (pos := p) nm vis hdb hcd).run pins s σ H (fun v H1 => v = .ref C ∧ H1 = H) I ⟨.ref C, h.1, rfl, rfl⟩) fun u s1 ⟨v, H1, I1, r1, q1⟩ => by
    obtain ⟨ev, eH⟩ := q1
    subst ev eH
    have eu : u = Value.ref C := r1
    subst eu
    exact PySem.W.callWith_K (h₀ := X.base) I1.ok.mod.kin M.kp (thn (ha.run pos pins s1 σ _ _ I1 h.2) fun us s2 ⟨vs, H2, I2, r, q⟩ => ⟨I2.kIn, run_make M F room bind dflt pass I2 r q⟩) he hpl)⟩
end
theorem ap_makeL {i : Nat} {C : Addr} {sp : Sp} {dvs : List V} {E : XK} {t : TA} {σ : L2.St} {H : Hp} {Q : VK} : tMakeL i C sp dvs E t σ H Q = (σ[i]? = some (some (.ref C)) ∧ tMake C sp dvs E t σ H Q) := rfl
end Pr

namespace Pr
open PySem PySem.Spec PyProof.Rows L2
section
variable {X : Cx}
theorem op_isNotB : OpR X (compareOp .IsNot) (fun x y H Q => ∃ a b, x = .bl a ∧ y = .bl b ∧ Q (.bl (!decide (a = b))) H) := by
  intro pins s σ H x y v u Q I rx ry h
  obtain ⟨a, b, rfl, rfl, q⟩ := h
  cases (show v = Value.bool a from rx)
  cases (show u = Value.bool b from ry)
  refine wpAny_isNot_plain rfl ⟨.bl (!decide (a = b)), H, I, ?_, q⟩
  cases a <;> cases b <;> rfl
end
end Pr

/-! rows that are lists or tuples -/
namespace Pr
open PySem PySem.Spec PyProof.Rows L2
section
variable {X : Cx} {x y : V} {H : Hp} {Q : VK}
/-- xs[i], xs a list or a tuple of ints, the place from the left -/
def rIxRI : R2 := fun x y H Q => ∃ p i, x = .ref p ∧ y = .int i ∧ ∃ ns, (H p = some (LI ns) ∨ H p = some (TI ns)) ∧ 0 ≤ i ∧ i < (ns.length : Int) ∧ Q (.int (gi ns i)) H
theorem ix_RI : IxR X rIxRI := ixImp (IxR.or ix_LI ix_TI) fun x y H Q ⟨p, i, ex, ey, ns, hp, h0, h1, q⟩ => by
  rcases hp with hp | hp
  · exact .inl ⟨p, i, ex, ey, ns, hp, h0, h1, q⟩
  · exact .inr ⟨p, i, ex, ey, ns, hp, h0, h1, q⟩
theorem ap_ixRI : rIxRI x y H Q = ∃ p i, x = .ref p ∧ y = .int i ∧ ∃ ns, (H p = some (LI ns) ∨ H p = some (TI ns)) ∧ 0 ≤ i ∧ i < (ns.length : Int) ∧ Q (.int (gi ns i)) H := rfl
/-- xs[i], xs a list or a tuple of any things -/
def rIxRV : R2 := fun x y H Q => ∃ p i, x = .ref p ∧ y = .int i ∧ ∃ xs, (H p = some (.lst xs) ∨ H p = some (.tup xs)) ∧ ∃ v, atI xs i = some v ∧ Q v H
theorem ix_RV : IxR X rIxRV := ixImp (IxR.or ix_LV ix_TV) fun x y H Q ⟨p, i, ex, ey, xs, hp, v, hv, q⟩ => by
  rcases hp with hp | hp
  · exact .inl ⟨p, i, ex, ey, xs, hp, v, hv, q⟩
  · exact .inr ⟨p, i, ex, ey, xs, hp, v, hv, q⟩
theorem ap_ixRV : rIxRV x y H Q = ∃ p i, x = .ref p ∧ y = .int i ∧ ∃ xs, (H p = some (.lst xs) ∨ H p = some (.tup xs)) ∧ ∃ v, atI xs i = some v ∧ Q v H := rfl
end
end Pr

namespace Pr
open PySem PySem.Spec PyProof.Rows L2
/-! zip and enumerate in a comprehension within another one: the written part named -/
section
variable {X : Cx} {K : PySem.W.Frag}
theorem pi_zipAK {e e2 : Expr} {ta : TA} {p pos tpos : Pos} {elts : List Expr} {kk : Nat} (hK : X.K = K) (hg : Gl X "zip") (hm : X.mg "zip" = none) (ha : PA X [e, e2] ta)
    (hs : starEach [e, e2] X.env = (false, eval e X.env) :: starEach [e2] X.env := by rfl) (hpl : (backTo pos (starEach [e2] X.env)).any (·.1) = false := by rfl) :
    PI X (.Tuple elts kk tpos) (.Call (.Name "zip" p) [e, e2] [] pos) (RZ.iZipA K ta) := by
  subst hK
  exact RZ.pi_zipA hg hm ha hs hpl
theorem pi_enumK {e : Expr} {ta : TA} {p pos tpos : Pos} {elts : List Expr} {kk : Nat} (hK : X.K = K) (hg : Gl X "enumerate") (hm : X.mg "enumerate" = none) (ha : PA X [e] ta) (hs : starEach [e] X.env = [(false, eval e X.env)] := by rfl) :
    PI X (.Tuple elts kk tpos) (.Call (.Name "enumerate" p) [e] [] pos) (iEnum K ta) := by
  subst hK
  exact pi_enum hg hm ha hs
theorem pi_enTK {e : Expr} {ta : TA} {p pos tpos : Pos} {elts : List Expr} {kk : Nat} (hK : X.K = K) (hg : Gl X "enumerate") (hm : X.mg "enumerate" = none) (ha : PA X [e] ta) (hs : starEach [e] X.env = [(false, eval e X.env)] := by rfl) :
    PI X (.Tuple elts kk tpos) (.Call (.Name "enumerate" p) [e] [] pos) (iEnT K ta) := by
  subst hK
  exact pi_enT hg hm ha hs
end
end Pr
namespace Pr
open PySem PySem.Spec PyProof.Rows L2
section
variable {J : It} {n : Nat} {F : Hp → Prop} {σ : L2.St} {H : Hp} {te : TE} {vs : List Nat} {Q : VK}
/-- a comprehension over pairs that gives rows -/
theorem lc_pairW {R : Nat → V → V → Prop} {u v : Nat} (G : Gives J n F (PY R)) (f : Nat → List Int) (hn : n < 1000000) (hF : ∀ H', Same H H' → F H')
    (hw : ∀ x y, wipe (((wipe σ vs).set u (some x)).set v (some y)) vs = wipe σ vs)
    (he : ∀ i a b H', i < n → R i a b → Same H H' → ∀ Q' : VK, (∀ H'' r, Same H' H'' → H'' r = some (TI (f i)) → Q' (.ref r) H'') → te (((wipe σ vs).set u (some a)).set v (some b)) H' Q')
    (hq : ∀ p H' rs, H p = none → Same H H' → H' p = some (.lst (rs.map V.ref)) → RowsAt H' rs ((List.range n).map f) → Q (.ref p) H') :
    tLcIn (gTupH 2 (gCons (gName u) (gCons (gName v) gNil))) tYes te vs σ Q J H := by
  refine lc_gen G (fun A i H' => Same H H' ∧ ∃ rs, H' A = some (.lst (rs.map V.ref)) ∧ RowsAt H' rs ((List.range i).map f)) (fun A hA => ⟨same_upd hA, [], upd_same, .nil⟩) (fun A i H' _ p => hF H' p.1) (fun A i x H1 H' hA hi p y => ?_) (fun A H' hA p => ?_)
  · refine pair_in y fun t a b nt r => ⟨hw a b, ?_⟩
    have s1 := same_upd (o := HO.tup [a, b]) nt
    obtain ⟨sm, rs, eA, hR⟩ := p
    refine he i a b _ hi r (sm.trans s1) _ fun H2 q s2 eq => ⟨_, s2 _ _ (s1 _ _ eA), ?_, same_mut ((sm.trans s1).trans s2) hA, rs ++ [q], ?_, ?_⟩
    · have := hR.1
      rw [List.length_map, List.length_range] at this
      rw [List.length_map]
      exact sz (by omega)
    · rw [upd_same, List.map_append]
      rfl
    · have nrA : q ≠ A := fun e => by
        rw [e, s2 _ _ (s1 _ _ eA)] at eq
        cases eq
      rw [List.range_succ, List.map_append]
      have h1 : RowsAt H2 (rs ++ [q]) ((List.range i).map f ++ [f i]) := ((hR.same s1).same s2).append (.cons eq .nil)
      refine ⟨h1.1, fun k r' ns e1 e2 => ?_⟩
      have h2 := h1.2 k r' ns e1 e2
      rw [upd_ne fun e => ?_]
      · exact h2
      · rw [e, s2 _ _ (s1 _ _ eA)] at h2
        cases h2
  · obtain ⟨sm, rs, eA, hR⟩ := p
    exact hq A H' rs hA sm eA hR
end
end Pr

namespace Pr
open PySem PySem.Spec PyProof.Rows L2
/-! own exceptions over any built-in base -/
theorem relO_one {v : V} {v' : Value} {n : Str} (r : RelV v v') (f : Str) : RelO (List.lookup f [(n, v)]) (if f = n then some v' else none) := by
  by_cases h : f = n
  · rw [h, if_pos rfl, show List.lookup n [(n, v)] = some v by simp [List.lookup]]
    exact r
  · rw [if_neg h, show List.lookup f [(n, v)] = none by simp [List.lookup, show (f == n) = false by simpa using h]]
    trivial
section
open PySem.W PySem.Calls PySem.HandSPX Builtin Builtin.ObjectAttr
variable {prog : Program} {w : World} {A : Around} {R : Result → Shared → Prop} {hp : Heap} {g : Array GenState} {d : Drawn} {t : Nat} {os : OsState} {K : Frag} {B : String} {bmB : List Value}
/-- the first store into an exception -/
theorem exc_put {name : Str} {tk : Tok} {v : Value} {x C : Addr} {fv : Array Value} (SF : StoreFacts B bmB "object.__setattr__" "object")
    (X : K.In hp) (hx : hp.get? x = some { cls := .ref C, data := .fields fv }) (ov : excOver K C bmB = true) (ht : takerIn K C name = some none) (hd : hasDictIn K C = true)
    (hq : ∀ h' tk' dx, (∀ b o, b ≠ x → hp.get? b = some o → h'.get? b = some o) → hp.objs.size ≤ dx → dx ≠ x → h'.get? x = some { cls := .ref C, dict := some dx, data := .fields fv } →
      h'.Ns1 dx (fun y => if y = name then some v else none) → R (.ok (.ret .none)) ⟨h', g, d, tk', os⟩) :
    codeAny (model prog w) A (.call (.builtin "object.__setattr__") ⟨[.ref x, .str name tk, v], []⟩) R ⟨hp, g, d, t, os⟩ := by
  have ne : x ≠ hp.objs.size := fun e => Nat.lt_irrefl _ (e ▸ Heap.lt_size hx)
  refine osa_openX (od := none) SF X ⟨hx, rfl, rfl, trivial⟩ ov ht fun b => ?_
  obtain ⟨cd, hc, hh⟩ := any_some hd
  have Lc := looks_clsIn (M := model prog w) X hc
  show wpAny _ _ (storeInOwnDict (.ref x) (.ref C) (.str name tk) name v b) _ _ _
  obtain ⟨n1, n2, n3, n4, n5, hd6, n7, n8, n9, n10, n11⟩ := cd
  have e6 : hd6 = true := hh
  subst e6
  unfold storeInOwnDict ownDictForStores
  repeat (first | with_reducible refine HandSPX.store_in_new ?_ ?_ | with_reducible refine wpAny_loadPart_at hx ?_ | with_reducible refine Lc.at ?_ | wp_step)
  · exact ⟨_, #[], _, (Heap.get?_update_ne _ _ _ _ ne.symm).trans (Heap.get?_push_at rfl rfl), rfl, fun e he => absurd he (by simp), fun _ => rfl⟩
  · intro h' tk' hn' hs
    have ex := Heap.get?_push_of_some ({ cls := .type "dict", data := .dict #[] } : Obj) hx
    exact hq h' tk' hp.objs.size (fun b o hb ho => (hs.2 b (Nat.ne_of_lt (Heap.lt_size ho))).trans ((Heap.get?_update_ne _ _ _ _ hb).trans (Heap.get?_push_of_some _ ho))) (Nat.le_refl _) ne.symm ((hs.2 x ne).trans (Heap.get?_update_self _ ex rfl)) hn'
end
end Pr

namespace Pr
open PySem PySem.Spec PyProof.Rows L2
/-! a list unpacked; an error of the class at S is what «except S» names -/
section
variable {X : Cx}
def gLstH (n : Nat) (t : TGs) : TG := fun v σ H Q => ∃ a, v = .ref a ∧ ∃ xs, H a = some (.lst xs) ∧ xs.length = n ∧ t xs σ H Q
theorem pg_lstH {es : List Expr} {t : TGs} {k n : Nat} {pos : Pos} (hc : X.calm = true) (h : PGs X es t)
    (hn : (assignEach es X.env).length = n := by rfl) (hst : (assignEach es X.env).findIdx? (·.1) = none := by rfl) : PG X (.Tuple es k pos) (gLstH n t) := by
  have g := pg_lst (k := k) (pos := pos) hc h hn hst
  exact ⟨fun pins s σ H v u Q I r q => g.run pins s σ H v u Q I r (by
    obtain ⟨a, e, xs, hx, hl, z⟩ := q
    exact ⟨a, xs, e, .inl (.inl hx), hl, z⟩)⟩
theorem ap_gLstH {n : Nat} {t : TGs} {v : V} {σ : L2.St} {H : Hp} {QN : L2.St → Hp → Prop} : gLstH n t v σ H QN = ∃ a, v = .ref a ∧ ∃ xs, H a = some (.lst xs) ∧ xs.length = n ∧ t xs σ H QN := rfl
end
theorem ap_callS {sp : Sp} {E : L2.St → XK} {t : TA} {σ : L2.St} {H : Hp} {Q : VK} : tCallS sp E t σ H Q = t σ H fun vs H1 => sp vs H1 Q (E σ) := rfl
theorem passE0 {X : Cx} : Passes (L2.CX X.prog X.w) X E0 := fun _ _ _ _ _ _ _ ⟨_, _, _, _, _, _, _, _, _, _, _, _, e⟩ => e.elim
theorem exm_self {K : PySem.W.Frag} {S : Addr} (h1 : PySem.W.subIn K (.ref S) (.type "BaseException") = some true) (h2 : PySem.W.isClsIn K S = true) (h3 : PySem.W.typeIn K (.ref S) = some (.type "type")) (h4 : PySem.W.subIn K (.ref S) (.ref S) = some true) :
    PySem.W.exmOne K (.ref S) (.ref S) = some true := by
  have e1 : (PySem.W.subIn K (.ref S) (.type "BaseException") == some true) = true := by rw [h1]; rfl
  have e2 : ((PySem.W.clsIn K S).isSome && PySem.W.typeIn K (.ref S) == some (.type "type")) = true := by
    rw [show (PySem.W.clsIn K S).isSome = true from h2, h3]
    rfl
  show (if (PySem.W.subIn K (.ref S) (.type "BaseException") == some true) = true then (if ((PySem.W.clsIn K S).isSome && PySem.W.typeIn K (.ref S) == some (.type "type")) = true then PySem.W.subIn K (.ref S) (.ref S) else none) else none) = some true
  rw [if_pos e1, if_pos e2]
  exact h4
end Pr

namespace Pr
open PySem PySem.Spec PyProof.Rows L2
/-! tuples of the very same objects -/
section
variable {X : Cx}
theorem vals_refs : ∀ {as : List Addr} {its : List Value}, Vals (as.map V.ref) its → its = as.map Value.ref
  | [], _, .nil => rfl
  | a :: as, _ :: _, .cons r t => by
    have e := vals_refs t
    cases r
    rw [e]
    rfl
def rNeSame : R2 := fun x y H Q => ∃ p q, x = .ref p ∧ y = .ref q ∧ ∃ as : List Addr, H p = some (.tup (as.map V.ref)) ∧ H q = some (.tup (as.map V.ref)) ∧ Q (.bl false) H
theorem op_neSame (hu : X.A.units + 64 < cLine) : OpR X (compareOp .NotEq) rNeSame := by
  intro pins s σ H x y v u Q I rx ry h
  obtain ⟨p, q, rfl, rfl, as, ep, eq, k⟩ := h
  cases rx
  cases ry
  obtain ⟨i1, r1, ⟨o1, g1, c1, n1, d1⟩, _⟩ := I.tuple (sqT_of ep)
  obtain ⟨i2, r2, ⟨o2, g2, c2, n2, d2⟩, _⟩ := I.tuple (sqT_of eq)
  have e1 := vals_refs r1
  have e2 := vals_refs r2
  subst e1 e2
  have w := SeqAt.RcNeAt.tuples (A := X.A) (s := s) (l := p) (b := q) (e := fun _ => true) ⟨o1, g1, c1, n1, d1⟩ ⟨o2, g2, c2, n2, d2⟩ (by omega) fun j h1 h2 => SeqAt.EqAt.same _
  have z : (!((List.range (min (as.map Value.ref).toArray.size (as.map Value.ref).toArray.size)).all (fun _ => true) && (as.map Value.ref).toArray.size == (as.map Value.ref).toArray.size)) = false := by simp
  rw [z] at w
  exact w X.prog X.w X.xe _ ⟨.bl false, H, I, rfl, k⟩
theorem ap_neSame {x y : V} {H : Hp} {Q : VK} : rNeSame x y H Q = ∃ p q, x = .ref p ∧ y = .ref q ∧ ∃ as : List Addr, H p = some (.tup (as.map V.ref)) ∧ H q = some (.tup (as.map V.ref)) ∧ Q (.bl false) H := rfl
end
end Pr

namespace Pr
open PySem PySem.Spec PyProof.Rows L2
/-! tuples that stand in the module (or are tracked): read by SqT; a written dict of the module with whole numbers as keys -/
section
variable {K : PySem.W.Frag} {H H' : Hp} {a : Addr} {xs : List V}
theorem sqT_same (h : SqT K H a xs) (s : Same H H') : SqT K H' a xs := h.elim (fun r => .inl (r.elim (fun e => .inl (s _ _ e)) fun ⟨o, e⟩ => .inr ⟨o, s _ _ e⟩)) .inr
theorem gives_enTK : Gives (ItT K a) xs.length (fun H => SqT K H a xs) (PY fun i x y => x = .int (i : Nat) ∧ xs[i]? = some y) where
  go := fun i H lt f => ⟨xs, xs[i], f, by simp [lt]⟩
  yld := fun i H v H' lt f y => by
    obtain ⟨t, x, e1, e2, e3, e4⟩ := y
    exact ⟨t, _, x, e1, e2, e3, rfl, e4 xs f⟩
  stop := fun H f => ⟨xs, f, Nat.le_refl _⟩
theorem gives_tupTK : Gives (Itt K a) xs.length (fun H => SqT K H a xs) (fun i v H H' => H' = H ∧ xs[i]? = some v) where
  go := fun i H lt f => ⟨xs, xs[i], f, by simp [lt]⟩
  yld := fun i H v H' lt f y => ⟨y.1, y.2 xs f⟩
  stop := fun H f => ⟨xs, f, Nat.le_refl _⟩
end
section
variable {X : Cx} {x y : V} {vs : List V} {H : Hp} {Q : VK}
def rLenK (K : PySem.W.Frag) : List V → Hp → VK → Prop := fun vs H Q => ∃ p, vs = [.ref p] ∧ ∃ ys, SqT K H p ys ∧ Q (.int (ys.length : Nat)) H
theorem cr_lenK : CallR X (.builtin "len") (rLenK X.K) := callImp call_len_seq fun vs H Q ⟨p, e, ys, h, q⟩ => ⟨p, ys, e, .inr h, q⟩
theorem ap_lenK {K : PySem.W.Frag} : rLenK K vs H Q = ∃ p, vs = [.ref p] ∧ ∃ ys, SqT K H p ys ∧ Q (.int (ys.length : Nat)) H := rfl
def rListK (K : PySem.W.Frag) : List V → Hp → VK → Prop := fun vs H Q => ∃ p, vs = [.ref p] ∧ ∃ ys, SqT K H p ys ∧ ∀ l, H l = none → Q (.ref l) (upd H l (.lst ys))
theorem cr_listK : CallR X (.type "list") (rListK X.K) := callImp call_list_of fun vs H Q ⟨p, e, ys, h, q⟩ => ⟨p, ys, e, .inr h, q⟩
theorem ap_listK {K : PySem.W.Frag} : rListK K vs H Q = ∃ p, vs = [.ref p] ∧ ∃ ys, SqT K H p ys ∧ ∀ l, H l = none → Q (.ref l) (upd H l (.lst ys)) := rfl
def rIxKT (K : PySem.W.Frag) : R2 := fun x y H Q => ∃ p i, x = .ref p ∧ y = .int i ∧ ∃ ys, SqT K H p ys ∧ ∃ v, atI ys i = some v ∧ Q v H
theorem ix_KT : IxR X (rIxKT X.K) := ixImp ix_tup fun x y H Q ⟨p, i, ex, ey, ys, h, v, e, q⟩ => ⟨p, ys, i, v, ex, ey, h, e, q⟩
theorem ap_ixKT {K : PySem.W.Frag} : rIxKT K x y H Q = ∃ p i, x = .ref p ∧ y = .int i ∧ ∃ ys, SqT K H p ys ∧ ∃ v, atI ys i = some v ∧ Q v H := rfl
/-- isinstance(x, tuple), x such a tuple -/
def rIsiK (K : PySem.W.Frag) : List V → Hp → VK → Prop := fun vs H Q => ∃ p, vs = [.ref p, .ty "tuple"] ∧ (∃ ys, SqT K H p ys) ∧ Q (.bl true) H
theorem cr_isiK : CallR X (.builtin "isinstance") (rIsiK X.K) := callImp call_isi fun vs H Q ⟨p, e, ⟨ys, h⟩, q⟩ => by
  refine ⟨.ref p, .ty "tuple", .type "tuple", .type "tuple", true, e, .ty _, ?_, kit_ty (by decide +kernel), q⟩
  rcases h with (h | ⟨o, h⟩) | ⟨o, its, n, h1, h2, _⟩
  · exact .base (.tup h)
  · exact .fTuple h
  · exact .kTuple h1 h2
theorem ap_isiK {K : PySem.W.Frag} : rIsiK K vs H Q = ∃ p, vs = [.ref p, .ty "tuple"] ∧ (∃ ys, SqT K H p ys) ∧ Q (.bl true) H := rfl
end
/-! ### the written dict -/
def listO {α β : Type} (f : α → Option β) : List α → Option (List β)
  | [] => some []
  | x :: r => match f x with
    | none => none
    | some y => match listO f r with
      | none => none
      | some s => some (y :: s)
theorem listO_at {α β : Type} {f : α → Option β} : ∀ {l : List α} {r : List β}, listO f l = some r → l.length = r.length ∧ ∀ (i : Nat) (x : α), l[i]? = some x → ∃ y, r[i]? = some y ∧ f x = some y
  | [], r, h => by
    cases h
    exact ⟨rfl, fun i x e => by simp at e⟩
  | x :: l, r, h => by
    have h1 : (match f x with
      | none => none
      | some y => match listO f l with
        | none => none
        | some s => some (y :: s)) = some r := h
    cases e1 : f x with
    | none => rw [e1] at h1; cases h1
    | some y =>
      rw [e1] at h1
      cases e2 : listO f l with
      | none => rw [e2] at h1; cases h1
      | some s =>
        rw [e2] at h1
        cases h1
        obtain ⟨q1, q2⟩ := listO_at e2
        refine ⟨by simp [q1], fun i x' e => ?_⟩
        match i, e with
        | 0, e =>
          cases e
          exact ⟨y, rfl, e1⟩
        | i + 1, e =>
          obtain ⟨y', a1, a2⟩ := q2 i x' (by simpa using e)
          exact ⟨y', by simpa using a1, a2⟩
def tupK (K : PySem.W.Frag) (a : Addr) : Option (List Value) := match K.lookup a with
  | some ⟨.type "tuple", _, .seq its _, _⟩ => if its.size ≤ sizeLine then some its.toList else none
  | _ => none
def rowsK (K : PySem.W.Frag) (a : Addr) : Option (List (List Int)) := match tupK K a with
  | some vs => listO (fun v => match v with
    | .ref r => (match tupK K r with
      | some us => listO intOf us
      | none => none)
    | _ => none) vs
  | none => none
def dictK (K : PySem.W.Frag) (a : Addr) : Option (List (Int × List (List Int))) := match K.lookup a with
  | some ⟨.type "dict", none, .dict es _, ⟨[]⟩⟩ => listO (fun e => match e with
    | ⟨h, .int i _, .ref t⟩ => if h = hashInt i then (match rowsK K t with
      | some rs => some (i, rs)
      | none => none) else none
    | _ => none) es.toList
  | _ => none
/-- rows of ints, read by SqT -/
def RowsKt (K : PySem.W.Frag) (H : Hp) (t : Addr) (nss : List (List Int)) : Prop := ∃ rs : List Addr, SqT K H t (rs.map V.ref) ∧ rs.length = nss.length ∧ ∀ (i : Nat) (r : Addr) (ns : List Int), rs[i]? = some r → nss[i]? = some ns → SqT K H r (ns.map V.int)
theorem RowsKt.same {K : PySem.W.Frag} {H H' : Hp} {t : Addr} {nss : List (List Int)} (h : RowsKt K H t nss) (s : Same H H') : RowsKt K H' t nss := by
  obtain ⟨rs, h1, h2, h3⟩ := h
  exact ⟨rs, sqT_same h1 s, h2, fun i r ns e1 e2 => sqT_same (h3 i r ns e1 e2) s⟩
theorem tupK_sq {K : PySem.W.Frag} {a : Addr} {vs : List Value} (h : tupK K a = some vs) {xs : List V} (r : Vals xs vs) (H : Hp) : SqT K H a xs := by
  unfold tupK at h
  split at h
  · rename_i d its n sl e
    split at h
    · rename_i hz
      cases h
      exact .inr ⟨_, its, n, e, rfl, rfl, hz, r⟩
    · cases h
  · cases h
theorem vals_intO : ∀ {us : List Value} {ns : List Int}, listO intOf us = some ns → Vals (ns.map V.int) us
  | us, ns, h => by
    refine vals_ints ?_
    obtain ⟨h1, h2⟩ := listO_at h
    refine List.ext_getElem? fun i => ?_
    rw [List.getElem?_map, List.getElem?_map]
    by_cases c : i < us.length
    · obtain ⟨y, a1, a2⟩ := h2 i _ (List.getElem?_eq_getElem c)
      rw [a1, List.getElem?_eq_getElem c]
      exact congrArg some a2
    · rw [List.getElem?_eq_none (by omega), List.getElem?_eq_none (by omega)]
      rfl
theorem rowsK_at {K : PySem.W.Frag} {a : Addr} {nss : List (List Int)} (h : rowsK K a = some nss) (H : Hp) : RowsKt K H a nss := by
  unfold rowsK at h
  split at h
  · rename_i vs e
    obtain ⟨h1, h2⟩ := listO_at h
    have isr : ∀ v ∈ vs, ∃ r, v = Value.ref r := fun v hv => by
      obtain ⟨i, hi, rfl⟩ := List.getElem_of_mem hv
      obtain ⟨y, _, a2⟩ := h2 i _ (List.getElem?_eq_getElem hi)
      split at a2
      · exact ⟨_, by assumption⟩
      · cases a2
    obtain ⟨rs, hrs⟩ : ∃ rs : List Addr, vs = rs.map Value.ref := by
      clear h h1 h2 e
      induction vs with
      | nil => exact ⟨[], rfl⟩
      | cons v vs ih =>
        obtain ⟨rs, e⟩ := ih fun v hv => isr v (List.mem_cons_of_mem _ hv)
        obtain ⟨r, e2⟩ := isr v List.mem_cons_self
        exact ⟨r :: rs, by rw [e, e2]; rfl⟩
    subst hrs
    refine ⟨rs, tupK_sq e ?_ H, by rw [← h1, List.length_map], fun i r ns e1 e2 => ?_⟩
    · clear h h1 h2 e isr
      induction rs with
      | nil => exact .nil
      | cons r rs ih => exact .cons rfl ih
    · obtain ⟨y, a1, a2⟩ := h2 i (Value.ref r) (by rw [List.getElem?_map, e1]; rfl)
      rw [e2] at a1
      cases a1
      have a3 : (match tupK K r with
        | some us => listO intOf us
        | none => none) = some ns := a2
      split at a3
      · rename_i us eu
        exact tupK_sq eu (vals_intO a3) H
      · cases a3
  · cases h
/-- d[i] of the written dict d at p is the tuple at t -/
def KInt (K : PySem.W.Frag) (p : Addr) (i : Int) (t : Addr) : Prop := ∃ es n, K.lookup p = some ⟨.type "dict", none, .dict es n, #[]⟩ ∧ (∀ e ∈ es.toList, ∃ j u, e.key = .int j u ∧ e.hash = hashInt j) ∧ findBy Value.isInt es i = some (.ref t)
theorem dictK_at {K : PySem.W.Frag} {p : Addr} {l : List (Int × List (List Int))} (h : dictK K p = some l) {i : Int} {nss : List (List Int)} (hf : l.find? (fun q => q.1 == i) = some (i, nss)) : ∃ t, KInt K p i t ∧ ∀ H, RowsKt K H t nss := by
  unfold dictK at h
  split at h
  · rename_i es n e
    obtain ⟨es⟩ := es
    obtain ⟨h1, h2⟩ := listO_at h
    have keys : ∀ d ∈ es, ∃ j u t rs, d = ⟨hashInt j, .int j u, .ref t⟩ ∧ rowsK K t = some rs := fun d hd => by
      obtain ⟨k, hk, rfl⟩ := List.getElem_of_mem hd
      obtain ⟨y, _, a2⟩ := h2 k _ (List.getElem?_eq_getElem hk)
      generalize es[k] = d at a2 ⊢
      split at a2
      · rename_i hh j u t
        split at a2
        · rename_i eh
          subst eh
          split at a2
          · rename_i rs er
            exact ⟨j, u, t, rs, rfl, er⟩
          · cases a2
        · cases a2
      · cases a2
    have fnd : ∀ {es : List DictEntry} {l : List (Int × List (List Int))}, listO (fun e : DictEntry => match e with
        | ⟨h, .int i _, .ref t⟩ => if h = hashInt i then (match rowsK K t with
          | some rs => some (i, rs)
          | none => none) else none
        | _ => none) es = some l → l.find? (fun q => q.1 == i) = some (i, nss) → ∃ t d, es.find? (fun e => Value.isInt i e.key) = some d ∧ d.val = .ref t ∧ rowsK K t = some nss := by
      intro es
      induction es with
      | nil =>
        intro l h hf
        cases h
        cases hf
      | cons d es ih =>
        intro l h hf
        obtain ⟨q1, q2⟩ := listO_at h
        obtain ⟨y, a1, a2⟩ := q2 0 d rfl
        have hd : ∃ j u t rs, d = ⟨hashInt j, .int j u, .ref t⟩ ∧ rowsK K t = some rs ∧ y = (j, rs) := by
          split at a2
          · rename_i hh j u t
            split at a2
            · rename_i eh
              subst eh
              split at a2
              · rename_i rs er
                cases a2
                exact ⟨j, u, t, rs, rfl, er, rfl⟩
              · cases a2
            · cases a2
          · cases a2
        obtain ⟨j, u, t, rs, rfl, er, rfl⟩ := hd
        have h0 := h
        unfold listO at h0
        split at h0
        · cases h0
        · rename_i y' ey
          split at h0
          · cases h0
          · rename_i s es'
            cases h0
            cases a1
            by_cases c : j = i
            · subst c
              rw [List.find?_cons_of_pos (by simp)] at hf
              cases hf
              exact ⟨t, _, by rw [List.find?_cons_of_pos (by simp [Value.isInt])], rfl, er⟩
            · rw [List.find?_cons_of_neg (by simpa using c)] at hf
              obtain ⟨t', d', f1, f2, f3⟩ := ih es' hf
              exact ⟨t', d', by rw [List.find?_cons_of_neg (by simpa [Value.isInt] using c)]; exact f1, f2, f3⟩
    obtain ⟨t, d, f1, f2, f3⟩ := fnd h hf
    refine ⟨t, ⟨⟨es⟩, n, e, fun d hd => ?_, ?_⟩, rowsK_at f3⟩
    · obtain ⟨j, u, t, rs, rfl, _⟩ := keys d hd
      exact ⟨j, u, rfl, rfl⟩
    · unfold findBy
      rw [List.find?_toArray, f1]
      exact congrArg some f2
  · cases h
section
variable {X : Cx} {x y : V} {H : Hp} {Q : VK}
def rIxW (K : PySem.W.Frag) : R2 := fun x y H Q => ∃ p i, x = .ref p ∧ y = .int i ∧ ∃ t, KInt K p i t ∧ Q (.ref t) H
theorem ix_W : IxR X (rIxW X.K) := by
  intro value slice pins s σ H x y v u Q I rx ry h hs
  obtain ⟨p, i, rfl, rfl, t, ⟨es, n, hl, hk, e⟩, q⟩ := h
  obtain rfl : v = Value.ref p := rx
  obtain ⟨tk, rfl⟩ := ry
  have hm : s.heap.MapOf (intKind X.prog X.w) p (fun k => findBy Value.isInt es k) := ⟨_, es, n, I.kIn _ _ hl, ⟨rfl, rfl, rfl⟩, rfl, fun d hd => by
    obtain ⟨j, u, e1, e2⟩ := hk d (Array.mem_toList_iff.mpr hd)
    exact ⟨j, by rw [e1]; exact intKind_is X.prog X.w j u, e2⟩, fun _ => rfl⟩
  exact tail_any hm.typeIs slot_dict_getitem.lookup (wpAny_getItem_of (intKind_is X.prog X.w i tk) hm e ⟨.ref t, H, I.tok _, rfl, q⟩) hs
theorem ap_ixW {K : PySem.W.Frag} : rIxW K x y H Q = ∃ p i, x = .ref p ∧ y = .int i ∧ ∃ t, KInt K p i t ∧ Q (.ref t) H := rfl
end
end Pr

namespace Pr
open PySem PySem.Spec PyProof.Rows L2
/-! tuple(zip(list, list)) -/
theorem zt_nolen : typeLookup (.type "zip") "__len__" = pure none := by rw [typeLookup_type, builtinLookup_eq_fast]; kernel_rfl
theorem zt_nohint : typeLookup (.type "zip") "__length_hint__" = pure none := by rw [typeLookup_type, builtinLookup_eq_fast]; kernel_rfl
abbrev ztL (acc : Array Value) (c : Nat) : Obj := { cls := .type "list", dict := none, data := .seq acc c, slots := #[] }
def ZHd (h : Heap) (H : Hp) (z TI TO : Addr) : Prop := IsZip h z TI TO .none ∨ ∃ T f ps, IsZipHeld h z TI TO T f ∧ H T = some (.tup ps)
/-- the state of a zip that is collected -/
structure ZSt (X : Cx) (pins : List (Addr × Obj)) (σ : L2.St) (H : Hp) (s : Shared) (a b z TI TO i1 i2 S : Addr) (xs ys : List V) (i : Nat) : Prop where
  inv : Inv X pins σ H s
  la : SqL X.K H a xs
  lb : SqL X.K H b ys
  fp : ∀ c ∈ [S, z, TI, TO, i1, i2], FpOk X pins H c
  hd : ZHd s.heap H z TI TO
  ti : IsPair s.heap TI (.ref i1) (.ref i2)
  to : ∃ x y, IsPair s.heap TO x y
  h1 : s.heap.IsListIter i1 a i
  h2 : s.heap.IsListIter i2 b i
structure ZAcc (H : Hp) (xs ys : List V) (as : List Addr) (acc : Array Value) : Prop where
  eq : acc.toList = as.map Value.ref
  at_ : ∀ (j : Nat) (q : Addr), as[j]? = some q → ∃ x y, xs[j]? = some x ∧ ys[j]? = some y ∧ H q = some (.tup [x, y])
section
variable {X : Cx} {pins : List (Addr × Obj)} {σ : L2.St} {A : Around} {a b z TI TO i1 i2 S : Addr} {xs ys : List V} {res : Value}
theorem zt_turn {H : Hp} {s : Shared} {i : Nat} {x y : V} {E : Value → Shared → Prop} {Q : Option Value → Shared → Prop} (D : ZipApart z TI TO i1 i2 a b) (hS : S ∉ [z, TI, TO, i1, i2]) (st : ZSt X pins σ H s a b z TI TO i1 i2 S xs ys i)
    (hx : xs[i]? = some x) (hy : ys[i]? = some y) (hSl : S < s.heap.objs.size)
    (hQ : ∀ s', H s.heap.objs.size = none → ZSt X pins σ (upd H s.heap.objs.size (.tup [x, y])) s' a b z TI TO i1 i2 S xs ys (i + 1) → (∀ o, s.heap.get? S = some o → s'.heap.get? S = some o) → Q (some (.ref s.heap.objs.size)) s') :
    wpAny (model X.prog X.w) A (pyNext (.ref z)) Q E s := by
  obtain ⟨I, la, lb, fp, hd, ti, ⟨x0, y0, hTO⟩, h1, h2⟩ := st
  obtain ⟨its, rv, p, _⟩ := I.list la
  obtain ⟨its2, rv2, p2, _⟩ := I.list lb
  obtain ⟨u, hu, ru⟩ := rv.get hx
  obtain ⟨u2, hu2, ru2⟩ := rv2.get hy
  have hn : H s.heap.objs.size = none := I.hok.fresh (Nat.le_refl _)
  have cS : S ≠ z ∧ S ≠ TI ∧ S ≠ TO ∧ S ≠ i1 ∧ S ≠ i2 := by simpa using hS
  have fin : ∀ h', (ZHd h' (upd H s.heap.objs.size (.tup [x, y])) z TI TO) → (∃ x y, IsPair h' TO x y) → h'.IsListIter i1 a (i + 1) → h'.IsListIter i2 b (i + 1) → IsPair h' s.heap.objs.size u u2 →
      (∀ c o, c ≠ z → c ≠ TO → c ≠ i1 → c ≠ i2 → s.heap.get? c = some o → h'.get? c = some o) → Q (some (.ref s.heap.objs.size)) { s with heap := h' } := fun h' k1 k2 k3 k4 k5 k6 => by
    have new : ObjOk X.prog X.w (upd H s.heap.objs.size (.tup [x, y])) h' s.heap.objs.size (.tup [x, y]) :=
      ⟨by show 2 ≤ sizeLine; decide, [u, u2], .cons ru (.cons ru2 .nil), ⟨_, k5, rfl, _, rfl⟩⟩
    have I1 : Inv X pins σ (upd H s.heap.objs.size (.tup [x, y])) { s with heap := h' } :=
      I.turnedNew (t' := s.toks) (ch := [S, z, TI, TO, i1, i2]) (fun c o hb q => k6 c o (fun q' => hb (by simp [q'])) (fun q' => hb (by simp [q'])) (fun q' => hb (by simp [q'])) (fun q' => hb (by simp [q'])) q) fp (Nat.le_refl _) new
    have sm : Same H (upd H s.heap.objs.size (.tup [x, y])) := same_upd hn
    refine hQ _ hn ⟨I1, la.ext sm, lb.ext sm, fun c hc => ?_, k1, k6 _ _ D.TIz D.TITO D.TIi1 D.TIi2 ti, k2, k3, k4⟩ fun o e => k6 S o cS.1 cS.2.2.1 cS.2.2.2.1 cS.2.2.2.2 e
    obtain ⟨f0, f1⟩ := fp c hc
    refine ⟨?_, f1⟩
    by_cases ec : c = s.heap.objs.size
    · exfalso
      have e' : c = S ∨ c = z ∨ c = TI ∨ c = TO ∨ c = i1 ∨ c = i2 := by simpa using hc
      have lz : z < s.heap.objs.size := hd.elim (fun q => Heap.lt_size q) fun ⟨_, _, _, q, _⟩ => Heap.lt_size q
      have l1 := Heap.lt_size ti
      have l2 := Heap.lt_size hTO
      have l3 : i1 < s.heap.objs.size := let ⟨_, q, _⟩ := h1; Heap.lt_size q
      have l4 : i2 < s.heap.objs.size := let ⟨_, q, _⟩ := h2; Heap.lt_size q
      have lc : c < s.heap.objs.size := by
        rcases e' with q | q | q | q | q | q
        · rw [q]; exact hSl
        · rw [q]; exact lz
        · rw [q]; exact l1
        · rw [q]; exact l2
        · rw [q]; exact l3
        · rw [q]; exact l4
      exact Nat.lt_irrefl _ (by rwa [ec] at lc)
    · rw [upd_ne ec]; exact f0
  rcases hd with hz | ⟨T, f, ps, hz, hT⟩
  · exact wpAny_pyNext_zip_item D hz ti hTO h1 h2 p.isList p2.isList (by simpa using hu) (by simpa using hu2) fun h' z' TO' h1' h2' hT' hsz hk =>
      fin h' (.inr ⟨_, false, _, z', upd_same⟩) ⟨_, _, TO'⟩ h1' h2' hT' hk
  · obtain ⟨_, itsT, _, ⟨oT, hoT, _⟩⟩ := I.hok T _ hT
    exact wpAny_pyNext_zip_item_held D hz hoT ti h1 h2 p.isList p2.isList (by simpa using hu) (by simpa using hu2) fun h' z' h1' h2' hT' hsz hk =>
      fin h' (.inr ⟨_, true, _, z', (same_upd hn) _ _ hT⟩) ⟨_, _, hk _ _ D.TOz D.TOi1 D.TOi2 hTO⟩ h1' h2' hT' fun c o c1 _ c3 c4 e => hk c o c1 c3 c4 e
theorem zt_loop {H0 : Hp} {R : Result → Shared → Prop} (hh : A.handled = none) (D : ZipApart z TI TO i1 i2 a b) (hS : S ∉ [z, TI, TO, i1, i2]) (hl : xs.length = ys.length) (hn : xs.length ≤ sizeLine)
    (hR : ∀ s' H' as acc c, Inv X pins σ H' s' → Same H0 H' → as.length = xs.length → ZAcc H' xs ys as acc → s'.heap.get? S = some (ztL acc c) → FpOk X pins H' S → R (.ok (.ret res)) s') :
    ∀ (k i : Nat) (s : Shared) (H : Hp) (acc : Array Value) (c : Nat) (as : List Addr), xs.length - i = k → i ≤ xs.length → Same H0 H → ZSt X pins σ H s a b z TI TO i1 i2 S xs ys i → s.heap.get? S = some (ztL acc c) → as.length = i → ZAcc H xs ys as acc →
      codeAny (model X.prog X.w) A (.builtin "list.extend.loop" ⟨[.ref S, .ref z, res], []⟩) R s := by
  have cS : S ≠ z ∧ S ≠ TI ∧ S ≠ TO ∧ S ≠ i1 ∧ S ≠ i2 := by simpa using hS
  have hh1 : A.in1.handled = none := hh
  intro k
  induction k with
  | zero =>
    intro i s H acc c as hk hi sm st hL hal hG
    have hin : i = xs.length := by omega
    refine codeAny_builtin PySem.F.entry_extend_loop ?_
    rw [Around.under_plainId PySem.F.plain_extend_loop _]
    show wpAny _ A.in1 (pyNext (.ref z) >>= _) _ _ _
    refine wpAny_bind ?_
    obtain ⟨I, la, lb, fp, hd, ti, ⟨x0, y0, hTO⟩, h1, h2⟩ := st
    obtain ⟨its, rv, p, _⟩ := I.list la
    obtain ⟨its2, rv2, p2, _⟩ := I.list lb
    have hend : its.toArray[i]? = none ∨ its2.toArray[i]? = none := .inl (by have := rv.length; simp; omega)
    have fin : ∀ h', (∀ c o, c ≠ z → c ≠ TO → c ≠ i1 → c ≠ i2 → s.heap.get? c = some o → h'.get? c = some o) → R (.ok (.ret res)) { s with heap := h' } := fun h' k6 =>
      hR _ H as acc c (I.turnedL (t' := s.toks) (ch := [S, z, TI, TO, i1, i2]) (fun c o hb q => k6 c o (fun q' => hb (by simp [q'])) (fun q' => hb (by simp [q'])) (fun q' => hb (by simp [q'])) (fun q' => hb (by simp [q'])) q) fp) sm (by omega) hG (k6 S _ cS.1 cS.2.2.1 cS.2.2.2.1 cS.2.2.2.2 hL) (fp S (by simp))
    rcases hd with hz | ⟨T, f, ps, hz, hT⟩
    · exact wpAny_pyNext_zip_end hh1 D hz ti hTO h1 h2 p.isList p2.isList hend fun h' hk => wpAny_pure (fin h' hk)
    · obtain ⟨_, itsT, _, ⟨oT, hoT, _⟩⟩ := I.hok T _ hT
      exact wpAny_pyNext_zip_end_held hh1 D hz hoT ti h1 h2 p.isList p2.isList hend fun h' hk => wpAny_pure (fin h' fun c o c1 _ c3 c4 e => hk c o c1 c3 c4 e)
  | succ k ih =>
    intro i s H acc c as hk hi sm st hL hal hG
    have hlt : i < xs.length := by omega
    have hsz : acc.size = i := by rw [← Array.length_toList, hG.eq, List.length_map, hal]
    refine codeAny_builtin PySem.F.entry_extend_loop ?_
    rw [Around.under_plainId PySem.F.plain_extend_loop _]
    show wpAny _ A.in1 (pyNext (.ref z) >>= _) _ _ _
    refine wpAny_bind (zt_turn D hS st (x := xs[i]) (y := ys[i]) (List.getElem?_eq_getElem hlt) (List.getElem?_eq_getElem (by omega)) (Heap.lt_size hL) fun s' hn' st' hk' => ?_)
    have hS' := hk' _ hL
    show wpAny _ A.in1 (updateSeq S (·.push (Value.ref s.heap.objs.size)) >>= _) _ _ _
    refine wpAny_bind ?_
    have up : ∀ c o, c ≠ S → s'.heap.get? c = some o → (s'.heap.update S (Obj.mapSeq (·.push (Value.ref s.heap.objs.size)))).get? c = some o := fun c o hb e => (Heap.get?_update_other _ _ (Ne.symm hb)).trans e
    have sn : Same H (upd H s.heap.objs.size (.tup [xs[i], ys[i]])) := same_upd hn'
    refine wpAny_updateSeq hS' rfl (wpAny_pure ⟨plainId_quiet PySem.F.plain_extend_loop _, ih (i + 1) _ _ (acc.push (Value.ref s.heap.objs.size)) _ (as ++ [s.heap.objs.size]) (by omega) hlt (sm.trans sn) ?_ (Heap.get?_update_self _ hS' rfl) (by rw [List.length_append, hal]; rfl) ⟨by rw [Array.toList_push, hG.eq, List.map_append]; rfl, fun j q hj => ?_⟩⟩) (by rw [hsz]; omega) (by show (acc.push (Value.ref s.heap.objs.size)).size ≤ sizeLine + 1; rw [Array.size_push, hsz]; omega)
    · obtain ⟨I, la, lb, fp, hd, ti, ⟨x0, y0, hTO⟩, h1, h2⟩ := st'
      refine ⟨I.turnedL (t' := s'.toks) (ch := [S]) (fun c o hb q => up c o (fun q' => hb (by simp [q'])) q) (fun c hc => fp c (by rw [List.mem_singleton.mp hc]; simp)), la, lb, fp, ?_, up _ _ cS.2.1.symm ti, ⟨_, _, up _ _ cS.2.2.1.symm hTO⟩, h1.at fun o e => up _ o cS.2.2.2.1.symm e, h2.at fun o e => up _ o cS.2.2.2.2.symm e⟩
      exact hd.imp (fun q => up _ _ cS.1.symm q) fun ⟨T, f, ps, q, r⟩ => ⟨T, f, ps, up _ _ cS.1.symm q, r⟩
    · rcases Nat.lt_trichotomy j as.length with h1 | h1 | h1
      · rw [List.getElem?_append_left h1] at hj
        obtain ⟨x, y, e1, e2, e3⟩ := hG.at_ j q hj
        exact ⟨x, y, e1, e2, sn _ _ e3⟩
      · subst h1
        have hb : s.heap.objs.size = q := by simpa using hj
        subst hb
        exact ⟨xs[i], ys[i], by rw [hal]; exact List.getElem?_eq_getElem hlt, by rw [hal]; exact List.getElem?_eq_getElem (by omega), upd_same⟩
      · have hnone : (as ++ [s.heap.objs.size])[j]? = none := List.getElem?_eq_none (by rw [List.length_append, List.length_singleton]; omega)
        rw [hnone] at hj
        cases hj
/-- what a zip of two lists gives when it is collected -/
structure ZNew (H H' : Hp) (xs ys : List V) (as : List Addr) : Prop where
  same : Same H H'
  len : as.length = xs.length
  at_ : ∀ (j : Nat) (q : Addr), as[j]? = some q → ∃ x y, xs[j]? = some x ∧ ys[j]? = some y ∧ H' q = some (.tup [x, y])
/-- a zip that stands fresh -/
structure ZFr (X : Cx) (pins : List (Addr × Obj)) (σ : L2.St) (H : Hp) (s : Shared) (a b z TI TO i1 i2 : Addr) (xs ys : List V) : Prop where
  inv : Inv X pins σ H s
  la : SqL X.K H a xs
  lb : SqL X.K H b ys
  fp : ∀ c ∈ [z, TI, TO, i1, i2], FpOk X pins H c
  hz : IsZip s.heap z TI TO .none
  ti : IsPair s.heap TI (.ref i1) (.ref i2)
  to : ∃ x y, IsPair s.heap TO x y
  h1 : s.heap.IsListIter i1 a 0
  h2 : s.heap.IsListIter i2 b 0
theorem zt_collect {s : Shared} {H : Hp} {E : Value → Shared → Prop} {Q : List Value → Shared → Prop} (hh : A.handled = none) (D : ZipApart z TI TO i1 i2 a b) (hl : xs.length = ys.length) (hn : xs.length ≤ sizeLine)
    (Z : ZFr X pins σ H s a b z TI TO i1 i2 xs ys)
    (hQ : ∀ s' H' as, Inv X pins σ H' s' → ZNew H H' xs ys as → Q (as.map Value.ref) s') : wpAny (model X.prog X.w) A (collect (.ref z)) Q E s := by
  obtain ⟨I, la, lb, fp, hz, ti, ⟨x0, y0, hTO⟩, h1, h2⟩ := Z
  have lz := Heap.lt_size hz
  have l1 := Heap.lt_size ti
  have l2 := Heap.lt_size hTO
  have l3 : i1 < s.heap.objs.size := let ⟨_, q, _⟩ := h1; Heap.lt_size q
  have l4 : i2 < s.heap.objs.size := let ⟨_, q, _⟩ := h2; Heap.lt_size q
  have cS : s.heap.objs.size ∉ [z, TI, TO, i1, i2] := by simpa using ⟨Nat.ne_of_gt lz, Nat.ne_of_gt l1, Nat.ne_of_gt l2, Nat.ne_of_gt l3, Nat.ne_of_gt l4⟩
  have fS := I.fpOk (H' := H) (b := s.heap.objs.size) (Nat.le_refl _) (I.hok.fresh (Nat.le_refl _))
  unfold collect
  refine wpAny_bind (wpAny_runValue (codeAny_builtin PySem.F.entry_proto_collect ?_))
  rw [Around.under_plainId PySem.F.plain_proto_collect _]
  show wpAny _ A.in1 (newList [] >>= fun l => again (.builtin "list.__iadd__" ⟨[l, .ref z], []⟩)) _ _ s
  refine wpAny_bind (wpAny_newObj_type ?_)
  refine wpAny_pure ⟨plainId_quiet PySem.F.plain_list_iadd _, codeAny_builtin PySem.F.entry_list_iadd ?_⟩
  rw [Around.under_plainId PySem.F.plain_list_iadd _]
  have k0 : ∀ b o, s.heap.get? b = some o → (s.heap.push { cls := .type "list", data := .seq ([] : List Value).toArray }).get? b = some o := fun b o e => Heap.get?_push_of_some _ e
  have I1 : Inv X pins σ H { s with heap := s.heap.push { cls := .type "list", data := .seq ([] : List Value).toArray } } := I.kept (t' := s.toks) k0
  have hT1 : ({ s with heap := s.heap.push { cls := .type "list", data := .seq ([] : List Value).toArray } } : Shared).TypeIs (.ref z) "zip" := ⟨_, k0 _ _ hz, rfl⟩
  show wpAny _ A.in1 (Builtin.List.listExtendWith (.ref s.heap.objs.size) (.ref z) (.ref s.heap.objs.size)) _ _ _
  unfold Builtin.List.listExtendWith
  refine wpAny_bind (wpAny_typeOf hT1 ?_)
  have h1' : Builtin.List.listSameRef (.ref s.heap.objs.size) (.ref z) = false := by simp [Builtin.List.listSameRef, Nat.ne_of_gt lz]
  have h2' : (Value.type "zip" == Value.type "list") = false := by decide
  have h3' : (Value.type "zip" == Value.type "tuple") = false := by decide
  simp only [h1', h2', h3', Bool.or_false, Bool.false_eq_true, if_false]
  refine wpAny_bind (wpAny_pyIter_zip (k0 _ _ hz) ?_)
  refine wpAny_bind (wpAny_holding ?_)
  unfold Builtin.List.listLengthHint
  refine wpAny_bind (wpAny_specialOf hT1 zt_nolen ?_)
  show wpAny _ A.in1 (specialOf (Value.ref z) (Str.ofString "__length_hint__") >>= _) _ _ _
  refine wpAny_bind (wpAny_specialOf hT1 zt_nohint ?_)
  refine wpAny_pure ?_
  show wpAny _ A.in1 (rule "list.extend.makes-room" >>= fun _ => Builtin.List.listTouch (.ref s.heap.objs.size) >>= fun _ =>
    again (.builtin "list.extend.loop" ⟨[.ref s.heap.objs.size, .ref z, .ref s.heap.objs.size], []⟩)) _ _ _
  refine wpAny_bind (wpAny_rule ?_)
  have hS₁ : (s.heap.push { cls := .type "list", data := .seq ([] : List Value).toArray }).get? s.heap.objs.size = some { cls := .type "list", data := .seq ([] : List Value).toArray } := Heap.get?_push_size _ rfl
  refine wpAny_bind ?_
  show wpAny _ A.in1 (updateSeq s.heap.objs.size (·.push .none) >>= fun _ => updateSeq s.heap.objs.size (·.pop)) _ _ _
  refine wpAny_bind (wpAny_updateSeq hS₁ rfl ?_)
  have hS₂ := Heap.get?_update_self (Obj.mapSeq (·.push Value.none)) hS₁ rfl
  refine wpAny_updateSeq hS₂ rfl ?_
  have hS₃ := Heap.get?_update_self (Obj.mapSeq (·.pop)) hS₂ rfl
  have oth : ∀ b o, b ≠ s.heap.objs.size → (s.heap.push { cls := .type "list", data := .seq ([] : List Value).toArray }).get? b = some o →
      (((s.heap.push { cls := .type "list", data := .seq ([] : List Value).toArray }).update s.heap.objs.size (Obj.mapSeq (·.push Value.none))).update s.heap.objs.size (Obj.mapSeq (·.pop))).get? b = some o :=
    fun b o hb e => (Heap.get?_update_other _ _ (Ne.symm hb)).trans ((Heap.get?_update_other _ _ (Ne.symm hb)).trans e)
  have I3 : Inv X pins σ H { s with heap := ((s.heap.push { cls := .type "list", data := .seq ([] : List Value).toArray }).update s.heap.objs.size (Obj.mapSeq (·.push Value.none))).update s.heap.objs.size (Obj.mapSeq (·.pop)) } :=
    Inv.turnedL (s := { s with heap := s.heap.push { cls := .type "list", data := .seq ([] : List Value).toArray } }) I1 (t' := s.toks) (ch := [s.heap.objs.size]) (fun c o hb q => oth c o (fun q' => hb (by simp [q'])) q) (fun c hc => by rw [List.mem_singleton.mp hc]; exact fS)
  have all : ∀ b o, b ≠ s.heap.objs.size → s.heap.get? b = some o → _ := fun b o hb e => oth b o hb (k0 b o e)
  refine wpAny_pure ⟨plainId_quiet PySem.F.plain_extend_loop _, zt_loop (X := X) (pins := pins) (σ := σ) (H0 := H) (A := A) (S := s.heap.objs.size) (xs := xs) (ys := ys) hh D cS hl hn (fun s' H' as acc c I' sm hal hG hL hF => ?_) xs.length 0 _ H _ _ [] (Nat.sub_zero _) (Nat.zero_le _) (fun _ _ e => e) ?_ hS₃ rfl ⟨rfl, fun j q hj => by simp at hj⟩⟩
  · show wpAny _ A (load s.heap.objs.size >>= _) _ _ s'
    refine wpAny_bind (wpAny_load hL ?_)
    refine wpAny_pure ?_
    show Q acc.toList s'
    rw [hG.eq]
    exact hQ s' H' as I' ⟨sm, hal, hG.at_⟩
  · refine ⟨I3, la, lb, fun c hc => ?_, .inl (all _ _ (Nat.ne_of_lt lz) hz), all _ _ (Nat.ne_of_lt l1) ti, ⟨_, _, all _ _ (Nat.ne_of_lt l2) hTO⟩, h1.at fun o e => all _ o (Nat.ne_of_lt l3) e, h2.at fun o e => all _ o (Nat.ne_of_lt l4) e⟩
    rcases List.mem_cons.mp hc with rfl | hc
    · exact fS
    · exact fp c hc
theorem zt_code {s : Shared} {H : Hp} {E : Value → Shared → Prop} {Q₁ : Value → Shared → Prop} (hh : A.handled = none) (D : ZipApart z TI TO i1 i2 a b) (hl : xs.length = ys.length) (hn : xs.length ≤ sizeLine)
    (Z : ZFr X pins σ H s a b z TI TO i1 i2 xs ys)
    (h : ∀ s' H' as, Inv X pins σ H' s' → ZNew H H' xs ys as → Q₁ (.ref s'.heap.objs.size) { s' with heap := s'.heap.push { cls := .type "tuple", data := .seq (as.map Value.ref).toArray } }) :
    codeAny (model X.prog X.w) A (.call (.builtin "tuple.__new__") ⟨[.type "tuple", .ref z], []⟩) (wants Q₁ E) s := by
  refine codeAny_of_tree ?_
  show wpAny _ A.in1 (do checkBuiltinCall "tuple.__new__" ⟨[.type "tuple", .ref z], []⟩; again (.builtin "tuple.__new__" ⟨[.type "tuple", .ref z], []⟩)) _ _ s
  refine wpAny_bind (wpAny_of_eq (PySem.F.newCall_tuple_1 _) (wpAny_pure ⟨plainId_quiet PySem.F.plain_tuple_new _, codeAny_builtin PySem.F.entry_tuple_new ?_⟩))
  rw [Around.under_plainId PySem.F.plain_tuple_new _]
  have hsub := sub_tuple_self
  have hinit := init_tuple_lookup
  have hmh := madeHere_tuple
  have hTI : s.TypeIs (.ref z) "zip" := ⟨_, Z.hz, rfl⟩
  have hh1 : A.in1.handled = none := hh
  wp_walk using wpAny_typeOf hTI, zt_collect (A := A.in1) hh1 D hl hn Z
  intro s' H' as I' N
  show wpAny _ _ (Builtin.Tuple.tupleExact (as.map Value.ref).toArray >>= fun v => ret v) _ _ _
  unfold Builtin.Tuple.tupleExact
  refine wpAny_bind (wpAny_newObj_type ?_ (by show (as.map Value.ref).toArray.size ≤ sizeLine; rw [List.size_toArray, List.length_map, N.len]; exact hn))
  exact wpAny_pure (h s' H' as I' N)
theorem zt_call {s : Shared} {H : Hp} {E : Value → Shared → Prop} {Q : Value → Shared → Prop} (hh : A.handled = none) (D : ZipApart z TI TO i1 i2 a b) (hl : xs.length = ys.length) (hn : xs.length ≤ sizeLine)
    (Z : ZFr X pins σ H s a b z TI TO i1 i2 xs ys)
    (hQ : ∀ s' H' as, Inv X pins σ H' s' → ZNew H H' xs ys as → Q (.ref s'.heap.objs.size) { s' with heap := s'.heap.push { cls := .type "tuple", data := .seq (as.map Value.ref).toArray } }) :
    wpAny (model X.prog X.w) A (call (.type "tuple") [.ref z]) Q E s := by
  refine callType_codes (Q₁ := fun obj s₁ => s₁.TypeIs obj "tuple" ∧ Q obj s₁) PySem.F.called_tuple (PySem.F.typeCall_tuple_1 _) PySem.F.entry_object_init
    (zt_code (A := A.in1) hh D hl hn Z fun s' H' as I' N => ⟨⟨_, Heap.get?_push_size _ rfl, rfl⟩, hQ s' H' as I' N⟩) fun obj s₁ h₁ => ?_
  exact ⟨h₁.1, PySem.F.args_object_init_2 obj _, object_init_meets PySem.F.called_tuple.init.lookup PySem.F.called_tuple.made (by decide) X.prog X.w A.in1 _ s₁ ⟨h₁.1, rfl, h₁.2⟩⟩
end
def tTupZip (K : PySem.W.Frag) (ta : TA) : TE := fun σ H Q => ta σ H fun vs H1 => ∃ a b xs ys, vs = [.ref a, .ref b] ∧ SqL K H1 a xs ∧ SqL K H1 b ys ∧ xs.length = ys.length ∧ ∀ H2 as t, ZNew H1 H2 xs ys as → H2 t = none → Q (.ref t) (upd H2 t (.tup (as.map V.ref)))
theorem pe_tupZip {X : Cx} {e e2 : Expr} {ta : TA} {p p2 pos pos2 : Pos} (hc : X.calm = true) (hg : Gl X "tuple") (hm : X.mg "tuple" = none) (hg2 : Gl X "zip") (hm2 : X.mg "zip" = none) (ha : PA X [e, e2] ta)
    (hs : starEach [e, e2] X.env = (false, eval e X.env) :: starEach [e2] X.env := by rfl) (hpl : (backTo pos2 (starEach [e2] X.env)).any (·.1) = false := by rfl)
    (hs2 : starEach [.Call (.Name "zip" p2) [e, e2] [] pos2] X.env = (false, eval (.Call (.Name "zip" p2) [e, e2] [] pos2) X.env) :: starEach [] X.env := by rfl) :
    PE X (.Call (.Name "tuple" p) [.Call (.Name "zip" p2) [e, e2] [] pos2] [] pos) (tTupZip X.K ta) := by
  refine ⟨fun pins s σ H Q I h => ?_⟩
  refine Call_ (ld_blt I hg hm boot_tuple (PyProof.Rows.callWith_type1 (PyProof.Rows.args_cons (Call_ (ld_blt I hg2 hm2 PyProof.Rows.boot_zip (PyProof.Rows.callWith_type1 (thn (ha.run pos2 pins s σ H _ I h) fun us s1 ⟨vs, H1, I1, r1, q1⟩ => ?_) hs hpl))) hs2) hs2 rfl))
  obtain ⟨a, b, xs, ys, ex, hqx, hqy, hl, q⟩ := q1
  subst ex
  cases r1 with
  | cons r rr =>
    cases rr with
    | cons r' rr =>
      cases rr
      cases r
      cases r'
      have fresh5 : ∀ c, c ∈ [s1.heap.objs.size + 4, s1.heap.objs.size + 2, s1.heap.objs.size + 3, s1.heap.objs.size, s1.heap.objs.size + 1] → FpOk X pins H1 c := fun c hcm => by
        have e' : c = s1.heap.objs.size + 4 ∨ c = s1.heap.objs.size + 2 ∨ c = s1.heap.objs.size + 3 ∨ c = s1.heap.objs.size ∨ c = s1.heap.objs.size + 1 := by simpa using hcm
        have hle : s1.heap.objs.size ≤ c := by
          rcases e' with z | z | z | z | z
          · rw [z]; exact Nat.le_add_right _ _
          · rw [z]; exact Nat.le_add_right _ _
          · rw [z]; exact Nat.le_add_right _ _
          · rw [z]; exact Nat.le_refl _
          · rw [z]; exact Nat.le_add_right _ _
        exact I1.fpOk hle (I1.hok.fresh hle)
      obtain ⟨its, rv, p1, hz⟩ := I1.list hqx
      obtain ⟨its2, rv2, p3, _⟩ := I1.list hqy
      refine call_zip_2 p1.isList p3.isList fun h' hz' hTI hTO h1 h2 hsz hk => PyProof.Rows.args_nil ?_
      have I2 : Inv X pins σ H1 { s1 with heap := h' } := I1.kept (t' := s1.toks) hk
      refine zt_call (I1.ok.hd hc) (PySem.W.ktu_apart s1.heap.objs.size a b p1.lt p3.lt) hl hz ⟨I2, hqx, hqy, fresh5, hz', hTI, ⟨_, _, hTO⟩, h1, h2⟩ fun s' H' as I' N => ?_
      refine ⟨.ref s'.heap.objs.size, upd H' s'.heap.objs.size (.tup (as.map V.ref)), I'.laid (t' := s'.toks) (fun c o e => Heap.get?_push_of_some _ e) (Nat.le_refl _) (show ObjOk X.prog X.w _ _ _ (.tup (as.map V.ref)) from ⟨by rw [List.length_map, N.len]; exact hz, as.map Value.ref, ?_, IsTup.new _ _⟩), rfl, q _ _ _ N (I'.hok.fresh (Nat.le_refl _))⟩
      clear N
      induction as with
      | nil => exact .nil
      | cons c as ih => exact .cons rfl ih
theorem ap_tupZip {K : PySem.W.Frag} {ta : TA} {σ : L2.St} {H : Hp} {Q : VK} : tTupZip K ta σ H Q = ta σ H fun vs H1 => ∃ a b xs ys, vs = [.ref a, .ref b] ∧ SqL K H1 a xs ∧ SqL K H1 b ys ∧ xs.length = ys.length ∧ ∀ H2 as t, ZNew H1 H2 xs ys as → H2 t = none → Q (.ref t) (upd H2 t (.tup (as.map V.ref))) := rfl
section
variable {K : PySem.W.Frag} {H : Hp} {Q : VK} {σ : L2.St} {j : Nat} {te : TE} {vs : List Nat}
/-- Pre6's lc_tupV over a tuple that is read by SqT -/
theorem lc_tupVK {a : Addr} {xs : List V} (f : Nat → V) (hx : SqT K H a xs) (hn : xs.length < 1000000) (hw : ∀ x, wipe ((wipe σ vs).set j (some x)) vs = wipe σ vs)
    (he : ∀ (i : Nat) x H', xs[i]? = some x → Same H H' → ∀ Q' : VK, (∀ H'', Same H' H'' → Q' (f i) H'') → te ((wipe σ vs).set j (some x)) H' Q')
    (hq : ∀ p H', H p = none → Same H H' → H' p = some (.lst ((List.range xs.length).map f)) → Q (.ref p) H') :
    tLcIn (gName j) tYes te vs σ Q (Itt K a) H := fun Dl hD => by
  refine lc_tup (g := gName j) (xs := xs) (fun i H' => Same H H' ∧ H' Dl = some (.lst ((List.range i).map f))) ⟨same_upd hD, ?_⟩ (fun i H' hi hP => sqT_same hx hP.1) (fun i x H' hi hP => ?_) (fun H' hP => hq Dl H' hD hP.1 hP.2)
  · rw [upd_same]
    rfl
  · obtain ⟨sm, ed⟩ := hP
    have hl := (List.getElem?_eq_some_iff.mp hi).1
    refine ⟨hw _, he i x H' hi sm _ fun H'' sm' => ⟨_, sm' _ _ ed, sz (by simp; omega), same_mut (sm.trans sm') hD, ?_⟩⟩
    rw [upd_same, List.range_succ, List.map_append]
    simp
end
end Pr

namespace Pr
open PySem PySem.Spec PyProof.Rows L2
/-! {(..): v, ..}: a display with tuples of ints and texts as keys -/
def mergeT (kvs : List (List Key × V)) (more : List (List Key × V)) : List (List Key × V) := more.foldl (fun acc kv => putK acc kv.1 kv.2) kvs
abbrev PT : List (Addr × List Key × V) → List (List Key × Addr × Value) → Prop := Paired fun e x => e.2.1 = x.1 ∧ e.1 = x.2.1 ∧ RelV e.2.2 x.2.2
theorem mergeT_len : ∀ (more kvs : List (List Key × V)), (mergeT kvs more).length ≤ kvs.length + more.length
  | [], kvs => Nat.le_refl _
  | p :: r, kvs => by
    have h1 := mergeT_len r (putK kvs p.1 p.2)
    have h2 := length_putK kvs p.1 p.2
    show (mergeT (putK kvs p.1 p.2) r).length ≤ _
    rw [List.length_cons]
    omega
theorem pt_store {H : Hp} : ∀ {es : List (Addr × List Key × V)} {ps : List (List Key × Addr × Value)} {kvs : List (List Key × V)} {xs : List (List Key × Addr × Value)}, PT es ps → (∀ e ∈ es, H e.1 = some (.tup (e.2.1.map kV))) → KT H kvs xs →
    KT H (mergeT kvs (es.map (·.2))) (storedAllH xs ps)
  | [], [], kvs, xs, _, _, r => r
  | e :: es, x :: ps, kvs, xs, .cons h t, k, r => by
    obtain ⟨h1, h2, h3⟩ := h
    have r2 : KT H (putK kvs e.2.1 e.2.2) (storedH xs x.1 x.2.1 x.2.2) := by
      rw [← h1, ← h2]
      exact r.put e.2.1 (k e List.mem_cons_self) h3
    have r3 := pt_store (es := es) (ps := ps) t (fun e he => k e (List.mem_cons_of_mem _ he)) r2
    exact r3
theorem pt_carries {P : Program} {w : World} {H : Hp} {h : Heap} (ok : HOk P w H h) : ∀ {es : List (Addr × List Key × V)} {ws : List (Value × Value)}, VV (es.map fun e => (V.ref e.1, e.2.2)) ws → (∀ e ∈ es, H e.1 = some (.tup (e.2.1.map kV))) →
    ∃ ps, CarriesH (tupleKind (mixKind P w)) h ws ps ∧ PT es ps
  | [], _, r, _ => by
    rw [List.map_nil] at r
    cases r
    exact ⟨[], True.intro, .nil⟩
  | e :: es, _, r, k => by
    rw [List.map_cons] at r
    cases r with
    | @cons a b as bs h1 t =>
      obtain ⟨ps, c, q⟩ := pt_carries ok t (fun e he => k e (List.mem_cons_of_mem _ he))
      obtain ⟨b1, b2⟩ := b
      have e1 : b1 = Value.ref e.1 := h1.1
      subst e1
      exact ⟨(e.2.1, e.1, b2) :: ps, ⟨rfl, rfl, key_of ok (k e List.mem_cons_self), c⟩, .cons ⟨rfl, rfl, h1.2⟩ q⟩
def tDispT (trs : List (TE × TE)) : TE := fun σ H Q => ∀ p, H p = none → tPairs trs σ (upd H p (.dT [])) fun ps H2 => H2 p = some (.dT []) ∧ ∃ es : List (Addr × List Key × V), ps = es.map (fun e => (V.ref e.1, e.2.2)) ∧ (∀ e ∈ es, H2 e.1 = some (.tup (e.2.1.map kV))) ∧ es.length ≤ 15 ∧
  Q (.ref p) (upd H2 p (.dT (mergeT [] (es.map (·.2)))))
theorem pe_dispT {X : Cx} {pos : Pos} {keys : List (Option Expr)} {values : List Expr} {trs : List (TE × TE)} (hu : X.A.units + 1 < cLine) (h : PPs X pos keys values trs) (hall : keys.all (·.isSome) = true) (hl : keys.length = values.length) (h0 : keys ≠ [])
    (h15 : keys.length ≤ 15) : PE X (.Dict keys values pos) (tDispT trs) := by
  refine ⟨fun pins s σ H Q I q => ?_⟩
  have hn := I.hok.fresh (Nat.le_refl s.heap.objs.size)
  have I1 := I.laid (a := s.heap.objs.size) (o := .dT []) (h' := s.heap.push { cls := .type "dict", data := .dict #[] }) (t' := s.toks) (fun _ _ q => Heap.get?_push_of_some _ q) (Nat.le_refl _) (dt_empty s.heap I.big)
  refine wpAny_Dict_any hall hl h0 h15 (thn (h.run pins _ σ _ _ I1 (q _ hn)) fun ws s2 ⟨ps, H2, I2, rel, e, es, ep, ek, lk, q2⟩ => ?_)
  subst ep
  obtain ⟨psH, c, pt⟩ := pt_carries I2.hok rel ek
  obtain ⟨z, hd, xs0, r0, dd⟩ := dt_of I2.hok e
  cases r0
  have lp : psH.length = es.length := (Paired.length pt).symm
  refine wpAny_storeAllH (knd := tupleKind (mixKind X.prog X.w)) ?_ ws psH [] s2 _ c dd (by rw [List.length_nil, lp, sizeLine_eq]; omega) fun h' tk dd' hs => ⟨.ref s.heap.objs.size, _, ?_, rfl, q2⟩
  · exact Nat.lt_of_succ_lt hu
  · obtain ⟨o, es', ep', hq, h2, h3, h4, _, h5⟩ := dd'
    have hz : (mergeT [] (es.map (·.2))).length ≤ sizeLine := by
      have h1 := mergeT_len (es.map (·.2)) []
      rw [List.length_nil, List.length_map] at h1
      rw [sizeLine_eq]
      omega
    refine d_write I2 (by rw [e]; exact True.intro) hs ⟨o, hq⟩ ⟨hz, hd, _, (pt_store pt ek .nil).keeps fun c ys ec => ?_, o, es', ep', hq, h2, h3, h4, h5⟩
    rw [upd_ne (ne_of ec e (fun z => nomatch z))]
    exact ec
/-! a written dict of the module with whole numbers as keys, its values read by any reader -/
def dictG {α : Type} (rd : Addr → Option α) (K : PySem.W.Frag) (a : Addr) : Option (List (Int × α)) := match K.lookup a with
  | some ⟨.type "dict", none, .dict es _, ⟨[]⟩⟩ => listO (fun e => match e with
    | ⟨h, .int i _, .ref t⟩ => if h = hashInt i then (match rd t with
      | some rs => some (i, rs)
      | none => none) else none
    | _ => none) es.toList
  | _ => none
theorem dictG_at {α : Type} {rd : Addr → Option α} {K : PySem.W.Frag} {p : Addr} {l : List (Int × α)} (h : dictG rd K p = some l) {i : Int} {nss : α} (hf : l.find? (fun q => q.1 == i) = some (i, nss)) : ∃ t, KInt K p i t ∧ rd t = some nss := by
  unfold dictG at h
  split at h
  · rename_i es n e
    obtain ⟨es⟩ := es
    obtain ⟨h1, h2⟩ := listO_at h
    have keys : ∀ d ∈ es, ∃ j u t rs, d = ⟨hashInt j, .int j u, .ref t⟩ ∧ rd t = some rs := fun d hd => by
      obtain ⟨k, hk, rfl⟩ := List.getElem_of_mem hd
      obtain ⟨y, _, a2⟩ := h2 k _ (List.getElem?_eq_getElem hk)
      generalize es[k] = d at a2 ⊢
      split at a2
      · rename_i hh j u t
        split at a2
        · rename_i eh
          subst eh
          split at a2
          · rename_i rs er
            exact ⟨j, u, t, rs, rfl, er⟩
          · cases a2
        · cases a2
      · cases a2
    have fnd : ∀ {es : List DictEntry} {l : List (Int × α)}, listO (fun e : DictEntry => match e with
        | ⟨h, .int i _, .ref t⟩ => if h = hashInt i then (match rd t with
          | some rs => some (i, rs)
          | none => none) else none
        | _ => none) es = some l → l.find? (fun q => q.1 == i) = some (i, nss) → ∃ t d, es.find? (fun e => Value.isInt i e.key) = some d ∧ d.val = .ref t ∧ rd t = some nss := by
      intro es
      induction es with
      | nil =>
        intro l h hf
        cases h
        cases hf
      | cons d es ih =>
        intro l h hf
        obtain ⟨q1, q2⟩ := listO_at h
        obtain ⟨y, a1, a2⟩ := q2 0 d rfl
        have hd : ∃ j u t rs, d = ⟨hashInt j, .int j u, .ref t⟩ ∧ rd t = some rs ∧ y = (j, rs) := by
          split at a2
          · rename_i hh j u t
            split at a2
            · rename_i eh
              subst eh
              split at a2
              · rename_i rs er
                cases a2
                exact ⟨j, u, t, rs, rfl, er, rfl⟩
              · cases a2
            · cases a2
          · cases a2
        obtain ⟨j, u, t, rs, rfl, er, rfl⟩ := hd
        have h0 := h
        unfold listO at h0
        split at h0
        · cases h0
        · rename_i y' ey
          split at h0
          · cases h0
          · rename_i s es'
            cases h0
            cases a1
            by_cases c : j = i
            · subst c
              rw [List.find?_cons_of_pos (by simp)] at hf
              cases hf
              exact ⟨t, _, by rw [List.find?_cons_of_pos (by simp [Value.isInt])], rfl, er⟩
            · rw [List.find?_cons_of_neg (by simpa using c)] at hf
              obtain ⟨t', d', f1, f2, f3⟩ := ih es' hf
              exact ⟨t', d', by rw [List.find?_cons_of_neg (by simpa [Value.isInt] using c)]; exact f1, f2, f3⟩
    obtain ⟨t, d, f1, f2, f3⟩ := fnd h hf
    refine ⟨t, ⟨⟨es⟩, n, e, fun d hd => ?_, ?_⟩, f3⟩
    · obtain ⟨j, u, t, rs, rfl, _⟩ := keys d hd
      exact ⟨j, u, rfl, rfl⟩
    · unfold findBy
      rw [List.find?_toArray, f1]
      exact congrArg some f2
  · cases h
/-- tuples of pairs (a tuple of whole numbers, a whole number) -/
def intsK (K : PySem.W.Frag) (a : Addr) : Option (List Int) := match tupK K a with
  | some us => listO intOf us
  | none => none
def pairK (K : PySem.W.Frag) (v : Value) : Option (List Int × Int) := match v with
  | .ref r => (match tupK K r with
    | some [.ref k, .int n _] => (match intsK K k with
      | some ks => some (ks, n)
      | none => none)
    | _ => none)
  | _ => none
def pairsK0 (K : PySem.W.Frag) (a : Addr) : Option (List (List Int × Int)) := match tupK K a with
  | some vs => listO (pairK K) vs
  | none => none
/-- a tuple without a dict of its own -/
def PlainT (K : PySem.W.Frag) (a : Addr) : Prop := ∃ (o : Obj) (its : Array Value) (n : Nat), K.lookup a = some o ∧ o.cls = .type "tuple" ∧ o.dict = none ∧ o.data = .seq its n
def pairsK (K : PySem.W.Frag) (a : Addr) : Option (List (List Int × Int)) := match K.lookup a with
  | some ⟨.type "tuple", none, .seq _ _, _⟩ => pairsK0 K a
  | _ => none
def dictP (K : PySem.W.Frag) (a : Addr) : Option (List (Int × List (List Int × Int))) := dictG (pairsK K) K a
/-- such a tuple, read by SqT -/
def PairsKt (K : PySem.W.Frag) (H : Hp) (t : Addr) (l : List (List Int × Int)) : Prop := PlainT K t ∧ ∃ rs : List Addr, SqT K H t (rs.map V.ref) ∧ rs.length = l.length ∧
  ∀ (i : Nat) (r : Addr) (q : List Int × Int), rs[i]? = some r → l[i]? = some q → ∃ k, SqT K H r [.ref k, .int q.2] ∧ SqT K H k (q.1.map V.int)
theorem intsK_at {K : PySem.W.Frag} {a : Addr} {ns : List Int} (h : intsK K a = some ns) (H : Hp) : SqT K H a (ns.map V.int) := by
  unfold intsK at h
  split at h
  · rename_i us e
    exact tupK_sq e (vals_intO h) H
  · cases h
theorem pairK_at {K : PySem.W.Frag} {v : Value} {q : List Int × Int} (h : pairK K v = some q) : ∃ r, v = .ref r ∧ ∀ H, ∃ k, SqT K H r [.ref k, .int q.2] ∧ SqT K H k (q.1.map V.int) := by
  unfold pairK at h
  split at h
  · rename_i r
    split at h
    · rename_i k n u e
      split at h
      · rename_i ks e2
        cases h
        exact ⟨r, rfl, fun H => ⟨k, tupK_sq (xs := [V.ref k, V.int n]) e (.cons rfl (.cons ⟨_, rfl⟩ .nil)) H, intsK_at e2 H⟩⟩
      · cases h
    · cases h
  · cases h
theorem pairsK0_at {K : PySem.W.Frag} {a : Addr} {vs : List Value} {l : List (List Int × Int)} (e : tupK K a = some vs) (h : listO (pairK K) vs = some l) (H : Hp) : ∃ rs : List Addr, SqT K H a (rs.map V.ref) ∧ rs.length = l.length ∧
  ∀ (i : Nat) (r : Addr) (q : List Int × Int), rs[i]? = some r → l[i]? = some q → ∃ k, SqT K H r [.ref k, .int q.2] ∧ SqT K H k (q.1.map V.int) := by
    obtain ⟨h1, h2⟩ := listO_at h
    obtain ⟨rs, hrs⟩ : ∃ rs : List Addr, vs = rs.map Value.ref := by
      have isr : ∀ v ∈ vs, ∃ r, v = Value.ref r := fun v hv => by
        obtain ⟨i, hi, rfl⟩ := List.getElem_of_mem hv
        obtain ⟨y, _, a2⟩ := h2 i _ (List.getElem?_eq_getElem hi)
        obtain ⟨r, er, _⟩ := pairK_at a2
        exact ⟨r, er⟩
      clear h h1 h2 e
      induction vs with
      | nil => exact ⟨[], rfl⟩
      | cons v vs ih =>
        obtain ⟨rs, e⟩ := ih fun v hv => isr v (List.mem_cons_of_mem _ hv)
        obtain ⟨r, e2⟩ := isr v List.mem_cons_self
        exact ⟨r :: rs, by rw [e, e2]; rfl⟩
    subst hrs
    refine ⟨rs, tupK_sq e ?_ H, by rw [← h1, List.length_map], fun i r q e1 e2 => ?_⟩
    · clear h h1 h2 e
      induction rs with
      | nil => exact .nil
      | cons r rs ih => exact .cons rfl ih
    · obtain ⟨y, a1, a2⟩ := h2 i (Value.ref r) (by rw [List.getElem?_map, e1]; rfl)
      rw [e2] at a1
      cases a1
      obtain ⟨r', er, hk⟩ := pairK_at a2
      cases er
      exact hk H
theorem pairsK_at {K : PySem.W.Frag} {a : Addr} {l : List (List Int × Int)} (h : pairsK K a = some l) (H : Hp) : PairsKt K H a l := by
  unfold pairsK at h
  split at h
  · rename_i its n sl eo
    refine ⟨⟨_, its, n, eo, rfl, rfl, rfl⟩, ?_⟩
    clear eo
    unfold pairsK0 at h
    split at h
    · rename_i vs e
      exact pairsK0_at e h H
    · cases h
  · cases h
end Pr

namespace Pr
open PySem PySem.Spec PyProof.Rows L2
/-! readings of displays -/
theorem ap_disp {trs : List (TE × TE)} {σ : L2.St} {H : Hp} {Q : VK} : tDisp trs σ H Q = ∀ p, H p = none → tPairs trs σ (upd H p (.dK [])) fun ps H2 => H2 p = some (.dK []) ∧ ∃ kvs : List (Key × V), ps = kvs.map (fun kv => (kV kv.1, kv.2)) ∧ kvs.length ≤ 15 ∧ Q (.ref p) (upd H2 p (.dK (mergeK [] kvs))) := rfl
theorem ap_dispT {trs : List (TE × TE)} {σ : L2.St} {H : Hp} {Q : VK} : tDispT trs σ H Q = ∀ p, H p = none → tPairs trs σ (upd H p (.dT [])) fun ps H2 => H2 p = some (.dT []) ∧ ∃ es : List (Addr × List Key × V), ps = es.map (fun e => (V.ref e.1, e.2.2)) ∧ (∀ e ∈ es, H2 e.1 = some (.tup (e.2.1.map kV))) ∧ es.length ≤ 15 ∧
  Q (.ref p) (upd H2 p (.dT (mergeT [] (es.map (·.2))))) := rfl
theorem ap_pairs0 {σ : L2.St} {H : Hp} {Q : List (V × V) → Hp → Prop} : tPairs [] σ H Q = Q [] H := rfl
theorem ap_pairsC {tk tv : TE} {r : List (TE × TE)} {σ : L2.St} {H : Hp} {Q : List (V × V) → Hp → Prop} : tPairs ((tk, tv) :: r) σ H Q = tk σ H fun x H1 => tv σ H1 fun y H2 => tPairs r σ H2 fun ps H3 => Q ((x, y) :: ps) H3 := rfl
theorem ap_dget {td ty : TE} {σ : L2.St} {H : Hp} {Q : VK} : tDGet td ty σ H Q = td σ H fun x H1 => ty σ H1 fun y H2 => ∃ a v, x = .ref a ∧ DGet H2 a y (some v) ∧ Q v H2 := rfl
theorem hu_of8 {A : Around} (hr : A.units + 64 < cLine) : A.units + 1 < cLine := by omega
end Pr

namespace Pr
open PySem PySem.Spec PyProof.Rows L2
/-! dicts with tuples as keys: equal ones, dict(pairs), their items; zip of a list and a tuple -/
section
variable {prog : Program} {w : World} {K : Type} [DecidableEq K] {knd : HeapKind prog w K} {A : Around} {E : Value → Shared → Prop} {s : Shared}
theorem same_dictsH {nm : String} {a b : Addr} {xs ys : List (K × Addr × Value)} {Q : Bool → Shared → Prop} (ha : (a == sysModules) = false) (hb : (b == sysModules) = false) (hu : knd.room A)
    (da : s.heap.DictOfH knd a xs) (db : s.heap.DictOfH knd b ys) (hl : xs.length = ys.length) (all : ∀ x ∈ xs, ∃ q, (x.1, q) ∈ ys ∧ SeqAt.EqAt A s x.2.2 q.2 true) (h : Q true s) :
    wpAny (model prog w) A (Builtin.Dict.samePairs nm a b) Q E s := by
  obtain ⟨oa, es, ep, hoa, _, hda, hea, hisa, hna⟩ := da
  obtain ⟨ob, es', ep', hob, _, hdb, heb, hisb, hnb⟩ := db
  have hla := size_of_entries hea
  have hlb := size_of_entries heb
  have hsz : es.size = es'.size := by rw [hla, hlb, hl]
  unfold Builtin.Dict.samePairs Builtin.Dict.showsAll
  rw [if_neg (show ¬ (a == sysModules) = true by rw [ha]; exact Bool.false_ne_true), if_neg (show ¬ (b == sysModules) = true by rw [hb]; exact Bool.false_ne_true)]
  refine wpAny_bind (wpAny_pure (wpAny_bind (wpAny_pure ?_)))
  refine wpAny_bind (wpAny_dictEntries hoa hda ?_)
  dsimp only
  refine wpAny_bind (wpAny_dictEntries hob hdb ?_)
  rw [if_neg (by rw [hsz]; simp)]
  refine wpAny_bind (wpAny_dictEpoch hoa hda ?_)
  refine wpAny_bind ?_
  rw [Std.Legacy.Range.forIn_eq_forIn_range']
  simp only [Std.Legacy.Range.size, Nat.sub_zero, Nat.add_sub_cancel, Nat.div_one]
  refine wpAny_forIn_list _ (fun rest q s' => s' = s ∧ q = (none, ()) ∧ ∃ i, rest = List.range' i (es.size - i) ∧ i ≤ es.size) _ ?_ ?_ _ _ ⟨rfl, rfl, 0, by simp, Nat.zero_le _⟩
  · rintro x rest q s' ⟨rfl, rfl, i, hr, hi⟩
    have hlt : i < es.size := by
      rcases Nat.lt_or_ge i es.size with h | h
      · exact h
      · rw [Nat.sub_eq_zero_of_le h] at hr; simp at hr
    obtain ⟨rfl, hrest⟩ : x = i ∧ rest = List.range' (i + 1) (es.size - (i + 1)) := by
      have e : es.size - i = (es.size - (i + 1)) + 1 := by omega
      rw [e, List.range'_succ] at hr
      injection hr with h1 h2
      exact ⟨h1, h2⟩
    have hlt' : x < xs.length := by rw [← hla]; exact hlt
    refine wpAny_bind (wpAny_dictEntries hoa hda ?_)
    have een : es[x]? = some (entryOfKey knd xs[x]) := by rw [entry_at hea x, List.getElem?_eq_getElem hlt']; rfl
    rw [een]
    have hm : xs[x] ∈ xs := List.getElem_mem hlt'
    generalize xs[x] = t at een hm ⊢
    obtain ⟨q, hq, he⟩ := all t hm
    obtain ⟨j, hj⟩ := List.mem_iff_getElem?.mp hq
    show wpAny _ _ (holding [Value.ref t.2.1, t.2.2] _ >>= _) _ _ _
    refine wpAny_bind (wpAny_holding (wpAny_bind (wpAny_dictFind_heap hu (hisa t hm) hob hdb heb hisb hnb (fun hno => absurd hj (hno j q)) fun j' p hj' => ?_)))
    have epq : p = q := by
      have e1 : (ys.map (·.1))[j]? = some t.1 := by rw [List.getElem?_map, hj]; rfl
      have e2 : (ys.map (·.1))[j']? = some t.1 := by rw [List.getElem?_map, hj']; rfl
      have ej : j = j' := (List.getElem?_inj (List.getElem?_eq_some_iff.mp e1).1 hnb).mp (e1.trans e2.symm)
      subst ej
      rw [hj] at hj'
      cases hj'
      rfl
    subst epq
    refine wpAny_bind (wpAny_dictEntries hob hdb ?_)
    rw [entry_at heb j', hj']
    refine wpAny_holding (he prog w _ _ ?_)
    show wpAny _ _ (if (!true) = true then _ else _) _ _ _
    rw [if_neg (by decide)]
    refine wpAny_bind (wpAny_dictEpoch hoa hda ?_)
    rw [if_neg (by simp)]
    exact wpAny_pure ⟨rfl, rfl, x + 1, hrest, hlt⟩
  · rintro q s' ⟨rfl, rfl, i, hr, hi⟩
    exact wpAny_pure h
theorem ne_dictsH {a b : Addr} {xs ys : List (K × Addr × Value)} {Q : Value → Shared → Prop} (ha : (a == sysModules) = false) (hb : (b == sysModules) = false) (hk : knd.room A.in1)
    (da : s.heap.DictOfH knd a xs) (db : s.heap.DictOfH knd b ys) (hu : A.units < cLine) (hl : xs.length = ys.length) (all : ∀ x ∈ xs, ∃ q, (x.1, q) ∈ ys ∧ SeqAt.EqAt A.in1 s x.2.2 q.2 true) (h : Q (.bool false) s) :
    wpAny (model prog w) A (compareOp .NotEq (.ref a) (.ref b)) Q E s := by
  refine wpAny_richCompare_same_room (op := .NotEq) da.typeIs db.typeIs PySem.F.slot_dict_ne (wpAny_call_entry PySem.F.slot_dict_ne da.typeIs PySem.F.entry_dict_ne ?_ (PySem.F.args_dict_ne_2 _ _)) hu
  show wpAny _ _ (Builtin.Dict.dictSlotArgs "__ne__" ⟨[.ref a, .ref b], []⟩ >>= _) _ _ s
  refine wpAny_bind ?_
  unfold Builtin.Dict.dictSlotArgs
  refine wpAny_bind (wpAny_notOrdered_dict da.typeIs ?_)
  show wpAny _ _ (pure (Value.ref a, Value.ref b)) _ _ s
  refine wpAny_pure ?_
  refine wpAny_bind (wpAny_isInstance (T := "dict") db.typeIs PySem.F.sub_dict_dict ?_)
  simp only [Bool.not_true, Bool.false_eq_true, if_false]
  refine wpAny_bind (wpAny_pure (wpAny_bind (wpAny_pure ?_)))
  refine wpAny_bind (same_dictsH ha hb hk da db hl all ?_)
  refine wpAny_pure ⟨_, rfl, ?_, ?_⟩
  · exact fun x => nomatch x
  · simpa using h
theorem storedAll_nodup : ∀ (ps acc : List (K × Addr × Value)), ((acc ++ ps).map (·.1)).Nodup → storedAllH acc ps = acc ++ ps
  | [], acc, _ => (List.append_nil acc).symm
  | p :: ps, acc, nd => by
    have hn : atKey acc p.1 = none := by
      rw [List.map_append, List.nodup_append] at nd
      refine atKey_none_of_get fun j q hj => nd.2.2 p.1 (List.mem_map.mpr ⟨_, List.mem_of_getElem? hj, rfl⟩) p.1 (by simp) rfl
    show storedAllH (storedH acc p.1 p.2.1 p.2.2) ps = _
    rw [storedH_new hn, storedAll_nodup ps _ (by rw [List.append_assoc]; exact nd), List.append_assoc]
    rfl
end
/-- a dict of pairs (a tuple of whole numbers, a whole number), its keys anyone's tuples -/
def DPo (P : Program) (w : World) (a : Addr) (xs : List (List L2.Key × Addr × Value)) : HO := .ext fun h => (a == sysModules) = false ∧ (xs.map (·.1)).Nodup ∧ ∃ o es ep, h.get? a = some o ∧ o.ExactDict ∧ o.data = .dict es ep ∧ es.toList = xs.map (entryOfKey (tupleKind (mixKind P w)))
def DictP (P : Program) (w : World) (K : PySem.W.Frag) (H : Hp) (a : Addr) (l : List (List Int × Int)) : Prop := ∃ xs, H a = some (DPo P w a xs) ∧ xs.length = l.length ∧
  ∀ (i : Nat) (x : List L2.Key × Addr × Value) (q : List Int × Int), xs[i]? = some x → l[i]? = some q → x.1 = q.1.map Sum.inl ∧ SqT K H x.2.1 (q.1.map V.int) ∧ ∃ t, x.2.2 = .int q.2 t
theorem DictP.same {P : Program} {w : World} {K : PySem.W.Frag} {H H' : Hp} {a : Addr} {l : List (List Int × Int)} (h : DictP P w K H a l) (s : Same H H') : DictP P w K H' a l := by
  obtain ⟨xs, h1, h2, h3⟩ := h
  exact ⟨xs, s _ _ h1, h2, fun i x q e1 e2 => let ⟨a1, a2, a3⟩ := h3 i x q e1 e2; ⟨a1, sqT_same a2 s, a3⟩⟩
theorem kV_ints (ns : List Int) : (ns.map Sum.inl : List L2.Key).map kV = ns.map V.int := by rw [List.map_map]; rfl
def dtOf (l : List (List Int × Int)) : List (List L2.Key × V) := l.map fun q => (q.1.map Sum.inl, V.int q.2)
section
variable {X : Cx} {pins : List (Addr × Obj)} {σ : L2.St} {H : Hp} {s : Shared}
theorem key_ofK (I : Inv X pins σ H s) {b : Addr} {ns : List Int} (h : SqT X.K H b (ns.map V.int)) : (tupleKind (mixKind X.prog X.w)).is s.heap (ns.map Sum.inl) b := by
  obtain ⟨its, rv, ⟨o, ho, hc, n, hd⟩, _⟩ := I.tuple h
  rw [← kV_ints] at rv
  exact ⟨o, its.toArray, n, ho, hc, hd, by simpa using items_are rv⟩
theorem DictP.dictOf (I : Inv X pins σ H s) {a : Addr} {xs : List (List L2.Key × Addr × Value)} {l : List (List Int × Int)} (h1 : H a = some (DPo X.prog X.w a xs)) (h2 : xs.length = l.length)
    (h3 : ∀ (i : Nat) (x : List L2.Key × Addr × Value) (q : List Int × Int), xs[i]? = some x → l[i]? = some q → x.1 = q.1.map Sum.inl ∧ SqT X.K H x.2.1 (q.1.map V.int) ∧ ∃ t, x.2.2 = .int q.2 t) : (a == sysModules) = false ∧ s.heap.DictOfH (tupleKind (mixKind X.prog X.w)) a xs := by
  obtain ⟨⟨hs, nd, o, es, ep, ho, hx, hd, he⟩, _, _⟩ := (show ObjOk X.prog X.w H s.heap a (DPo X.prog X.w a xs) from I.hok a _ h1)
  refine ⟨hs, o, es, ep, ho, hx, hd, he, fun x hm => ?_, nd⟩
  obtain ⟨i, hi⟩ := List.mem_iff_getElem?.mp hm
  have hil := (List.getElem?_eq_some_iff.mp hi).1
  obtain ⟨e1, e2, _⟩ := h3 i x _ hi (List.getElem?_eq_getElem (by omega))
  rw [e1]
  exact key_ofK I e2
theorem pairs_xs (I : Inv X pins σ H s) : ∀ (rs : List Addr) (l : List (List Int × Int)), rs.length = l.length → (∀ (i : Nat) (r : Addr) (q : List Int × Int), rs[i]? = some r → l[i]? = some q → ∃ k, SqT X.K H r [.ref k, .int q.2] ∧ SqT X.K H k (q.1.map V.int)) →
    ∃ xs : List (List L2.Key × Addr × Value), xs.length = l.length ∧ xs.map (·.1) = l.map (fun q => q.1.map Sum.inl) ∧ ∀ (i : Nat) (r : Addr) (x : List L2.Key × Addr × Value) (q : List Int × Int), rs[i]? = some r → xs[i]? = some x → l[i]? = some q → x.1 = q.1.map Sum.inl ∧ SqT X.K H x.2.1 (q.1.map V.int) ∧ (∃ t, x.2.2 = .int q.2 t) ∧ IsTup s.heap r #[.ref x.2.1, x.2.2]
  | [], [], _, _ => ⟨[], rfl, rfl, fun i r x q e => by simp at e⟩
  | [], _ :: _, h, _ => by simp at h
  | _ :: _, [], h, _ => by simp at h
  | r :: rs, q :: l, h, hk => by
    obtain ⟨xs, h1, h0, h2⟩ := pairs_xs I rs l (by simpa using h) fun i r' q' e1 e2 => hk (i + 1) r' q' (by simpa using e1) (by simpa using e2)
    obtain ⟨k, k1, k2⟩ := hk 0 r q rfl rfl
    obtain ⟨its, rv, pt, _⟩ := I.tuple k1
    obtain ⟨u1, u2, rfl, r1, r2⟩ := vals2 rv
    cases r1
    obtain ⟨t, rfl⟩ := r2
    refine ⟨(q.1.map Sum.inl, k, .int q.2 t) :: xs, by rw [List.length_cons, List.length_cons, h1], by rw [List.map_cons, List.map_cons, h0], fun i r' x q' e1 e2 e3 => ?_⟩
    cases i with
    | zero =>
      cases e1
      cases e2
      cases e3
      exact ⟨rfl, k2, ⟨t, rfl⟩, pt⟩
    | succ i => exact h2 i r' x q' (by simpa using e1) (by simpa using e2) (by simpa using e3)
end
/-- dict(t), t a tuple of pairs of the module -/
def rDictKP (P : Program) (w : World) (K : PySem.W.Frag) : List V → Hp → VK → Prop := fun vs H Q => ∃ a, vs = [.ref a] ∧ ∃ l, PairsKt K H a l ∧ (l.map (·.1)).Nodup ∧ l.length ≤ 1000 ∧ ∀ p H', Same H H' → DictP P w K H' p l → Q (.ref p) H'
theorem map_inl_inj {a b : List Int} (h : (a.map Sum.inl : List L2.Key) = b.map Sum.inl) : a = b := List.map_inj_right (fun x y e => Sum.inl.inj e) |>.mp h
theorem cr_dictKP {X : Cx} (hc : X.calm = true) (hu : X.A.units + 64 < cLine) : CallR X (.type "dict") (rDictKP X.prog X.w X.K) := by
  intro pins s σ H vs us Q I rv h
  obtain ⟨a, rfl, l, ⟨⟨oa, ita, na, hKa, hca, hda, hdata⟩, rs, hq, hl, hr⟩, nd, hz, q⟩ := h
  obtain ⟨u, rfl, ru⟩ := rv.one
  cases ru
  obtain ⟨its, rvs, ⟨o, ho, hcl, n, hd⟩, _⟩ := I.tuple hq
  have ei := refs_at rvs
  subst ei
  have ea : oa = o := Option.some.inj ((I.kIn a oa hKa).symm.trans ho)
  subst ea
  obtain ⟨xs, x1, x0, x2⟩ := pairs_xs I rs l hl hr
  have lx : xs.length = rs.length := by rw [x1, hl]
  have ndx : (xs.map (·.1)).Nodup := by
    rw [x0, show (l.map fun q => (q.1.map Sum.inl : List L2.Key)) = (l.map (·.1)).map (List.map Sum.inl) by rw [List.map_map]; rfl]
    exact List.pairwise_map.mpr (List.Pairwise.imp (fun h e => h (map_inl_inj e)) nd)
  have get : ∀ (i : Nat) (x : List L2.Key × Addr × Value), xs[i]? = some x → ∃ (r : Addr) (q : List Int × Int), rs[i]? = some r ∧ l[i]? = some q ∧ x.1 = q.1.map Sum.inl ∧ SqT X.K H x.2.1 (q.1.map V.int) ∧ (∃ t, x.2.2 = .int q.2 t) ∧ IsTup s.heap r #[.ref x.2.1, x.2.2] := fun i x e => by
    have hi := (List.getElem?_eq_some_iff.mp e).1
    have e1 := List.getElem?_eq_getElem (show i < rs.length by omega)
    have e2 := List.getElem?_eq_getElem (show i < l.length by omega)
    exact ⟨_, _, e1, e2, x2 i _ x _ e1 e e2⟩
  have P := PairArg.tuple (prog := X.prog) (w := X.w) a (rs.map Value.ref).toArray (fun j => rs.getD j 0) (xs.map fun x => (Value.ref x.2.1, x.2.2))
  have hz' : (xs.map fun x => (Value.ref x.2.1, x.2.2)).length ≤ sizeLine := by rw [List.length_map, sizeLine_eq]; omega
  refine call_dict_pairsH (knd := tupleKind (mixKind X.prog X.w)) (ps := xs) P (I.ok.hd hc) ?_ ⟨⟨oa, n, ho, hcl, hda, hd⟩, ?_, fun j k v e => ?_⟩ ⟨by rw [List.length_map], fun i key v e => ?_⟩ (fun h' hk x hx => ?_) hz' fun h' tk hdo hk => ?_
  · show X.A.units + 1 + 1 < cLine
    omega
  · rw [List.size_toArray, List.length_map, List.length_map, lx]
  · rw [List.getElem?_map, Option.map_eq_some_iff] at e
    obtain ⟨x, ex, e2⟩ := e
    cases e2
    obtain ⟨r, q', er, eq, _, _, _, pt⟩ := get j x ex
    have eg : rs.getD j 0 = r := by rw [List.getD_eq_getElem?_getD, er]; rfl
    show (List.map Value.ref rs).toArray[j]? = some (Value.ref (rs.getD j 0)) ∧ PairAt s.heap (rs.getD j 0) (Value.ref x.2.1) x.2.2
    rw [eg]
    exact ⟨by rw [List.getElem?_toArray, List.getElem?_map, er]; rfl, .inl pt⟩
  · have e : (xs.map fun x => (Value.ref x.2.1, x.2.2))[i]? = some (key, v) := e
    rw [List.getElem?_map, Option.map_eq_some_iff] at e
    obtain ⟨x, ex, e2⟩ := e
    cases e2
    exact ⟨x.1, x.2.1, ex, rfl⟩
  · obtain ⟨i, hi⟩ := List.mem_iff_getElem?.mp hx
    obtain ⟨r, q', er, eq, e1, e2, _, _⟩ := get i x hi
    rw [e1]
    obtain ⟨o', its', n', g1, g2, g3, g4⟩ := key_ofK I e2
    exact ⟨o', its', n', hk _ _ (Nat.ne_of_lt (Heap.lt_size g1)) (by simp) g1, g2, g3, g4⟩
  · rw [storedAll_nodup xs [] (by simpa using ndx), List.nil_append] at hdo
    obtain ⟨o', es, ep, g1, g2, g3, g4, _, _⟩ := hdo
    have fr : H s.heap.objs.size = none := I.hok.fresh (Nat.le_refl _)
    have hm : (s.heap.objs.size == sysModules) = false := beq_eq_false_iff_ne.mpr (Nat.ne_of_gt I.big)
    have I2 : Inv X pins σ (upd H s.heap.objs.size (DPo X.prog X.w s.heap.objs.size xs)) { s with heap := h', toks := tk } := I.laid (t' := tk) (fun b o e => hk b o (by simp) e) (Nat.le_refl _)
      ⟨⟨hm, ndx, o', es, ep, g1, g2, g3, g4⟩, ⟨o', g1⟩, fun h1 h2 ⟨c1, c2, c3, c4, c5, d1, d2, d3, d4⟩ hk' => ⟨c1, c2, c3, c4, c5, hk' _ d1, d2, d3, d4⟩⟩
    refine ⟨.ref s.heap.objs.size, _, I2, rfl, q _ _ (same_upd fr) ⟨xs, upd_same, x1, fun i x q' e1 e2 => ?_⟩⟩
    obtain ⟨r, q2, er, eq, f1, f2, f3, _⟩ := get i x e1
    rw [eq] at e2
    cases e2
    exact ⟨f1, sqT_same f2 (same_upd fr), f3⟩
/-- dict(t) != d: the same pairs -/
def rNeDP (P : Program) (w : World) (K : PySem.W.Frag) : R2 := fun x y H Q => ∃ a b, x = .ref a ∧ y = .ref b ∧ ∃ l, DictP P w K H a l ∧ H b = some (.dT (dtOf l)) ∧ Q (.bl false) H
theorem op_neDP {X : Cx} (hu : X.A.units + 64 < cLine) : OpR X (compareOp .NotEq) (rNeDP X.prog X.w X.K) := by
  intro pins s σ H x y v u Q I rx ry h
  obtain ⟨a, b, rfl, rfl, l, ⟨xs, h1, h2, h3⟩, hb, q⟩ := h
  obtain rfl : v = Value.ref a := rx
  obtain rfl : u = Value.ref b := ry
  obtain ⟨sa, da⟩ := DictP.dictOf I h1 h2 h3
  obtain ⟨_, sb, ys, rel, db⟩ := dt_of I.hok hb
  have ly : (dtOf l).length = ys.length := Paired.length rel
  rw [dtOf, List.length_map] at ly
  refine ne_dictsH sa sb (by show X.A.units + 1 < cLine; omega) da db (by omega) (by omega) (fun x hx => ?_) (fin_bl I q rfl)
  obtain ⟨i, hi⟩ := List.mem_iff_getElem?.mp hx
  have hil := (List.getElem?_eq_some_iff.mp hi).1
  have el := List.getElem?_eq_getElem (show i < l.length by omega)
  have ey := List.getElem?_eq_getElem (show i < ys.length by omega)
  obtain ⟨e1, e2, t, e3⟩ := h3 i x _ hi el
  obtain ⟨z, hz, r1, r2, r3⟩ := L2.DX.pget rel ey
  rw [dtOf, List.getElem?_map, el] at hz
  cases hz
  obtain ⟨t2, r3⟩ := r3
  refine ⟨ys[i].2, ?_, ?_⟩
  · rw [e1, show (l[i].1.map Sum.inl : List L2.Key) = ys[i].1 from r1]
    exact List.getElem_mem _
  · rw [e3, r3]
    have := SeqAt.EqAt.int_int (A := X.A.in1) (s := s) l[i].2 t l[i].2 t2
    simpa using this
/-! d.items() of a dict with tuples as keys -/
def Itit (d : Addr) (o : Obj) (kvs : List (List L2.Key × V)) : It :=
  ⟨fun i H => H d = some (.frz o (.dT kvs)) ∧ i < kvs.length, fun i H x H' => ∃ T q k v, kvs[i]? = some (k, v) ∧ x = .ref T ∧ H T = none ∧ H q = some (.tup (k.map kV)) ∧ H' = upd H T (.tup [.ref q, v]), fun i H => H d = some (.frz o (.dT kvs)) ∧ kvs.length ≤ i⟩
section
variable {P : Program} {w : World} {K : PySem.W.Frag}
theorem frzT_at {X : Cx} {pins : List (Addr × Obj)} {σ : L2.St} {H : Hp} {s : Shared} {d : Addr} {o : Obj} {kvs : List (List L2.Key × V)} (I : Inv X pins σ H s) (h : H d = some (.frz o (.dT kvs))) :
    (d == sysModules) = false ∧ s.heap.get? d = some o ∧ o.ExactDict ∧ ∃ (es : Array DictEntry) (ep : Nat), o.data = .dict es ep ∧ es.size = kvs.length ∧
      ∀ (i : Nat) (k : List L2.Key) (v : V), kvs[i]? = some (k, v) → ∃ (en : DictEntry) (q : Addr), es[i]? = some en ∧ en.key = .ref q ∧ RelV v en.val ∧ H q = some (.tup (k.map kV)) := by
  obtain ⟨hd, z, hs, xs, pr, o', es, ep, ho, hx, hdt, he, _⟩ := I.hok d _ h
  rw [hd] at ho
  cases ho
  have l1 : es.size = xs.length := size_of_entries he
  have l2 : kvs.length = xs.length := Paired.length pr
  refine ⟨hs, hd, hx, es, ep, hdt, by omega, fun i k v e => ?_⟩
  have hi := (List.getElem?_eq_some_iff.mp e).1
  have ex := List.getElem?_eq_getElem (show i < xs.length by omega)
  obtain ⟨y, hy, r1, r2, r3⟩ := L2.DX.pget pr ex
  rw [e] at hy
  cases hy
  exact ⟨entryOfKey (tupleKind (mixKind X.prog X.w)) xs[i], xs[i].2.1, by rw [entry_at he i, ex]; rfl, rfl, r3, r2⟩
theorem turn_itemsT {d : Addr} {o : Obj} {es : Array DictEntry} {ep : Nat} {kvs : List (List L2.Key × V)} {elts : List Expr} {kk : Nat} {tpos : Pos} (it : Addr) (hod : o.data = .dict es ep) :
    Turn P w K (.Tuple elts kk tpos) (Itit d o kvs) [it] it (fun i h => ∃ ok ov, IsItemIter h it d i kvs.length ep ok ov) where
  mem := by simp
  obj := fun i h st b hb => by
    have e : b = it := by simpa using hb
    subst e
    obtain ⟨ok, ov, e⟩ := st
    exact ⟨_, e, fun v z => nomatch z⟩
  keep := fun i h h' st k => let ⟨ok, ov, e⟩ := st; ⟨ok, ov, k it (by simp) _ e⟩
  item := by
    intro X hP hw hK hc i pins s σ H E I hf st hg
    subst hP hw hK
    obtain ⟨hd, hi⟩ := hg
    obtain ⟨hs, hgd, hx, es', ep', hdt, hsz, ent⟩ := frzT_at I hd
    obtain ⟨rfl, rfl⟩ := dict_ep hod hdt
    obtain ⟨⟨k, v⟩, hkv⟩ : ∃ p, kvs[i]? = some p := ⟨kvs[i], List.getElem?_eq_getElem hi⟩
    obtain ⟨en, q, e1, e2, rv, hq⟩ := ent i k v hkv
    obtain ⟨ok, ov, he⟩ := st
    rw [← hsz] at he hi
    have een : es'[i] = en := by
      rw [Array.getElem?_eq_getElem hi] at e1
      exact Option.some.inj e1
    have hlt : it < s.heap.objs.size := Heap.lt_size he
    refine DT.nextI he ⟨o, hgd, hx, hdt⟩ hi fun h' ho hT hz hk => ?_
    rw [een, e2] at ho hT
    refine ⟨_, rfl, wpAny_letOwnedTupleGo_items (s := { s with heap := h' }) ho fun h'' he' sb => ?_⟩
    have hT2 : h''.get? s.heap.objs.size = some { cls := .type "tuple", data := .seq #[Value.ref q, en.val] } := (sb.2 _ (Nat.ne_of_gt hlt)).trans hT
    have new : ObjOk X.prog X.w (upd H s.heap.objs.size (.tup [.ref q, v])) h'' s.heap.objs.size (.tup [.ref q, v]) :=
      ⟨by show 2 ≤ sizeLine; decide, [.ref q, en.val], .cons rfl (.cons rv .nil), ⟨_, hT2, rfl, _, rfl⟩⟩
    have I1 : Inv X pins σ (upd H s.heap.objs.size (.tup [.ref q, v])) { s with heap := h'' } :=
      I.turnedNew (t' := s.toks) (ch := [it]) (fun b ob hb e => (sb.2 b (by simpa using hb)).trans (hk b ob (by simpa using hb) e)) hf (Nat.le_refl _) new
    refine ⟨.ref s.heap.objs.size, _, I1, rfl, ⟨_, q, k, v, hkv, rfl, I.hok.fresh (Nat.le_refl _), hq, rfl⟩, ⟨.ref q, en.val, ?_⟩, fun b hb => ?_⟩
    · rw [← hsz]; exact he'
    · have e : b = it := by simpa using hb
      rw [e, upd_ne (Nat.ne_of_lt hlt)]
      exact (hf it (by simp)).1
  done := by
    intro X hP hw hK hc i pins s σ H E I hf st hg
    subst hP hw hK
    obtain ⟨hd, hi⟩ := hg
    obtain ⟨f0, f1, f2, f3, f4, f5⟩ := hf it (by simp)
    obtain ⟨hs, hgd, hx, es', ep', hdt, hsz, ent⟩ := frzT_at I hd
    obtain ⟨rfl, rfl⟩ := dict_ep hod hdt
    obtain ⟨ok, ov, he⟩ := st
    rw [← hsz] at he hi
    exact DT.endI (I.ok.hd hc) he ⟨o, hgd, hx, hdt⟩ hi fun h' eb => ⟨rfl, I.turned (t' := s.toks) (fun b ob hb e => eb b ob hb e) f0 f1 f3 f4 f5⟩
  self := fun A i s Q E st h => let ⟨_, _, e⟩ := st; PySem.W.kcp_self e h
def iItemsT (td : TE) : L2.TI := fun σ H R => td σ H fun x H1 => ∃ d o kvs, x = .ref d ∧ H1 d = some (.frz o (.dT kvs)) ∧ R (Itit d o kvs) H1
theorem pi_itemsT {X : Cx} {e : Expr} {td : TE} {apos cpos tpos : Pos} {elts : List Expr} {kk : Nat} (he : PE X e td) (hbase : attributeBase e "items" X.env (eval e X.env) = eval e X.env := by rfl) (hline : (apos.endLine == cpos.line) = true := by rfl) :
    PI X (.Tuple elts kk tpos) (.Call (.Attribute e "items" apos) [] [] cpos) (iItemsT td) := by
  refine ⟨fun pins s σ H R I h => ?_⟩
  refine wpAny_Call_method (T := "dict") (id := "dict.items") hbase rfl hline F.plainAttrs_dict F.slot_dict_items F.type_dict_items (thn (he.run pins s σ H _ I h) fun u s1 ⟨x, H1, I1, rx, d, o, kvs, ex, hd, q⟩ => ?_)
  subst ex
  obtain rfl : u = Value.ref d := rx
  obtain ⟨hs, hgd, hx, es, ep, hdt, hsz, ent⟩ := frzT_at I1 hd
  have hm : DT.Raw s1.heap d es ep := ⟨o, hgd, hx, hdt⟩
  refine ⟨hm.typeIs, fun a ea => by cases ea; exact ⟨o, hgd, hx.2.1⟩, ?_⟩
  have I2 : Inv X pins σ H1 { s1 with heap := s1.heap.push { cls := .type "dict_items", data := .fields #[.ref d] } } := I1.kept (t' := s1.toks) fun b ob q => Heap.get?_push_of_some _ q
  have fin : wpAny (model X.prog X.w) X.A (pyIter (.ref s1.heap.objs.size)) (PIE X pins σ (.Tuple elts kk tpos) R) X.xe { s1 with heap := s1.heap.push { cls := .type "dict_items", data := .fields #[.ref d] } } := by
    refine DT.iterI (d := d) (es := es) (ep := ep) ⟨_, Heap.get?_push_size _ rfl, rfl, rfl⟩ (hm.push _) (pi_one (tk := s1.toks) I2 _ (turn_itemsT _ hdt) ⟨.none, .none, ?_⟩ q)
    rw [← hsz]
    exact Heap.get?_push_size _ rfl
  show wpAny _ _ (callWith cpos (.builtin "dict.items") [.ref d] [] []) _ X.xe s1
  exact method_meetsIn F.slot_dict_items F.entry_dict_items rfl (PySem.evalArgs_none ⟨rfl, hm.typeIs, F.args_dict_items_1 _, _, DT.meetsItems (es := es) (ep := ep) hs, hm, fin⟩)
theorem gives_itemsT {d : Addr} {o : Obj} {kvs : List (List L2.Key × V)} : Gives (Itit d o kvs) kvs.length (fun H => H d = some (.frz o (.dT kvs))) (fun i v H H' => ∃ t q k x, v = .ref t ∧ H t = none ∧ H' = upd H t (.tup [.ref q, x]) ∧ kvs[i]? = some (k, x) ∧ H q = some (.tup (k.map kV))) where
  go := fun i H lt f => ⟨f, lt⟩
  yld := fun i H v H' lt f y => by
    obtain ⟨T, q, k, x, e1, e2, e3, e4, e5⟩ := y
    exact ⟨T, q, k, x, e2, e3, e5, e1, e4⟩
  stop := fun H f => ⟨f, Nat.le_refl _⟩
/-! zip of a list and a tuple -/
def ItzM (K : PySem.W.Frag) (a b : Addr) : It :=
  ⟨fun i H => ∃ (xs ys : List V) (x y : V), SqL K H a xs ∧ SqT K H b ys ∧ xs[i]? = some x ∧ ys[i]? = some y,
    fun i H v H' => ∃ T x y, v = .ref T ∧ H T = none ∧ H' = upd H T (.tup [x, y]) ∧ (∀ xs, SqL K H a xs → xs[i]? = some x) ∧ ∀ ys, SqT K H b ys → ys[i]? = some y,
    fun i H => ∃ xs ys : List V, SqL K H a xs ∧ SqT K H b ys ∧ xs.length = i ∧ ys.length = i⟩
theorem zipM_sep {z TI TO i1 i2 a b : Addr} (D : ZipApart z TI TO i1 i2 a b) : ZipSep2 z TI TO i1 i2 [i1, a] [i2, b] where
  TIz := D.TIz
  TOz := D.TOz
  TITO := D.TITO
  TIi1 := D.TIi1
  mem1 := by simp
  zf1 := by simp [D.i1z.symm, D.l1z.symm]
  Tf1 := by simp [D.TOi1, D.l1TO.symm]
  TIi2 := D.TIi2
  mem2 := by simp
  zf2 := by simp [D.i2z.symm, D.l2z.symm]
  Tf2 := by simp [D.TOi2, D.l2TO.symm]
  sep1_2 := by simp [D.i12, D.l2i1.symm]
  sep2_1 := by simp [D.i12.symm, D.l1i2.symm]
theorem turn_zipM {elts : List Expr} {kk : Nat} {tpos : Pos} {a b z TI TO i1 i2 : Addr} (D : ZipApart z TI TO i1 i2 a b) :
    Turn P w K (.Tuple elts kk tpos) (ItzM K a b) [z, TI, TO, i1, i2] z (fun i h => IsZip h z TI TO .none ∧ IsPair h TI (.ref i1) (.ref i2) ∧ (∃ x y, IsPair h TO x y) ∧ h.IsListIter i1 a i ∧ h.IsTupleIter i2 b i) where
  mem := by simp
  obj := fun i h st c hc => by
    obtain ⟨hz, hTI, ⟨x, y, hTO⟩, ⟨o1, e1, _, d1⟩, ⟨o2, e2, _, d2⟩⟩ := st
    have e' : c = z ∨ c = TI ∨ c = TO ∨ c = i1 ∨ c = i2 := by simpa using hc
    rcases e' with q | q | q | q | q
    · rw [q]; exact ⟨_, hz, fun v q => nomatch q⟩
    · rw [q]; exact ⟨_, hTI, fun v q => nomatch q⟩
    · rw [q]; exact ⟨_, hTO, fun v q => nomatch q⟩
    · rw [q]; exact ⟨o1, e1, fun v q => by rw [d1] at q; cases q⟩
    · rw [q]; exact ⟨o2, e2, fun v q => by rw [d2] at q; cases q⟩
  keep := fun i h h' st k => by
    obtain ⟨hz, hTI, ⟨x, y, hTO⟩, h1, h2⟩ := st
    exact ⟨k z (by simp) _ hz, k TI (by simp) _ hTI, ⟨x, y, k TO (by simp) _ hTO⟩, h1.at fun o q => k i1 (by simp) o q, h2.at fun o q => k i2 (by simp) o q⟩
  item := by
    intro X hP hw hK hc i pins s σ H E I hf st hg
    subst hP hw hK
    obtain ⟨hz, hTI, ⟨x0, y0, hTO⟩, h1, h2⟩ := st
    obtain ⟨xs, ys, x, y, hqx, hqy, hx, hy⟩ := hg
    obtain ⟨its, rv, p, _⟩ := I.list hqx
    obtain ⟨its2, rv2, p2, _⟩ := I.tuple hqy
    obtain ⟨u, hu, ru⟩ := rv.get hx
    obtain ⟨u2, hu2, ru2⟩ := rv2.get hy
    have hzl : z < s.heap.objs.size := Heap.lt_size hz
    have hh : X.A.in1.handled = none := I.ok.hd hc
    refine wpAny_pyNext_zipD2_item (zipM_sep D) (Draws.list hh i1 a D.l1i1 its.toArray) (Draws.tuple hh i2 b D.l2i2 its2.toArray) hz hTI hTO ⟨h1, p.isList⟩ ⟨h2, p2⟩ (by rw [List.size_toArray]; exact (List.getElem?_eq_some_iff.mp hu).1) (by rw [List.size_toArray]; exact (List.getElem?_eq_some_iff.mp hu2).1)
      fun v1 v2 h' tk y1 y2 z' TO' h1' h2' hT hsz hk => ?_
    have e1 : v1 = u := by
      have := y1.symm.trans (show its.toArray[i]? = some u by simpa using hu)
      exact Option.some.inj this
    have e2 : v2 = u2 := by
      have := y2.symm.trans (show its2.toArray[i]? = some u2 by simpa using hu2)
      exact Option.some.inj this
    subst e1 e2
    refine ⟨_, rfl, wpAny_letOwnedTupleGo_zip (s := { s with heap := h', toks := tk }) z' fun h'' z'' sb => ?_⟩
    have hT2 : h''.get? s.heap.objs.size = some { cls := .type "tuple", data := .seq #[v1, v2] } := (sb.2 _ (Nat.ne_of_gt hzl)).trans hT
    have new : ObjOk X.prog X.w (upd H s.heap.objs.size (.tup [x, y])) h'' s.heap.objs.size (.tup [x, y]) :=
      ⟨by show 2 ≤ sizeLine; decide, [v1, v2], .cons ru (.cons ru2 .nil), ⟨_, hT2, rfl, _, rfl⟩⟩
    have I1 : Inv X pins σ (upd H s.heap.objs.size (.tup [x, y])) { s with heap := h'', toks := tk } :=
      I.turnedNew (t' := tk) (ch := [z, TI, TO, i1, i2]) (fun c o hb q => (sb.2 c (fun q' => hb (by simp [q']))).trans (hk c o (fun q' => hb (by simp [q'])) (fun q' => hb (by simp [q'])) (fun q' => hb (by simp [q'])) (fun q' => hb (by simp [q'])) q)) hf (Nat.le_refl _) new
    refine ⟨.ref s.heap.objs.size, _, I1, rfl, ⟨_, x, y, rfl, I.hok.fresh (Nat.le_refl _), rfl, fun l hl => by rw [I.list_inj hl hqx]; exact hx, fun l hl => by rw [I.tuple_inj hl hqy]; exact hy⟩, ⟨z'', ?_, ⟨v1, v2, ?_⟩, ?_, ?_⟩, fun c hcm => ?_⟩
    · exact (sb.2 _ D.TIz).trans (hk _ _ D.TIz D.TITO D.TIi1 D.TIi2 hTI)
    · exact (sb.2 _ D.TOz).trans TO'
    · exact h1'.1.at fun o q => (sb.2 _ D.i1z).trans q
    · exact h2'.1.at fun o q => (sb.2 _ D.i2z).trans q
    · have hlt : c < s.heap.objs.size := by
        have e' : c = z ∨ c = TI ∨ c = TO ∨ c = i1 ∨ c = i2 := by simpa using hcm
        rcases e' with q | q | q | q | q
        · rw [q]; exact hzl
        · rw [q]; exact Heap.lt_size hTI
        · rw [q]; exact Heap.lt_size hTO
        · rw [q]; obtain ⟨_, e1, _⟩ := h1; exact Heap.lt_size e1
        · rw [q]; obtain ⟨_, e2, _⟩ := h2; exact Heap.lt_size e2
      rw [upd_ne (Nat.ne_of_lt hlt)]
      exact (hf c hcm).1
  done := by
    intro X hP hw hK hc i pins s σ H E I hf st hg
    subst hP hw hK
    obtain ⟨hz, hTI, ⟨x0, y0, hTO⟩, h1, h2⟩ := st
    obtain ⟨xs, ys, hqx, hqy, e1, e2⟩ := hg
    obtain ⟨its, rv, p, _⟩ := I.list hqx
    obtain ⟨its2, rv2, p2, _⟩ := I.tuple hqy
    have l1 := rv.length
    have l2 := rv2.length
    have hh : X.A.in1.handled = none := I.ok.hd hc
    have n1 : i = its.toArray.size := by rw [List.size_toArray]; omega
    have n2 : i = its2.toArray.size := by rw [List.size_toArray]; omega
    exact wpAny_pyNext_zipD2_end (zipM_sep D) (Draws.list hh i1 a D.l1i1 its.toArray) (Draws.tuple hh i2 b D.l2i2 its2.toArray) hz hTI hTO ⟨h1, p.isList⟩ ⟨h2, p2⟩ (Nat.le_of_eq n1) (Nat.le_of_eq n2) (.inl n1) fun h' tk hk => ⟨rfl, I.turnedL (t' := tk) (ch := [z, TI, TO, i1, i2]) (fun c o hb q =>
      hk c o (fun q' => hb (by simp [q'])) (fun q' => hb (by simp [q'])) (fun q' => hb (by simp [q'])) (fun q' => hb (by simp [q'])) q) hf⟩
  self := fun A i s Q E st h => wpAny_pyIter_zip st.1 h
def iZipM (K : PySem.W.Frag) (ta : TA) : L2.TI := fun σ H R => ta σ H fun vs H1 => ∃ a b, vs = [.ref a, .ref b] ∧ ∃ xs, SqL K H1 a xs ∧ ∃ ys, SqT K H1 b ys ∧ R (ItzM K a b) H1
theorem pi_zipM {X : Cx} {e e2 : Expr} {ta : TA} {p pos tpos : Pos} {elts : List Expr} {kk : Nat} (hg : Gl X "zip") (hm : X.mg "zip" = none) (ha : PA X [e, e2] ta)
    (hs : starEach [e, e2] X.env = (false, eval e X.env) :: starEach [e2] X.env := by rfl) (hpl : (backTo pos (starEach [e2] X.env)).any (·.1) = false := by rfl) :
    PI X (.Tuple elts kk tpos) (.Call (.Name "zip" p) [e, e2] [] pos) (iZipM X.K ta) := by
  refine ⟨fun pins s σ H R I h => ?_⟩
  refine Call_ (ld_blt I hg hm PyProof.Rows.boot_zip (PyProof.Rows.callWith_type1 (thn (ha.run pos pins s σ H _ I h) fun us s1 ⟨vs, H1, I1, r1, q1⟩ => ?_) hs hpl))
  obtain ⟨a, b, ex, xs, hqx, ys, hqy, q⟩ := q1
  subst ex
  obtain ⟨u1, u2, rfl, r, r'⟩ := vals2 r1
  cases r
  cases r'
  have fresh5 : ∀ c, c ∈ [s1.heap.objs.size + 4, s1.heap.objs.size + 2, s1.heap.objs.size + 3, s1.heap.objs.size, s1.heap.objs.size + 1] → FpOk X pins H1 c := fun c hcm => by
    have hle : s1.heap.objs.size ≤ c := by
      have e' : c = s1.heap.objs.size + 4 ∨ c = s1.heap.objs.size + 2 ∨ c = s1.heap.objs.size + 3 ∨ c = s1.heap.objs.size ∨ c = s1.heap.objs.size + 1 := by simpa using hcm
      rcases e' with z | z | z | z | z <;> rw [z]
      · exact Nat.le_add_right _ _
      · exact Nat.le_add_right _ _
      · exact Nat.le_add_right _ _
      · exact Nat.le_refl _
      · exact Nat.le_add_right _ _
    exact I1.fpOk hle (I1.hok.fresh hle)
  obtain ⟨its, rv, p1, _⟩ := I1.list hqx
  obtain ⟨its2, rv2, p2, _⟩ := I1.tuple hqy
  obtain ⟨o2, ho2, _⟩ := id p2
  refine zip_begins2 (begins_list a its.toArray) (begins_tuple b its2.toArray) p1.isList p2 fun h' hz hTI hTO g1 g2 hsz hk => wpAny_pyIter_zip hz ?_
  have I2 : Inv X pins σ H1 { s1 with heap := h' } := I1.kept (t' := s1.toks) hk
  exact ⟨s1.heap.objs.size + 4, [s1.heap.objs.size + 4, s1.heap.objs.size + 2, s1.heap.objs.size + 3, s1.heap.objs.size, s1.heap.objs.size + 1], _, _, H1, rfl, I2, turn_zipM (PySem.W.ktu_apart s1.heap.objs.size a b p1.lt (Heap.lt_size ho2)), ⟨hz, hTI, ⟨_, _, hTO⟩, ⟨_, g1, rfl, rfl⟩, ⟨_, g2, rfl, rfl⟩⟩, fresh5, q⟩
theorem gives_zipM {a b : Addr} {xs ys : List V} (hl : xs.length = ys.length) : Gives (ItzM K a b) xs.length (fun H => SqL K H a xs ∧ SqT K H b ys) (PY fun i x y => xs[i]? = some x ∧ ys[i]? = some y) where
  go := fun i H lt f => ⟨xs, ys, xs[i], ys[i]'(hl ▸ lt), f.1, f.2, by simp [lt], by simp [hl ▸ lt]⟩
  yld := fun i H v H' lt f y => by
    obtain ⟨t, x, y, e1, e2, e3, e4, e5⟩ := y
    exact ⟨t, x, y, e1, e2, e3, e4 xs f.1, e5 ys f.2⟩
  stop := fun H f => ⟨xs, ys, f.1, f.2, rfl, hl.symm⟩
end
section
variable {σ : L2.St} {H : Hp} {Q : VK} {P : Program} {w : World} {K : PySem.W.Frag}
theorem ap_dictKP {vs : List V} : rDictKP P w K vs H Q = ∃ a, vs = [.ref a] ∧ ∃ l, PairsKt K H a l ∧ (l.map (·.1)).Nodup ∧ l.length ≤ 1000 ∧ ∀ p H', Same H H' → DictP P w K H' p l → Q (.ref p) H' := rfl
theorem ap_neDP {x y : V} : rNeDP P w K x y H Q = ∃ a b, x = .ref a ∧ y = .ref b ∧ ∃ l, DictP P w K H a l ∧ H b = some (.dT (dtOf l)) ∧ Q (.bl false) H := rfl
theorem ap_itemsT {td : TE} {R : It → Hp → Prop} : iItemsT td σ H R = td σ H fun x H1 => ∃ d o kvs, x = .ref d ∧ H1 d = some (.frz o (.dT kvs)) ∧ R (Itit d o kvs) H1 := rfl
theorem ap_zipM {ta : TA} {R : It → Hp → Prop} : iZipM K ta σ H R = ta σ H fun vs H1 => ∃ a b, vs = [.ref a, .ref b] ∧ ∃ xs, SqL K H1 a xs ∧ ∃ ys, SqT K H1 b ys ∧ R (ItzM K a b) H1 := rfl
theorem ap_dget2 {td ty tx : TE} : tDGet2 td ty tx σ H Q = td σ H fun x H1 => ∃ a, x = .ref a ∧ IsD H1 a ∧ ty σ H1 fun y H2 => tx σ H2 fun z H3 => ∃ o, DGet H3 a y o ∧ Q (o.getD z) H3 := rfl
theorem ap_dput {td ty tv : TE} {D : Ends} : sDPut td ty tv D σ H = tv σ H fun v H1 => td σ H1 fun x H2 => ty σ H2 fun y H3 => ∃ a H4, x = .ref a ∧ DPut H3 a y v H4 ∧ D.nx σ H4 := rfl
theorem ap_dnewT : tDNewT σ H Q = ∀ p, H p = none → Q (.ref p) (upd H p (.dT [])) := rfl
theorem ap_lockS {t : TS} {D : Ends} : tLock t D σ H = ∃ d u, H d = some u ∧ Mut (some u) ∧ ∀ od, t ⟨fun σ' H' => H' d = some (.frz od u) ∧ D.nx σ' (upd H' d u), fun v H' => H' d = some (.frz od u) ∧ D.rt v (upd H' d u), fun σ' H' => H' d = some (.frz od u) ∧ D.bk σ' (upd H' d u), fun σ' H' => H' d = some (.frz od u) ∧ D.ct σ' (upd H' d u)⟩ σ (upd H d (.frz od u)) := rfl
theorem ap_lockE {t : TE} : tLockE t σ H Q = ∃ d u, H d = some u ∧ Mut (some u) ∧ ∀ od, t σ (upd H d (.frz od u)) fun v H' => H' d = some (.frz od u) ∧ Q v (upd H' d u) := rfl
end
end Pr

namespace Pr
open PySem PySem.Spec PyProof.Rows L2
/-! a set of up to 102 unequal tuples of whole numbers: how many they are -/
def Mk (m : Nat) : Prop := m = 7 ∨ m = 31 ∨ m = 127 ∨ m = 511
def turn511 : List Nat := [0, 1, 326, 495, 412, 365, 2, 379, 376, 281, 254, 327, 404, 261, 58, 339, 496, 305, 438, 415, 140, 413, 370, 43, 360, 73, 366, 247, 132, 309, 426, 3, 480, 97, 38, 335, 380, 461, 226, 219, 344, 377, 478, 167, 372, 357, 282, 179, 464, 401, 150, 255, 108, 509, 82, 395, 328, 169, 78, 87, 100, 405, 138, 355, 448, 193, 262, 175, 348, 45, 450, 59, 312, 473, 190, 7, 340, 453, 506, 19, 432, 497, 374, 95, 76, 93, 306, 235, 296, 265, 302, 439, 68, 501, 362, 195, 416, 289, 486, 15, 316, 141, 162, 411, 280, 57, 414, 359, 308, 37, 218, 371, 400, 81, 86, 447, 44, 189, 18, 75, 264, 361, 14, 279, 36, 85, 74, 35, 384, 385, 198, 367, 284, 237, 386, 251, 248, 153, 126, 199, 276, 133, 442, 211, 368, 177, 310, 287, 12, 285, 242, 427, 232, 457, 238, 119, 4, 181, 298, 387, 352, 481, 422, 207, 252, 333, 98, 91, 216, 249, 350, 39, 244, 229, 154, 51, 336, 273, 22, 127, 492, 381, 466, 267, 200, 41, 462, 471, 484, 277, 10, 227, 320, 65, 134, 47, 220, 429, 322, 443, 184, 345, 62, 391, 212, 325, 378, 403, 304, 369, 246, 479, 460, 477, 178, 107, 168, 137, 174, 311, 452, 373, 234, 67, 288, 161, 358, 399, 188, 13, 34, 283, 152, 441, 286, 231, 180, 421, 90, 243, 272, 465, 470, 319, 428, 61, 402, 459, 136, 233, 398, 151, 420, 469, 458, 419, 256, 257, 70, 239, 156, 109, 258, 123, 120, 25, 510, 71, 148, 5, 314, 83, 240, 49, 182, 159, 396, 157, 114, 299, 104, 329, 110, 503, 388, 53, 170, 259, 224, 353, 294, 79, 124, 205, 482, 475, 88, 121, 222, 423, 116, 101, 26, 435, 208, 145, 406, 511, 364, 253, 338, 139, 72, 425, 334, 343, 356, 149, 394, 99, 192, 449, 6, 431, 92, 301, 194, 315, 56, 217, 446, 263, 84, 197, 250, 275, 176, 241, 118, 351, 332, 349, 50, 491, 40, 9, 46, 183, 324, 245, 106, 451, 160, 33, 230, 271, 60, 397, 418, 155, 24, 313, 158, 103, 52, 293, 474, 115, 144, 337, 342, 191, 300, 445, 274, 331, 8, 105, 270, 23, 292, 341, 330, 291, 128, 129, 454, 111, 28, 493, 130, 507, 504, 409, 382, 455, 20, 389, 186, 467, 112, 433, 54, 31, 268, 29, 498, 171, 488, 201, 494, 375, 260, 437, 42, 131, 96, 225, 166, 463, 508, 77, 354, 347, 472, 505, 94, 295, 500, 485, 410, 307, 80, 17, 278, 383, 236, 125, 210, 11, 456, 297, 206, 215, 228, 21, 266, 483, 64, 321, 390, 303, 476, 173, 66, 187, 440, 89, 318, 135, 468, 69, 122, 147, 48, 113, 502, 223, 204, 221, 434, 363, 424, 393, 430, 55, 196, 117, 490, 323, 32, 417, 102, 143, 444, 269, 290, 27, 408, 185, 30, 487, 436, 165, 346, 499, 16, 209, 214, 63, 172, 317, 146, 203, 392, 489, 142, 407, 164, 213, 202, 163]
theorem turn_ok : ((List.range 512).all fun j => decide (turn511.getD j 0 ≤ 511) && (lcgN 511 (turn511.getD j 0) == j)) = true := by decide +kernel
theorem mk_at {m : Nat} (hm : Mk m) {j : Nat} (hj : j ≤ m) : ∃ b, b ≤ m ∧ lcgN m b = j := by
  rcases hm with e | e | e | e
  · exact lcg_all (.inl e) hj
  · exact lcg_all (.inr (.inl e)) hj
  · exact lcg_all (.inr (.inr e)) hj
  · subst e
    have h := List.all_eq_true.mp turn_ok j (List.mem_range.mpr (by omega))
    simp only [Bool.and_eq_true, decide_eq_true_eq, beq_iff_eq] at h
    exact ⟨_, h.1, h.2⟩
theorem mk_round {m : Nat} (hm : Mk m) : lcgN m (m + 1) = 0 := by
  rcases hm with e | e | e | e
  · exact lcg_round (.inl e)
  · exact lcg_round (.inr (.inl e))
  · exact lcg_round (.inr (.inr e))
  · subst e
    decide +kernel
theorem mk_more {m : Nat} (hm : Mk m) : ∀ k, lcgN m (m + 1 + k) = lcgN m k
  | 0 => mk_round hm
  | k + 1 => by
    show (lcgN m (m + 1 + k) * 5 + 1) % (m + 1) = (lcgN m k * 5 + 1) % (m + 1)
    rw [mk_more hm k]
/-- each slot begins a run early enough -/
theorem mk_runs {m : Nat} (hm : Mk m) (h : Int) {j : Nat} (hj : j ≤ m) : ∃ n, n ≤ m + 12 ∧ runI m (SetTable.bits h) n = j := by
  obtain ⟨a, ha, ea⟩ := mk_at hm (runI_le m (SetTable.bits h) 12)
  obtain ⟨b, hb, eb⟩ := mk_at hm hj
  have go : ∃ k, k ≤ m ∧ lcgI m (runI m (SetTable.bits h) 12) k = j := by
    rw [← ea]
    by_cases c : b < a
    · refine ⟨b + (m + 1) - a, by omega, ?_⟩
      rw [lcgN_add, show a + (b + (m + 1) - a) = m + 1 + b by omega, mk_more hm, eb]
    · refine ⟨b - a, by omega, ?_⟩
      rw [lcgN_add, show a + (b - a) = b by omega, eb]
  obtain ⟨k, hk, e⟩ := go
  exact ⟨12 + k, by omega, by rw [runI_tail (bits_lt h)]; exact e⟩
theorem way_in (m : Nat) (h : Int) (k : Nat) : way m h k ≤ m := by
  have := nth_in (m := m) k (runAt m (SetTable.bits h % (m + 1)) (SetTable.bits h)) (by
    have h1 : SetTable.bits h % (m + 1) ≤ m := Nat.le_of_lt_succ (Nat.mod_lt _ (Nat.succ_pos _))
    have h2 := runEnd_bd h1
    show SetTable.bits h % (m + 1) + (SetTable.runEnd m (SetTable.bits h % (m + 1)) - SetTable.bits h % (m + 1)) ≤ m
    omega)
  show (nth m _ k).j ≤ m
  omega
/-- the first empty slot on the way -/
theorem mk_first {m : Nat} (hm : Mk m) {l : List Nat} (hl : l.length ≤ m) (h : Int) : ∃ K, K < 10 * SetTable.turns m ∧ way m h K ∉ l ∧ ∀ k, k < K → way m h k ∈ l := by
  obtain ⟨j, hj, hn⟩ := st_missing l (m + 1) (by omega)
  obtain ⟨n, hn1, e⟩ := mk_runs hm h (Nat.le_of_lt_succ hj)
  obtain ⟨k, hk, e2⟩ := run_nth m (SetTable.bits h) n
  have ew : way m h k = j := by
    show (nth m _ k).j = j
    rw [e2]
    exact e
  obtain ⟨K, h1, h2, h3⟩ := st_least (p := fun k => way m h k ∉ l) k (by show way m h k ∉ l; rw [ew]; exact hn)
  exact ⟨K, by unfold SetTable.turns; omega, h2, fun k' hk' => Classical.byContradiction fun c => h3 k' hk' c⟩
/-- a slot for one more, as laying anew finds it -/
theorem mk_free {m : Nat} (hm : Mk m) (owner : Array (Option Nat)) (h : Int) {j : Nat} (hj : j ≤ m) (hf : oAt owner j = none) :
    ∃ K, SetTable.layClean.free m owner (SetTable.turns m) (SetTable.bits h % (m + 1)) (SetTable.bits h) = some (way m h K) ∧ oAt owner (way m h K) = none := by
  obtain ⟨n, hn, e⟩ := mk_runs hm h hj
  have hw : way m h (off m (SetTable.bits h % (m + 1)) (SetTable.bits h) n) = j := by
    show (nth m (runAt m (SetTable.bits h % (m + 1)) (SetTable.bits h)) (off m (SetTable.bits h % (m + 1)) (SetTable.bits h) n)).j = j
    rw [nth_off, itL_run]
    exact e
  obtain ⟨K, k1, k2, k3⟩ := st_least (p := fun k => oAt owner (way m h k) = none) _ (show oAt owner (way m h (off m (SetTable.bits h % (m + 1)) (SetTable.bits h) n)) = none by rw [hw]; exact hf)
  refine ⟨K, free_spec m owner (SetTable.turns m) n _ _ K (by unfold SetTable.turns; omega) k1 (fun k hk => ?_) ?_, k2⟩
  · have q := k3 k hk
    show (oAt owner (way m h k)).isNone = false
    cases z : oAt owner (way m h k) with
    | none => exact absurd z q
    | some _ => rfl
  · show (oAt owner (way m h K)).isNone = true
    rw [k2]
    rfl
/-- so many have a place -/
structure Pl (m n : Nat) (owner : Array (Option Nat)) : Prop where
  sz : owner.size = m + 1
  lt : ∀ j k, j ≤ m → oAt owner j = some k → k < n
  all : ∀ k, k < n → ∃ j, j ≤ m ∧ oAt owner j = some k
  ps : ∃ ps : List Nat, ps.length = n ∧ ∀ j, j ≤ m → oAt owner j ≠ none → j ∈ ps
theorem pl_zero (m : Nat) : Pl m 0 (Array.replicate (m + 1) none) where
  sz := by simp
  lt := fun j k hj e => by
    rw [oAt_init hj] at e
    cases e
  all := fun k hk => absurd hk (Nat.not_lt_zero _)
  ps := ⟨[], rfl, fun j hj e => absurd (oAt_init hj) e⟩
theorem pl_next {m n : Nat} (hm : Mk m) {owner : Array (Option Nat)} (W : Pl m n owner) (hl : n ≤ m) (h : Int) :
    ∃ j, SetTable.layClean.free m owner (SetTable.turns m) (SetTable.bits h % (m + 1)) (SetTable.bits h) = some j ∧ Pl m (n + 1) (owner.setIfInBounds j (some n)) := by
  obtain ⟨ps, hps, hin⟩ := W.ps
  obtain ⟨j0, h0, hn0⟩ := st_missing ps (m + 1) (by omega)
  have hj0 : oAt owner j0 = none := Classical.byContradiction fun c => hn0 (hin j0 (by omega) c)
  obtain ⟨K, e1, e2⟩ := mk_free hm owner h (by omega) hj0
  have hjm := way_in m h K
  have hself := oAt_set_self (some n) (show way m h K < owner.size by rw [W.sz]; omega)
  refine ⟨way m h K, e1, by rw [Array.size_setIfInBounds]; exact W.sz, fun j k hj e => ?_, fun k hk => ?_, way m h K :: ps, by rw [List.length_cons, hps], fun j hj e => ?_⟩
  · by_cases c : j = way m h K
    · rw [c, hself] at e
      have := Option.some.inj e
      omega
    · rw [oAt_set_ne _ c] at e
      have := W.lt j k hj e
      omega
  · by_cases c : k < n
    · obtain ⟨j, hj, e⟩ := W.all k c
      exact ⟨j, hj, by rw [oAt_set_ne _ (fun z => by rw [z, e2] at e; cases e)]; exact e⟩
    · exact ⟨way m h K, hjm, by rw [show k = n by omega]; exact hself⟩
  · by_cases c : j = way m h K
    · rw [c]
      exact List.mem_cons_self
    · rw [oAt_set_ne _ c] at e
      exact List.mem_cons_of_mem _ (hin j hj e)
theorem pl_fold {m : Nat} (hm : Mk m) : ∀ (rest : List Int) (n : Nat) (owner : Array (Option Nat)), Pl m n owner → n + rest.length ≤ m →
    ∃ owner', rest.foldl (stepF m) (some (owner, n)) = some (owner', n + rest.length) ∧ Pl m (n + rest.length) owner'
  | [], n, owner, W, _ => ⟨owner, rfl, W⟩
  | h :: rest, n, owner, W, hl => by
    rw [List.length_cons] at hl ⊢
    obtain ⟨j, e, W'⟩ := pl_next hm W (by omega) h
    obtain ⟨owner', f, W2⟩ := pl_fold hm rest (n + 1) _ W' (by omega)
    rw [show n + 1 + rest.length = n + (rest.length + 1) by omega] at f W2
    refine ⟨owner', ?_, W2⟩
    rw [List.foldl_cons, stepF_some e]
    exact f
/-- laid anew -/
theorem mk_relaid (t : SetTable) {hs : Array Int} {wanted M : Nat} (hw : SetTable.sizeAbove wanted - 1 = M) (hM : Mk M) (hn : hs.size ≤ M) :
    ∃ t' order, t.relaid hs wanted = some (t', order) ∧ order.size = hs.size ∧ (∀ i ∈ order.toList, i < hs.size) ∧ t'.place.size = hs.size ∧ Ris t'.place.toList ∧ t'.mask = M ∧ t'.led = t.led ∧ t'.plain = t.plain ∧ t'.dummies = #[] := by
  obtain ⟨owner, f, W⟩ := pl_fold hM hs.toList 0 _ (pl_zero M) (by rw [Array.length_toList]; omega)
  have e : SetTable.layClean M hs = some owner := by
    rw [layClean_eq, f]
    rfl
  rw [Nat.zero_add, Array.length_toList] at W
  have ris := ris_live (fun j => owner.getD j none) (List.range (M + 1)) (by
    unfold Ris
    first | exact List.pairwise_lt_range | exact List.pairwise_lt_range _)
  have r1 : Ris ((liveOf M owner).map (·.1)) := ris.1
  have hlen : (liveOf M owner).length = hs.size := by
    obtain ⟨ps, p1, p2⟩ := W.ps
    have nd : ((liveOf M owner).map (·.1)).Nodup := List.Pairwise.imp (fun h => Nat.ne_of_lt h) r1
    have a := nat_nodup_len ((liveOf M owner).map (·.1)) ps nd fun x hx => by
      obtain ⟨⟨y, k⟩, hq, rfl⟩ := List.mem_map.mp hx
      obtain ⟨b1, b2⟩ := (mem_live W.sz).1 hq
      exact p2 y b1 (by rw [b2]; exact fun z => nomatch z)
    have b := nat_nodup_len (List.range hs.size) ((liveOf M owner).map (·.2)) List.nodup_range fun k hk => by
      obtain ⟨j, b1, b2⟩ := W.all k (List.mem_range.mp hk)
      exact List.mem_map.mpr ⟨(j, k), (mem_live W.sz).2 ⟨b1, b2⟩, rfl⟩
    rw [List.length_map, p1] at a
    rw [List.length_map, List.length_range] at b
    omega
  refine ⟨tabOf t M owner, ((liveOf M owner).map (·.2)).toArray, by rw [relaid_eq, hw, e]; rfl, by rw [List.size_toArray, List.length_map, hlen], fun i hi => ?_, ?_, r1, rfl, rfl, rfl, rfl⟩
  · have hi' : i ∈ (liveOf M owner).map (·.2) := hi
    obtain ⟨⟨j, k⟩, hq, rfl⟩ := List.mem_map.mp hi'
    obtain ⟨b1, b2⟩ := (mem_live W.sz).1 hq
    exact W.lt j k b1 b2
  · show ((liveOf M owner).map (·.1)).toArray.size = hs.size
    rw [List.size_toArray, List.length_map, hlen]
theorem picks (es : Array (Int × Value)) : ∀ l : List Nat, (∀ i ∈ l, i < es.size) → (l.filterMap (fun i => es[i]?)).length = l.length ∧ ∀ e ∈ l.filterMap (fun i => es[i]?), e ∈ es.toList
  | [], _ => ⟨rfl, fun e h => by cases h⟩
  | i :: l, h => by
    have hi := h i List.mem_cons_self
    obtain ⟨h1, h2⟩ := picks es l fun j hj => h j (List.mem_cons_of_mem _ hj)
    have e : es[i]? = some es[i] := Array.getElem?_eq_getElem hi
    rw [List.filterMap_cons_some e]
    refine ⟨by rw [List.length_cons, List.length_cons, h1], fun x hx => ?_⟩
    rcases List.mem_cons.mp hx with rfl | hx
    · exact Array.getElem_mem_toList _
    · exact h2 x hx
section
variable {P : Program} {w : World} {A : Around} {E : Value → Shared → Prop} {s : Shared}
/-- the set of the tuples ks, all unequal -/
structure SR (P : Program) (w : World) (D : Addr → Prop) (h : Heap) (a : Addr) (ks : List (List Int)) (es : Array (Int × Value)) (ep : Nat) (t : SetTable) : Prop where
  ob : ∃ o, h.get? a = some o ∧ o.ExactSet ∧ o.data = .set es ep t
  n : es.size = ks.length
  ent : ∀ e ∈ es.toList, ∃ k b, k ∈ ks ∧ e = (thash P w k, Value.ref b) ∧ IsT P w h k b ∧ D b
  sz : t.place.size = ks.length
  dm : t.dummies = #[]
  ris : Ris t.place.toList
  mok : Mk t.mask
  plain : t.plain = true
  led : w.params.followText "set-order" = true ∨ t.led = true
  room : ks.length * 5 < t.mask * 3
variable {D : Addr → Prop} {a : Addr} {ks : List (List Int)} {es : Array (Int × Value)} {ep : Nat} {t : SetTable}
theorem mk_odd {m : Nat} (h : Mk m) : m % 2 = 1 := by
  rcases h with e | e | e | e <;> subst e <;> rfl
theorem fits_of {n : Nat} (sz : t.place.size = n) (dm : t.dummies = #[]) (h : n ≤ t.mask) : t.fits n = true := by
  unfold SetTable.fits SetTable.fill
  rw [dm, Bool.and_eq_true, beq_iff_eq, decide_eq_true_eq]
  show t.place.size = n ∧ t.place.size + 0 ≤ t.mask
  omega
theorem SR.fits (R : SR P w D s.heap a ks es ep t) : t.fits es.size = true := by
  have h3 := R.room
  have h2 := R.n
  exact fits_of (by rw [R.sz, R.n]) R.dm (by omega)
theorem SR.keep {h h' : Heap} (R : SR P w D h a ks es ep t) (k : ∀ o, h.get? a = some o → h'.get? a = some o) (kd : ∀ b o, D b → h.get? b = some o → h'.get? b = some o) : SR P w D h' a ks es ep t := by
  obtain ⟨o, ho, r⟩ := R.ob
  exact ⟨⟨o, k _ ho, r⟩, R.n, fun e he => let ⟨k', b, a1, a2, ⟨o', its, n, g1, g⟩, a4⟩ := R.ent e he; ⟨k', b, a1, a2, ⟨o', its, n, kd _ _ a4 g1, g⟩, a4⟩, R.sz, R.dm, R.ris, R.mok, R.plain, R.led, R.room⟩
/-- the search for what is not in it -/
theorem SR.look (R : SR P w D s.heap a ks es ep t) {x : Addr} {k : List Int} (hx : IsT P w s.heap k x) (hk : k ∉ ks) (hu : A.units < cLine) {K : Nat} (hKf : K < 10 * SetTable.turns t.mask)
    (hK : way t.mask (thash P w k) K ∉ t.place.toList) (hKb : ∀ c, c < K → way t.mask (thash P w k) c ∈ t.place.toList) {Q : SetFound → Shared → Prop} (hq : Q (.free (way t.mask (thash P w k) K) false) s) :
    ∀ (f c : Nat) (stand : Option SetTable.Probe), stand.getD (t.probeStart (thash P w k)) = nth t.mask (runAt t.mask (SetTable.bits (thash P w k) % (t.mask + 1)) (SetTable.bits (thash P w k))) c → c ≤ K → K - c < f →
      wpAny (model P w) A (setSearchFrom a (.ref x) (thash P w k) true f stand) Q E s
  | 0, c, stand, _, _, hf => absurd hf (Nat.not_lt_zero _)
  | f + 1, c, stand, hst, hc, hf => by
    obtain ⟨o, ho, hex, hd⟩ := R.ob
    rw [setSearchFrom_succ]
    refine wpAny_bind (wpAny_setState_of ho hd R.fits ?_)
    dsimp only
    refine wp_if_neg (by unfold SetTable.gaveWay; rw [mk_odd R.mok]; decide) ?_
    try refine wpAny_bind (wpAny_pure ?_)
    have nd : ∀ (n : Nat) (p : SetTable.Probe), p.dummy = none → (nth t.mask p n).dummy = none := by
      intro n
      induction n with
      | zero => intro p h; exact h
      | succ n ih =>
        intro p h
        refine ih (adv t.mask p) ?_
        unfold adv
        split <;> exact h
    have sh : ∀ q, nth t.mask (nth t.mask (runAt t.mask (SetTable.bits (thash P w k) % (t.mask + 1)) (SetTable.bits (thash P w k))) c) q = nth t.mask (runAt t.mask (SetTable.bits (thash P w k) % (t.mask + 1)) (SetTable.bits (thash P w k))) (c + q) := fun q => (nth_add t.mask c _ q).symm
    have e1 : ∀ q, (nth t.mask (nth t.mask (runAt t.mask (SetTable.bits (thash P w k) % (t.mask + 1)) (SetTable.bits (thash P w k))) c) q).j = way t.mask (thash P w k) (c + q) := fun q => congrArg SetTable.Probe.j (sh q)
    have spec := go_spec t R.ris R.dm (fun i => (es[i]?.map (·.1)).getD 0) (thash P w k) (10 * SetTable.turns t.mask) (K - c) _ (nd c _ rfl) (by omega)
      (fun q hq => by rw [e1]; exact hKb (c + q) (by omega)) (by rw [e1, show c + (K - c) = K by omega]; exact hK)
    rcases spec with ⟨q, i, hq', hi, _, _, hpr⟩ | ⟨_, hpr⟩
    · have hpr' : t.probe (fun i => (es[i]?.map (·.1)).getD 0) (thash P w k) (stand.getD (t.probeStart (thash P w k))) = some (.candidate (way t.mask (thash P w k) (c + q)) i (nth t.mask (runAt t.mask (SetTable.bits (thash P w k) % (t.mask + 1)) (SetTable.bits (thash P w k))) (c + (q + 1)))) := by
        rw [hst, ← e1, ← sh]
        exact hpr
      rw [hpr']
      dsimp only
      rw [e1] at hi
      have hil : i < es.size := by
        have h1 : i < t.place.toList.length := (List.getElem?_eq_some_iff.mp hi).1
        rw [Array.length_toList, R.sz] at h1
        rw [R.n]
        exact h1
      have hei : es[i]? = some es[i] := Array.getElem?_eq_getElem hil
      obtain ⟨k', b, hk', ee, hb, _⟩ := R.ent es[i] (Array.getElem_mem_toList _)
      rw [ee] at hei
      have hne : k' ≠ k := fun z => hk (z ▸ hk')
      have rest : wpAny (model P w) A (searchRest a (.ref x) (thash P w k) true f es t (way t.mask (thash P w k) (c + q)) i (nth t.mask (runAt t.mask (SetTable.bits (thash P w k) % (t.mask + 1)) (SetTable.bits (thash P w k))) (c + (q + 1)))) Q E s := by
        unfold searchRest
        rw [hei]
        dsimp only
        refine wpAny_bind (wpAny_holding (wpAny_eqBool_tuple hu hb hx ?_))
        refine wpAny_bind (wpAny_setState_of ho hd R.fits ?_)
        dsimp only
        refine wp_if_neg (by simp [hne]) ?_
        try refine wpAny_bind (wpAny_pure ?_)
        rw [sameMem]
        dsimp only
        have hsl : t.slot (way t.mask (thash P w k) (c + q)) = .live i := slot_live R.ris hi
        simp only [if_true, hsl, hei]
        refine wpAny_bind (wpAny_isSame_ref_self (wpAny_bind (wpAny_pure ?_)))
        simp only [if_true]
        refine wp_if_neg (by simp [hne]) ?_
        exact SR.look R hx hk hu hKf hK hKb hq f (c + (q + 1)) _ rfl (by omega) (by omega)
      by_cases hl : t.led = true
      · refine wp_if_neg (by simp [hl]) ?_
        try refine wpAny_bind (wpAny_pure ?_)
        exact rest
      · refine wp_if_pos (by simp [hl]) ?_
        refine wpAny_bind (seen_tup hx (fun y hy => ?_) ?_)
        · obtain ⟨e, he, rfl⟩ := List.mem_map.mp hy
          have he1 : e ∈ es ∧ e.1 = thash P w k := by simpa using he
          obtain ⟨k2, b2, _, e2, hb2, _⟩ := R.ent e (by simpa using he1.1)
          exact ⟨k2, b2, by rw [e2], hb2⟩
        · refine wp_if_neg (by decide) ?_
          try refine wpAny_bind (wpAny_pure ?_)
          exact rest
    · have hpr' : t.probe (fun i => (es[i]?.map (·.1)).getD 0) (thash P w k) (stand.getD (t.probeStart (thash P w k))) = some (.empty (way t.mask (thash P w k) K) none) := by
        have e2 : way t.mask (thash P w k) K = (nth t.mask (nth t.mask (runAt t.mask (SetTable.bits (thash P w k) % (t.mask + 1)) (SetTable.bits (thash P w k))) c) (K - c)).j := by
          rw [e1, show c + (K - c) = K by omega]
        rw [hst, e2]
        exact hpr
      rw [hpr']
      dsimp only
      exact wpAny_pure hq
/-- the table laid anew -/
theorem sr_relay {o : Obj} (ho : s.heap.get? a = some o) (hex : o.ExactSet) (hd : o.data = .set es ep t) (hn : es.size = ks.length) (ent : ∀ e ∈ es.toList, ∃ k b, k ∈ ks ∧ e = (thash P w k, Value.ref b) ∧ IsT P w s.heap k b ∧ D b)
    (sz : t.place.size = ks.length) (dm : t.dummies = #[]) (hfl : ks.length ≤ t.mask) (pl : t.plain = true) (ld : w.params.followText "set-order" = true ∨ t.led = true) {wanted M : Nat}
    (hw : SetTable.sizeAbove wanted - 1 = M) (hM : Mk M) (hw2 : SetTable.sizeAbove wanted ≤ 512) (h102 : ks.length ≤ 1000) (hr : ks.length * 5 < M * 3) {Q : Unit → Shared → Prop}
    (hQ : ∀ h' es' ep' t', Heap.SameBut a s.heap h' → SR P w D h' a ks es' ep' t' → Q () { s with heap := h' }) : wpAny (model P w) A (setRelay a wanted) Q E s := by
  obtain ⟨t', order, e, o1, o2, p1, p2, em, el, ep', ed⟩ := mk_relaid t (hs := es.map (·.1)) (wanted := wanted) hw hM (by rw [Array.size_map, hn]; omega)
  rw [Array.size_map] at o1 p1
  have o2' : ∀ i ∈ order.toList, i < es.size := fun i hi => by
    have := o2 i hi
    rw [Array.size_map] at this
    exact this
  obtain ⟨f1, f2⟩ := picks es order.toList o2'
  have tl : (order.filterMap (es[·]?)).toList = order.toList.filterMap (fun i => es[i]?) := by first | exact Array.toList_filterMap .. | simp
  have hs2 : (order.filterMap (es[·]?)).size = es.size := by
    rw [← Array.length_toList, tl, f1, Array.length_toList, o1]
  rw [setRelay_eq]
  refine wpAny_bind (wpAny_setState_of ho hd (fits_of (by rw [sz, hn]) dm (by rw [hn]; exact hfl)) ?_)
  dsimp only
  refine wp_if_neg (by rw [sizeLine_eq]; omega) ?_
  try refine wpAny_bind (wpAny_pure ?_)
  rw [e]
  dsimp only
  refine wpAny_bind ?_
  refine wp_if_neg (by rw [hs2]; simp) ?_
  try refine wpAny_bind (wpAny_pure ?_)
  refine wpAny_pure ?_
  dsimp only
  refine wpAny_storeSet_of ho hd ?_ (by rw [hs2, hn, sizeLine_eq]; omega)
  have sb : Heap.SameBut a s.heap (s.heap.update a (Obj.putSet (order.filterMap (es[·]?)) t')) := Heap.SameBut.update ..
  refine hQ _ (order.filterMap (es[·]?)) (ep + 1) t' sb ⟨⟨_, store_at ho hd, ⟨hex.1, hex.2.1, hex.2.2⟩, rfl⟩, by rw [hs2, hn], fun x hx => ?_, by rw [p1, hn], ed, p2, by rw [em]; exact hM, by rw [ep']; exact pl, by rw [el]; exact ld, by rw [em]; exact hr⟩
  rw [tl] at hx
  obtain ⟨k, b, a1, a2, a3, a4⟩ := ent x (f2 x hx)
  exact ⟨k, b, a1, a2, isT_same a3 ho hd sb, a4⟩
theorem size_308 : SetTable.sizeAbove (SetTable.grown 77) = 512 := by decide +kernel
/-- one more -/
theorem SR.more (R : SR P w D s.heap a ks es ep t) {x : Addr} {k : List Int} (hx : IsT P w s.heap k x) (hD : D x) (hk : k ∉ ks) (hu : A.units < cLine) (hfew : ks.length < 200) {Q : Bool → Shared → Prop}
    (hQ : ∀ h' es' ep' t', Heap.SameBut a s.heap h' → SR P w D h' a (k :: ks) es' ep' t' → Q true { s with heap := h' }) :
    wpAny (model P w) A (setAddHashed a (.ref x) (thash P w k)) Q E s := by
  obtain ⟨o, ho, hex, hd⟩ := R.ob
  have hn := R.n
  have hroom := R.room
  have lp : t.place.toList.length ≤ t.mask := by
    rw [Array.length_toList, R.sz]
    omega
  obtain ⟨K, hKf, hK, hKb⟩ := mk_first R.mok lp (thash P w k)
  have hbig : K < 100000 := by
    have : 10 * SetTable.turns t.mask ≤ 5260 := by
      unfold SetTable.turns
      rcases R.mok with e | e | e | e <;> omega
    omega
  unfold setAddHashed
  refine wpAny_holding ?_
  rw [show (100000 : Nat) = 99999 + 1 from rfl, setAddHashedIn_succ]
  refine wpAny_bind (wpAny_setState_of ho hd R.fits ?_)
  dsimp only
  refine wp_if_neg (by simp [byScan, Value.scannable]) ?_
  try refine wpAny_bind (wpAny_pure ?_)
  refine wpAny_bind ?_
  unfold setSearch
  refine SR.look R hx hk hu hKf hK hKb ?_ 100000 0 none rfl (Nat.zero_le _) (by omega)
  dsimp only
  refine wpAny_bind (wpAny_setState_of ho hd R.fits ?_)
  dsimp only
  obtain ⟨c1, _, _⟩ := below_cut R.ris (way t.mask (thash P w k) K)
  have hnp : t.place[SetTable.below t.place (way t.mask (thash P w k) K)]? ≠ some (way t.mask (thash P w k) K) := fun e => hK (List.mem_of_getElem? (by rw [Array.getElem?_toList]; exact e))
  have hpp := put_place t (way t.mask (thash P w k) K)
  have hpl : SetTable.below t.place (way t.mask (thash P w k) K) ≤ t.place.toList.length := by rw [Array.length_toList]; exact c1
  have q1 : (t.put (way t.mask (thash P w k) K)).2 = SetTable.below t.place (way t.mask (thash P w k) K) := rfl
  have q2 : (t.put (way t.mask (thash P w k) K)).1.place.size = ks.length + 1 := by
    rw [← Array.length_toList, hpp, len_ins _ hpl, Array.length_toList, R.sz]
  have q3 : Ris (t.put (way t.mask (thash P w k) K)).1.place.toList := ris_insert R.ris hnp
  have q4 : (t.put (way t.mask (thash P w k) K)).1.dummies = #[] := put_dm R.dm _
  have q5 : (t.put (way t.mask (thash P w k) K)).1.mask = t.mask := rfl
  have q6 : (t.put (way t.mask (thash P w k) K)).1.led = t.led := rfl
  have q7 : (t.put (way t.mask (thash P w k) K)).1.plain = true := R.plain
  have q9 : (t.put (way t.mask (thash P w k) K)).1.fill = ks.length + 1 := by
    show (t.put (way t.mask (thash P w k) K)).1.place.size + (t.put (way t.mask (thash P w k) K)).1.dummies.size = ks.length + 1
    rw [q2, q4]
    rfl
  have hp2 : SetTable.below t.place (way t.mask (thash P w k) K) ≤ es.toList.length := by
    rw [Array.length_toList, hn, ← R.sz]
    exact c1
  generalize t.put (way t.mask (thash P w k) K) = pt at q1 q2 q3 q4 q5 q6 q7 q9 ⊢
  obtain ⟨t1, p⟩ := pt
  dsimp only at q1 q2 q3 q4 q5 q6 q7 q9 ⊢
  subst q1
  first
    | (refine wpAny_bind ?_; refine wp_if_pos q7 ?_; refine hashBy_tup hx ?_)
    | refine wp_if_pos q7 (wpAny_bind (hashBy_tup hx ?_))
  simp only [if_true]
  generalize SetTable.below t.place (way t.mask (thash P w k) K) = p at hp2 ⊢
  have hin : (SetTable.insertAt es p (thash P w k, Value.ref x)).toList = es.toList.take p ++ (thash P w k, Value.ref x) :: es.toList.drop p := SetTable.toList_insertAt _ _ _
  have hes : (SetTable.insertAt es p (thash P w k, Value.ref x)).size = ks.length + 1 := by
    rw [← Array.length_toList, hin, len_ins _ hp2, Array.length_toList, hn]
  have hent : ∀ e ∈ (SetTable.insertAt es p (thash P w k, Value.ref x)).toList, ∃ k' b, k' ∈ k :: ks ∧ e = (thash P w k', Value.ref b) ∧ IsT P w s.heap k' b ∧ D b := fun e he => by
    rw [hin] at he
    rcases mem_ins.1 he with rfl | he
    · exact ⟨k, x, List.mem_cons_self, rfl, hx, hD⟩
    · obtain ⟨k', b, a1, a2, a3, a4⟩ := R.ent e he
      exact ⟨k', b, List.mem_cons_of_mem _ a1, a2, a3, a4⟩
  generalize SetTable.insertAt es p (thash P w k, Value.ref x) = es1 at hes hent ⊢
  refine wpAny_bind (wpAny_storeSet_of ho hd ?_ (by rw [hes, sizeLine_eq]; omega))
  have sb : Heap.SameBut a s.heap (s.heap.update a (Obj.putSet es1 t1)) := Heap.SameBut.update ..
  have ho1 := store_at (es' := es1) (t' := t1) ho hd
  generalize s.heap.update a (Obj.putSet es1 t1) = h1 at sb ho1 ⊢
  have ent1 : ∀ e ∈ es1.toList, ∃ k' b, k' ∈ k :: ks ∧ e = (thash P w k', Value.ref b) ∧ IsT P w h1 k' b ∧ D b := fun e he => by
    obtain ⟨k', b, a1, a2, a3, a4⟩ := hent e he
    exact ⟨k', b, a1, a2, isT_same a3 ho hd sb, a4⟩
  have ld1 : w.params.followText "set-order" = true ∨ t1.led = true := by rw [q6]; exact R.led
  by_cases hf : t1.tooFull = true
  · first
      | (refine wpAny_bind ?_; refine wp_if_pos (by simp [hf]) ?_)
      | (refine wp_if_pos (by simp [hf]) ?_; refine wpAny_bind ?_)
    have hfull : (ks.length + 1) * 5 ≥ t1.mask * 3 := by
      have h := hf
      unfold SetTable.tooFull at h
      rw [decide_eq_true_eq, q9] at h
      exact h
    rw [q5] at hfull
    rw [hn]
    have go : ∀ M, SetTable.sizeAbove (SetTable.grown (ks.length + 1)) - 1 = M → Mk M → SetTable.sizeAbove (SetTable.grown (ks.length + 1)) ≤ 512 → (ks.length + 1) * 5 < M * 3 → ks.length + 1 ≤ t.mask →
        wpAny (model P w) A (setRelay a (SetTable.grown (ks.length + 1))) (fun _ s' => wpAny (model P w) A (pure true) Q E s') E { s with heap := h1 } := fun M h1' h2' h3' h4' h5' => by
      refine sr_relay (s := { s with heap := h1 }) (ks := k :: ks) ho1 ⟨hex.1, hex.2.1, hex.2.2⟩ rfl hes ent1 q2 q4 (by rw [q5]; exact h5') q7 ld1 h1' h2' h3' (by rw [List.length_cons]; omega) h4' ?_
      intro h2 es2 ep2 t2 sb2 R2
      exact wpAny_pure (hQ h2 es2 ep2 t2 (sb.trans sb2) R2)
    rcases R.mok with e | e | e | e
    · have e2 : ks.length = 4 := by omega
      exact go 31 (by rw [e2, size_20]) (.inr (.inl rfl)) (by rw [e2, size_20]; decide) (by omega) (by omega)
    · have e2 : ks.length = 18 := by omega
      exact go 127 (by rw [e2, size_76]) (.inr (.inr (.inl rfl))) (by rw [e2, size_76]; decide) (by omega) (by omega)
    · have e2 : ks.length = 76 := by omega
      exact go 511 (by rw [e2, size_308]) (.inr (.inr (.inr rfl))) (by rw [e2, size_308]; decide) (by omega) (by omega)
    · exfalso
      omega
  · first
      | refine wp_if_neg (by simp [hf]) ?_
      | (refine wpAny_bind ?_; refine wp_if_neg (by simp [hf]) ?_; refine wpAny_pure ?_)
    refine wpAny_pure (hQ h1 es1 (ep + 1) t1 sb ⟨⟨_, ho1, ⟨hex.1, hex.2.1, hex.2.2⟩, rfl⟩, hes, ent1, q2, q4, q3, by rw [q5]; exact R.mok, q7, ld1, ?_⟩)
    have h := hf
    unfold SetTable.tooFull at h
    rw [decide_eq_true_eq, q9] at h
    rw [List.length_cons]
    omega
end
end Pr

namespace Pr
open PySem PySem.Spec PyProof.Rows L2
/-! len(set(xs)) of unequal tuples of whole numbers -/
section
variable {P : Program} {w : World} {A : Around} {E : Value → Shared → Prop} {s : Shared}
/-- the keys of the first i, the last one ahead -/
def upTo (ks : List (Addr × List Int)) (i : Nat) : List (List Int) := ((ks.take i).map (·.2)).reverse
theorem upTo_next {ks : List (Addr × List Int)} {i : Nat} {p : Addr × List Int} (h : ks[i]? = some p) : upTo ks (i + 1) = p.2 :: upTo ks i := by
  unfold upTo
  rw [List.take_succ, h, Option.toList_some, List.map_append, List.reverse_append]
  rfl
theorem upTo_new {ks : List (Addr × List Int)} (nd : (ks.map (·.2)).Nodup) {i : Nat} {p : Addr × List Int} (h : ks[i]? = some p) : p.2 ∉ upTo ks i := fun hm => by
  unfold upTo at hm
  rw [List.mem_reverse, List.map_take] at hm
  obtain ⟨j, hj⟩ := List.mem_iff_getElem?.mp hm
  have hji : j < i := by
    have := (List.getElem?_eq_some_iff.mp hj).1
    rw [List.length_take] at this
    omega
  rw [List.getElem?_take_of_lt hji] at hj
  have hi : (ks.map (·.2))[i]? = some p.2 := by rw [List.getElem?_map, h]; rfl
  have := (List.getElem?_inj (List.getElem?_eq_some_iff.mp hj).1 nd).mp (hj.trans hi.symm)
  omega
theorem upTo_len (ks : List (Addr × List Int)) (i : Nat) : (upTo ks i).length ≤ ks.length := by
  unfold upTo
  rw [List.length_reverse, List.length_map, List.length_take]
  exact Nat.min_le_right _ _
/-- the loop of set.update -/
theorem sr_loop {I : Addr} {fp wr : List Addr} {G : Array GenState → Array GenState → Prop} {n : Nat} {Pv : Nat → Value → Prop} {St : Nat → Shared → Prop} {R : Result → Shared → Prop}
    (W : WalksS P w A.in1 I fp wr G n Pv St) (S : Addr) (hSf : S ∉ fp) (ks : List (Addr × List Int)) (hn : n = ks.length) (hfew : ks.length < 200) (nd : (ks.map (·.2)).Nodup) (hval : ∀ i v, Pv i v → ∃ p, ks[i]? = some p ∧ v = .ref p.1)
    (h0 : Heap) (hk : ∀ p ∈ ks, IsT P w h0 p.2 p.1) (hS0 : h0.get? S = none) (hw0 : ∀ b ∈ wr, h0.get? b = none) (hu : A.in1.units < cLine) :
    ∀ (k i : Nat) (s : Shared), n - i = k → i ≤ n → St i s → (∀ b o, h0.get? b = some o → s.heap.get? b = some o) → (∃ es ep t, SR P w (fun b => ∃ o, h0.get? b = some o) s.heap S (upTo ks i) es ep t) →
      (∀ s' es ep t, Moved (S :: wr) G s s' → SR P w (fun b => ∃ o, h0.get? b = some o) s'.heap S (upTo ks n) es ep t → (∀ b o, h0.get? b = some o → s'.heap.get? b = some o) → R (.ok (.ret .none)) s') →
      codeAny (model P w) A (.builtin "set.update.loop" ⟨[.ref S, .ref I], []⟩) R s := by
  have hSw : S ∉ wr := fun h => hSf (W.sub _ h)
  have hsub : ∀ b ∈ wr, b ∈ S :: wr := fun b hb => List.mem_cons_of_mem _ hb
  have keepM : ∀ {s s' : Shared}, Moved wr G s s' → (∀ b o, h0.get? b = some o → s.heap.get? b = some o) → ∀ b o, h0.get? b = some o → s'.heap.get? b = some o := fun hm hkp b o e =>
    hm.heap b o (fun hb => by rw [hw0 b hb] at e; cases e) (hkp b o e)
  have keepR : ∀ {s s' : Shared} {i : Nat} {es : Array (Int × Value)} {ep : Nat} {t : SetTable}, Moved wr G s s' → (∀ b o, h0.get? b = some o → s.heap.get? b = some o) → SR P w (fun b => ∃ o, h0.get? b = some o) s.heap S (upTo ks i) es ep t →
      SR P w (fun b => ∃ o, h0.get? b = some o) s'.heap S (upTo ks i) es ep t := fun hm hkp R => R.keep (fun o e => hm.heap S o hSw e) fun b o ⟨o', d⟩ e => hm.heap b o (fun hb => by rw [hw0 b hb] at d; cases d) e
  intro k
  induction k with
  | zero =>
    intro i s hk' hi hst hkp ⟨es, ep, t, hS⟩ hR
    have hin : i = n := by omega
    subst hin
    refine codeAny_builtin F.entry_set_update_loop ?_
    rw [Around.under_plainId F.plain_set_update_loop _]
    show wpAny _ A.in1 (pyNext (.ref I) >>= _) _ _ s
    refine wpAny_bind (W.done s _ _ hst fun s' hm => ?_)
    show wpAny _ A.in1 (ret Value.none) _ _ s'
    exact wpAny_pure (hR s' es ep t (hm.mono hsub) (keepR hm hkp hS) (keepM hm hkp))
  | succ k ih =>
    intro i s hk' hi hst hkp ⟨es, ep, t, hS⟩ hR
    have hlt : i < n := by omega
    refine codeAny_builtin F.entry_set_update_loop ?_
    rw [Around.under_plainId F.plain_set_update_loop _]
    show wpAny _ A.in1 (pyNext (.ref I) >>= _) _ _ s
    refine wpAny_bind (W.item i s _ _ hlt hst fun v s' hP hst' hm => ?_)
    obtain ⟨p, hp, rfl⟩ := hval i v hP
    have hkp' := keepM hm hkp
    have hS' := keepR hm hkp hS
    have hk0 := hk p (List.mem_of_getElem? hp)
    have hx : IsT P w s'.heap p.2 p.1 := isT_keep hk0 hkp'
    show wpAny _ A.in1 (holding [Value.ref p.1] (setAdd S (.ref p.1)) >>= _) _ _ s'
    refine wpAny_bind (wpAny_holding ?_)
    unfold setAdd
    refine wpAny_holding ?_
    refine wpAny_bind (wpAny_pyHash_tuple hu hx ?_)
    have few := upTo_len ks i
    refine SR.more (s := { s' with toks := s'.toks + (p.2.length + 1) }) hS' hx (let ⟨o, _, _, g, _⟩ := hk0; ⟨o, g⟩) (upTo_new nd hp) hu (by omega) fun h' es' ep' t' hsb hS2 => ?_
    rw [← upTo_next hp] at hS2
    have hkp2 : ∀ b o, h0.get? b = some o → h'.get? b = some o := fun b o e => (hsb.2 b (fun z => by rw [z, hS0] at e; cases e)).trans (hkp' b o e)
    refine wpAny_pure ⟨plainId_quiet F.plain_set_update_loop _, ih (i + 1) _ (by omega) hlt (W.frame _ s' _ _ hst' (Nat.le_add_right _ _) fun b hb o e => ?_) hkp2 ⟨es', ep', t', hS2⟩ fun s'' es2 ep2 t2 hm'' hS'' hkp'' => ?_⟩
    · rw [hsb.2 b (fun h : b = S => hSf (by rw [← h]; exact hb))]
      exact e
    · refine hR s'' es2 ep2 t2 (Moved.trans W.gtrans ((hm.mono hsub).then_heap (Nat.le_add_right _ _) fun b o hb e => ?_) hm'') hS'' hkp''
      rw [hsb.2 b (fun h : b = S => hb (by rw [h]; exact List.mem_cons_self))]
      exact e
/-- a new set -/
theorem sr_fresh {D : Addr → Prop} {h : Heap} {a : Addr} (ho : h.get? a = some { cls := .type "set", dict := none, data := .set #[] 0 (.fresh 0 0 (!w.params.followText "set-order")) }) : SR P w D h a [] #[] 0 (.fresh 0 0 (!w.params.followText "set-order")) where
  ob := ⟨_, ho, ⟨rfl, rfl, rfl⟩, rfl⟩
  n := rfl
  ent := fun e he => by cases he
  sz := rfl
  dm := rfl
  ris := List.Pairwise.nil
  mok := .inl rfl
  plain := rfl
  led := by
    show _ ∨ (!w.params.followText "set-order") = true
    cases w.params.followText "set-order"
    · exact .inr rfl
    · exact .inl rfl
  room := by
    show 0 * 5 < 7 * 3
    decide
set_option maxHeartbeats 6400000 in
/-- set(xs) -/
theorem sr_call {l : Addr} {items : Array Value} (ks : List (Addr × List Int)) {Q : Value → Shared → Prop} (hh : A.handled = none) (hl : s.heap.IsList l items) (hit : items.toList = ks.map fun p => Value.ref p.1)
    (hk : ∀ p ∈ ks, IsT P w s.heap p.2 p.1) (nd : (ks.map (·.2)).Nodup) (hfew : ks.length < 200) (hu : A.units + 3 < cLine)
    (h : ∀ (h' : Heap) (tk : Nat) es ep t, SR P w (fun b => ∃ o, s.heap.get? b = some o) h' s.heap.objs.size (upTo ks ks.length) es ep t → (∀ b o, s.heap.get? b = some o → h'.get? b = some o) → Q (.ref s.heap.objs.size) { s with heap := h', toks := tk }) :
    wpAny (model P w) A (call (.type "set") [.ref l]) Q E s := by
  have hisz : items.size = ks.length := by
    have q := congrArg List.length hit
    rw [Array.length_toList, List.length_map] at q
    exact q
  obtain ⟨c, tl, hmro⟩ := F.called_set.mro
  have hmade := F.called_set.made
  have hsub := F.called_set.sub
  refine wpAny_call (codeAny_of_tree ?_)
  show wpAny _ _ (callAny (.type "set") _) _ _ _
  refine wpAny_pure ⟨Code.quiet_builtin _ (by decide +kernel), codeAny_builtin F.entry_type_call ?_⟩
  rw [Around.under_plain (weight_type_call_type "set" [.ref l] []) rfl]
  have h1 := F.called_set.notType
  have h2 := F.called_set.canCreate
  have hct := F.typeCall_set_1 (.ref l)
  repeat (any_goals (first | assumption | wp_step))
  refine codeAny_mono (code_set_led1 (.ref l) (E := E) (Q₁ := fun obj s₁ => obj = .ref s.heap.objs.size ∧ s₁ = { s with heap := s.heap.push { cls := .type "set", dict := none, data := .set #[] 0 (.fresh 0 0 (!w.params.followText "set-order")) } }) ⟨rfl, rfl⟩) fun r s₁ hr => ?_
  cases r with
  | error e => exact hr
  | ok fl =>
    cases fl with
    | ret obj =>
      obtain ⟨rfl, rfl⟩ := hr
      have hS : (s.heap.push { cls := .type "set", dict := none, data := .set #[] 0 (.fresh 0 0 (!w.params.followText "set-order")) }).get? s.heap.objs.size = some { cls := .type "set", dict := none, data := .set #[] 0 (.fresh 0 0 (!w.params.followText "set-order")) } := Heap.get?_push_size _ rfl
      have hT : Shared.TypeIs { s with heap := s.heap.push { cls := .type "set", dict := none, data := .set #[] 0 (.fresh 0 0 (!w.params.followText "set-order")) } } (.ref s.heap.objs.size) "set" := ⟨_, hS, rfl⟩
      have hli := F.called_set.init.lookup
      have hbi := F.called_set.init.bind (.ref s.heap.objs.size)
      repeat (any_goals (first | assumption | wp_step))
      refine codeAny_mono (codeAny_call_builtin (R := wants (fun r s₂ => r = .none ∧ ∃ h' tk es ep t, s₂ = { s with heap := h', toks := tk } ∧ SR P w (fun b => ∃ o, s.heap.get? b = some o) h' s.heap.objs.size (upTo ks ks.length) es ep t ∧
          (∀ b o, s.heap.get? b = some o → h'.get? b = some o)) E) F.called_set.init.plain F.entry_set_init (check_set_init_1 hT ?_)) fun r₂ s₂ hr₂ => ?_
      · obtain ⟨ol, hol, hcl, nl, hdl⟩ := hl
        obtain ⟨ocls, odict, odata, oslots⟩ := ol
        simp only at hcl hdl
        subst hcl; subst hdl
        have hol' : (s.heap.push { cls := .type "set", dict := none, data := .set #[] 0 (.fresh 0 0 (!w.params.followText "set-order")) }).get? l = some { cls := .type "list", dict := odict, data := .seq items nl, slots := oslots } := Heap.get?_push_of_some _ hol
        have hsls := F.sub_list_set
        have hslf := F.sub_list_frozenset
        have hne : (Value.type "list" == Value.type "dict") = false := by decide
        have hl1 : (s.heap.push { cls := .type "set", dict := none, data := .set #[] 0 (.fresh 0 0 (!w.params.followText "set-order")) }).IsList l items := ⟨_, hol', rfl, nl, rfl⟩
        unfold Builtin.«set.__init__» noKeywords Builtin.Frozenset.updateFrom
        generalize hPI : pyIter = PI
        wp_walk
        subst hPI
        refine wpAny_pyIter_list hl1 ?_
        refine wpAny_bind (wpAny_runValue ?_)
        have hlS : l < s.heap.objs.size := Heap.lt_size hol
        have hh3 : A.in1.in1.in1.handled = none := by simp [hh]
        have hneI : l ≠ (s.heap.push { cls := .type "set", dict := none, data := .set #[] 0 (.fresh 0 0 (!w.params.followText "set-order")) }).objs.size := by
          rw [Heap.size_push]; exact Nat.ne_of_lt (Nat.lt_succ_of_lt hlS)
        have hSf : s.heap.objs.size ∉ [(s.heap.push { cls := .type "set", dict := none, data := .set #[] 0 (.fresh 0 0 (!w.params.followText "set-order")) }).objs.size, l] := by
          rw [Heap.size_push]; simp only [List.mem_cons, List.not_mem_nil, or_false, not_or]
          exact ⟨Nat.ne_of_lt (Nat.lt_succ_self _), Nat.ne_of_gt hlS⟩
        have hval : ∀ (i : Nat) (v : Value), items[i]? = some v → ∃ p, ks[i]? = some p ∧ v = .ref p.1 := fun i v hv => by
          have q : items.toList[i]? = some v := by rw [Array.getElem?_toList]; exact hv
          rw [hit, List.getElem?_map, Option.map_eq_some_iff] at q
          obtain ⟨p, hp, e⟩ := q
          exact ⟨p, hp, e.symm⟩
        have none_of : ∀ b, s.heap.objs.size ≤ b → s.heap.get? b = none := fun b hb => by
          cases q : s.heap.get? b with
          | none => rfl
          | some o => exact absurd (Nat.lt_of_lt_of_le (Heap.lt_size q) hb) (Nat.lt_irrefl _)
        refine sr_loop ((Walks.list hh3 _ l hneI items).toS) s.heap.objs.size hSf ks hisz hfew nd hval s.heap hk (none_of _ (Nat.le_refl _)) (fun b hb => none_of b (by
            rw [List.mem_singleton.mp hb, Heap.size_push]
            exact Nat.le_succ _)) hu (items.size - 0) 0 _ (by omega) (Nat.zero_le _)
          ⟨⟨_, Heap.get?_push_size _ rfl, rfl, rfl⟩, (hl1.push _)⟩ (fun b o e => Heap.get?_push_of_some _ (Heap.get?_push_of_some _ e)) ?hS0 ?hR
        case hS0 => exact ⟨#[], 0, _, sr_fresh (Heap.get?_push_of_some _ hS)⟩
        case hR =>
          intro s' es ep t hm hS' hkp
          obtain ⟨h', g2, d', tk', os'⟩ := s'
          have eg : g2 = s.gens := hm.gens
          have ed : d' = s.drawn := hm.drawn
          have eo : os' = s.os := hm.os
          subst eg; subst ed; subst eo
          show wpAny _ _ _ _ _ _
          refine wpAny_pure ?_
          show wpAny _ _ (ret Value.none) _ _ _
          rw [hisz] at hS'
          exact wpAny_pure ⟨rfl, h', tk', es, ep, t, rfl, hS', hkp⟩
      · cases r₂ with
        | error e => exact hr₂
        | ok fl₂ =>
          cases fl₂ with
          | ret r =>
            obtain ⟨rfl, h', tk, es, ep, t, rfl, hS', hk'⟩ := hr₂
            repeat (any_goals (first | assumption | wp_step))
            exact h _ _ _ _ _ hS' hk'
          | _ => exact hr₂.elim
    | _ => exact hr.elim
end
/-- len(set(xs)), xs a list of unequal tuples of whole numbers -/
def tLenSetT (K : PySem.W.Frag) (ta : TE) : TE := fun σ H Q => ta σ H fun x H1 => ∃ l, x = .ref l ∧ ∃ ks : List (Addr × List Int), SqL K H1 l (ks.map fun p => V.ref p.1) ∧ (∀ p ∈ ks, SqT K H1 p.1 (p.2.map V.int)) ∧ (ks.map (·.2)).Nodup ∧ ks.length < 200 ∧ Q (.int (ks.length : Nat)) H1
theorem pe_lenSetT {X : Cx} {a : Expr} {ta : TE} {p p2 q pos : Pos} (hc : X.calm = true) (hu : X.A.units + 64 < cLine) (hg : Gl X "len") (hm : X.mg "len" = none) (hg2 : Gl X "set") (hm2 : X.mg "set" = none) (ha : PE X a ta)
    (na : starEach [a] X.env = (false, eval a X.env) :: starEach [] X.env := by rfl) : PE X (.Call (.Name "len" p) [.Call (.Name "set" p2) [a] [] q] [] pos) (tLenSetT X.K ta) := by
  refine ⟨fun pins s σ H Q I h => ?_⟩
  refine Call_ (ld_blt I hg hm PySem.boot_len ?_)
  refine PyProof.Rows.callWith_builtin1 (PyProof.Rows.args_cons ?_ rfl) rfl rfl
  refine Call_ (ld_blt I hg2 hm2 PyProof.Rows.boot_set ?_)
  refine PyProof.Rows.callWith_type1 (PyProof.Rows.args_cons (thn (ha.run pins s σ H _ I h) fun v s1 ⟨x, H1, I1, r1, q1⟩ => PyProof.Rows.args_nil ?_) na) na rfl
  obtain ⟨l, rfl, ks, hl, hk, nd, hf, q1⟩ := q1
  cases r1
  obtain ⟨its, rv, pl, hz⟩ := I1.list hl
  refine sr_call (P := X.prog) (w := X.w) ks (I1.ok.hd hc) pl.isList (by simpa using refs_of_vals rv) (fun p hp => I1.isT (hk p hp)) nd hf (by omega) fun h' tk es ep t R k => ?_
  refine PyProof.Rows.args_nil ?_
  have hn : es.size = ks.length := by
    rw [R.n]
    unfold upTo
    rw [List.length_reverse, List.length_map, List.take_length]
  have hfit := R.fits (s := { s1 with heap := h', toks := tk })
  obtain ⟨o, ho, hex, hd⟩ := R.ob
  have I2 : Inv X pins σ H1 { s1 with heap := h', toks := tk } := I1.kept k
  refine call_len_set ho hex hd hfit (by rw [hn] <;> omega) ⟨.int (ks.length : Nat), H1, I2.tok _, ⟨_, by rw [hn]⟩, q1⟩
theorem ap_lenSetT {K : PySem.W.Frag} {ta : TE} {σ : L2.St} {H : Hp} {Q : VK} : tLenSetT K ta σ H Q = ta σ H fun x H1 => ∃ l, x = .ref l ∧ ∃ ks : List (Addr × List Int), SqL K H1 l (ks.map fun p => V.ref p.1) ∧ (∀ p ∈ ks, SqT K H1 p.1 (p.2.map V.int)) ∧ (ks.map (·.2)).Nodup ∧ ks.length < 200 ∧ Q (.int (ks.length : Nat)) H1 := rfl
end Pr

namespace Pr
open PySem PySem.Spec PyProof.Rows L2
/-! sorting tuples of whole numbers of unlike lengths: members from 1 to below B, at most d of them; rank: the code behind zeros -/
def padC (B : Int) (d : Nat) (ns : List Int) : Int := TS.code B (ns ++ List.replicate (d - ns.length) 0)
def Bd1 (B : Int) (ns : List Int) : Prop := ∀ m, m ∈ ns → 1 ≤ m ∧ m < B
theorem bd_pad {B : Int} {d : Nat} {ns : List Int} (hB : 1 < B) (h : Bd1 B ns) : TS.Bd B (ns ++ List.replicate (d - ns.length) 0) := fun m hm => by
  rcases List.mem_append.mp hm with hm | hm
  · have := h m hm
    omega
  · have := List.eq_of_mem_replicate hm
    omega
theorem pad_cons (d : Nat) (p : Int) (ns : List Int) : (p :: ns) ++ List.replicate (d + 1 - (p :: ns).length) 0 = p :: (ns ++ List.replicate (d - ns.length) 0) := by
  rw [List.length_cons, Nat.add_sub_add_right]
  rfl
theorem pad_len {d : Nat} {ns : List Int} (h : ns.length ≤ d) : (ns ++ List.replicate (d - ns.length) 0).length = d := by
  rw [List.length_append, List.length_replicate]
  omega
theorem code_zeros (B : Int) : ∀ n, TS.code B (List.replicate n 0) = 0
  | 0 => rfl
  | n + 1 => by
    rw [List.replicate_succ]
    show 0 * B ^ (List.replicate n 0).length + TS.code B (List.replicate n 0) = 0
    rw [code_zeros B n, Int.zero_mul, Int.add_zero]
theorem padC_nil (B : Int) (d : Nat) : padC B d [] = 0 := by
  unfold padC
  rw [List.nil_append]
  exact code_zeros B _
theorem padC_pos {B : Int} {d : Nat} {p : Int} {ns : List Int} (hB : 1 < B) (h : Bd1 B (p :: ns)) (hl : (p :: ns).length ≤ d) : 0 < padC B d (p :: ns) := by
  obtain ⟨d, rfl⟩ : ∃ e, d = e + 1 := ⟨d - 1, by rw [List.length_cons] at hl; omega⟩
  rw [List.length_cons] at hl
  have e : padC B (d + 1) [] = 0 := padC_nil B (d + 1)
  rw [← e]
  unfold padC
  rw [pad_cons, List.nil_append, List.length_nil, Nat.sub_zero, List.replicate_succ]
  have hp := h p List.mem_cons_self
  exact TS.code_lt (by rw [List.length_replicate, pad_len (by omega)]) (fun m hm => by have := List.eq_of_mem_replicate hm; omega) (bd_pad hB fun m hm => h m (List.mem_cons_of_mem _ hm)) (by omega)
section
variable {prog : Program} {w : World} {A : Around} {E : Value → Shared → Prop} {s : Shared} {Q : Bool → Shared → Prop}
theorem lex_uneq {B : Int} {b : Bool} (hB : 1 < B) {xs ys : List Value} {ns ms : List Int} (d i : Nat) (hx : IntsAre xs ns) (hy : IntsAre ys ms) (l1 : ns.length ≤ d) (l2 : ms.length ≤ d) (h1 : Bd1 B ns) (h2 : Bd1 B ms)
    (h : Q (decide (padC B d ns < padC B d ms)) s) : PySem.W.KatLex prog w A b (decide (ns.length < ms.length)) Q (xs.zip ys) i s := by
  induction hx generalizing ys ms d i with
  | nil =>
    cases hy with
    | nil =>
      rw [show decide (padC B d [] < padC B d []) = decide (([] : List Int).length < ([] : List Int).length) by rw [decide_eq_false (Int.lt_irrefl _), decide_eq_false (Nat.lt_irrefl _)]] at h
      exact PySem.W.kat_nil h
    | @cons q u ys ms hy =>
      rw [padC_nil, decide_eq_true (padC_pos hB h2 l2)] at h
      rw [show decide (([] : List Int).length < (q :: ms).length) = true by rw [decide_eq_true]; rw [List.length_cons]; exact Nat.succ_pos _]
      exact PySem.W.kat_nil h
  | @cons p t xs ns hx ih =>
    cases hy with
    | nil =>
      rw [padC_nil, decide_eq_false (by have := padC_pos hB h1 l1; omega)] at h
      rw [show decide ((p :: ns).length < ([] : List Int).length) = false from decide_eq_false (Nat.not_lt_zero _)]
      exact PySem.W.kat_nil h
    | @cons q u ys ms hy =>
      obtain ⟨d, rfl⟩ : ∃ e, d = e + 1 := ⟨d - 1, by rw [List.length_cons] at l1; omega⟩
      rw [List.length_cons] at l1 l2
      have t1 : Bd1 B ns := fun m hm => h1 m (List.mem_cons_of_mem _ hm)
      have t2 : Bd1 B ms := fun m hm => h2 m (List.mem_cons_of_mem _ hm)
      have hl' : (ns ++ List.replicate (d - ns.length) 0).length = (ms ++ List.replicate (d - ms.length) 0).length := by rw [pad_len (by omega), pad_len (by omega)]
      have b1 := bd_pad (d := d) hB t1
      have b2 := bd_pad (d := d) hB t2
      unfold padC at h
      rw [pad_cons, pad_cons] at h
      rw [show decide ((p :: ns).length < (q :: ms).length) = decide (ns.length < ms.length) by rw [List.length_cons, List.length_cons]; exact decide_eq_decide.mpr (by omega)]
      show PySem.W.KatLex prog w A b _ Q ((Value.int p t, Value.int q u) :: xs.zip ys) i s
      refine PySem.W.kat_cons (wpAny_eqBool_int ?_)
      by_cases e : p = q
      · subst e
        rw [beq_self_eq_true]
        rw [decide_eq_decide.mpr (TS.code_same hl')] at h
        refine PySem.W.kat_yes ?_
        first
          | exact ih d (i + 1) hy (by omega) (by omega) t1 t2 h
          | exact ih (d := d) (i := i + 1) (hy := hy) (by omega) (by omega) t1 t2 h
      · rw [show (p == q) = false from beq_eq_false_iff_ne.mpr e]
        refine PySem.W.kat_no (TS.oneLt_ints _ ?_)
        have dd : decide (TS.code B (p :: (ns ++ List.replicate (d - ns.length) 0)) < TS.code B (q :: (ms ++ List.replicate (d - ms.length) 0))) = decide (p < q) := by
          refine decide_eq_decide.mpr ⟨fun x => ?_, fun x => TS.code_lt hl' b1 b2 x⟩
          rcases Int.lt_trichotomy p q with y | y | y
          · exact y
          · exact absurd y e
          · have := TS.code_lt hl'.symm b2 b1 y
            omega
        rw [dd] at h
        exact h
/-- what is sorted -/
def TupsU (h : Heap) (d : Nat) (B : Int) (vs : List Value) : Prop := ∀ v, v ∈ vs → ∃ ns, TS.TupInts h v ns ∧ ns.length ≤ d ∧ Bd1 B ns ∧ (2 ≤ vs.length → 1 ≤ ns.length)
theorem TupsU.keeps {h h' : Heap} {d : Nat} {B : Int} {vs : List Value} (x : TupsU h d B vs) (k : ∀ b o, h.get? b = some o → o.cls = .type "tuple" → h'.get? b = some o) : TupsU h' d B vs := fun v hv =>
  let ⟨ns, t, r⟩ := x v hv; ⟨ns, t.keeps k, r⟩
theorem firsts_uneq {h : Heap} : ∀ vs : List Value, (∀ v ∈ vs, ∃ ns, TS.TupInts h v ns ∧ 1 ≤ ns.length) → ∃ fs, PySem.W.KatTups h vs fs ∧ fs.length = vs.length ∧ ∀ f, f ∈ fs → ∃ n t, f = Value.int n t
  | [], _ => ⟨[], PySem.W.KatTups.nil, rfl, fun f hf => by simp at hf⟩
  | v :: vs, x => by
    obtain ⟨fs, k, hl, hi⟩ := firsts_uneq vs fun u hu => x u (List.mem_cons_of_mem _ hu)
    obtain ⟨ns, ⟨a, xs, rfl, ⟨o, ho, hc, n, hdt⟩, i⟩, hn⟩ := x v (List.mem_cons_self ..)
    obtain ⟨y, ys, e⟩ : ∃ y ys, xs.toList = y :: ys := by
      cases q : xs.toList with
      | nil =>
        rw [q] at i
        have l := i.length
        rw [List.length_nil] at l
        omega
      | cons y ys => exact ⟨y, ys, rfl⟩
    obtain ⟨m, t, hy⟩ := i.all y (by rw [e]; exact List.mem_cons_self ..)
    refine ⟨y :: fs, PySem.W.KatTups.cons ho hc hdt ?_ k, by simp [hl], ?_⟩
    · have z := congrArg (fun l : List Value => l[0]?) e
      simpa using z
    · intro f hf
      rcases List.mem_cons.mp hf with rfl | hf
      · exact ⟨m, t, hy⟩
      · exact hi f hf
theorem kind_uneq {d : Nat} {B : Int} (hB : 1 < B) {vs : List Value} (h2 : 2 ≤ vs.length) (x : TupsU s.heap d B vs) (r : Value → Int) (hr : ∀ v, v ∈ vs → ∀ ns, TS.TupInts s.heap v ns → r v = padC B d ns) (Q : SortKind → Shared → Prop)
    (h : ∀ κ, TS.Cmp prog w A s κ (pairsOf vs) r → Q κ s) : wpAny (model prog w) A (keyKind' vs.toArray) Q E s := by
  obtain ⟨fs, k, hl, hi⟩ := firsts_uneq vs fun v hv => let ⟨ns, t, _, _, n⟩ := x v hv; ⟨ns, t, n h2⟩
  refine PySem.W.kat_kind (T := Value.type "int") k (by omega) (fun f hf => ?_) rfl (h _ ?_)
  · obtain ⟨n, t, rfl⟩ := hi f hf
    exact PySem.W.Looks.of_pure rfl
  · intro p q hp hq Q' E' hQ
    rw [PyProof.Rows.pairsOf_toList] at hp hq
    obtain ⟨ns, tp, lp, bp, _⟩ := x _ (PyProof.Rows.mem_zip_self hp).2
    obtain ⟨ms, tq, lq, bq, _⟩ := x _ (PyProof.Rows.mem_zip_self hq).2
    have ep := hr _ (PyProof.Rows.mem_zip_self hp).2 _ tp
    have eq2 := hr _ (PyProof.Rows.mem_zip_self hq).2 _ tq
    have hQ' : Q' (decide (padC B d ns < padC B d ms)) s := by
      have z : decide (r p.1 < r q.1) = decide (padC B d ns < padC B d ms) := by rw [ep, eq2]
      rw [← z]; exact hQ
    obtain ⟨a, xs, e1, ⟨o, ho, hc, n, hdt⟩, i⟩ := tp
    obtain ⟨a', ys, e2, ⟨o', ho', hc', n', hdt'⟩, i'⟩ := tq
    rw [e1, e2]
    refine PySem.W.kat_lt ho hdt ho' hdt' ?_
    have sz : decide (xs.size < ys.size) = decide (ns.length < ms.length) := by
      have l1 := i.length
      have l2 := i'.length
      rw [Array.length_toList] at l1 l2
      rw [l1, l2]
    rw [sz]
    exact lex_uneq hB d 0 i i' lp lq bp bq hQ'
end
section
variable {prog : Program} {w : World} {A : Around} {E : Value → Shared → Prop} {s : Shared}
/-- xs.sort() -/
theorem sort_uneq {a : Addr} {vs : List Value} {n d : Nat} {B : Int} {P : PySem.Fin → Shared → Prop} (hB : 1 < B) (ho : s.heap.get? a = some (seqObj "list" vs.toArray n)) (h64 : vs.length < 64) (x : TupsU s.heap d B vs)
    (h : ∀ out : Array Value, out.toList.Perm vs → out.toList.Pairwise (fun u v => padC B d (TS.intsOf s.heap u) ≤ padC B d (TS.intsOf s.heap v)) → P (.done (.ret .none)) { s with heap := sortedHeap s.heap a vs out }) :
    wpAny (model prog w) A (Builtin.«list.sort» ⟨[.ref a], []⟩) P E s := by
  have keep : ∀ b o, s.heap.get? b = some o → o.cls = .type "tuple" → (TS.midHeap s.heap a vs).get? b = some o := fun b o e hc => by
    refine TS.midHeap_old ?_ e
    rintro rfl
    rw [ho] at e
    have e' : seqObj "list" vs.toArray n = o := Option.some.inj e
    rw [← e'] at hc
    have c' : Value.type "list" = Value.type "tuple" := hc
    injection c' with c''
    exact absurd c'' (by decide)
  refine SK.plain_sort (r := fun v => padC B d (TS.intsOf s.heap v)) ho h64 (fun h2 Q hQ => ?_) fun ps out h1 h2 h3 => ?_
  · refine kind_uneq hB (s := { s with heap := TS.midHeap s.heap a vs }) h2 (x.keeps keep) _ (fun v hv ns t => ?_) Q hQ
    obtain ⟨ns0, t0, _⟩ := x v hv
    have e : ns = ns0 := t.ints.symm.trans (t0.keeps keep).ints
    rw [e]
    show padC B d (TS.intsOf s.heap v) = padC B d ns0
    rw [t0.ints]
  · obtain ⟨p, o⟩ := TS.out_rank (r := fun v => padC B d (TS.intsOf s.heap v)) h1 h2 h3
    exact h out p o
/-- sorted(xs) of a list -/
theorem sorted_uneq {l : Addr} {vs : List Value} {d : Nat} {B : Int} {Q : Value → Shared → Prop} (hB : 1 < B) (hl : s.heap.IsList l vs.toArray) (h64 : vs.length < 64) (x : TupsU s.heap d B vs)
    (h : ∀ out : Array Value, out.toList.Perm vs → out.toList.Pairwise (fun u v => padC B d (TS.intsOf s.heap u) ≤ padC B d (TS.intsOf s.heap v)) → Q (.ref (s.heap.objs.size + 1)) { s with heap := sortedAll s.heap vs out }) :
    wpAny (model prog w) A (call (.builtin "sorted") [.ref l]) Q E s := by
  refine Calls.call_function_entry kind_sorted plain_sorted entry_sorted (args_sorted1 _) ?_
  unfold Builtin.«sorted»
  refine wpAny_bind (m := checkCount "sorted" 1 1 _) (wpAny_pure ?_)
  refine wpAny_bind (collect_list hl ?_ (by rw [sizeLine_eq]; omega))
  refine wpAny_bind (wpAny_newList ?_ (by rw [sizeLine_eq]; omega))
  have hsz : ((s.heap.push (seqObj "list" #[] 0)).update s.heap.objs.size (Obj.mapSeq (· ++ vs.toArray))).objs.size = s.heap.objs.size + 1 := by
    rw [Heap.size_update, size_push']
  have hoL : (((s.heap.push (seqObj "list" #[] 0)).update s.heap.objs.size (Obj.mapSeq (· ++ vs.toArray))).push (seqObj "list" vs.toArray 0)).get? (s.heap.objs.size + 1) = some (seqObj "list" vs.toArray 0) := by
    rw [← hsz]; exact Heap.get?_push_size _ rfl
  have keep : ∀ b o, s.heap.get? b = some o → o.cls = .type "tuple" → (((s.heap.push (seqObj "list" #[] 0)).update s.heap.objs.size (Obj.mapSeq (· ++ vs.toArray))).push (seqObj "list" vs.toArray 0)).get? b = some o := fun b o q _ => by
    have hlt : b < s.heap.objs.size := Heap.lt_size q
    rw [Heap.get?_push_ne _ _ _ (by rw [hsz]; exact Nat.ne_of_lt (Nat.lt_succ_of_lt hlt)), Heap.get?_update_ne _ _ _ _ (Nat.ne_of_lt hlt), Heap.get?_push_ne _ _ _ (Nat.ne_of_lt hlt)]
    exact q
  show wpAny _ _ _ _ _ { s with heap := ((s.heap.push (seqObj "list" #[] 0)).update s.heap.objs.size (Obj.mapSeq (· ++ vs.toArray))).push (seqObj "list" vs.toArray 0) }
  rw [hsz]
  refine wpAny_bind (wpAny_holding (wpAny_call_entry slot_list_sort ⟨_, hoL, rfl⟩ entry_list_sort (sort_uneq hB hoL h64 (x.keeps keep) fun out a1 a2 => ⟨_, rfl, ?_⟩) (args_list_sort _)))
  refine wpAny_pure ⟨_, rfl, h out a1 (List.Pairwise.imp_of_mem (fun {u v} hu hv hle => ?_) a2)⟩
  obtain ⟨n1, t1, _⟩ := x u (a1.mem_iff.mp hu)
  obtain ⟨n2, t2, _⟩ := x v (a1.mem_iff.mp hv)
  rw [t1.ints, t2.ints]
  rw [(t1.keeps keep).ints, (t2.keeps keep).ints] at hle
  exact hle
end
/-- pairs back from their addresses -/
theorem pairs_back {ks : List (Addr × List Int)} : ∀ (vs : List Value), (∀ v ∈ vs, ∃ q ∈ ks, v = Value.ref q.1) → ∃ L : List (Addr × List Int), vs = L.map (fun q => Value.ref q.1) ∧ ∀ q ∈ L, q ∈ ks
  | [], _ => ⟨[], rfl, fun q h => nomatch h⟩
  | v :: vs, h => by
    obtain ⟨q, hq, e⟩ := h v List.mem_cons_self
    obtain ⟨L, e1, hs⟩ := pairs_back vs fun u hu => h u (List.mem_cons_of_mem _ hu)
    refine ⟨q :: L, by rw [List.map_cons, e, e1], fun r hr => ?_⟩
    rcases List.mem_cons.mp hr with z | z
    · rw [z]; exact hq
    · exact hs r z
section
variable {X : Cx}
/-- sorted(xs), xs a list of fewer than 64 tuples, members from 1 to below B, at most d in each, one alone may be empty -/
def UnOk (B : Int) (d : Nat) (ks : List (Addr × List Int)) : Prop := ks.length < 64 ∧ ∀ p ∈ ks, p.2.length ≤ d ∧ Bd1 B p.2 ∧ (2 ≤ ks.length → 1 ≤ p.2.length)
def rSortedU (K : PySem.W.Frag) (d : Nat) (B : Int) : List V → Hp → VK → Prop := fun vs H Q => ∃ a, vs = [.ref a] ∧ ∃ ks : List (Addr × List Int), SqL K H a (ks.map fun p => V.ref p.1) ∧ (∀ p ∈ ks, SqT K H p.1 (p.2.map V.int)) ∧ UnOk B d ks ∧
  ∀ (L : List (Addr × List Int)) (p : Addr), (L.map (·.2)).Perm (ks.map (·.2)) → (∀ q ∈ L, q ∈ ks) → L.Pairwise (fun q r => padC B d q.2 ≤ padC B d r.2) → H p = none → Q (.ref p) (upd H p (.lst (L.map fun q => V.ref q.1)))
theorem cr_sortedU {d : Nat} {B : Int} (hB : 1 < B) : CallR X (.builtin "sorted") (rSortedU X.K d B) := by
  intro pins s σ H vs us Q I r h
  obtain ⟨a, rfl, ks, hs, hk, ⟨h64, hu⟩, q⟩ := h
  obtain ⟨its, rv, hl, hz⟩ := I.list hs
  rw [Vals.ref1 r]
  have ei := refs_of_vals rv
  subst ei
  have ti : ∀ p ∈ ks, TS.TupInts s.heap (.ref p.1) p.2 := fun p hp => tupI_raw I (hk p hp)
  refine sorted_uneq (d := d) (B := B) hB hl.isList (by rw [List.length_map]; exact h64) (fun v hv => ?_) fun out h1 h2 => ?_
  · obtain ⟨p, hp, rfl⟩ := List.mem_map.mp hv
    rw [List.length_map]
    exact ⟨p.2, ti p hp, (hu p hp).1, (hu p hp).2.1, (hu p hp).2.2⟩
  · obtain ⟨ep, he'⟩ := PyProof.Rows.sortedAll_at s.heap (ks.map fun p => Value.ref p.1) out
    obtain ⟨L, eL, hL⟩ := pairs_back (ks := ks) out.toList fun v hv => by
      obtain ⟨p, hp, e⟩ := List.mem_map.mp (h1.mem_iff.mp hv)
      exact ⟨p, hp, e.symm⟩
    have len : L.length = ks.length := by
      have := h1.length_eq
      rw [eL, List.length_map, List.length_map] at this
      exact this
    have pm : (L.map (·.2)).Perm (ks.map (·.2)) := by
      have e1 : ∀ l : List (Addr × List Int), (∀ q ∈ l, q ∈ ks) → (l.map fun q => Value.ref q.1).map (TS.intsOf s.heap) = l.map (·.2) := fun l h => by
        rw [List.map_map]
        exact List.map_congr_left fun q hq => (ti q (h q hq)).ints
      rw [← e1 L hL, ← e1 ks (fun q h => h), ← eL]
      exact h1.map _
    have hlen : (L.map fun q => V.ref q.1).length ≤ sizeLine := by rw [List.length_map, len]; rw [sizeLine_eq]; omega
    refine ⟨.ref _, upd H (s.heap.objs.size + 1) (.lst (L.map fun q => V.ref q.1)), I.laid (t' := s.toks) (fun _ _ => PyProof.Rows.sortedAll_old) (Nat.le_succ _) ⟨hlen, out.toList, ep, by rw [eL]; exact vals_of_refs L, he'⟩, rfl, q L _ pm hL ?_ (I.hok.fresh (Nat.le_succ _))⟩
    rw [eL, List.pairwise_map] at h2
    refine List.Pairwise.imp_of_mem (fun {u v} hu' hv' huv => ?_) h2
    rw [(ti u (hL u hu')).ints, (ti v (hL v hv')).ints] at huv
    exact huv
end
theorem ap_sortedU {K : PySem.W.Frag} {d : Nat} {B : Int} {vs : List V} {H : Hp} {Q : VK} : rSortedU K d B vs H Q = ∃ a, vs = [.ref a] ∧ ∃ ks : List (Addr × List Int), SqL K H a (ks.map fun p => V.ref p.1) ∧ (∀ p ∈ ks, SqT K H p.1 (p.2.map V.int)) ∧ UnOk B d ks ∧
  ∀ (L : List (Addr × List Int)) (p : Addr), (L.map (·.2)).Perm (ks.map (·.2)) → (∀ q ∈ L, q ∈ ks) → L.Pairwise (fun q r => padC B d q.2 ≤ padC B d r.2) → H p = none → Q (.ref p) (upd H p (.lst (L.map fun q => V.ref q.1))) := rfl
end Pr

namespace Pr
open PySem PySem.Spec PyProof.Rows L2
/-! sorted(set) of tuples of unlike lengths; max of a tuple; (n,) * k for k from 0 on; -/
section
variable {P : Program} {w : World} {A : Around} {E : Value → Shared → Prop} {s : Shared}
theorem sorted_setU {a : Addr} {L : List (Addr × List Int)} {es : Array (Int × Value)} {ep : Nat} {t : SetTable} {Q : Value → Shared → Prop} (R : SetTR P w s.heap a L es ep t) (hh : A.handled = none)
    {d : Nat} {B : Int} (hB : 1 < B) (hU : UnOk B d L)
    (hQ : ∀ s' p (out : Array Value) (c : Nat) (L' : List (Addr × List Int)), (∀ b o, s.heap.get? b = some o → s'.heap.get? b = some o) → s'.gens = s.gens → s'.os = s.os → s.heap.objs.size ≤ p →
      s'.heap.get? p = some (seqObj "list" out c) → out.toList = L'.map (fun q => Value.ref q.1) → (L'.map (·.2)).Perm (L.map (·.2)) → (∀ q ∈ L', q ∈ L) → L'.Pairwise (fun q r => padC B d q.2 ≤ padC B d r.2) → Q (.ref p) s') :
    wpAny (model P w) A (call (.builtin "sorted") [.ref a]) Q E s := by
  obtain ⟨o, ho, hex, hd⟩ := R.ob
  have hsz := R.size
  have hfew := R.few
  refine Calls.call_function_entry kind_sorted plain_sorted entry_sorted (args_sorted1 _) ?_
  unfold Builtin.«sorted»
  refine wpAny_bind (m := checkCount "sorted" 1 1 _) (wpAny_pure ?_)
  refine wpAny_bind (collect_set (A := A.in1) hh ⟨o, ho, hex.1, hd⟩ R.fits (by unfold scanBound; omega) R.tab.ris R.led fun s1 vs k1 hz g1 o1 pm => ?_)
  have hes : es.toList.map (·.2) = L.map fun q => Value.ref q.1 := by
    rw [R.rows]
    unfold rowsOf
    rw [List.map_map] <;> rfl
  rw [hes] at pm
  have hvl : vs.length = L.length := by rw [pm.length_eq, List.length_map]
  refine wpAny_bind (wpAny_newList ?_ (by rw [sizeLine_eq]; omega))
  have hoL : (s1.heap.push (seqObj "list" vs.toArray 0)).get? s1.heap.objs.size = some (seqObj "list" vs.toArray 0) := Heap.get?_push_size _ rfl
  have tk : ∀ q ∈ L, TS.TupInts (s1.heap.push (seqObj "list" vs.toArray 0)) (.ref q.1) q.2 := fun q hq => tupInts_of (P := P) (w := w) (isT_keep (R.tup q hq) fun b u e => Heap.get?_push_of_some _ (k1 b u e))
  have x : TupsU (s1.heap.push (seqObj "list" vs.toArray 0)) d B vs := fun v hv => by
    obtain ⟨q, hq, e⟩ := List.mem_map.mp (pm.mem_iff.mp hv)
    rw [← e, hvl]
    exact ⟨q.2, tk q hq, (hU.2 q hq).1, (hU.2 q hq).2.1, (hU.2 q hq).2.2⟩
  refine wpAny_bind (wpAny_holding (wpAny_call_entry slot_list_sort ⟨_, hoL, rfl⟩ entry_list_sort (sort_uneq (s := { s1 with heap := s1.heap.push (seqObj "list" vs.toArray 0) }) hB hoL (by omega) x fun out a1 a2 => ⟨_, rfl, ?_⟩) (args_list_sort _)))
  obtain ⟨c, hc⟩ := sortedHeap_at (vs := vs) (out := out) hoL
  obtain ⟨L', e', hs'⟩ := pairs_back (ks := L) out.toList fun v hv => by
    obtain ⟨q, hq, e⟩ := List.mem_map.mp (pm.mem_iff.mp (a1.mem_iff.mp hv))
    exact ⟨q, hq, e.symm⟩
  have e1 : ∀ l : List (Addr × List Int), (∀ q ∈ l, q ∈ L) → (l.map fun q => Value.ref q.1).map (TS.intsOf (s1.heap.push (seqObj "list" vs.toArray 0))) = l.map (·.2) := fun l h => by
    rw [List.map_map]
    exact List.map_congr_left fun q hq => (tk q (h q hq)).ints
  have pL : (L'.map (·.2)).Perm (L.map (·.2)) := by
    rw [← e1 L' hs', ← e1 L (fun q h => h), ← e']
    exact (a1.trans pm).map _
  have pw : L'.Pairwise (fun q r => padC B d q.2 ≤ padC B d r.2) := by
    rw [e', List.pairwise_map] at a2
    refine List.Pairwise.imp_of_mem (fun {q r} hq hr hle => ?_) a2
    have f1 := (tk q (hs' q hq)).ints
    have f2 := (tk r (hs' r hr)).ints
    rw [f1, f2] at hle
    exact hle
  refine wpAny_pure ⟨_, rfl, hQ _ s1.heap.objs.size out c L' (fun b u e => ?_) g1 o1 hz hc e' pL hs' pw⟩
  have q := k1 b u e
  have hlt := Heap.lt_size q
  show (sortedHeap (s1.heap.push (seqObj "list" vs.toArray 0)) s1.heap.objs.size vs out).get? b = some u
  rw [sortedHeap_old (Nat.ne_of_lt hlt) (by rw [size_push']; exact Nat.lt_succ_of_lt hlt)]
  exact Heap.get?_push_of_some _ q
end
section
variable {X : Cx}
def rSortedTU (K : PySem.W.Frag) (P : Program) (w : World) (d : Nat) (B : Int) : List V → Hp → VK → Prop := fun vs H Q => ∃ a, vs = [.ref a] ∧ ∃ L, H a = some (SetTO P w a L) ∧ (∀ p ∈ L, SqT K H p.1 (p.2.map V.int)) ∧ ((L.map (·.2)).Nodup → L.length < 64 → UnOk B d L) ∧
  ∀ (L' : List (Addr × List Int)) (p : Addr), (L'.map (·.2)).Perm (L.map (·.2)) → (L'.map (·.2)).Nodup → (∀ q ∈ L', q ∈ L) → L'.Pairwise (fun q r => padC B d q.2 ≤ padC B d r.2) → H p = none → Q (.ref p) (upd H p (.lst (L'.map fun q => V.ref q.1)))
theorem cr_sortedTU {d : Nat} {B : Int} (hc : X.calm = true) (hB : 1 < B) : CallR X (.builtin "sorted") (rSortedTU X.K X.prog X.w d B) := by
  intro pins s σ H vs us Q I r h
  obtain ⟨a, rfl, L, ha, hk, hU, q⟩ := h
  have R0 : SetT0 X.prog X.w s.heap a L := (I.hok a _ ha).1
  obtain ⟨es, ep, t, R⟩ := R0.full fun p hp => I.isT (hk p hp)
  rw [Vals.ref1 r]
  refine sorted_setU R (I.ok.hd hc) hB (hU R.nd R.few) fun s' p out c L' k g o hp hg hout pm hs pw => ?_
  have hlen : (L'.map fun q => V.ref q.1).length ≤ sizeLine := by
    have := pm.length_eq
    rw [List.length_map, List.length_map] at this
    have := R.few
    rw [List.length_map, sizeLine_eq]
    omega
  have hn : H p = none := I.hok.fresh hp
  have hv : Vals (L'.map fun q => V.ref q.1) out.toList := by rw [hout]; exact vals_of_refs L'
  have J : Inv X pins σ (upd H p (.lst (L'.map fun q => V.ref q.1))) { s with heap := s'.heap, gens := s'.gens, drawn := s'.drawn, toks := s'.toks } :=
    I.call (ch := []) (Un.laid k hp hn) (I.hok.laid k hp ⟨hlen, out.toList, c, hv, hg⟩) (by rw [g]; exact I.bare) (fun _ z => nomatch z)
  have e : s' = { s with heap := s'.heap, gens := s'.gens, drawn := s'.drawn, toks := s'.toks } := by
    cases s'
    cases s
    cases o
    rfl
  rw [e]
  exact ⟨.ref p, _, J, rfl, q L' p pm (pm.nodup_iff.mpr R.nd) hs pw hn⟩
/-- max of a tuple of whole numbers -/
def rMaxT (K : PySem.W.Frag) : List V → Hp → VK → Prop := fun vs H Q => ∃ a, vs = [V.ref a] ∧ ∃ ns : List Int, SqT K H a (ns.map V.int) ∧ 0 < ns.length ∧ ∀ m, m ∈ ns → (∀ y, y ∈ ns → y ≤ m) → Q (.int m) H
theorem tuple_mul0 (l : Addr) (items : Array Value) (n : Nat) (dd : Option Addr) (sl : Array (Option Value)) (u : Tok) :
    Meets (Builtin.«tuple.__mul__» ⟨[.ref l, .int 0 u], []⟩) (fun _ R s => s.heap.get? l = some { cls := .type "tuple", dict := dd, data := .seq items n, slots := sl } ∧ items.isEmpty = false ∧
      R (.ok (.ret (Value.ref s.heap.objs.size))) { s with heap := s.heap.push { cls := .type "tuple", data := .seq #[] } }) :=
  .of_wp fun prog w A R s h => by
    obtain ⟨hp, g, d, tk, os⟩ := s
    obtain ⟨hl, he, h⟩ := h
    have f1 := AutoSeq1.idx_int
    wp_walk using wpAny_loadPart' hl
    exact ⟨_, rfl, h⟩
/-- t * k of a tuple of one int, k from 0 on -/
def rRepTZ : R2 := fun x y H Q => ∃ l k, x = .ref l ∧ y = .int k ∧ ∃ n, H l = some (TI [n]) ∧ 0 ≤ k ∧ k ≤ 1000 ∧ ∀ p H', Same H H' → H' p = some (TI (List.replicate k.toNat n)) → Q (.ref p) H'
theorem op_repTZ : OpR X (binaryOp .Mult) rRepTZ := by
  intro pins s σ H x y v u Q I rx ry h
  obtain ⟨l, k, rfl, rfl, n, hl, h1, h2, q⟩ := h
  by_cases hk : k = 0
  · subst hk
    cases rx
    obtain ⟨t, rfl⟩ := ry
    obtain ⟨its, r, ⟨⟨cls, dd, data, sl⟩, ho, hc, m, hd⟩, hs⟩ := I.tuple (.inl (.inl hl))
    simp only at hc hd
    subst hc hd
    have hne : its.toArray.isEmpty = false := by
      have := r.length
      cases its with
      | nil => simp at this
      | cons _ _ => rfl
    refine wpAny_binaryOp_repeat_ref (T := "tuple") (U := "int") (by decide) ⟨_, ho, rfl⟩ (fun s' => typeIs_int s' 0 t) noFill_tuple_mul F.fills_int_mul F.slot_int_rmul repeat_tuple F.slot_int_index.lookup
      (call_meets F.slot_int_rmul (typeIs_int s 0 t) F.entry_int_rmul (F.args_int_rmul_2 _ _) (int_rmul_tuple 0 t l its.toArray m dd sl)
        ⟨ho, rfl, ⟨_, ho, rfl⟩, call_meets F.slot_tuple_mul ⟨_, ho, rfl⟩ F.entry_tuple_mul (F.args_tuple_mul_2 _ _) (tuple_mul0 l its.toArray m dd sl t) ⟨ho, hne, ?_⟩⟩)
    have fr : H s.heap.objs.size = none := I.hok.fresh (Nat.le_refl _)
    have I2 : Inv X pins σ (upd H s.heap.objs.size (.tup [])) { s with heap := s.heap.push { cls := .type "tuple", data := .seq #[] } } := I.laid (t' := s.toks) (fun b o e => Heap.get?_push_of_some _ e) (Nat.le_refl _) ⟨Nat.zero_le _, [], .nil, ⟨_, Heap.get?_push_size _ rfl, rfl, _, rfl⟩⟩
    exact ⟨.ref s.heap.objs.size, _, I2, rfl, q _ _ (same_upd fr) upd_same⟩
  · exact op_repTA pins s σ H (.ref l) (.int k) v u Q I rx ry ⟨l, k, rfl, rfl, n, hl, by omega, h2, q⟩
end
section
variable {prog : Program} {w : World} {A : Around} {E : Value → Shared → Prop} {s : Shared} {l : Addr} {xs : Array (Int × Tok)}
theorem max_intTupG {Q : Value → Shared → Prop} (hh : A.handled = none) (hl : IsTup s.heap l (intItems xs)) (hne : 0 < xs.size)
    (h : ∀ v h' tk, (intItems xs)[argBest (fun i j => decide (numAt xs i > numAt xs j)) (xs.size - 1)]? = some v → (∀ b o, s.heap.get? b = some o → h'.get? b = some o) → Q v { s with heap := h', toks := tk }) :
    wpAny (model prog w) A (call (.builtin "max") [.ref l]) Q E s := by
  have hlt : l < s.heap.objs.size := let ⟨_, ho, _⟩ := hl; Heap.lt_size ho
  refine call_max_walk (wpAny_pyIter_tuple hl ?_)
  refine ⟨_, [_, l], [_], _, _, _, _, rfl, Walks.tuple (A := A.in1) hh _ l (Nat.ne_of_lt hlt) (intItems xs), ⟨⟨_, Heap.get?_push_size _ rfl, rfl, rfl⟩, hl.push _⟩, fun b hb => ?_, by simpa [intItems] using hne, CmpOf.ints_gt (numAt xs) (fun _ _ => intItems_at), fun v h' tk hP hk => ?_⟩
  · show b < (s.heap.push _).objs.size
    rw [Heap.size_push]
    rcases List.mem_cons.mp hb with rfl | hb
    · exact Nat.lt_succ_self _
    · rcases List.mem_cons.mp hb with rfl | hb
      · exact Nat.lt_succ_of_lt hlt
      · cases hb
  · exact h v h' tk (by simpa [intItems] using hP) fun b o e => by
      refine hk b o (fun hm => ?_) (Heap.get?_push_of_some _ e)
      rcases List.mem_cons.mp hm with e1 | hm
      · exact absurd (e1 ▸ Heap.lt_size e) (Nat.lt_irrefl _)
      · cases hm
end
section
variable {X : Cx}
theorem cr_maxT (hc : X.calm = true) : CallR X (.builtin "max") (rMaxT X.K) := by
  intro pins s σ H vs us Q I r h
  obtain ⟨a, rfl, ns, hs, hne, q⟩ := h
  obtain ⟨its, rv, hl, _⟩ := I.tuple hs
  rw [Vals.ref1 r]
  obtain ⟨xs, e⟩ := rv.ints.allInts.items
  have hn : numsOf (intItems xs).toList = ns := by rw [← e]; exact rv.ints.numsOf
  rw [nums_intItems] at hn
  subst hn
  rw [e] at hl
  have hsz : 0 < xs.size := by simpa using hne
  refine max_intTupG (I.ok.hd hc) hl hsz fun v h' tk hv hk => ?_
  obtain ⟨t, rfl⟩ := intItems_at hv
  obtain ⟨h1, h2⟩ := argBest_gt (numAt xs) (xs.size - 1)
  refine ⟨.int _, H, I.kept hk, ⟨_, rfl⟩, q _ ?_ fun a ha => ?_⟩
  · rw [numAt_eq]; exact PySem.getD_mem (by rw [List.length_map, Array.length_toList]; omega)
  · obtain ⟨j, hj, rfl⟩ := mem_getD ha
    rw [List.length_map, Array.length_toList] at hj
    rw [← numAt_eq]; exact h2 j (by omega)
end
section
variable {σ : L2.St} {H : Hp} {Q : VK} {P : Program} {w : World} {K : PySem.W.Frag}
theorem ap_sortedTU {d : Nat} {B : Int} {vs : List V} : rSortedTU K P w d B vs H Q = ∃ a, vs = [.ref a] ∧ ∃ L, H a = some (SetTO P w a L) ∧ (∀ p ∈ L, SqT K H p.1 (p.2.map V.int)) ∧ ((L.map (·.2)).Nodup → L.length < 64 → UnOk B d L) ∧
  ∀ (L' : List (Addr × List Int)) (p : Addr), (L'.map (·.2)).Perm (L.map (·.2)) → (L'.map (·.2)).Nodup → (∀ q ∈ L', q ∈ L) → L'.Pairwise (fun q r => padC B d q.2 ≤ padC B d r.2) → H p = none → Q (.ref p) (upd H p (.lst (L'.map fun q => V.ref q.1))) := rfl
theorem ap_repTZ {x y : V} : rRepTZ x y H Q = ∃ l k, x = .ref l ∧ y = .int k ∧ ∃ n, H l = some (TI [n]) ∧ 0 ≤ k ∧ k ≤ 1000 ∧ ∀ p H', Same H H' → H' p = some (TI (List.replicate k.toNat n)) → Q (.ref p) H' := rfl
theorem ap_maxT {vs : List V} : rMaxT K vs H Q = ∃ a, vs = [V.ref a] ∧ ∃ ns : List Int, SqT K H a (ns.map V.int) ∧ 0 < ns.length ∧ ∀ m, m ∈ ns → (∀ y, y ∈ ns → y ≤ m) → Q (.int m) H := rfl
end
end Pr

namespace Pr
open PySem PySem.Spec PyProof.Rows L2
/-! generator defs; readings -/
theorem fun_gen {P : Program} {w : World} {K : PySem.W.Frag} {mg : Str → Option Value} {base : Heap} {x qual : Str} {st : Stmt} {f : Addr} {fd : FuncData} {N ps : List Str} {k : Nat} {sp : SpG} (F : Fun K x qual st f fd) (S : GScope N ps (defScope st)) (len : ∀ vs H Q E, sp vs H Q E → vs.length = ps.length)
    (hbody : ∀ (cdv : Value) (A : Around) (outer : List Env) (s : Shared) (H : Hp) (vs : List V) (Q : List V → Hp → Prop) (E : XK) (pn : List (Addr × Obj)), Room k (A.deeper (envOfC qual (defScope st) s.heap.objs.size f cdv)) → sp vs H Q E →
      ∃ t, GSs (gcxOf P w K mg base N qual (defScope st) f cdv A outer s H E pn) (defBody st) t ∧ t { nx := fun ys _ H' => Q ys H', rt := fun ys v H' => v = .non ∧ Q ys H' } [] (start N vs) H) : GFn P w K mg base (k + 1) f fd ps sp := by
  obtain ⟨oc, od, kV, doc, pm, an, cdv, ct, osl, rfl, lk, hcd⟩ := F.ex
  exact gfn_of lk hcd S len fun A outer s H vs Q E pn hr hsp => hbody cdv A outer s H vs Q E pn hr hsp
section
variable {D : GEnds} {ys : List V} {σ : L2.St} {H : Hp} {Q : VK} {K : PySem.W.Frag} {P : Program} {w : World}
theorem ap_gthen {t u : TGn} : tGThen t u D ys σ H = t { D with nx := fun ys' σ' H' => u D ys' σ' H' } ys σ H := rfl
theorem ap_gplain {t : TS} : tPlain t D ys σ H = t (D.at ys) σ H := rfl
theorem ap_g0 : tG0 D ys σ H = D.nx ys σ H := rfl
theorem ap_gyield {te : TE} : tGYield te D ys σ H = (ys.length < sizeLine ∧ te σ H fun x H1 => D.nx (ys ++ [x]) σ H1) := rfl
theorem ap_gat : (D.at ys).nx = D.nx ys := rfl
theorem ap_listG {tg : TGen} : tListG tg σ H Q = tg σ H fun out H2 => ∀ p, H2 p = none → Q (.ref p) (upd H2 p (.lst out)) := rfl
theorem ap_callG {sp : SpG} {dvs : List V} {E : XK} {t : TA} {cont : List V → Hp → Prop} : tCallG sp dvs E t σ H cont = t σ H fun vs H1 => sp (vs ++ dvs) H1 cont E := rfl
theorem ap_star {te : TE} {t : TA} {R : List V → Hp → Prop} : StX.tStar K te t σ H R = te σ H fun x H1 => ∃ p xs, x = V.ref p ∧ (SqT K H1 p xs ∨ SqL K H1 p xs) ∧ t σ H1 fun ys H2 => R (xs ++ ys) H2 := rfl
theorem ap_extend {x : V} {vs : List V} : rExtend x vs H Q = ∃ l b xs zs, x = .ref l ∧ vs = [.ref b] ∧ H l = some (.lst xs) ∧ H b = some (.lst zs) ∧ xs.length + zs.length ≤ sizeLine ∧ Q .non (upd H l (.lst (xs ++ zs))) := rfl
theorem ap_max {vs : List V} : rMax K vs H Q = ∃ (a : Addr) (ns : List Int), vs = [V.ref a] ∧ SqL K H a (ns.map V.int) ∧ 0 < ns.length ∧ ∀ m, m ∈ ns → (∀ y, y ∈ ns → y ≤ m) → Q (.int m) H := rfl
theorem ap_setOfT {xs : List V} : rSetOfT K P w xs H Q = ∃ (l : Addr) (ks : List (Addr × List Int)), xs = [V.ref l] ∧ SqL K H l (ks.map fun p => V.ref p.1) ∧ (∀ p ∈ ks, SqT K H p.1 (p.2.map V.int)) ∧ ks.length < 64 ∧
  ∀ a L, H a = none → (∀ p ∈ L, p ∈ ks) → (∀ p ∈ ks, p.2 ∈ L.map (·.2)) → Q (.ref a) (upd H a (SetTO P w a L)) := rfl
end
theorem noStop0 {K : PySem.W.Frag} : NoStop K E0 := fun _ _ _ h => h.elim
end Pr

/-! comprehensions with a test over any row; reversed(tuple) -/
namespace Pr
open PySem PySem.Spec PyProof.Rows L2
section
variable {K : PySem.W.Frag} {g : TG} {D : Ends} {σ : L2.St} {H : Hp} {j : Nat} {te : TE} {vs : List Nat} {Q : VK} {tt : TT} {J : It} {F : Hp → Prop}
/-- goes through xs, changing nothing -/
abbrev GoesXs (J : It) (xs : List V) (F : Hp → Prop) : Prop := Gives J xs.length F (fun i v H H' => H' = H ∧ xs[i]? = some v)
theorem gives_revT {a : Addr} {xs : List V} : GoesXs (RT.ItvT K a xs.length) xs.reverse (fun H => H a = some (.tup xs)) := by
  have hx : ∀ i, i < xs.reverse.length → xs[xs.length - 1 - i]? = xs.reverse[i]? := fun i h => by
    rw [List.getElem?_reverse (by simpa using h)]
  refine ⟨fun i H lt f => ⟨by simpa using lt, xs, xs.reverse[i], sqT_of f, ?_⟩, fun i H v H' lt f y => ⟨y.1, ?_⟩, fun H f => ?_⟩
  · rw [hx i lt]
    exact List.getElem?_eq_getElem lt
  · rw [← hx i lt]
    exact y.2 xs (sqT_of f)
  · show xs.length ≤ _
    simp
theorem gives_tupT {a : Addr} {xs : List V} : GoesXs (Itt K a) xs (fun H => SqT K H a xs) :=
  ⟨fun i H lt f => ⟨xs, xs[i], f, by simp [lt]⟩, fun i H v H' lt f y => ⟨y.1, y.2 xs f⟩, fun H f => ⟨xs, f, Nat.le_refl _⟩⟩
theorem lc_filt {xs : List V} (G : GoesXs J xs F) (t : V → Bool) (f : V → V) (hn : xs.length < 1000000) (hF : ∀ H', Same H H' → F H') (hw : ∀ x, wipe ((wipe σ vs).set j (some x)) vs = wipe σ vs)
    (ht : ∀ x H', x ∈ xs → Same H H' → ∀ Q' : Bool → Hp → Prop, (∀ H'', Same H' H'' → Q' (t x) H'') → tt ((wipe σ vs).set j (some x)) H' Q')
    (he : ∀ x H', x ∈ xs → t x = true → Same H H' → ∀ Q' : VK, (∀ H'', Same H' H'' → Q' (f x) H'') → te ((wipe σ vs).set j (some x)) H' Q')
    (hq : ∀ p H', H p = none → Same H H' → H' p = some (.lst ((xs.filter t).map f)) → Q (.ref p) H') :
    tLcIn (gName j) tt te vs σ Q J H := by
  refine lc_gen G (fun A i H' => Same H H' ∧ H' A = some (.lst (((xs.take i).filter t).map f))) (fun A hA => ⟨same_upd hA, by rw [upd_same, List.take_zero]; rfl⟩) (fun A i H' _ p => hF H' p.1) (fun A i x H1 H' hA hi p y => ?_) (fun A H' hA p => hq A H' hA p.1 (by rw [p.2, List.take_length]))
  obtain ⟨rfl, y⟩ := y
  have hm : x ∈ xs := List.mem_of_getElem? y
  have e1 : xs.take (i + 1) = xs.take i ++ [x] := by rw [List.take_succ, y]; rfl
  have hl : (((xs.take i).filter t).map f).length ≤ xs.length := by
    rw [List.length_map]
    exact Nat.le_trans (List.length_filter_le _ _) (by rw [List.length_take]; omega)
  refine ⟨hw _, ht x _ hm p.1 _ fun H2 s2 => ?_⟩
  split
  · rename_i c
    refine he x H2 hm c (p.1.trans s2) _ fun H3 s3 => ⟨_, s3 _ _ (s2 _ _ p.2), sz (by omega), same_mut ((p.1.trans s2).trans s3) hA, ?_⟩
    rw [upd_same, e1, List.filter_append, List.map_append, List.filter_cons_of_pos c]
    rfl
  · rename_i c
    refine ⟨p.1.trans s2, ?_⟩
    rw [s2 _ _ p.2, e1, List.filter_append, List.filter_cons_of_neg c]
    simp
/-- the same over ints -/
theorem lc_filtI {ns : List Int} (G : GoesXs J (ns.map V.int) F) (t : Int → Bool) (f : Int → Int) (hn : ns.length < 1000000) (hF : ∀ H', Same H H' → F H') (hw : ∀ x, wipe ((wipe σ vs).set j (some x)) vs = wipe σ vs)
    (ht : ∀ x H', x ∈ ns → Same H H' → ∀ Q' : Bool → Hp → Prop, (∀ H'', Same H' H'' → Q' (t x) H'') → tt ((wipe σ vs).set j (some (.int x))) H' Q')
    (he : ∀ x H', x ∈ ns → t x = true → Same H H' → ∀ Q' : VK, (∀ H'', Same H' H'' → Q' (.int (f x)) H'') → te ((wipe σ vs).set j (some (.int x))) H' Q')
    (hq : ∀ p H', H p = none → Same H H' → H' p = some (LI ((ns.filter t).map f)) → Q (.ref p) H') :
    tLcIn (gName j) tt te vs σ Q J H := by
  refine lc_filt (xs := ns.map V.int) G (fun v => match v with | .int x => t x | _ => true) (fun v => match v with | .int x => .int (f x) | v => v) (by rw [List.length_map]; exact hn) hF hw (fun x H' hx => ?_) (fun x H' hx => ?_) (fun p H' hp s e => hq p H' hp s ?_)
  · obtain ⟨y, hy, rfl⟩ := List.mem_map.mp hx
    exact ht y H' hy
  · obtain ⟨y, hy, rfl⟩ := List.mem_map.mp hx
    exact he y H' hy
  · rw [e, List.filter_map, List.map_map]
    show _ = some (HO.lst (((ns.filter t).map f).map V.int))
    rw [List.map_map]
    rfl
theorem ap_revA {te : TE} {σ : L2.St} {H : Hp} {R : It → Hp → Prop} : RT.iRevA K te σ H R = te σ H fun v H1 => ∃ (a : Addr) (xs : List V), v = .ref a ∧ ((SqL K H1 a xs ∧ R (Itv K a xs.length) H1) ∨ (SqT K H1 a xs ∧ R (RT.ItvT K a xs.length) H1)) := rfl
end
end Pr

/-! dicts with tuples as keys: d.values(), for k in d -/
namespace Pr
open PySem PySem.Spec PyProof.Rows L2
/-- the values of the locked dict at d -/
def ItdT (d : Addr) (o : Obj) (kvs : List (List L2.Key × V)) : It :=
  ⟨fun i H => H d = some (.frz o (.dT kvs)) ∧ i < kvs.length, fun i H x H' => H' = H ∧ ∃ k, kvs[i]? = some (k, x), fun i H => H d = some (.frz o (.dT kvs)) ∧ kvs.length ≤ i⟩
section
variable {P : Program} {w : World} {K : PySem.W.Frag}
theorem turn_valsT {d : Addr} {o : Obj} {es : Array DictEntry} {ep : Nat} {kvs : List (List L2.Key × V)} {tg : Expr} (it : Addr) (hod : o.data = .dict es ep) :
    Turn P w K tg (ItdT d o kvs) [it] it (fun i h => h.IsValIter it d i kvs.length ep) where
  mem := by simp
  obj := fun i h st b hb => by
    have e : b = it := by simpa using hb
    subst e
    obtain ⟨oi, e, c, dd⟩ := st
    exact ⟨oi, e, fun v z => by rw [dd] at z; cases z⟩
  keep := fun i h h' st k => st.at fun oi e => k it (by simp) oi e
  item := by
    intro X hP hw hK hc i pins s σ H E I hf st hg
    subst hP hw hK
    obtain ⟨hd, hi⟩ := hg
    obtain ⟨f0, f1, f2, f3, f4, f5⟩ := hf it (by simp)
    obtain ⟨hs, hgd, hx, es', ep', hdt, hsz, ent⟩ := frzT_at I hd
    obtain ⟨rfl, rfl⟩ := dict_ep hod hdt
    obtain ⟨⟨k, v⟩, hkv⟩ : ∃ p, kvs[i]? = some p := ⟨kvs[i], List.getElem?_eq_getElem hi⟩
    obtain ⟨en, q, e1, e2, rv, hq⟩ := ent i k v hkv
    rw [← hsz] at st hi
    have een : es'[i] = en := by
      rw [Array.getElem?_eq_getElem hi] at e1
      exact Option.some.inj e1
    refine wpAny_pyNext_values_item_raw st ⟨o, hgd, hx, hdt⟩ hi fun h' st' sb => ?_
    have I1 : Inv X pins σ H { s with heap := h' } := I.turned (t' := s.toks) (fun b ob hb e => (sb.2 b hb).trans e) f0 f1 f3 f4 f5
    obtain ⟨oi, e, c, dd⟩ := id st'
    rw [een]
    refine ⟨en.val, rfl, go_of (s := { s with heap := h' }) e c dd (by decide) ⟨v, H, I1, rv, ⟨rfl, k, hkv⟩, ?_, fun b hb => (hf b hb).1⟩⟩
    show h'.IsValIter it d (i + 1) kvs.length _
    rw [← hsz]
    exact st'
  done := by
    intro X hP hw hK hc i pins s σ H E I hf st hg
    subst hP hw hK
    obtain ⟨hd, hi⟩ := hg
    obtain ⟨f0, f1, f2, f3, f4, f5⟩ := hf it (by simp)
    obtain ⟨hs, hgd, hx, es', ep', hdt, hsz, ent⟩ := frzT_at I hd
    obtain ⟨rfl, rfl⟩ := dict_ep hod hdt
    rw [← hsz] at st hi
    exact wpAny_pyNext_values_end_raw (I.ok.hd hc) st ⟨o, hgd, hx, hdt⟩ hi fun h' eb => ⟨rfl, I.turned (t' := s.toks) (fun b ob hb e => eb b ob hb e) f0 f1 f3 f4 f5⟩
  self := fun _ _ _ _ _ st h => wpAny_pyIter_valiter st h
end
def iValsT (td : TE) : L2.TI := fun σ H R => td σ H fun x H1 => ∃ d o kvs, x = .ref d ∧ H1 d = some (.frz o (.dT kvs)) ∧ R (ItdT d o kvs) H1
theorem pi_valuesT {X : Cx} {tg e : Expr} {td : TE} {apos cpos : Pos} (he : PE X e td) (hbase : attributeBase e "values" X.env (eval e X.env) = eval e X.env := by rfl) (hline : (apos.endLine == cpos.line) = true := by rfl) :
    PI X tg (.Call (.Attribute e "values" apos) [] [] cpos) (iValsT td) := by
  refine ⟨fun pins s σ H R I h => ?_⟩
  refine wpAny_Call_method (T := "dict") (id := "dict.values") hbase rfl hline F.plainAttrs_dict F.slot_dict_values F.type_dict_values (thn (he.run pins s σ H _ I h) fun u s1 ⟨x, H1, I1, rx, d, o, kvs, ex, hd, q⟩ => ?_)
  subst ex
  obtain rfl : u = Value.ref d := rx
  obtain ⟨hs, hgd, hx, es, ep, hdt, hsz, ent⟩ := frzT_at I1 hd
  have hm : s1.heap.DictRaw d es ep := ⟨o, hgd, hx, hdt⟩
  refine ⟨hm.typeIs, fun a ea => by cases ea; exact ⟨o, hgd, hx.2.1⟩, ?_⟩
  have I2 : Inv X pins σ H1 { s1 with heap := s1.heap.push { cls := .type "dict_values", data := .fields #[.ref d] } } := I1.kept (t' := s1.toks) fun b ob q => Heap.get?_push_of_some _ q
  have fin : wpAny (model X.prog X.w) X.A (pyIter (.ref s1.heap.objs.size)) (PIE X pins σ tg R) X.xe { s1 with heap := s1.heap.push { cls := .type "dict_values", data := .fields #[.ref d] } } := by
    refine wpAny_pyIter_values_raw (d := d) (es := es) (ep := ep) ⟨_, Heap.get?_push_size _ rfl, rfl, rfl⟩ (hm.at fun _ e => Heap.get?_push_of_some _ e) (pi_one (tk := s1.toks) I2 _ (turn_valsT _ hdt) ⟨_, Heap.get?_push_size _ rfl, rfl, ?_⟩ q)
    rw [← hsz] <;> rfl
  show wpAny _ _ (callWith cpos (.builtin "dict.values") [.ref d] [] []) _ X.xe s1
  exact method_meetsIn F.slot_dict_values F.entry_dict_values rfl (PySem.evalArgs_none ⟨rfl, hm.typeIs, F.args_dict_values_1 _, _, meets_dict_values_raw d hs, ⟨es, ep, hm⟩, fin⟩)
theorem gives_valsT {d : Addr} {o : Obj} {kvs : List (List L2.Key × V)} : Gives (ItdT d o kvs) kvs.length (fun H => H d = some (.frz o (.dT kvs))) (fun i v H H' => H' = H ∧ ∃ k, kvs[i]? = some (k, v)) where
  go := fun i H lt f => ⟨f, lt⟩
  yld := fun i H v H' lt f y => y
  stop := fun H f => ⟨f, Nat.le_refl _⟩
theorem gives_keysT {d : Addr} {o : Obj} {kvs : List (List L2.Key × V)} : Gives (Itkt d o kvs) kvs.length (fun H => H d = some (.frz o (.dT kvs))) (fun i v H H' => H' = H ∧ ∃ k x q, kvs[i]? = some (k, x) ∧ v = .ref q ∧ H q = some (.tup (k.map kV))) where
  go := fun i H lt f => ⟨f, lt⟩
  yld := fun i H v H' lt f y => y
  stop := fun H f => ⟨f, Nat.le_refl _⟩
theorem ap_iValsT {td : TE} {σ : L2.St} {H : Hp} {R : It → Hp → Prop} : iValsT td σ H R = td σ H fun x H1 => ∃ d o kvs, x = .ref d ∧ H1 d = some (.frz o (.dT kvs)) ∧ R (ItdT d o kvs) H1 := rfl
theorem ap_iKeys {td : TE} {σ : L2.St} {H : Hp} {R : It → Hp → Prop} : iKeys td σ H R = td σ H fun x H1 => ∃ d o, x = .ref d ∧ ((∃ kvs, H1 d = some (.frz o (.dK kvs)) ∧ R (Itk d o kvs) H1) ∨ ∃ kvs, H1 d = some (.frz o (.dT kvs)) ∧ R (Itkt d o kvs) H1) := rfl
end Pr

/-! sorted(d), d a dict whose keys are tuples of ints, all of one length -/
namespace Pr
open PySem PySem.Spec PyProof.Rows L2
section
variable {X : Cx}
/-- the keys' tuples, each with its numbers -/
abbrev KeysAt (H : Hp) (L : List (Addr × List Int)) : Prop := ∀ q ∈ L, H q.1 = some (TI q.2)
def rSortedDT : List V → Hp → VK → Prop := fun vs H Q => ∃ (a : Addr) (kvs : List (List L2.Key × V)) (rows : List (List Int)) (d : Nat) (B : Int), vs = [.ref a] ∧ 1 ≤ d ∧ Rd H a (.dT kvs) ∧ kvs.map (·.1) = rows.map (fun r => r.map Sum.inl) ∧ rows.length < 64 ∧ (∀ r ∈ rows, r.length = d ∧ TS.Bd B r) ∧
  ∀ (L : List (Addr × List Int)) (p : Addr), (L.map (·.2)).Perm rows → KeysAt H L → L.Pairwise (fun q r => TS.code B q.2 ≤ TS.code B r.2) → H p = none → Q (.ref p) (upd H p (.lst (L.map fun q => V.ref q.1)))
theorem keys_rows {H : Hp} : ∀ {kvs : List (List L2.Key × V)} {xs : List (List L2.Key × Addr × Value)} {rows : List (List Int)}, KT H kvs xs → kvs.map (·.1) = rows.map (fun r => r.map Sum.inl) → ∃ ks : List (Addr × List Int), ks.map (·.2) = rows ∧ ks.map (·.1) = xs.map (fun x => x.2.1) ∧ KeysAt H ks
  | [], _, rows, .nil, e => by
    have : rows = [] := by
      cases rows with
      | nil => rfl
      | cons => simp at e
    subst this
    exact ⟨[], rfl, rfl, fun q h => absurd h List.not_mem_nil⟩
  | _ :: _, _, rows, .cons (a := p) (b := q) h t, e => by
    cases rows with
    | nil => simp at e
    | cons r rows =>
      rw [List.map_cons, List.map_cons] at e
      injection e with e1 e2
      obtain ⟨ks, k1, k2, k3⟩ := keys_rows t e2
      refine ⟨(q.2.1, r) :: ks, by rw [List.map_cons, k1], by rw [List.map_cons, List.map_cons, k2], fun x hx => ?_⟩
      rcases List.mem_cons.mp hx with rfl | hx
      · have h2 := h.2.1
        rw [e1, List.map_map] at h2
        exact h2
      · exact k3 x hx
theorem cr_sortedDT (hc : X.calm = true) : CallR X (.builtin "sorted") rSortedDT := by
  intro pins s σ H vs us Q I r h
  obtain ⟨a, kvs, rows, d, B, rfl, hd, hrd, hks, h64, hrow, q⟩ := h
  obtain ⟨u, rfl, rx⟩ := r.one
  cases rx
  obtain ⟨z, hs, xs, pr, o, es, ep, ho, hx, hdt, he, hn⟩ := (show ObjOk X.prog X.w H s.heap a (.dT kvs) from hrd.ok I.hok)
  obtain ⟨ks, k1, k2, k3⟩ := keys_rows pr hks
  have l1 : es.size = xs.length := size_of_entries he
  have l2 : kvs.length = xs.length := Paired.length pr
  have lk : ks.length = rows.length := by rw [← k1, List.length_map]
  have lx : xs.length = ks.length := by
    have := congrArg List.length k2
    simpa using this.symm
  refine Calls.call_function_entry PyProof.Rows.kind_sorted PyProof.Rows.plain_sorted PyProof.Rows.entry_sorted (PyProof.Rows.args_sorted1 _) ?_
  unfold Builtin.«sorted»
  refine wpAny_bind (m := checkCount "sorted" 1 1 _) (wpAny_pure ?_)
  refine wpAny_bind (PySem.W.kdu_collect (A := X.A.in1) (kdl_raw hs hx hdt) (I.ok.hd hc) ho (by omega) fun h' tk acc hk hacc => ?_)
  have ea : acc.toList = ks.map fun x => Value.ref x.1 := by
    have e0 : (ks.map fun x => Value.ref x.1) = xs.map fun x => Value.ref x.2.1 := by
      rw [show (fun x : Addr × List Int => Value.ref x.1) = Value.ref ∘ (·.1) from rfl, ← List.map_map, k2, List.map_map]
      rfl
    rw [e0]
    have hl : acc.toList.length = xs.length := by rw [Array.length_toList, hacc.1]; exact l1
    apply List.ext_getElem?
    intro j
    rw [List.getElem?_map]
    cases hj : acc.toList[j]? with
    | none =>
      have h1 := List.getElem?_eq_none_iff.mp hj
      rw [List.getElem?_eq_none (by omega)]
      rfl
    | some v =>
      obtain ⟨en, hen, hv⟩ := hacc.2 j v (by rw [← Array.getElem?_toList]; exact hj)
      have qe := entry_at he j
      rw [hen] at qe
      cases hb : xs[j]? with
      | none =>
        rw [hb] at qe
        exact nomatch (show some en = none from qe)
      | some b =>
        rw [hb] at qe
        have e2 : en = entryOfKey (tupleKind (mixKind X.prog X.w)) b := Option.some.inj qe
        rw [hv, e2]
        rfl
  have I1 : Inv X pins σ H { s with heap := h', toks := tk } := I.kept hk
  have hal : acc.toList.length = ks.length := by rw [ea, List.length_map]
  refine wpAny_bind (wpAny_newList ?_ (by rw [hal, lk, sizeLine_eq]; omega))
  have hoL : (h'.push (seqObj "list" acc.toList.toArray 0)).get? h'.objs.size = some (seqObj "list" acc.toList.toArray 0) := Heap.get?_push_size _ rfl
  show wpAny _ _ _ _ _ { s with heap := h'.push (seqObj "list" acc.toList.toArray 0), toks := tk }
  have ti : ∀ p ∈ ks, TS.TupInts (h'.push (seqObj "list" acc.toList.toArray 0)) (.ref p.1) p.2 := fun p hp =>
    TS.TupInts.keeps (tupI_raw I1 (sqT_of (k3 p hp))) fun b u e _ => Heap.get?_push_of_some _ e
  refine wpAny_bind (wpAny_holding (wpAny_call_entry PyProof.Rows.slot_list_sort ⟨_, hoL, rfl⟩ PyProof.Rows.entry_list_sort
    (TS.sort_tups (s := { s with heap := h'.push (seqObj "list" acc.toList.toArray 0), toks := tk }) (d := d) (B := B) hoL (by rw [hal, lk]; exact h64) hd (fun v hv => ?_) (fun v => TS.code B (TS.intsOf (h'.push (seqObj "list" acc.toList.toArray 0)) v)) (fun v _ ns t => by rw [t.ints]) fun out a1 a2 => ⟨_, rfl, ?_⟩) (PyProof.Rows.args_list_sort _)))
  · rw [ea] at hv
    obtain ⟨p, hp, rfl⟩ := List.mem_map.mp hv
    have hr : p.2 ∈ rows := by
      rw [← k1]
      exact List.mem_map_of_mem hp
    exact ⟨p.2, ti p hp, (hrow _ hr).1, (hrow _ hr).2⟩
  · obtain ⟨e', he'⟩ := PyProof.Rows.sortedHeap_at (vs := acc.toList) (out := out) hoL
    have a1' := a1
    rw [ea] at a1'
    obtain ⟨L, eL, hL⟩ := pairs_back (ks := ks) out.toList fun v hv => by
      obtain ⟨p, hp, e⟩ := List.mem_map.mp (a1'.mem_iff.mp hv)
      exact ⟨p, hp, e.symm⟩
    have len : L.length = ks.length := by
      have := a1'.length_eq
      rw [eL, List.length_map, List.length_map] at this
      exact this
    have pm : (L.map (·.2)).Perm (ks.map (·.2)) := by
      have e1 : ∀ l : List (Addr × List Int), (∀ q ∈ l, q ∈ ks) → (l.map fun q => Value.ref q.1).map (TS.intsOf (h'.push (seqObj "list" acc.toList.toArray 0))) = l.map (·.2) := fun l h => by
        rw [List.map_map]
        exact List.map_congr_left fun q hq => (ti q (h q hq)).ints
      rw [← e1 L hL, ← e1 ks (fun q h => h), ← eL]
      exact a1'.map _
    have hlen : (L.map fun q => V.ref q.1).length ≤ sizeLine := by rw [List.length_map, len, lk, sizeLine_eq]; omega
    refine wpAny_pure ⟨_, rfl, .ref h'.objs.size, upd H h'.objs.size (.lst (L.map fun q => V.ref q.1)), I1.laid (t' := tk) (fun b u e => ?_) (Nat.le_refl _)
      (show ObjOk X.prog X.w _ _ _ (.lst (L.map fun q => V.ref q.1)) from ⟨hlen, out.toList, e', by rw [eL]; exact vals_of_refs L, by rw [Array.toArray_toList]; exact he'⟩), rfl, q L _ (by rw [← k1]; exact pm) (fun x hx => k3 x (hL x hx)) ?_ (I1.hok.fresh (Nat.le_refl _))⟩
    · have hb : b < h'.objs.size := Heap.lt_size e
      rw [PyProof.Rows.sortedHeap_old (Nat.ne_of_lt hb) (by rw [size_push']; exact Nat.lt_succ_of_lt hb)]
      exact Heap.get?_push_of_some _ e
    · rw [eL, List.pairwise_map] at a2
      refine List.Pairwise.imp_of_mem (fun {u v} hu' hv' huv => ?_) a2
      rw [(ti u (hL u hu')).ints, (ti v (hL v hv')).ints] at huv
      exact huv
theorem ap_sortedDT {vs : List V} {H : Hp} {Q : VK} : rSortedDT vs H Q = ∃ (a : Addr) (kvs : List (List L2.Key × V)) (rows : List (List Int)) (d : Nat) (B : Int), vs = [.ref a] ∧ 1 ≤ d ∧ Rd H a (.dT kvs) ∧ kvs.map (·.1) = rows.map (fun r => r.map Sum.inl) ∧ rows.length < 64 ∧ (∀ r ∈ rows, r.length = d ∧ TS.Bd B r) ∧
  ∀ (L : List (Addr × List Int)) (p : Addr), (L.map (·.2)).Perm rows → KeysAt H L → L.Pairwise (fun q r => TS.code B q.2 ≤ TS.code B r.2) → H p = none → Q (.ref p) (upd H p (.lst (L.map fun q => V.ref q.1))) := rfl
end
end Pr

/-! dict(xs), xs a list of pairs (tuple of ints, int), no key twice -/
namespace Pr
open PySem PySem.Spec PyProof.Rows L2
section
variable {X : Cx} {pins : List (Addr × Obj)} {σ : L2.St} {H : Hp} {s : Shared}
theorem pairs_xsT (I : Inv X pins σ H s) : ∀ (rs : List Addr) (l : List (List Int × Int)), rs.length = l.length → (∀ (i : Nat) (r : Addr) (q : List Int × Int), rs[i]? = some r → l[i]? = some q → ∃ k, SqT X.K H r [.ref k, .int q.2] ∧ H k = some (TI q.1)) →
    ∃ xs : List (List L2.Key × Addr × Value), xs.length = l.length ∧ xs.map (·.1) = l.map (fun q => q.1.map Sum.inl) ∧ ∀ (i : Nat) (r : Addr) (x : List L2.Key × Addr × Value) (q : List Int × Int), rs[i]? = some r → xs[i]? = some x → l[i]? = some q → x.1 = q.1.map Sum.inl ∧ H x.2.1 = some (TI q.1) ∧ (∃ t, x.2.2 = .int q.2 t) ∧ IsTup s.heap r #[.ref x.2.1, x.2.2]
  | [], [], _, _ => ⟨[], rfl, rfl, fun i r x q e => by simp at e⟩
  | [], _ :: _, h, _ => by simp at h
  | _ :: _, [], h, _ => by simp at h
  | r :: rs, q :: l, h, hk => by
    obtain ⟨xs, h1, h0, h2⟩ := pairs_xsT I rs l (by simpa using h) fun i r' q' e1 e2 => hk (i + 1) r' q' (by simpa using e1) (by simpa using e2)
    obtain ⟨k, k1, k2⟩ := hk 0 r q rfl rfl
    obtain ⟨its, rv, pt, _⟩ := I.tuple k1
    obtain ⟨u1, u2, rfl, r1, r2⟩ := vals2 rv
    cases r1
    obtain ⟨t, rfl⟩ := r2
    refine ⟨(q.1.map Sum.inl, k, .int q.2 t) :: xs, by rw [List.length_cons, List.length_cons, h1], by rw [List.map_cons, List.map_cons, h0], fun i r' x q' e1 e2 e3 => ?_⟩
    cases i with
    | zero =>
      cases e1
      cases e2
      cases e3
      exact ⟨rfl, k2, ⟨t, rfl⟩, pt⟩
    | succ i => exact h2 i r' x q' (by simpa using e1) (by simpa using e2) (by simpa using e3)
/-- pairs of parallel rows, told place by place -/
theorem paired_at {α β : Type} {R : α → β → Prop} : ∀ {as : List α} {bs : List β}, as.length = bs.length → (∀ (i : Nat) (a : α) (b : β), as[i]? = some a → bs[i]? = some b → R a b) → Paired R as bs
  | [], [], _, _ => .nil
  | [], _ :: _, h, _ => by simp at h
  | _ :: _, [], h, _ => by simp at h
  | a :: as, b :: bs, h, k => .cons (k 0 a b rfl rfl) (paired_at (by simpa using h) fun i x y e1 e2 => k (i + 1) x y (by simpa using e1) (by simpa using e2))
end
def rDictLT (K : PySem.W.Frag) : List V → Hp → VK → Prop := fun vs H Q => ∃ a, vs = [.ref a] ∧ ∃ (rs : List Addr) (l : List (List Int × Int)), SqL K H a (rs.map V.ref) ∧ rs.length = l.length ∧ (∀ (i : Nat) (r : Addr) (q : List Int × Int), rs[i]? = some r → l[i]? = some q → ∃ k, SqT K H r [.ref k, .int q.2] ∧ H k = some (TI q.1)) ∧
  (l.map (·.1)).Nodup ∧ l.length ≤ 1000 ∧ ∀ p, H p = none → Q (.ref p) (upd H p (.dT (dtOf l)))
theorem cr_dictLT {X : Cx} (hc : X.calm = true) (hu : X.A.units + 64 < cLine) : CallR X (.type "dict") (rDictLT X.K) := by
  intro pins s σ H vs us Q I rv h
  obtain ⟨a, rfl, rs, l, hq, hl, hr, nd, hz, q⟩ := h
  obtain ⟨u, rfl, ru⟩ := rv.one
  cases ru
  obtain ⟨its, rvs, ⟨o, n, ho, hcl, hdn, hd⟩, _⟩ := I.list hq
  have ei := refs_at rvs
  subst ei
  obtain ⟨xs, x1, x0, x2⟩ := pairs_xsT I rs l hl hr
  have lx : xs.length = rs.length := by rw [x1, hl]
  have ndx : (xs.map (·.1)).Nodup := by
    rw [x0, show (l.map fun q => (q.1.map Sum.inl : List L2.Key)) = (l.map (·.1)).map (List.map Sum.inl) by rw [List.map_map]; rfl]
    exact List.pairwise_map.mpr (List.Pairwise.imp (fun h e => h (map_inl_inj e)) nd)
  have get : ∀ (i : Nat) (x : List L2.Key × Addr × Value), xs[i]? = some x → ∃ (r : Addr) (q : List Int × Int), rs[i]? = some r ∧ l[i]? = some q ∧ x.1 = q.1.map Sum.inl ∧ H x.2.1 = some (TI q.1) ∧ (∃ t, x.2.2 = .int q.2 t) ∧ IsTup s.heap r #[.ref x.2.1, x.2.2] := fun i x e => by
    have hi := (List.getElem?_eq_some_iff.mp e).1
    have e1 := List.getElem?_eq_getElem (show i < rs.length by omega)
    have e2 := List.getElem?_eq_getElem (show i < l.length by omega)
    exact ⟨_, _, e1, e2, x2 i _ x _ e1 e e2⟩
  have P := PairArg.list (prog := X.prog) (w := X.w) a (rs.map Value.ref).toArray (fun j => rs.getD j 0) (xs.map fun x => (Value.ref x.2.1, x.2.2))
  have hz' : (xs.map fun x => (Value.ref x.2.1, x.2.2)).length ≤ sizeLine := by rw [List.length_map, sizeLine_eq]; omega
  refine call_dict_pairsH (knd := tupleKind (mixKind X.prog X.w)) (ps := xs) P (I.ok.hd hc) ?_ ⟨⟨o, n, ho, hcl, hdn, hd⟩, ?_, fun j k v e => ?_⟩ ⟨by rw [List.length_map], fun i key v e => ?_⟩ (fun h' hk x hx => ?_) hz' fun h' tk hdo hk => ?_
  · show X.A.units + 1 + 1 < cLine
    omega
  · rw [List.size_toArray, List.length_map, List.length_map, lx]
  · rw [List.getElem?_map, Option.map_eq_some_iff] at e
    obtain ⟨x, ex, e2⟩ := e
    cases e2
    obtain ⟨r, q', er, eq, _, _, _, pt⟩ := get j x ex
    have eg : rs.getD j 0 = r := by rw [List.getD_eq_getElem?_getD, er]; rfl
    show (List.map Value.ref rs).toArray[j]? = some (Value.ref (rs.getD j 0)) ∧ PairAt s.heap (rs.getD j 0) (Value.ref x.2.1) x.2.2
    rw [eg]
    exact ⟨by rw [List.getElem?_toArray, List.getElem?_map, er]; rfl, .inl pt⟩
  · have e : (xs.map fun x => (Value.ref x.2.1, x.2.2))[i]? = some (key, v) := e
    rw [List.getElem?_map, Option.map_eq_some_iff] at e
    obtain ⟨x, ex, e2⟩ := e
    cases e2
    exact ⟨x.1, x.2.1, ex, rfl⟩
  · obtain ⟨i, hi⟩ := List.mem_iff_getElem?.mp hx
    obtain ⟨r, q', er, eq, e1, e2, _, _⟩ := get i x hi
    rw [e1]
    obtain ⟨o', its', n', g1, g2, g3, g4⟩ := key_ofK I (sqT_of e2)
    exact ⟨o', its', n', hk _ _ (Nat.ne_of_lt (Heap.lt_size g1)) (by simp) g1, g2, g3, g4⟩
  · rw [storedAll_nodup xs [] (by simpa using ndx), List.nil_append] at hdo
    obtain ⟨o', es, ep, g1, g2, g3, g4, _, _⟩ := hdo
    have fr : H s.heap.objs.size = none := I.hok.fresh (Nat.le_refl _)
    have hm : (s.heap.objs.size == sysModules) = false := beq_eq_false_iff_ne.mpr (Nat.ne_of_gt I.big)
    refine ⟨.ref s.heap.objs.size, _, I.laid (t' := tk) (o := .dT (dtOf l)) (fun b o e => hk b o (by simp) e) (Nat.le_refl _) ⟨?_, hm, xs, ?_, o', es, ep, g1, g2, g3, g4, ndx⟩, rfl, q _ fr⟩
    · unfold dtOf
      rw [List.length_map, sizeLine_eq]
      omega
    · refine paired_at (by unfold dtOf; rw [List.length_map, x1]) fun i p x e1 e2 => ?_
      obtain ⟨r, q2, er, eq, f1, f2, ⟨t, f3⟩, _⟩ := get i x e2
      unfold dtOf at e1
      rw [List.getElem?_map, eq] at e1
      cases e1
      refine ⟨f1.symm, ?_, f3 ▸ ⟨t, rfl⟩⟩
      rw [kV_ints]
      exact same_upd fr _ _ f2
theorem ap_dictLT {K : PySem.W.Frag} {vs : List V} {H : Hp} {Q : VK} : rDictLT K vs H Q = ∃ a, vs = [.ref a] ∧ ∃ (rs : List Addr) (l : List (List Int × Int)), SqL K H a (rs.map V.ref) ∧ rs.length = l.length ∧ (∀ (i : Nat) (r : Addr) (q : List Int × Int), rs[i]? = some r → l[i]? = some q → ∃ k, SqT K H r [.ref k, .int q.2] ∧ H k = some (TI q.1)) ∧
  (l.map (·.1)).Nodup ∧ l.length ≤ 1000 ∧ ∀ p, H p = none → Q (.ref p) (upd H p (.dT (dtOf l))) := rfl
end Pr

/-! len(d), d a dict whose keys are tuples -/
namespace Pr
open PySem PySem.Spec PySem.Calls PyProof.Rows L2
section
variable {X : Cx}
def rLenDT : List V → Hp → VK → Prop := fun xs H Q => ∃ a kvs, xs = [V.ref a] ∧ Rd H a (.dT kvs) ∧ Q (.int (kvs.length : Nat)) H
theorem cr_lenDT : CallR X (.builtin "len") rLenDT := by
  intro pins s σ H xs us Q I r h
  obtain ⟨a, kvs, rfl, ha, q⟩ := h
  obtain ⟨u, rfl, ru⟩ := r.one
  cases ru
  obtain ⟨z, hs, ks, pr, o, es, ep, ho, hx, hdt, he, hn⟩ := (show ObjOk X.prog X.w H s.heap a (.dT kvs) from ha.ok I.hok)
  have n1 : es.size = kvs.length := (size_of_entries he).trans (Paired.length pr).symm
  have raw : s.heap.DictRaw a es ep := ⟨o, ho, hx, hdt⟩
  rw [sizeLine_eq] at z
  refine Calls.call_function_entry kind_len plain_len entry_len (args_len1 _) ?_
  unfold Builtin.«len»
  refine wpAny_bind (m := oneArg "len" _) (wpAny_pure (wpAny_bind (m := callSpecial? _ (Str.ofString "__len__")) (wpAny_callSpecial?_slot (name := Str.ofString "__len__") raw.typeIs F.slot_dict_len (call_len_raw hs raw ?_))))
  rw [n1]
  refine wpAny_bind (wpAny_holding (wpAny_pure (wpAny_bind (wpAny_letGo ?_))))
  show wpAny _ _ (if ((kvs.length : Nat) : Int) < 0 then _ else (if ((kvs.length : Nat) : Int) ≥ 2 ^ 63 then _ else _)) _ _ _
  rw [if_neg (by omega), if_neg (by omega)]
  exact wpAny_bind (wpAny_mkInt (wpAny_pure ⟨_, rfl, .int (kvs.length : Nat), H, I.tok _, ⟨_, rfl⟩, q⟩))
theorem ap_lenDT {xs : List V} {H : Hp} {Q : VK} : rLenDT xs H Q = ∃ a kvs, xs = [V.ref a] ∧ Rd H a (.dT kvs) ∧ Q (.int (kvs.length : Nat)) H := rfl
end
end Pr

/-! a dict comprehension whose store is any that DPut tells: keys that are tuples too -/
namespace Pr
open PySem PySem.Spec PyProof.Rows L2
section
variable {X : Cx}
theorem dset_any {pins : List (Addr × Obj)} {σ : L2.St} {H H' : Hp} {s : Shared} {E : Value → Shared → Prop} {D : Addr} {y v : V} {u r : Value} {Q : Unit → Shared → Prop}
    (hu : X.A.units < cLine) (I : Inv X pins σ H s) (g : DPut H D y v H') (ry : RelV y u) (rv : RelV v r) (q : ∀ s', Inv X pins σ H' s' → Q () s') :
    wpAny (model X.prog X.w) X.A (dictSet D u r) Q E s := by
  rcases g with ⟨kvs, k, e, rfl, l, rfl⟩ | ⟨kvs, k, b, e, rfl, eb, l, rfl⟩
  · exact d_dictSet I e l ry rv q
  · obtain rfl : u = Value.ref b := ry
    obtain ⟨z, nsm, xs, rel, dd⟩ := dt_of I.hok e
    have lx : kvs.length = xs.length := Paired.length rel
    have grow : (putK kvs k v).length ≤ sizeLine := by
      have := length_putK kvs k v
      omega
    refine wpAny_dictSet_heap (knd := tupleKind (mixKind X.prog X.w)) (hsz := by omega) hu (key_of I.hok eb) dd fun h2 d2 sb => q _ ?_
    obtain ⟨o2, es2, ep2, g1, g2, g3, g4, _, g5⟩ := d2
    have told : KT (upd H D (.dT (putK kvs k v))) (putK kvs k v) (storedH xs k b r) := (rel.put k eb rv).keeps fun c ys ec => by
      rw [upd_ne (ne_of ec e (fun z => nomatch z))]
      exact ec
    exact d_write I (by rw [e]; trivial) sb ⟨o2, g1⟩ ⟨grow, nsm, _, told, o2, es2, ep2, g1, g2, g3, g4, g5⟩
theorem thnX {α : Type} {t : Sem α} {Q Q' : α → Shared → Prop} {M : Model} {A : Around} {E E' : Value → Shared → Prop} {s : Shared} (hx : ∀ e s, ¬ E e s) (h : wpAny M A t Q E s) (hQ : ∀ a s, Q a s → Q' a s) : wpAny M A t Q' E' s :=
  wpAny_mono h hQ fun e s z => absurd z (hx e s)
/-- a turn's reading, D the dict that grows -/
def DcStep (g : TG) (tt : TT) (tk tv : TE) (vs : List Nat) (σ : L2.St) (D : Addr) (Nx : Hp → Prop) (x : V) (H' : Hp) : Prop :=
  g x (wipe σ vs) H' fun σ2 H2 => wipe σ2 vs = wipe σ vs ∧ tt σ2 H2 fun b H3 => if b = true then tk σ2 H3 fun y H4 => tv σ2 H4 fun z H5 => ∃ H6, DPut H5 D y z H6 ∧ Nx H6 else Nx H3
def tDcIn (g : TG) (tt : TT) (tk tv : TE) (vs : List Nat) (σ : L2.St) (Q : VK) (J : It) (H1 : Hp) : Prop := ∀ D, H1 D = none → ∃ W : Nat → Nat → Hp → Prop, (∃ m, W 0 m (upd H1 D (.dT []))) ∧
  ∀ i m H, W i m H → (J.stop i H ∧ Q (.ref D) H) ∨ (J.go i H ∧ ∃ Nx : Hp → Prop, (∀ H', Nx H' → ∃ m', m' < m ∧ W (i + 1) m' H') ∧ ∀ x H', J.yld i H x H' → DcStep g tt tk tv vs σ D Nx x H')
def tDcT (wi : L2.TI) (g : TG) (tt : TT) (tk tv : TE) (vs : List Nat) : TE := fun σ H Q => wi σ H (tDcIn g tt tk tv vs σ Q)
/-- the state between two turns -/
def Between (B : Cx) (fp : List Addr) (tn : Nat → Heap → Prop) (W : Nat → Nat → Hp → Prop) (σ : L2.St) (n : Nat) (s : Shared) : Prop :=
  ∃ i H, Inv B [] σ H s ∧ tn i s.heap ∧ (∀ b ∈ fp, H b = none) ∧ W i n H
theorem dc_loop {B : Cx} {kx vx tg iter : Expr} {ifs : List Expr} {scope : Scope} {pos : Pos} {it D : Addr} {fp : List Addr} {tn : Nat → Heap → Prop} {J : It} {g : TG} {tt : TT} {tk tv : TE} {vs : List Nat} {σ : L2.St}
    {W : Nat → Nat → Hp → Prop} {Q : VK} {R : Result → Shared → Prop} {s : Shared} {m : Nat} (hc : B.calm = true) (hu : B.A.units < cLine) (hx : ∀ e s, ¬ B.xe e s) (T : Turn B.prog B.w B.K tg J fp it tn)
    (pg : PG B tg g) (pt : PTs B ifs tt) (pk : PE B kx tk) (pv : PE B vx tv) (ok : ∀ {σ' : L2.St} {H' : Hp} {s' : Shared}, Inv B [] σ' H' s' → (∀ b ∈ fp, H' b = none) → ∀ b ∈ fp, FpOk B [] H' b)
    (turn : ∀ i m H, W i m H → (J.stop i H ∧ Q (.ref D) H) ∨ (J.go i H ∧ ∃ Nx : Hp → Prop, (∀ H', Nx H' → ∃ m', m' < m ∧ W (i + 1) m' H') ∧ ∀ x H', J.yld i H x H' → DcStep g tt tk tv vs σ D Nx x H'))
    (last : ∀ H' s', Inv B [] (wipe σ vs) H' s' → Q (.ref D) H' → R (.ok .next) s') (h0 : Between B fp tn W (wipe σ vs) m s) :
    codeAny (model B.prog B.w) B.A (.compLoop (.DictComp kx vx [⟨tg, iter, ifs, 0⟩] scope pos) 0 (.ref it) (.ref D) B.env) R s := by
  refine compLoop_anyD (Between B fp tn W (wipe σ vs)) (fun n s1 hb => ?_) m h0
  obtain ⟨i, H1, I1, t1, n1, w1⟩ := hb
  have f1 := ok I1 n1
  rcases turn i n H1 w1 with ⟨hstop, hq⟩ | ⟨hgo, Nx, down, step⟩
  · exact thnF (T.done B rfl rfl rfl hc i [] s1 _ H1 (fun _ _ => False) I1 f1 t1 hstop) fun r s2 ⟨er, I2⟩ => er ▸ last H1 s2 I2 hq
  · refine thnF (T.item B rfl rfl rfl hc i [] s1 _ H1 (fun _ _ => False) I1 f1 t1 hgo) fun r s2 ⟨u, er, h2⟩ => ?_
    subst er
    refine thnF h2 fun _ s3 ⟨x, H3, I3, r3, y3, t3, n3⟩ => ?_
    have I3p := I3.pinned (ok I3 n3) (T.obj _ _ t3)
    refine thnX hx (pg.run _ s3 _ H3 x u _ I3p r3 (step x H3 y3)) fun _ s4 ⟨σ4, H4, I4, hw, q4⟩ => ?_
    -- what a turn leaves: the walk's own objects as they stood
    have over : ∀ {s' : Shared} {H' : Hp}, Inv B ([] ++ pinsAt fp s3.heap) σ4 H' s' → Nx H' → ∃ m, m < n ∧ Between B fp tn W (wipe σ vs) m s' := fun {s' H'} I' nx => by
      obtain ⟨m', lt, w'⟩ := down H' nx
      have stays : ∀ b ∈ fp, ∀ o, s3.heap.get? b = some o → s'.heap.get? b = some o ∧ H' b = none := fun b hb o e => by
        have p := I'.pin (b, o) (List.mem_append_right _ (List.mem_append_right _ (mem_pinsAt hb e)))
        exact ⟨p.1, p.2.1⟩
      have I'' : Inv B [] (wipe σ vs) H' s' := by
        refine (I'.unpinned (pins := [])).weak (by rw [← hw, wipe_length]) fun j v e => ?_
        rw [← hw] at e
        exact (wipe_some e).1
      refine ⟨m', lt, i + 1, H', I'', T.keep _ _ _ t3 fun b hb o e => (stays b hb o e).1, fun b hb => ?_, w'⟩
      obtain ⟨o, e, _⟩ := T.obj _ _ t3 b hb
      exact (stays b hb o e).2
    refine thnX hx (pt.run _ s4 σ4 H4 _ I4 q4) fun b s5 ⟨H5, I5, q5⟩ => ?_
    cases b
    · simp only [Bool.false_eq_true, if_false] at q5 ⊢
      exact over I5 q5
    · simp only [if_true] at q5 ⊢
      exact thnX hx (pk.run _ s5 σ4 H5 _ I5 q5) fun kv s6 ⟨ky, H6, I6, r6, q6⟩ => thnX hx (pv.run _ s6 σ4 H6 _ I6 q6) fun vv s7 ⟨vy, H7, I7, r7, H8, put, nx⟩ => dset_any hu I7 put r6 r7 fun s8 I8 => over I8 nx
section
variable {pins : List (Addr × Obj)} {s : Shared} {σ : L2.St} {H : Hp} {Q : VK} {kx vx tg iter : Expr} {ifs : List Expr} {scope : Scope} {own : List (Str × Nat)} {pos pos' : Pos} {wi : L2.TI} {g : TG} {tt : TT} {tk tv : TE}
/-- a rule of each part, in whatever block of the scope -/
structure DcParts (X : Cx) (scope : Scope) (tg : Expr) (ifs : List Expr) (kx vx : Expr) (g : TG) (tt : TT) (tk tv : TE) : Prop where
  tgt : ∀ (s : Shared) (H : Hp) (C : Addr) (cl : List (Str × Addr)) (fp : List Addr), PG (X.blk s H scope (compEnvC scope cl C X.env) fp) tg g
  tst : ∀ (s : Shared) (H : Hp) (C : Addr) (cl : List (Str × Addr)) (fp : List Addr), PTs (X.blk s H scope (compEnvC scope cl C X.env) fp) ifs tt
  key : ∀ (s : Shared) (H : Hp) (C : Addr) (cl : List (Str × Addr)) (fp : List Addr), PE (X.blk s H scope (compEnvC scope cl C X.env) fp) kx tk
  val : ∀ (s : Shared) (H : Hp) (C : Addr) (cl : List (Str × Addr)) (fp : List Addr), PE (X.blk s H scope (compEnvC scope cl C X.env) fp) vx tv
theorem dc_coreT {use : Option (Value → Sem Unit)} {Qf : Value → Shared → Prop} (hc : X.calm = true) (hu : X.A.units < cLine) (hN : X.N.Nodup) (hi : PI X tg iter wi) (ok : BlkOk X.N X.env.scope scope own) (P : DcParts X scope tg ifs kx vx g tt tk tv)
    (hs : ∀ x, foldedSetIterable iter X.env x = pure x) (I : Inv X pins σ H s) (h : tDcT wi g tt tk tv (own.map (·.2)) σ H Q)
    (last : ∀ D C s' m H', Inv X pins σ H' s' → Q (.ref D) H' → s'.heap.Ns C m → FpOk X pins H' C → compPost (model X.prog X.w) X.A X.xe use Qf (.ref D) C (.ok .next) s') :
    wpAny (model X.prog X.w) X.A (comprehension (.DictComp kx vx [⟨tg, iter, ifs, 0⟩] scope pos) scope X.env pos' newDict false (eval iter X.env) use) Qf X.xe s := by
  have free : ∀ y ∈ scope.names, y.2 = .free → ∃ c, X.env.cells.lookup y.1 = some c := by
    intro y hy e
    cases ok.free y hy e with
    | inl k => exact I.ok.has _ (.inl k)
    | inr k => exact I.ok.has _ (.inr k)
  refine wpAny_comprehension_free (use := use) rfl hs (closure_ok free) ok.kind (fun y hy e => (ok.uniq y hy).trans (by rw [e])) ?_
  refine thn (hi.run pins s σ H _ I h) fun xv s1 h1 => thn h1 fun itv s2 h2 => ?_
  obtain ⟨it, fp, tn, J, H2, rfl, I2, T, t2, f2, q⟩ := h2
  refine wpAny_newObj_type (newEnv_comp ?_)
  have below : ∀ b ∈ fp, b < s2.heap.objs.size := fun b hb => (T.obj _ _ t2 b hb).elim fun o e => Heap.lt_size e.1
  have new : H2 s2.heap.objs.size = none := I2.hok.fresh (Nat.le_refl _)
  obtain ⟨W, ⟨m0, w0⟩, turn⟩ := q _ new
  generalize eD : s2.heap.objs.size = D at new w0 turn below ⊢
  have I3 : Inv X pins σ (upd H2 D (.dT [])) { s2 with heap := s2.heap.push { cls := .type "dict", data := .dict #[] } } := by
    refine I2.laid (t' := s2.toks) (fun b o e => Heap.get?_push_of_some _ e) (Nat.le_of_eq eD) ?_
    rw [← eD]
    exact dt_empty s2.heap I2.big
  generalize e3 : ({ s2 with heap := s2.heap.push { cls := .type "dict", data := .dict #[] } } : Shared) = s3 at I3
  have hp3 : s3.heap = s2.heap.push { cls := .type "dict", data := .dict #[] } := by rw [← e3]
  have f3 : ∀ b ∈ fp, FpOk X pins (upd H2 D (.dT [])) b ∧ b < s3.heap.objs.size := by
    intro b hb
    have lt := below b hb
    refine ⟨⟨?_, (f2 b hb).2⟩, ?_⟩
    · rw [upd_ne (Nat.ne_of_lt lt)]
      exact (f2 b hb).1
    · rw [hp3, Heap.size_push, eD]
      exact Nat.lt_succ_of_lt lt
  have t3 : tn 0 s3.heap := T.keep _ _ _ t2 fun b _ o e => hp3 ▸ Heap.get?_push_of_some _ e
  generalize eH : upd H2 D (.dT []) = H3 at I3 f3 w0
  have I4 := block_start I3 ok hN f3
  have p1 := P.tgt s3 H3 s3.heap.objs.size (cellsFrom (s3.heap.objs.size + 1) scope.names (cloFrom X.env.cells scope.names [])) fp
  have p2 := P.tst s3 H3 s3.heap.objs.size (cellsFrom (s3.heap.objs.size + 1) scope.names (cloFrom X.env.cells scope.names [])) fp
  have p3 := P.key s3 H3 s3.heap.objs.size (cellsFrom (s3.heap.objs.size + 1) scope.names (cloFrom X.env.cells scope.names [])) fp
  have p4 := P.val s3 H3 s3.heap.objs.size (cellsFrom (s3.heap.objs.size + 1) scope.names (cloFrom X.env.cells scope.names [])) fp
  have goal : ∀ {ce : Env} {s4 : Shared}, ce.locals = s3.heap.objs.size → Inv (X.blk s3 H3 scope ce fp) [] (wipe σ (own.map (·.2))) H3 s4 → tn 0 s4.heap → PG (X.blk s3 H3 scope ce fp) tg g → PTs (X.blk s3 H3 scope ce fp) ifs tt →
      PE (X.blk s3 H3 scope ce fp) kx tk → PE (X.blk s3 H3 scope ce fp) vx tv →
      codeAny (model X.prog X.w) X.A (.compLoop (.DictComp kx vx [⟨tg, iter, ifs, 0⟩] scope pos) 0 (.ref it) (.ref D) ce) (compPost (model X.prog X.w) X.A X.xe use Qf (.ref D) s3.heap.objs.size) s4 := by
    intro ce s4 cl I4 t4 p1 p2 p3 p4
    refine dc_loop (B := X.blk s3 H3 scope ce fp) (Q := Q) (W := W) (vs := own.map (·.2)) (σ := σ) (m := m0) hc hu (fun _ _ z => z) T p1 p2 p3 p4 (fun {σ' H' s'} I' n' b hb => ?_) turn (fun H' s' I' q' => ?_) ⟨0, H3, I4, t4, fun b hb => (f3 b hb).1.1, w0⟩
    · exact ⟨n' b hb, (I'.ok.exf b hb).1, I'.ok.exfs b hb, .inl hb, fun x c e => (I'.ok.exf b hb).2 x c e, fun p hp => absurd (show p ∈ ([] : List (Addr × Obj)) ++ [] from hp) (by simp)⟩
    · have I7 : Inv X pins σ H' s' := I3.call' (ch := fp) I'.os I'.base I'.hok I'.bare fun b hb => (fun ⟨_, a1, a2, a3, a4, a5⟩ => ⟨a3, a1, a4, a5⟩) (f3 b hb).1
      have nC : H' s3.heap.objs.size = none := cl ▸ (show H' ce.locals = none from I'.free)
      obtain ⟨m, hn, _⟩ := I'.loc
      have hn : s'.heap.Ns ce.locals m := hn
      exact last D _ s' m H' I7 q' (cl ▸ hn) (I3.fpOk (Nat.le_refl _) nC)
  have t4 : tn 0 (pushCells (s3.heap.push { cls := .type "dict", data := .dict #[] }) scope.names) := T.keep _ _ _ t3 fun b _ o e => pushCells_keeps _ _ _ _ (Heap.get?_push_of_some _ e)
  have run := goal rfl I4 t4 p1 p2 p3 p4
  show codeAny _ _ (.compStart (.DictComp kx vx [⟨tg, iter, ifs, 0⟩] scope pos) 0 (.ref it) (.ref D) (compEnvC scope (cellsFrom (s3.heap.objs.size + 1) scope.names (cloFrom X.env.cells scope.names [])) s3.heap.objs.size X.env)) (compPost (model X.prog X.w) X.A X.xe use Qf (.ref D) s3.heap.objs.size)
    { s3 with heap := pushCells (s3.heap.push { cls := .type "dict", data := .dict #[] }) scope.names }
  exact codeAny_compStart_dict run (T.self X.A 0 { s3 with heap := pushCells (s3.heap.push { cls := .type "dict", data := .dict #[] }) scope.names } _ _ t4 run)
theorem pe_dcT (hc : X.calm = true) (hu : X.A.units < cLine) (hN : X.N.Nodup) (hi : PI X tg iter wi) (ok : BlkOk X.N X.env.scope scope own) (P : DcParts X scope tg ifs kx vx g tt tk tv) (hs : ∀ x, foldedSetIterable iter X.env x = pure x := by intro _; rfl) :
    PE X (.DictComp kx vx [⟨tg, iter, ifs, 0⟩] scope pos) (tDcT wi g tt tk tv (own.map (·.2))) := ⟨fun pins s σ H Q I h => by
  rw [arm_eval_DictComp]
  refine dc_coreT hc hu hN hi ok P hs I h fun D C s' m H' I' q hn f => ⟨m, hn, fun h'' sb => ⟨.ref D, H', ?_, rfl, q⟩⟩
  exact I'.turned (t' := s'.toks) (fun b o hb e => (sb.2 b hb).trans e) f.1 f.2.1 f.2.2.2.1 f.2.2.2.2.1 f.2.2.2.2.2⟩
theorem ap_dcT {vs : List Nat} : tDcT wi g tt tk tv vs σ H Q = wi σ H (tDcIn g tt tk tv vs σ Q) := rfl
end
/-- over a row that changes nothing -/
theorem dc_xs {g : TG} {tt : TT} {tk tv : TE} {vs : List Nat} {σ : L2.St} {Q : VK} {J : It} {H : Hp} {xs : List V} {F : Hp → Prop} (G : GoesXs J xs F) (Pv : Addr → Nat → Hp → Prop) (h0 : ∀ D, H D = none → Pv D 0 (upd H D (.dT []))) (hF : ∀ D i H', i ≤ xs.length → Pv D i H' → F H')
    (hs : ∀ D i x H', H D = none → xs[i]? = some x → Pv D i H' → DcStep g tt tk tv vs σ D (Pv D (i + 1)) x H') (hq : ∀ D H', H D = none → Pv D xs.length H' → Q (.ref D) H') : tDcIn g tt tk tv vs σ Q J H := fun D hD => by
  refine ⟨fun i m H' => m + i = xs.length ∧ Pv D i H', ⟨xs.length, rfl, h0 D hD⟩, fun i m H' ⟨e, p⟩ => ?_⟩
  cases m with
  | zero =>
    obtain rfl : i = xs.length := by omega
    exact .inl ⟨G.stop H' (hF D _ H' (Nat.le_refl _) p), hq D H' hD p⟩
  | succ m =>
    have lt : i < xs.length := by omega
    have f := hF D i H' (by omega) p
    refine .inr ⟨G.go i H' lt f, Pv D (i + 1), fun H2 p2 => ⟨m, Nat.lt_succ_self m, by omega, p2⟩, fun x H2 y => ?_⟩
    obtain ⟨rfl, e2⟩ := G.yld i H' x H2 lt f y
    exact hs D i x H2 hD e2 p
end
theorem ap_sortT1 {K : PySem.W.Frag} {d : Nat} {B : Int} {vs : List V} {H : Hp} {Q : VK} : rSortU K d B vs H Q = ∃ (a : Addr) (xs : List V), vs = [V.ref a] ∧ SqL K H a xs ∧ xs.length < 64 ∧
  (∀ x ∈ xs, ∃ ns, TupI K H x ns ∧ ns.length = d ∧ TS.Bd B ns) ∧ ∀ (ys : List V) (p : Addr), ys.Perm xs →
    ys.Pairwise (fun x y => ∀ n m, TupI K H x n → TupI K H y m → TS.code B n ≤ TS.code B m) → H p = none → Q (.ref p) (upd H p (.lst ys)) := rfl
end Pr

/-! sorted(list of int tuples of one length), the length told in the reading -/
namespace Pr
open PySem PySem.Spec PyProof.Rows L2
def rSortE (K : PySem.W.Frag) : List V → Hp → VK → Prop := fun vs H Q => ∃ (d : Nat) (B : Int), 1 ≤ d ∧ rSortU K d B vs H Q
theorem cr_sortE {X : Cx} : CallR X (.builtin "sorted") (rSortE X.K) := by
  intro pins s σ H vs us Q I r h
  obtain ⟨d, B, hd, h⟩ := h
  exact cr_sortT hd pins s σ H vs us Q I r h
theorem ap_sortE {K : PySem.W.Frag} {vs : List V} {H : Hp} {Q : VK} : rSortE K vs H Q = ∃ (d : Nat) (B : Int), 1 ≤ d ∧ rSortU K d B vs H Q := rfl
end Pr

namespace M26
/-- boxes of the weight w in d parts up to m, by one part more -/
def cnt : Nat → Nat → Int → Int
  | 0, _, w => if w = 0 then 1 else 0
  | _ + 1, 0, w => if w = 0 then 1 else 0
  | d + 1, m + 1, w => cnt d (m + 1) w + cnt (d + 1) m (w - (d + 1))
theorem c0 (m : Nat) (w : Int) : cnt 0 m w = if w = 0 then 1 else 0 := by unfold cnt; rfl
theorem cm0 (d : Nat) (w : Int) : cnt d 0 w = if w = 0 then 1 else 0 := by
  cases d with
  | zero => exact c0 0 w
  | succ d => unfold cnt; rfl
theorem cs (d m : Nat) (w : Int) : cnt (d + 1) (m + 1) w = cnt d (m + 1) w + cnt (d + 1) m (w - (d + 1)) := by
  conv => lhs; unfold cnt
theorem ab : ∀ (n d m : Nat), d + m ≤ n →
    (∀ w : Int, cnt (d + 1) m w - cnt (d + 1) m (w - (d + 1)) = cnt d m w - cnt d m (w - (m + d + 1))) ∧
    (∀ w : Int, cnt d (m + 1) w - cnt d (m + 1) (w - (m + 1)) = cnt d m w - cnt d m (w - (m + 1 + d)))
  | 0, d, m, h => by
    obtain rfl : d = 0 := by omega
    obtain rfl : m = 0 := by omega
    constructor
    · intro w
      simp only [cm0, c0]
      omega
    · intro w
      simp only [cm0, c0]
      omega
  | n + 1, d, m, h => by
    have hA : ∀ w : Int, cnt (d + 1) m w - cnt (d + 1) m (w - (d + 1)) = cnt d m w - cnt d m (w - (m + d + 1)) := by
      intro w
      cases m with
      | zero =>
        simp only [cm0]
        omega
      | succ m =>
        have a1 := (ab n d m (by omega)).1 (w - (d + 1))
        have b1 := (ab n d m (by omega)).2 w
        have e1 := cs d m w
        have e2 := cs d m (w - (d + 1))
        have b2 := (ab n d m (by omega)).2 (w - (d + 1))
        have q2 : w - (↑(m + 1) + (d : Int) + 1) = w - (d + 1) - (m + 1) := by omega
        have q3 : w - (d + 1 : Int) - (m + d + 1) = w - (d + 1) - (m + 1 + d) := by omega
        rw [q2]
        rw [q3] at a1
        omega
    have hB : ∀ w : Int, cnt d (m + 1) w - cnt d (m + 1) (w - (m + 1)) = cnt d m w - cnt d m (w - (m + 1 + d)) := by
      intro w
      cases d with
      | zero =>
        simp only [c0]
        omega
      | succ d =>
        have b1 := (ab n d m (by omega)).2 w
        have a1 := (ab n d m (by omega)).1 w
        have e1 := cs d m w
        have e2 := cs d m (w - (m + 1))
        have a2 := (ab n d m (by omega)).1 (w - (m + 1))
        have q1 : w - ((m : Int) + 1) - (d + 1) = w - (m + 1 + (d + 1 : Nat)) := by omega
        have q2 : w - ((m : Int) + d + 1) = w - (m + 1 + d) := by omega
        rw [q1] at e2
        rw [q2] at a1
        omega
    exact ⟨hA, hB⟩
theorem ruleA (d m : Nat) (w : Int) : cnt (d + 1) m w - cnt (d + 1) m (w - (d + 1)) = cnt d m w - cnt d m (w - (m + d + 1)) := (ab _ d m (Nat.le_refl _)).1 w
theorem ruleB (d m : Nat) (w : Int) : cnt d (m + 1) w - cnt d (m + 1) (w - (m + 1)) = cnt d m w - cnt d m (w - (m + 1 + d)) := (ab _ d m (Nat.le_refl _)).2 w
/-- the other way one part more -/
theorem ruleC (d m : Nat) (w : Int) : cnt (d + 1) (m + 1) w = cnt (d + 1) m w + cnt d (m + 1) (w - (m + 1)) := by
  have e1 := cs d m w
  have b := ruleB d m w
  have a := ruleA d m w
  have q2 : w - ((m : Int) + d + 1) = w - (m + 1 + d) := by omega
  rw [q2] at a
  omega
theorem sym : ∀ (n d m : Nat) (w : Int), d + m ≤ n → cnt d m w = cnt m d w
  | n, 0, m, w, _ => by rw [c0, cm0]
  | n, d, 0, w, _ => by rw [c0, cm0]
  | 0, d + 1, m + 1, w, h => by omega
  | n + 1, d + 1, m + 1, w, h => by
    rw [cs m d w, ruleC d m w, sym n (d + 1) m w (by omega), sym n d (m + 1) _ (by omega)]
theorem swap (d m : Nat) (w : Int) : cnt d m w = cnt m d w := sym _ d m w (Nat.le_refl _)
theorem neg : ∀ (d m : Nat) (w : Int), w < 0 → cnt d m w = 0
  | 0, m, w, h => by rw [c0, if_neg (by omega)]
  | d + 1, 0, w, h => by rw [cm0, if_neg (by omega)]
  | d + 1, m + 1, w, h => by rw [cs, neg d (m + 1) w h, neg (d + 1) m _ (by omega)]; rfl
theorem pal : ∀ (d m : Nat) (w : Int), cnt d m ((d * m : Nat) - w) = cnt d m w
  | 0, m, w => by
    rw [c0, c0]
    simp
  | d + 1, 0, w => by
    rw [cm0, cm0]
    simp
  | d + 1, m + 1, w => by
    rw [cs d m (((d + 1) * (m + 1) : Nat) - w), ruleC d m w]
    have h1 := pal d (m + 1) (w - (m + 1))
    have h2 := pal (d + 1) m w
    have q1 : (((d + 1) * (m + 1) : Nat) : Int) - w = ((d * (m + 1) : Nat) : Int) - (w - (m + 1)) := by
      have : ((d + 1) * (m + 1) : Nat) = d * (m + 1) + (m + 1) := Nat.succ_mul d (m + 1)
      omega
    have q2 : (((d + 1) * (m + 1) : Nat) : Int) - w - (d + 1) = (((d + 1) * m : Nat) : Int) - w := by
      have : ((d + 1) * (m + 1) : Nat) = (d + 1) * m + (d + 1) := Nat.mul_succ (d + 1) m
      omega
    rw [q2, h2, q1, h1]
    omega
theorem high (d m : Nat) (w : Int) (h : ((d * m : Nat) : Int) < w) : cnt d m w = 0 := by
  rw [← pal d m w]
  exact neg d m _ (by omega)
theorem nonneg : ∀ (d m : Nat) (w : Int), 0 ≤ cnt d m w
  | 0, m, w => by rw [c0]; split <;> omega
  | d + 1, 0, w => by rw [cm0]; split <;> omega
  | d + 1, m + 1, w => by
    rw [cs]
    have := nonneg d (m + 1) w
    have := nonneg (d + 1) m (w - (d + 1))
    omega
/-- the row of all counts -/
def crow (d m : Nat) : List Int := (List.range (d * m + 1)).map fun w : Nat => cnt d m w
theorem crow_len (d m : Nat) : (crow d m).length = d * m + 1 := by simp [crow]
end M26
namespace M26
/-- just j parts, each up to v -/
def ex (v j : Nat) (x : Int) : Int := match v with
  | 0 => if j = 0 ∧ x = 0 then 1 else 0
  | v + 1 => cnt j v (x - j)
theorem ex_step (v j : Nat) (x : Int) : ex (v + 1) (j + 1) x = ex v (j + 1) x + ex (v + 1) j (x - (v + 1)) := by
  cases v with
  | zero =>
    show cnt (j + 1) 0 (x - (j + 1 : Nat)) = (if j + 1 = 0 ∧ x = 0 then 1 else 0) + cnt j 0 (x - ((0 : Nat) + 1) - j)
    rw [if_neg (by omega), cm0, cm0]
    have : (x - (j + 1 : Nat) = 0) ↔ (x - ((0 : Nat) + 1) - j = 0) := by omega
    simp only [this]
    omega
  | succ u =>
    show cnt (j + 1) (u + 1) (x - (j + 1 : Nat)) = cnt (j + 1) u (x - (j + 1 : Nat)) + cnt j (u + 1) (x - ((u + 1 : Nat) + 1) - j)
    have h := ruleC j u (x - (j + 1 : Nat))
    have q : x - (j + 1 : Nat) - (u + 1 : Int) = x - ((u + 1 : Nat) + 1) - j := by omega
    rw [q] at h
    exact h
theorem ex_low (v j : Nat) (x : Int) (h : x < v + 1) : ex (v + 1) j x = ex v j x := by
  cases j with
  | zero =>
    cases v with
    | zero =>
      show cnt 0 0 (x - (0 : Nat)) = if 0 = 0 ∧ x = 0 then 1 else 0
      rw [c0]
      simp
    | succ v =>
      show cnt 0 (v + 1) (x - (0 : Nat)) = cnt 0 v (x - (0 : Nat))
      rw [c0, c0]
  | succ j =>
    rw [ex_step]
    have : ex (v + 1) j (x - (v + 1)) = 0 := by
      show cnt j v (x - (v + 1) - j) = 0
      exact neg j v _ (by omega)
    omega
theorem ex_zero (v : Nat) (x : Int) : ex v 0 x = if x = 0 then 1 else 0 := by
  cases v with
  | zero =>
    show (if 0 = 0 ∧ x = 0 then (1 : Int) else 0) = _
    simp
  | succ v =>
    show cnt 0 v (x - (0 : Nat)) = _
    rw [c0]
    simp
def sumTo (f : Nat → Int) : Nat → Int
  | 0 => 0
  | n + 1 => sumTo f n + f n
theorem sum_range (f : Nat → Int) (n : Nat) : ((List.range n).map f).sum = sumTo f n := by
  induction n with
  | zero => rfl
  | succ n ih =>
    rw [List.range_succ, List.map_append, List.sum_append, ih]
    simp [sumTo]
theorem sum_ex (d m : Nat) (x : Int) : sumTo (fun j => ex m j x) (d + 1) = cnt d m x := by
  induction d with
  | zero =>
    show 0 + ex m 0 x = cnt 0 m x
    rw [ex_zero, c0]
    omega
  | succ d ih =>
    show sumTo (fun j => ex m j x) (d + 1) + ex m (d + 1) x = _
    rw [ih]
    cases m with
    | zero =>
      show cnt d 0 x + (if d + 1 = 0 ∧ x = 0 then 1 else 0) = _
      rw [if_neg (by omega), cm0, cm0]
      omega
    | succ v =>
      show cnt d (v + 1) x + cnt (d + 1) v (x - (d + 1 : Nat)) = _
      rw [cs]
      have q : x - (d + 1 : Nat) = x - (d + 1 : Int) := by omega
      rw [q]
/-- lots of d things among d + m -/
def bn : Nat → Nat → Int
  | 0, _ => 1
  | _ + 1, 0 => 1
  | k + 1, j + 1 => bn k (j + 1) + bn (k + 1) j
theorem b0 (j : Nat) : bn 0 j = 1 := by unfold bn; rfl
theorem bj0 (k : Nat) : bn k 0 = 1 := by
  cases k with
  | zero => exact b0 0
  | succ k => unfold bn; rfl
theorem bs (k j : Nat) : bn (k + 1) (j + 1) = bn k (j + 1) + bn (k + 1) j := by
  conv => lhs; unfold bn
theorem bn_step : ∀ (n k j : Nat), k + j ≤ n → bn k (j + 1) * (j + 1) = (k + 1) * bn (k + 1) j
  | 0, k, j, h => by
    obtain rfl : k = 0 := by omega
    obtain rfl : j = 0 := by omega
    rw [b0, bj0]
    rfl
  | n + 1, k, j, h => by
    cases k with
    | zero =>
      rw [b0]
      cases j with
      | zero =>
        rw [bj0]
        rfl
      | succ j =>
        have h1 := bn_step n 0 j (by omega)
        rw [b0] at h1
        rw [bs, b0]
        have e : ((0 : Nat) : Int) = 0 := rfl
        rw [e] at h1 ⊢
        grind
    | succ k =>
      cases j with
      | zero =>
        have h1 := bn_step n k 0 (by omega)
        rw [bs, bj0, bj0]
        rw [bj0] at h1
        grind
      | succ j =>
        have h1 := bn_step n k (j + 1) (by omega)
        have h2 := bn_step n (k + 1) j (by omega)
        rw [bs k (j + 1), bs (k + 1) j]
        have e1 : ((k + 1 : Nat) : Int) = k + 1 := by omega
        have e2 : ((j + 1 : Nat) : Int) = j + 1 := by omega
        simp only [e1, e2] at h1 h2 ⊢
        have h3 := bs k j
        grind
theorem bn_div (k j : Nat) : bn k (j + 1) * (j + 1) / (k + 1) = bn (k + 1) j := by
  rw [bn_step _ k j (Nat.le_refl _)]
  exact Int.mul_ediv_cancel_left _ (by omega)
theorem bn_pos : ∀ (k j : Nat), 0 ≤ bn k j
  | 0, j => by rw [b0]; omega
  | k + 1, 0 => by rw [bj0]; omega
  | k + 1, j + 1 => by
    rw [bs]
    have := bn_pos k (j + 1)
    have := bn_pos (k + 1) j
    omega
theorem sumTo_add (f g : Nat → Int) (n : Nat) : sumTo (fun i => f i + g i) n = sumTo f n + sumTo g n := by
  induction n with
  | zero => rfl
  | succ n ih =>
    show sumTo (fun i => f i + g i) n + (f n + g n) = (sumTo f n + f n) + (sumTo g n + g n)
    omega
theorem sumTo_congr {f g : Nat → Int} {n : Nat} (h : ∀ i, i < n → f i = g i) : sumTo f n = sumTo g n := by
  induction n with
  | zero => rfl
  | succ n ih =>
    show sumTo f n + f n = sumTo g n + g n
    rw [ih fun i hi => h i (by omega), h n (by omega)]
theorem sumTo_zeros (f : Nat → Int) (a : Nat) : ∀ b : Nat, (∀ i, a ≤ i → f i = 0) → sumTo f (a + b) = sumTo f a
  | 0, _ => rfl
  | b + 1, h => by
    show sumTo f (a + b) + f (a + b) = _
    rw [sumTo_zeros f a b h, h (a + b) (by omega)]
    omega
theorem sumTo_shift (g : Int → Int) (k : Nat) (h : ∀ x : Int, x < 0 → g x = 0) : ∀ n : Nat, sumTo (fun i => g (i - k)) (k + n) = sumTo (fun i => g i) n
  | 0 => by
    show sumTo (fun i => g (i - k)) k = 0
    have e : ∀ j, j ≤ k → sumTo (fun i => g (i - k)) j = 0 := fun j => by
      induction j with
      | zero => intro _; rfl
      | succ j ih =>
        intro hj
        show sumTo (fun i => g (i - k)) j + g (j - k) = 0
        rw [ih (by omega), h _ (by omega)]
        rfl
    exact e k (Nat.le_refl k)
  | n + 1 => by
    show sumTo (fun i => g (i - k)) (k + n) + g ((k + n : Nat) - k) = sumTo (fun i => g i) n + g n
    rw [sumTo_shift g k h n]
    have : ((k + n : Nat) : Int) - k = n := by omega
    rw [this]
/-- all counts together, as far as one likes -/
theorem total : ∀ (d m : Nat) (b : Nat), sumTo (fun i => cnt d m i) (d * m + 1 + b) = bn d m
  | 0, m, b => by
    rw [sumTo_zeros _ _ b fun i hi => high 0 m i (by omega), Nat.zero_mul, b0]
    show 0 + cnt 0 m (0 : Nat) = 1
    rw [c0]
    rfl
  | d + 1, 0, b => by
    rw [sumTo_zeros _ _ b fun i hi => high (d + 1) 0 i (by omega), Nat.mul_zero, bj0]
    show 0 + cnt (d + 1) 0 (0 : Nat) = 1
    rw [cm0]
    rfl
  | d + 1, m + 1, b => by
    have e : (fun i : Nat => cnt (d + 1) (m + 1) i) = fun i : Nat => cnt d (m + 1) i + (fun x : Int => cnt (d + 1) m x) (i - (d + 1 : Nat)) := by
      funext i
      rw [cs]
      have q : (i : Int) - (d + 1 : Nat) = i - (d + 1 : Int) := by omega
      rw [q]
    rw [e, sumTo_add, bs]
    have m1 : (d + 1) * (m + 1) = d * (m + 1) + (m + 1) := Nat.succ_mul d (m + 1)
    have m2 : (d + 1) * (m + 1) = (d + 1) * m + (d + 1) := Nat.mul_succ (d + 1) m
    have t1 := total d (m + 1) (m + 1 + b)
    have t2 := total (d + 1) m b
    have q1 : (d + 1) * (m + 1) + 1 + b = d * (m + 1) + 1 + (m + 1 + b) := by omega
    have q2 : (d + 1) * (m + 1) + 1 + b = (d + 1) + ((d + 1) * m + 1 + b) := by omega
    have t3 := sumTo_shift (fun x : Int => cnt (d + 1) m x) (d + 1) (fun x h => neg (d + 1) m x h) ((d + 1) * m + 1 + b)
    rw [← q2] at t3
    rw [t3, t2, q1, t1]
theorem crow_sum (d m : Nat) : (crow d m).sum = bn d m := by
  unfold crow
  rw [sum_range]
  exact total d m 0
theorem crow_rev (d m : Nat) : (crow d m).reverse = crow d m := by
  unfold crow
  apply List.ext_getElem
  · simp
  · intro i h1 h2
    have h3 : i < d * m + 1 := by simpa using h2
    rw [List.getElem_reverse, List.getElem_map, List.getElem_map, List.getElem_range, List.getElem_range]
    have q : ((List.map (fun w : Nat => cnt d m w) (List.range (d * m + 1))).length - 1 - i : Nat) = d * m - i := by simp
    rw [q, ← pal d m i]
    congr 1
    omega
theorem crow_swap (d m : Nat) : crow m d = crow d m := by
  unfold crow
  rw [Nat.mul_comm m d]
  apply List.map_congr_left
  intro i _
  exact swap m d i
end M26

namespace M26
/-! rising to the middle, for small numbers: by a table of rows -/
def plus : List Nat → List Nat → List Nat
  | [], ys => ys
  | x :: xs, [] => x :: xs
  | x :: xs, y :: ys => (x + y) :: plus xs ys
theorem plus_get : ∀ (xs ys : List Nat) (w : Nat), (plus xs ys).getD w 0 = xs.getD w 0 + ys.getD w 0
  | [], ys, w => by simp [plus]
  | x :: xs, [], w => by simp [plus]
  | x :: xs, y :: ys, 0 => by simp [plus]
  | x :: xs, y :: ys, w + 1 => by
    have h := plus_get xs ys w
    simpa [plus] using h
theorem shift_get (k : Nat) (ys : List Nat) (w : Nat) : (List.replicate k 0 ++ ys).getD w 0 = if w < k then 0 else ys.getD (w - k) 0 := by
  simp only [List.getD_eq_getElem?_getD]
  by_cases c : w < k
  · rw [if_pos c, List.getElem?_append_left (by simpa using c)]
    simp [c]
  · rw [if_neg c, List.getElem?_append_right (by simpa using c)]
    simp
def IsRow (d m : Nat) (r : List Nat) : Prop := ∀ w : Nat, ((r.getD w 0 : Nat) : Int) = cnt d m w
theorem isRow_one (d : Nat) : IsRow d 0 [1] := fun w => by
  rw [cm0]
  cases w with
  | zero => rfl
  | succ w =>
    rw [if_neg (by omega)]
    rfl
theorem isRow_one0 (m : Nat) : IsRow 0 m [1] := fun w => by
  rw [c0]
  cases w with
  | zero => rfl
  | succ w =>
    rw [if_neg (by omega)]
    rfl
theorem isRow_next {d m : Nat} {p l : List Nat} (hp : IsRow d (m + 1) p) (hl : IsRow (d + 1) m l) : IsRow (d + 1) (m + 1) (plus p (List.replicate (d + 1) 0 ++ l)) := fun w => by
  rw [plus_get, shift_get, cs, ← hp w]
  by_cases c : w < d + 1
  · rw [if_pos c, neg (d + 1) m _ (by omega)]
    omega
  · rw [if_neg c]
    have q : (w : Int) - (d + 1) = ((w - (d + 1) : Nat) : Int) := by omega
    rw [q, ← hl (w - (d + 1))]
    omega
/-- the rows of d + 1 for m + 1, m + 2, .., from those of d -/
def line (k : Nat) : List (List Nat) → List Nat → List (List Nat)
  | [], _ => []
  | p :: ps, last => plus p (List.replicate k 0 ++ last) :: line k ps (plus p (List.replicate k 0 ++ last))
def IsLine (d : Nat) (m : Nat) (ls : List (List Nat)) : Prop := ∀ i r, ls[i]? = some r → IsRow d (m + i) r
theorem line_ok {d : Nat} : ∀ (ps : List (List Nat)) (m : Nat) (last : List Nat), IsLine d (m + 1) ps → IsRow (d + 1) m last → IsLine (d + 1) (m + 1) (line (d + 1) ps last)
  | [], m, last, _, _ => fun i r h => by simp [line] at h
  | p :: ps, m, last, hp, hl => by
    have h0 : IsRow (d + 1) (m + 1) (plus p (List.replicate (d + 1) 0 ++ last)) := isRow_next (hp 0 p rfl) hl
    intro i r h
    cases i with
    | zero =>
      have e : plus p (List.replicate (d + 1) 0 ++ last) = r := Option.some.inj h
      rw [← e]
      exact h0
    | succ i =>
      have := line_ok ps (m + 1) _ (fun j r' hj => by
        have := hp (j + 1) r' hj
        have q : m + 1 + (j + 1) = m + 1 + 1 + j := by omega
        rw [q] at this
        exact this) h0 i r h
      have q : m + 1 + (i + 1) = m + 1 + 1 + i := by omega
      rw [q]
      exact this
def nextLine (d : Nat) (ls : List (List Nat)) : List (List Nat) := [1] :: line (d + 1) (ls.drop 1) [1]
theorem nextLine_ok {d : Nat} {ls : List (List Nat)} (h : IsLine d 0 ls) : IsLine (d + 1) 0 (nextLine d ls) := by
  intro i r hi
  cases i with
  | zero =>
    have e : [1] = r := Option.some.inj hi
    rw [← e]
    exact isRow_one (d + 1)
  | succ i =>
    have h1 : IsLine d (0 + 1) (ls.drop 1) := fun j r' hj => by
      rw [List.getElem?_drop] at hj
      have := h (1 + j) r' hj
      have q : 0 + (1 + j) = 0 + 1 + j := by omega
      rw [q] at this
      exact this
    have := line_ok (ls.drop 1) 0 [1] h1 (isRow_one (d + 1)) i r hi
    have q : 0 + (i + 1) = 0 + 1 + i := by omega
    rw [q]
    exact this
def tableD : Nat → List (List Nat)
  | 0 => List.replicate 13 [1]
  | d + 1 => nextLine d (tableD d)
theorem table_ok : ∀ d, IsLine d 0 (tableD d)
  | 0 => fun i r h => by
    have : r = [1] := by
      have := List.mem_of_getElem? h
      exact List.eq_of_mem_replicate this
    subst this
    rw [Nat.zero_add]
    exact isRow_one0 i
  | d + 1 => nextLine_ok (table_ok d)
def rising (d m : Nat) (r : List Nat) : Bool := (List.range (d * m / 2)).all fun w => decide (r.getD w 0 ≤ r.getD (w + 1) 0)
def lineUp (d : Nat) : Bool := (List.range 13).all fun m => match (tableD d)[m]? with
  | some r => rising d m r
  | none => false
theorem allUp : (List.range 13).all lineUp = true := by decide +kernel
theorem rise {d m w : Nat} (hd : d < 13) (hm : m < 13) (hw : w < d * m / 2) : cnt d m w ≤ cnt d m (w + 1 : Nat) := by
  have h1 := List.all_eq_true.mp allUp d (List.mem_range.mpr hd)
  have h2 := List.all_eq_true.mp h1 m (List.mem_range.mpr hm)
  cases e : (tableD d)[m]? with
  | none =>
    simp only [e] at h2
    cases h2
  | some r =>
    simp only [e] at h2
    have h3 := of_decide_eq_true (List.all_eq_true.mp h2 w (List.mem_range.mpr hw))
    have hr := table_ok d m r e
    rw [Nat.zero_add] at hr
    rw [← hr w, ← hr (w + 1)]
    omega
/-! one great count -/
def subl : List Int → List Int → List Int
  | x :: xs, y :: ys => (x - y) :: subl xs ys
  | _, _ => []
def acc : List Int → List Int → List Int
  | u :: us, h :: t => (u + h) :: acc us (t ++ [u + h])
  | _, _ => []
theorem acc_get : ∀ (us q : List Int) (w : Nat), 0 < q.length → w < us.length → (acc us q).getD w 0 = us.getD w 0 + (q ++ acc us q).getD w 0
  | [], q, w, _, h => by simp at h
  | u :: us, [], w, h, _ => by simp at h
  | u :: us, h :: t, 0, _, _ => by simp [acc]
  | u :: us, h :: t, w + 1, _, hw => by
    have ih := acc_get us (t ++ [u + h]) w (by simp) (by simpa using hw)
    simp [acc] at ih ⊢
    exact ih
theorem acc_len : ∀ (us q : List Int), 0 < q.length → (acc us q).length = us.length
  | [], q, _ => by unfold acc; rfl
  | u :: us, [], h => by simp at h
  | u :: us, h :: t, _ => by
    show (acc us (t ++ [u + h])).length + 1 = us.length + 1
    rw [acc_len us _ (by simp)]
theorem subl_get : ∀ (xs ys : List Int) (w : Nat), w < xs.length → w < ys.length → (subl xs ys).getD w 0 = xs.getD w 0 - ys.getD w 0
  | [], ys, w, h, _ => by simp at h
  | x :: xs, [], w, _, h => by simp at h
  | x :: xs, y :: ys, 0, _, _ => by simp [subl]
  | x :: xs, y :: ys, w + 1, h1, h2 => by
    have := subl_get xs ys w (by simpa using h1) (by simpa using h2)
    simpa [subl] using this
theorem subl_len : ∀ (xs ys : List Int), xs.length ≤ ys.length → (subl xs ys).length = xs.length
  | [], ys, _ => by unfold subl; rfl
  | x :: xs, [], h => by simp at h
  | x :: xs, y :: ys, h => by
    show (subl xs ys).length + 1 = xs.length + 1
    rw [subl_len xs ys (by simpa using h)]
theorem shift_getI (k : Nat) (ys : List Int) (w : Nat) : (List.replicate k 0 ++ ys).getD w 0 = if w < k then 0 else ys.getD (w - k) 0 := by
  simp only [List.getD_eq_getElem?_getD]
  by_cases c : w < k
  · rw [if_pos c, List.getElem?_append_left (by simpa using c)]
    simp [c]
  · rw [if_neg c, List.getElem?_append_right (by simpa using c)]
    simp
def rowN (m : Nat) (n : Nat) : Nat → List Int
  | 0 => 1 :: List.replicate n 0
  | d + 1 => acc (subl (rowN m n d) (List.replicate (m + d + 1) 0 ++ rowN m n d)) (List.replicate (d + 1) 0)
theorem rowN_len (m n : Nat) : ∀ d, (rowN m n d).length = n + 1
  | 0 => by simp [rowN]
  | d + 1 => by
    show (acc _ _).length = n + 1
    rw [acc_len _ _ (by simp), subl_len _ _ (by simp), rowN_len m n d]
theorem rowN_get (m n : Nat) : ∀ (d w : Nat), w ≤ n → (rowN m n d).getD w 0 = cnt d m w
  | 0, w, h => by
    rw [c0]
    cases w with
    | zero => rfl
    | succ w =>
      rw [if_neg (by omega)]
      show (List.replicate n (0 : Int)).getD w 0 = 0
      rw [List.getD_eq_getElem?_getD]
      by_cases c : w < n
      · rw [List.getElem?_replicate, if_pos c]
        rfl
      · rw [List.getElem?_replicate, if_neg c]
        rfl
  | d + 1, w, h => by
    have hl : (subl (rowN m n d) (List.replicate (m + d + 1) 0 ++ rowN m n d)).length = n + 1 := by rw [subl_len _ _ (by simp), rowN_len]
    have e : ∀ x, x ≤ n → (rowN m n (d + 1)).getD x 0 = (cnt d m x - cnt d m (x - (m + d + 1))) + (List.replicate (d + 1) 0 ++ rowN m n (d + 1)).getD x 0 := fun x hx => by
      show (acc _ _).getD x 0 = _
      rw [acc_get _ _ _ (by simp) (by omega), subl_get _ _ _ (by rw [rowN_len]; omega) (by simp [rowN_len]; omega), rowN_get m n d x hx, shift_getI]
      congr 1
      congr 1
      by_cases c : x < m + d + 1
      · rw [if_pos c, neg d m _ (by omega)]
      · rw [if_neg c, rowN_get m n d _ (by omega)]
        congr 1
        omega
    have go : ∀ k x, x ≤ k → x ≤ n → (rowN m n (d + 1)).getD x 0 = cnt (d + 1) m x := by
      intro k
      induction k with
      | zero =>
        intro x h0 hx
        rw [e x hx, shift_getI, if_pos (by omega)]
        have := ruleA d m x
        have := neg (d + 1) m (x - (d + 1)) (by omega)
        omega
      | succ k ih =>
        intro x h0 hx
        rw [e x hx, shift_getI]
        have hA := ruleA d m x
        by_cases c : x < d + 1
        · rw [if_pos c]
          have := neg (d + 1) m (x - (d + 1)) (by omega)
          omega
        · rw [if_neg c, ih (x - (d + 1)) (by omega) (by omega)]
          have q : ((x - (d + 1) : Nat) : Int) = x - (d + 1) := by omega
          rw [q]
          omega
    exact go w w (Nat.le_refl _) h
/-- the same, faster -/
def acc2 : List Int → List Int → List Int → List Int
  | u :: us, h :: t, b => (u + h) :: acc2 us t ((u + h) :: b)
  | u :: us, [], b => match b.reverse with
    | h :: t => (u + h) :: acc2 us t [u + h]
    | [] => []
  | [], _, _ => []
theorem acc2_eq : ∀ (us f b : List Int), acc2 us f b = acc us (f ++ b.reverse)
  | [], f, b => by simp [acc2, acc]
  | u :: us, h :: t, b => by
    show (u + h) :: acc2 us t ((u + h) :: b) = (u + h) :: acc us (t ++ b.reverse ++ [u + h])
    rw [acc2_eq us t ((u + h) :: b), List.reverse_cons, List.append_assoc]
  | u :: us, [], b => by
    rw [List.nil_append]
    cases e : b.reverse with
    | nil => simp [acc2, acc, e]
    | cons h t =>
      have := acc2_eq us t [u + h]
      simp [acc2, acc, e, this]
def rowF (m : Nat) (n : Nat) : Nat → List Int
  | 0 => 1 :: List.replicate n 0
  | d + 1 => acc2 (subl (rowF m n d) (List.replicate (m + d + 1) 0 ++ rowF m n d)) (List.replicate (d + 1) 0) []
theorem rowF_eq (m n : Nat) : ∀ d, rowF m n d = rowN m n d
  | 0 => rfl
  | d + 1 => by
    show acc2 _ _ [] = acc _ _
    rw [acc2_eq, rowF_eq m n d, List.reverse_nil, List.append_nil]
theorem greatRow0 : (rowF 40 800 40).getD 800 0 = 410363630540693436398 := by decide +kernel
theorem greatRow : (rowN 40 800 40).getD 800 0 = 410363630540693436398 := by
  rw [← rowF_eq]
  exact greatRow0
theorem great : cnt 40 40 800 = 410363630540693436398 := by
  have h : (rowN 40 800 40).getD 800 0 = cnt 40 40 (800 : Nat) := rowN_get 40 800 40 800 (Nat.le_refl _)
  have e := greatRow
  generalize (rowN 40 800 40).getD 800 0 = z at h e
  rw [e] at h
  exact h.symm
theorem some1 : cnt 10 6 30 = 338 := by
  have h : (rowN 6 30 10).getD 30 0 = cnt 10 6 (30 : Nat) := rowN_get 6 30 10 30 (Nat.le_refl _)
  have e : (rowN 6 30 10).getD 30 0 = 338 := by decide +kernel
  generalize (rowN 6 30 10).getD 30 0 = z at h e
  rw [e] at h
  exact h.symm
theorem some2 : cnt 2 3 7 = 0 := high 2 3 7 (by decide)
theorem some3 : cnt 0 40 0 = 1 := by
  rw [c0]
  rfl
theorem crow_eq (d m : Nat) : crow d m = rowN m (d * m) d := by
  apply List.ext_getElem
  · rw [crow_len, rowN_len]
  · intro i h1 h2
    rw [rowN_len] at h2
    have h := rowN_get m (d * m) d i (by omega)
    rw [List.getD_eq_getElem?_getD, List.getElem?_eq_getElem (by rw [rowN_len]; omega)] at h
    have h' : (rowN m (d * m) d)[i] = cnt d m i := h
    rw [h']
    simp [crow]
theorem row23 : crow 2 3 = [1, 1, 2, 2, 2, 1, 1] := by
  rw [crow_eq]
  decide +kernel
theorem row40 : crow 4 0 = [1] := by
  rw [crow_eq]
  decide +kernel
theorem row00 : crow 0 0 = [1] := by
  rw [crow_eq]
  decide +kernel
end M26

namespace M26
/-! many counts in one integer -/
def V (B : Int) (c : Int → Int) : Nat → Int
  | 0 => 0
  | n + 1 => V B c n * B + c n
theorem v0 (B : Int) (c : Int → Int) : V B c 0 = 0 := rfl
theorem vs (B : Int) (c : Int → Int) (n : Nat) : V B c (n + 1) = V B c n * B + c n := rfl
theorem v_ext {B : Int} {c e : Int → Int} : ∀ {n : Nat}, (∀ i : Nat, i < n → c i = e i) → V B c n = V B e n
  | 0, _ => rfl
  | n + 1, h => by rw [vs, vs, v_ext fun i hi => h i (by omega), h n (by omega)]
theorem v_add (B : Int) (c e : Int → Int) : ∀ n : Nat, V B c n + V B e n = V B (fun x => c x + e x) n
  | 0 => rfl
  | n + 1 => by
    rw [vs, vs, vs, ← v_add B c e n, Int.add_mul]
    omega
theorem v_sub (B : Int) (c e : Int → Int) : ∀ n : Nat, V B c n - V B e n = V B (fun x => c x - e x) n
  | 0 => rfl
  | n + 1 => by
    rw [vs, vs, vs, ← v_sub B c e n, Int.sub_mul]
    omega
theorem v_zeros {B : Int} {c : Int → Int} : ∀ {n : Nat}, (∀ i : Nat, i < n → c i = 0) → V B c n = 0
  | 0, _ => rfl
  | n + 1, h => by rw [vs, v_zeros fun i hi => h i (by omega), h n (by omega), Int.zero_mul]; rfl
theorem v_shift {B : Int} {c : Int → Int} (hc : ∀ x : Int, x < 0 → c x = 0) (s : Nat) : ∀ n : Nat, V B c (n - s) = V B (fun x => c (x - s)) n
  | 0 => by rw [Nat.zero_sub]; rfl
  | n + 1 => by
    by_cases h : s ≤ n
    · have e : n + 1 - s = (n - s) + 1 := by omega
      rw [e, vs, vs, v_shift hc s n]
      have q : (n : Int) - s = ((n - s : Nat) : Int) := by omega
      rw [q]
    · have e : n + 1 - s = 0 := by omega
      rw [e, v0]
      exact (v_zeros (n := n + 1) fun i hi => hc ((i : Int) - s) (by omega)).symm
theorem v_grow {B : Int} {c : Int → Int} (n : Nat) : ∀ k : Nat, (∀ i : Nat, n ≤ i → i < n + k → c i = 0) → V B c (n + k) = V B c n * B ^ k
  | 0, _ => by rw [Int.pow_zero, Int.mul_one]; rfl
  | k + 1, h => by
    show V B c (n + k) * B + c ((n + k : Nat) : Int) = _
    rw [v_grow n k fun i h1 h2 => h i h1 (by omega), h (n + k) (by omega) (by omega), Int.pow_succ, Int.add_zero, Int.mul_assoc]
/-- each count has its room -/
def Fits (B : Int) (c : Int → Int) (n : Nat) : Prop := ∀ i : Nat, i < n → 0 ≤ c i ∧ c i < B
theorem Fits.less {B : Int} {c : Int → Int} {n k : Nat} (h : Fits B c n) (hk : k ≤ n) : Fits B c k := fun i hi => h i (by omega)
theorem v_low {B : Int} {c : Int → Int} {n : Nat} (h : Fits B c (n + 1)) : V B c (n + 1) % B = c n := by
  have := h n (by omega)
  rw [vs, Int.add_comm, Int.add_mul_emod_self_right]
  exact Int.emod_eq_of_lt this.1 this.2
theorem v_next {B : Int} {c : Int → Int} {n : Nat} (h : Fits B c (n + 1)) : V B c (n + 1) / B = V B c n := by
  have := h n (by omega)
  rw [vs, Int.add_comm, Int.add_mul_ediv_right _ _ (by omega), Int.ediv_eq_zero_of_lt this.1 this.2, Int.zero_add]
theorem v_div {B : Int} {c : Int → Int} (hB : 0 < B) : ∀ (s : Nat) {n : Nat}, Fits B c n → V B c n / B ^ s = V B c (n - s)
  | 0, n, _ => by rw [Int.pow_zero, Int.ediv_one]; rfl
  | s + 1, 0, h => by
    rw [Nat.zero_sub, v0, Int.zero_ediv]
  | s + 1, n + 1, h => by
    rw [Int.pow_succ, Int.mul_comm, ← Int.ediv_ediv_of_nonneg (Int.le_of_lt hB), v_next h, v_div hB s (h.less (by omega))]
    have e : n + 1 - (s + 1) = n - s := by omega
    rw [e]
theorem v_size {B : Int} {c : Int → Int} (hB : 0 < B) : ∀ {n : Nat}, Fits B c n → 0 ≤ V B c n ∧ V B c n < B ^ n
  | 0, _ => by rw [v0, Int.pow_zero]; omega
  | n + 1, h => by
    have h1 := v_size hB (h.less (Nat.le_succ n))
    have h2 := h n (by omega)
    rw [vs, Int.pow_succ]
    have h3 : 0 ≤ V B c n * B := Int.mul_nonneg h1.1 (Int.le_of_lt hB)
    have h4 : (V B c n + 1) * B ≤ B ^ n * B := Int.mul_le_mul_of_nonneg_right (by omega) (Int.le_of_lt hB)
    rw [Int.add_mul] at h4
    omega
/-! repeated shifts -/
/-- c, moved on by 0, k, 2 k, .. (m times) together -/
def rep (c : Int → Int) (k : Nat) : Nat → Int → Int
  | 0, _ => 0
  | m + 1, x => c x + rep c k m (x - k)
theorem rep0 (c : Int → Int) (k : Nat) (x : Int) : rep c k 0 x = 0 := rfl
theorem reps (c : Int → Int) (k m : Nat) (x : Int) : rep c k (m + 1) x = c x + rep c k m (x - k) := rfl
theorem rep1 (c : Int → Int) (k : Nat) (x : Int) : rep c k 1 x = c x := by rw [reps, rep0, Int.add_zero]
theorem rep_add (c : Int → Int) (k : Nat) : ∀ (m n : Nat) (x : Int), rep c k (m + n) x = rep c k m x + rep c k n (x - (m * k : Nat))
  | 0, n, x => by rw [rep0, Nat.zero_mul, Nat.zero_add, Int.zero_add]; simp
  | m + 1, n, x => by
    have e : m + 1 + n = (m + n) + 1 := by omega
    rw [e, reps, reps, rep_add c k m n]
    have q : x - (k : Int) - (m * k : Nat) = x - ((m + 1) * k : Nat) := by
      have : (m + 1) * k = m * k + k := Nat.succ_mul m k
      omega
    rw [q]
    omega
theorem rep_neg {c : Int → Int} (hc : ∀ x : Int, x < 0 → c x = 0) (k : Nat) : ∀ (m : Nat) (x : Int), x < 0 → rep c k m x = 0
  | 0, _, _ => rfl
  | m + 1, x, h => by rw [reps, hc x h, rep_neg hc k m _ (by omega)]; rfl
theorem rep_nonneg {c : Int → Int} (hc : ∀ x : Int, 0 ≤ c x) (k : Nat) : ∀ (m : Nat) (x : Int), 0 ≤ rep c k m x
  | 0, _ => Int.le_refl 0
  | m + 1, x => by
    rw [reps]
    have := hc x
    have := rep_nonneg hc k m (x - k)
    omega
theorem sumTo_mono {c : Int → Int} (hc : ∀ x : Int, 0 ≤ c x) (n : Nat) : ∀ k : Nat, sumTo (fun i => c i) n ≤ sumTo (fun i => c i) (n + k)
  | 0 => Int.le_refl _
  | k + 1 => by
    show _ ≤ sumTo (fun i => c i) (n + k) + c ((n + k : Nat) : Int)
    have := sumTo_mono hc n k
    have := hc ((n + k : Nat) : Int)
    omega
/-- all together are no more than all counts up to there -/
theorem rep_le {c : Int → Int} (hc : ∀ x : Int, 0 ≤ c x) (hn : ∀ x : Int, x < 0 → c x = 0) {k : Nat} (_hk : 0 < k) : ∀ (m n : Nat), rep c k m n ≤ sumTo (fun i => c i) (n + 1)
  | 0, n => by
    rw [rep0]
    have := sumTo_mono hc 0 (n + 1)
    rw [Nat.zero_add] at this
    exact this
  | m + 1, n => by
    rw [reps]
    show _ ≤ sumTo (fun i => c i) n + c n
    by_cases h : k ≤ n
    · have q : (n : Int) - k = ((n - k : Nat) : Int) := by omega
      have h1 := rep_le hc hn _hk m (n - k)
      have h2 := sumTo_mono hc (n - k + 1) (n - (n - k + 1))
      have e : n - k + 1 + (n - (n - k + 1)) = n := by omega
      rw [e] at h2
      rw [q]
      omega
    · rw [rep_neg hn k m _ (by omega)]
      have h2 := sumTo_mono hc 0 n
      rw [Nat.zero_add] at h2
      have h3 : sumTo (fun i : Nat => c i) 0 = 0 := rfl
      omega
/-- far enough it is told by its own step -/
theorem rep_step (c : Int → Int) {k : Nat} (hk : 0 < k) (hn : ∀ x : Int, x < 0 → c x = 0) (m : Nat) (x : Int) (h : x < (m * k : Nat)) : rep c k m x - rep c k m (x - k) = c x := by
  have h1 := rep_add c k m 1 x
  have h2 := reps c k m x
  rw [rep1, hn (x - (m * k : Nat)) (by omega)] at h1
  omega
/-! the steps of the program -/
theorem step_one {B : Int} {c : Int → Int} {k m n : Nat} (hB : 0 < B) (hn : ∀ x : Int, x < 0 → c x = 0) (h : Fits B (rep c k m) n) :
    V B (rep c k m) n + V B (rep c k m) n / B ^ (m * k) = V B (rep c k (m + m)) n := by
  rw [v_div hB _ h, v_shift (rep_neg hn k m), v_add]
  exact v_ext fun i _ => (rep_add c k m m i).symm
/-- from the counts of d parts to those of one part more -/
theorem rep_cnt (d h m : Nat) : ∀ (N : Nat) (x : Int), x < N → x < (m * (d + 1) : Nat) → rep (cnt d h) (d + 1) m x - rep (cnt d h) (d + 1) m (x - (h + (d + 1) : Nat)) = cnt (d + 1) h x
  | 0, x, hx, _ => by
    rw [rep_neg (neg d h) _ _ _ (by omega), rep_neg (neg d h) _ _ _ (by omega), neg _ _ _ (by omega)]
    rfl
  | N + 1, x, hx, hm => by
    have i1 := rep_cnt d h m N (x - (d + 1 : Nat)) (by omega) (by omega)
    have s1 := rep_step (cnt d h) (k := d + 1) (by omega) (neg d h) m x hm
    have s2 := rep_step (cnt d h) (k := d + 1) (by omega) (neg d h) m (x - (h + (d + 1) : Nat)) (by omega)
    have r := ruleA d h x
    have q1 : x - (d + 1 : Nat) - ((h + (d + 1) : Nat) : Int) = x - ((h + (d + 1) : Nat) : Int) - (d + 1 : Nat) := by omega
    have q2 : x - ((d + 1 : Nat) : Int) = x - ((d : Int) + 1) := by omega
    have q3 : x - ((h + (d + 1) : Nat) : Int) = x - ((h : Int) + d + 1) := by omega
    rw [q1] at i1
    rw [q2] at i1 s1
    rw [q3] at i1 s2 ⊢
    rw [q2.symm] at i1 s1
    have q4 : x - ((d + 1 : Nat) : Int) = x - ((d : Int) + 1) := by omega
    rw [q4] at i1 s1
    omega
theorem step_part {B : Int} {d h m n : Nat} (hB : 0 < B) (hm : n ≤ m * (d + 1)) (hf : Fits B (rep (cnt d h) (d + 1) m) n) :
    V B (rep (cnt d h) (d + 1) m) n - V B (rep (cnt d h) (d + 1) m) n / B ^ (h + (d + 1)) = V B (cnt (d + 1) h) n := by
  rw [v_div hB _ hf, v_shift (rep_neg (neg d h) (d + 1) m), v_sub]
  exact v_ext fun i hi => rep_cnt d h m (i + 1) i (by omega) (by omega)
/-! sizes -/
theorem bn_le : ∀ (d m k : Nat), bn d m ≤ bn (d + k) m
  | d, m, 0 => Int.le_refl _
  | d, 0, k + 1 => by rw [bj0, bj0]; omega
  | d, m + 1, k + 1 => by
    show _ ≤ bn (d + k + 1) (m + 1)
    rw [bs]
    have := bn_le d (m + 1) k
    have := bn_pos (d + k + 1) m
    omega
theorem bn_two : ∀ (d m : Nat), bn d m ≤ ((2 ^ (d + m) : Nat) : Int)
  | 0, m => by
    rw [b0]
    have := Nat.two_pow_pos (0 + m)
    omega
  | d + 1, 0 => by
    rw [bj0]
    have := Nat.two_pow_pos (d + 1 + 0)
    omega
  | d + 1, m + 1 => by
    rw [bs]
    have h1 := bn_two d (m + 1)
    have h2 := bn_two (d + 1) m
    have e1 : d + (m + 1) = d + m + 1 := by omega
    have e2 : d + 1 + m = d + m + 1 := by omega
    have e3 : d + 1 + (m + 1) = d + m + 1 + 1 := by omega
    rw [e1] at h1
    rw [e2] at h2
    rw [e3, Nat.pow_succ 2 (d + m + 1)]
    omega
theorem bn_one : ∀ (d m : Nat), 1 ≤ bn d m
  | 0, m => by rw [b0]; omega
  | d + 1, 0 => by rw [bj0]; omega
  | d + 1, m + 1 => by
    rw [bs]
    have := bn_one d (m + 1)
    have := bn_pos (d + 1) m
    omega
theorem cnt_sum_le (d m n : Nat) : sumTo (fun i => cnt d m i) n ≤ bn d m := by
  have h := sumTo_mono (c := cnt d m) (nonneg d m) n (d * m + 1)
  have t := total d m n
  have e : n + (d * m + 1) = d * m + 1 + n := by omega
  rw [e, t] at h
  exact h
theorem rep_fits {B : Int} {D d h k : Nat} (hd : d ≤ D) (hB : bn D h < B) (hk : 0 < k) (m n : Nat) : Fits B (rep (cnt d h) k m) n := fun i _ => by
  have h1 := rep_nonneg (nonneg d h) k m i
  have h2 := rep_le (nonneg d h) (neg d h) hk m i
  have h3 := cnt_sum_le d h (i + 1)
  have h4 := bn_le d h (D - d)
  have e : d + (D - d) = D := by omega
  rw [e] at h4
  omega
theorem cnt_fits {B : Int} {D d h : Nat} (hd : d ≤ D) (hB : bn D h < B) (n : Nat) : Fits B (cnt d h) n := fun i hi => by
  have h := rep_fits (k := 1) hd hB (by omega) 1 n i hi
  rw [rep1] at h
  exact h
/-! one integer cut twice -/
theorem cut_two {x : Int} {wd a b : Nat} (h : b < a) : x % 2 ^ (a * wd) / 2 ^ (b * wd) % 2 ^ wd = x / 2 ^ (b * wd) % 2 ^ wd := by
  have e : (2 : Int) ^ (a * wd) = 2 ^ (b * wd) * (2 ^ wd * 2 ^ ((a - b - 1) * wd)) := by
    rw [← Int.pow_add, ← Int.pow_add]
    congr 1
    have : a = b + (1 + (a - b - 1)) := by omega
    have e2 : a * wd = b * wd + (wd + (a - b - 1) * wd) := by
      conv => lhs; rw [this, Nat.add_mul, Nat.add_mul, Nat.one_mul]
    exact e2
  have hp : ∀ n : Nat, (0 : Int) < 2 ^ n := fun n => Int.pow_pos (by omega)
  have h1 := hp (b * wd)
  rw [e]
  have k : x % (2 ^ (b * wd) * (2 ^ wd * 2 ^ ((a - b - 1) * wd))) = x + 2 ^ (b * wd) * (2 ^ wd * -(2 ^ ((a - b - 1) * wd) * (x / (2 ^ (b * wd) * (2 ^ wd * 2 ^ ((a - b - 1) * wd)))))) := by
    rw [Int.emod_def]
    generalize x / (2 ^ (b * wd) * (2 ^ wd * 2 ^ ((a - b - 1) * wd))) = q
    rw [Int.mul_neg, Int.mul_neg, Int.mul_assoc, Int.mul_assoc]
    omega
  rw [k, Int.add_mul_ediv_left _ _ (by omega), Int.add_mul_emod_self_left]
end M26
namespace M26
theorem pow_wd (wd k : Nat) : ((2 : Int) ^ wd) ^ k = 2 ^ (k * wd) := by rw [← Int.pow_mul, Nat.mul_comm]
theorem v_abs {wd n : Nat} {c : Int → Int} (h : Fits (2 ^ wd) c n) : (V (2 ^ wd) c n).natAbs < 2 ^ (n * wd) := by
  have hB : (0 : Int) < 2 ^ wd := Int.pow_pos (by omega)
  have s := v_size hB h
  rw [pow_wd] at s
  have e : ((2 ^ (n * wd) : Nat) : Int) = (2 : Int) ^ (n * wd) := by norm_cast
  rw [← e] at s
  generalize (2 ^ (n * wd) : Nat) = z at *
  omega
end M26

namespace M26
open PySem
theorem bn_swap : ∀ (d m : Nat), bn d m = bn m d
  | 0, m => by rw [b0, bj0]
  | d + 1, 0 => by rw [b0, bj0]
  | d + 1, m + 1 => by
    rw [bs, bs, bn_swap d (m + 1), bn_swap (d + 1) m]
    omega
theorem bn_more (d m : Nat) : ((d + 1 : Nat) + m : Int) * bn d m = (d + 1) * bn (d + 1) m := by
  cases m with
  | zero =>
    rw [bj0, bj0]
    omega
  | succ j =>
    have h := bn_step _ d j (Nat.le_refl _)
    rw [bs]
    have e1 : ((d + 1 : Nat) : Int) = d + 1 := by omega
    have e2 : ((j + 1 : Nat) : Int) = j + 1 := by omega
    rw [e1, e2, Int.mul_add, ← h]
    grind
theorem fp_bn : ∀ (d m : Nat), Builtin.Math.fallingProduct ((d + m : Nat) : Int) d = bn d m * Builtin.Math.fallingProduct d d
  | 0, m => by rw [PySem.W.mc_fp_zero, PySem.W.mc_fp_zero, b0]; rfl
  | d + 1, m => by
    have q1 : ((d + 1 + m : Nat) : Int) - 1 = ((d + m : Nat) : Int) := by omega
    have q2 : ((d + 1 : Nat) : Int) - 1 = (d : Int) := by omega
    rw [Pr.fp_shift, Pr.fp_shift, q1, q2, fp_bn d m]
    have h := bn_more d m
    have q3 : ((d + 1 + m : Nat) : Int) = ((d + 1 : Nat) + m : Int) := by omega
    have q4 : ((d + 1 : Nat) : Int) = d + 1 := by omega
    rw [q3, ← Int.mul_assoc, h, q4]
    grind
theorem comb_half {d m : Nat} (h : (min ((d : Nat) : Int) (((d + m : Nat) : Int) - d)) = d) : PySem.W.mcComb ((d + m : Nat) : Int) d = bn d m := by
  rw [PySem.W.mcComb_at (by omega) (by omega) h, Int.toNat_natCast, fp_bn d m]
  have := PySem.W.mc_fp_pos (n := d) d (Int.le_refl _)
  exact Int.mul_ediv_cancel _ (by omega)
theorem comb_bn (d m : Nat) : PySem.W.mcComb ((d + m : Nat) : Int) d = bn d m := by
  by_cases h : d ≤ m
  · exact comb_half (by omega)
  · rw [PySem.W.mcComb_at (m := m) (by omega) (by omega) (by omega), Int.toNat_natCast, Nat.add_comm d m, fp_bn m d, bn_swap m d]
    have := PySem.W.mc_fp_pos (n := m) m (Int.le_refl _)
    exact Int.mul_ediv_cancel _ (by omega)
theorem bits_lt (x : Int) (h : 0 ≤ x) : x < 2 ^ Builtin.Int.intBits x := by
  have b := PyProof.Rows.natAbs_lt_pow_bits x
  have e : ((2 ^ Builtin.Int.intBits x : Nat) : Int) = (2 : Int) ^ Builtin.Int.intBits x := PySem.W.kbt_cast _
  rw [← e]
  omega
theorem bits_bn (d m : Nat) : Builtin.Int.intBits (bn d m) ≤ d + m + 1 := by
  apply PyProof.Rows.intBits_le
  have h := bn_two d m
  have h2 := bn_pos d m
  have h3 := Nat.two_pow_pos (d + m)
  rw [Nat.pow_succ]
  generalize (2 ^ (d + m) : Nat) = z at *
  omega
end M26


namespace My
open PySem PySem.Spec PyProof.Rows L2 Pr
def topS (i : Nat) : Stmt := PySem.Challenge.pw_sourceforms_k29_whole_terms_and_boxes.main.body.getD i (.Pass ⟨0, 0, 0, 0⟩)
abbrev s_wall : Stmt := topS 1
abbrev n_wall : List Str := ["k"]
abbrev p_wall : List Str := ["k"]
theorem st_wall {v0 : V} : L2.start n_wall [v0] = [some v0] := rfl
theorem sc_wall : FnScope n_wall p_wall (defScope s_wall) := ⟨rfl, rfl, rfl, by decide +kernel, rfl, by decide +kernel, by decide +kernel⟩
abbrev s_is_integer : Stmt := topS 12
abbrev n_is_integer : List Str := ["value"]
abbrev p_is_integer : List Str := ["value"]
theorem st_is_integer {v0 : V} : L2.start n_is_integer [v0] = [some v0] := rfl
theorem sc_is_integer : FnScope n_is_integer p_is_integer (defScope s_is_integer) := ⟨rfl, rfl, rfl, by decide +kernel, rfl, by decide +kernel, by decide +kernel⟩
abbrev s_is_within : Stmt := topS 14
abbrev n_is_within : List Str := ["value", "low", "high"]
abbrev p_is_within : List Str := ["value", "low", "high"]
theorem st_is_within {v0 : V} {v1 : V} {v2 : V} : L2.start n_is_within [v0, v1, v2] = [some v0, some v1, some v2] := rfl
theorem sc_is_within : FnScope n_is_within p_is_within (defScope s_is_within) := ⟨rfl, rfl, rfl, by decide +kernel, rfl, by decide +kernel, by decide +kernel⟩
abbrev s_need_number : Stmt := topS 15
abbrev n_need_number : List Str := ["value", "low", "high"]
abbrev p_need_number : List Str := ["value", "low", "high"]
theorem st_need_number {v0 : V} {v1 : V} {v2 : V} : L2.start n_need_number [v0, v1, v2] = [some v0, some v1, some v2] := rfl
theorem sc_need_number : FnScope n_need_number p_need_number (defScope s_need_number) := ⟨rfl, rfl, rfl, by decide +kernel, rfl, by decide +kernel, by decide +kernel⟩
abbrev s_is_row : Stmt := topS 16
abbrev n_is_row : List Str := ["value", "part"]
abbrev p_is_row : List Str := ["value"]
theorem st_is_row {v0 : V} : L2.start n_is_row [v0] = [some v0, none] := rfl
theorem sc_is_row : FnScope n_is_row p_is_row (defScope s_is_row) := ⟨rfl, rfl, rfl, by decide +kernel, rfl, by decide +kernel, by decide +kernel⟩
abbrev s_is_pair : Stmt := topS 17
abbrev n_is_pair : List Str := ["value"]
abbrev p_is_pair : List Str := ["value"]
theorem st_is_pair {v0 : V} : L2.start n_is_pair [v0] = [some v0] := rfl
theorem sc_is_pair : FnScope n_is_pair p_is_pair (defScope s_is_pair) := ⟨rfl, rfl, rfl, by decide +kernel, rfl, by decide +kernel, by decide +kernel⟩
abbrev s_lead_of : Stmt := topS 18
abbrev n_lead_of : List Str := ["row", "index", "number"]
abbrev p_lead_of : List Str := ["row"]
theorem st_lead_of {v0 : V} : L2.start n_lead_of [v0] = [some v0, none, none] := rfl
theorem sc_lead_of : FnScope n_lead_of p_lead_of (defScope s_lead_of) := ⟨rfl, rfl, rfl, by decide +kernel, rfl, by decide +kernel, by decide +kernel⟩
abbrev s_powers_of : Stmt := topS 19
abbrev n_powers_of : List Str := ["number", "most", "found", "_"]
abbrev p_powers_of : List Str := ["number", "most"]
theorem st_powers_of {v0 : V} {v1 : V} : L2.start n_powers_of [v0, v1] = [some v0, some v1, none, none] := rfl
theorem sc_powers_of : FnScope n_powers_of p_powers_of (defScope s_powers_of) := ⟨rfl, rfl, rfl, by decide +kernel, rfl, by decide +kernel, by decide +kernel⟩
abbrev s_packed_counts : Stmt := topS 23
abbrev n_packed_counts : List Str := ["parts", "most", "top", "many", "high", "width", "total", "reach", "part", "longer", "step"]
abbrev p_packed_counts : List Str := ["parts", "most", "top"]
theorem st_packed_counts {v0 : V} {v1 : V} {v2 : V} : L2.start n_packed_counts [v0, v1, v2] = [some v0, some v1, some v2, none, none, none, none, none, none, none, none] := rfl
theorem sc_packed_counts : FnScope n_packed_counts p_packed_counts (defScope s_packed_counts) := ⟨rfl, rfl, rfl, by decide +kernel, rfl, by decide +kernel, by decide +kernel⟩
abbrev s_lowest_bits : Stmt := topS 24
abbrev n_lowest_bits : List Str := ["number", "width"]
abbrev p_lowest_bits : List Str := ["number", "width"]
theorem st_lowest_bits {v0 : V} {v1 : V} : L2.start n_lowest_bits [v0, v1] = [some v0, some v1] := rfl
theorem sc_lowest_bits : FnScope n_lowest_bits p_lowest_bits (defScope s_lowest_bits) := ⟨rfl, rfl, rfl, by decide +kernel, rfl, by decide +kernel, by decide +kernel⟩
abbrev s_box_count : Stmt := topS 25
abbrev n_box_count : List Str := ["weight", "parts", "most", "left", "total", "width"]
abbrev p_box_count : List Str := ["weight", "parts", "most"]
theorem st_box_count {v0 : V} {v1 : V} {v2 : V} : L2.start n_box_count [v0, v1, v2] = [some v0, some v1, some v2, none, none, none] := rfl
theorem sc_box_count : FnScope n_box_count p_box_count (defScope s_box_count) := ⟨rfl, rfl, rfl, by decide +kernel, rfl, by decide +kernel, by decide +kernel⟩
abbrev s_filled : Stmt := topS 26
abbrev n_filled : List Str := ["weight", "most", "rest"]
abbrev p_filled : List Str := ["weight", "most"]
theorem st_filled {v0 : V} {v1 : V} : L2.start n_filled [v0, v1] = [some v0, some v1, none] := rfl
theorem sc_filled : FnScope n_filled p_filled (defScope s_filled) := ⟨rfl, rfl, rfl, by decide +kernel, rfl, by decide +kernel, by decide +kernel⟩
abbrev s_box_behind : Stmt := topS 27
abbrev n_box_behind : List Str := ["box", "parts", "rest", "index", "less"]
abbrev p_box_behind : List Str := ["box", "parts"]
theorem st_box_behind {v0 : V} {v1 : V} : L2.start n_box_behind [v0, v1] = [some v0, some v1, none, none, none] := rfl
theorem sc_box_behind : FnScope n_box_behind p_box_behind (defScope s_box_behind) := ⟨rfl, rfl, rfl, by decide +kernel, rfl, by decide +kernel, by decide +kernel⟩
abbrev s_boxes : Stmt := topS 28
abbrev n_boxes : List Str := ["weight", "parts", "most", "box"]
abbrev p_boxes : List Str := ["weight", "parts", "most"]
theorem st_boxes {v0 : V} {v1 : V} {v2 : V} : L2.start n_boxes [v0, v1, v2] = [some v0, some v1, some v2, none] := rfl
theorem sc_boxes : GScope n_boxes p_boxes (defScope s_boxes) := ⟨rfl, rfl, rfl, by decide +kernel, rfl, by decide +kernel, by decide +kernel⟩
abbrev s_is_box : Stmt := topS 29
abbrev n_is_box : List Str := ["value", "member", "index"]
abbrev p_is_box : List Str := ["value"]
theorem st_is_box {v0 : V} : L2.start n_is_box [v0] = [some v0, none, none] := rfl
theorem sc_is_box : FnScope n_is_box p_is_box (defScope s_is_box) := ⟨rfl, rfl, rfl, by decide +kernel, rfl, by decide +kernel, by decide +kernel⟩
abbrev s_need_box : Stmt := topS 30
abbrev n_need_box : List Str := ["value"]
abbrev p_need_box : List Str := ["value"]
theorem st_need_box {v0 : V} : L2.start n_need_box [v0] = [some v0] := rfl
theorem sc_need_box : FnScope n_need_box p_need_box (defScope s_need_box) := ⟨rfl, rfl, rfl, by decide +kernel, rfl, by decide +kernel, by decide +kernel⟩
abbrev s_turned_box : Stmt := topS 31
abbrev n_turned_box : List Str := ["box", "greatest", "least", "member"]
abbrev p_turned_box : List Str := ["box"]
theorem st_turned_box {v0 : V} : L2.start n_turned_box [v0] = [some v0, none, none, none] := rfl
theorem sc_turned_box : FnScope n_turned_box p_turned_box (defScope s_turned_box) := ⟨rfl, rfl, rfl, by decide +kernel, rfl, by decide +kernel, by decide +kernel⟩
abbrev s_left_box : Stmt := topS 32
abbrev n_left_box : List Str := ["box", "parts", "most", "members", "member"]
abbrev p_left_box : List Str := ["box", "parts", "most"]
theorem st_left_box {v0 : V} {v1 : V} {v2 : V} : L2.start n_left_box [v0, v1, v2] = [some v0, some v1, some v2, none, none] := rfl
theorem sc_left_box : FnScope n_left_box p_left_box (defScope s_left_box) := ⟨rfl, rfl, rfl, by decide +kernel, rfl, by decide +kernel, by decide +kernel⟩
abbrev s_product_row : Stmt := topS 35
abbrev n_product_row : List Str := ["one", "other", "found", "i", "first", "j", "second", "_"]
abbrev p_product_row : List Str := ["one", "other"]
theorem st_product_row {v0 : V} {v1 : V} : L2.start n_product_row [v0, v1] = [some v0, some v1, none, none, none, none, none, none] := rfl
theorem sc_product_row : FnScope n_product_row p_product_row (defScope s_product_row) := ⟨rfl, rfl, rfl, by decide +kernel, rfl, by decide +kernel, by decide +kernel⟩
abbrev s_sum_row : Stmt := topS 36
abbrev n_sum_row : List Str := ["one", "other", "first", "second"]
abbrev p_sum_row : List Str := ["one", "other"]
theorem st_sum_row {v0 : V} {v1 : V} : L2.start n_sum_row [v0, v1] = [some v0, some v1, none, none] := rfl
theorem sc_sum_row : FnScope n_sum_row p_sum_row (defScope s_sum_row) := ⟨rfl, rfl, rfl, by decide +kernel, rfl, by decide +kernel, by decide +kernel⟩
abbrev s_multiple_row : Stmt := topS 37
abbrev n_multiple_row : List Str := ["row", "number", "entry"]
abbrev p_multiple_row : List Str := ["row", "number"]
theorem st_multiple_row {v0 : V} {v1 : V} : L2.start n_multiple_row [v0, v1] = [some v0, some v1, none] := rfl
theorem sc_multiple_row : FnScope n_multiple_row p_multiple_row (defScope s_multiple_row) := ⟨rfl, rfl, rfl, by decide +kernel, rfl, by decide +kernel, by decide +kernel⟩
abbrev s_power_row : Stmt := topS 38
abbrev n_power_row : List Str := ["first", "second", "degree", "left", "right", "i"]
abbrev p_power_row : List Str := ["first", "second", "degree"]
theorem st_power_row {v0 : V} {v1 : V} {v2 : V} : L2.start n_power_row [v0, v1, v2] = [some v0, some v1, some v2, none, none, none] := rfl
theorem sc_power_row : FnScope n_power_row p_power_row (defScope s_power_row) := ⟨rfl, rfl, rfl, by decide +kernel, rfl, by decide +kernel, by decide +kernel⟩
abbrev s_row_value : Stmt := topS 39
abbrev n_row_value : List Str := ["row", "x", "y", "total", "power", "entry"]
abbrev p_row_value : List Str := ["row", "x", "y"]
theorem st_row_value {v0 : V} {v1 : V} {v2 : V} : L2.start n_row_value [v0, v1, v2] = [some v0, some v1, some v2, none, none, none] := rfl
theorem sc_row_value : FnScope n_row_value p_row_value (defScope s_row_value) := ⟨rfl, rfl, rfl, by decide +kernel, rfl, by decide +kernel, by decide +kernel⟩
abbrev s_made_form : Stmt := topS 40
abbrev n_made_form : List Str := ["entries", "made"]
abbrev p_made_form : List Str := ["entries"]
theorem st_made_form {v0 : V} : L2.start n_made_form [v0] = [some v0, none] := rfl
theorem sc_made_form : FnScope n_made_form p_made_form (defScope s_made_form) := ⟨rfl, rfl, rfl, by decide +kernel, rfl, by decide +kernel, by decide +kernel⟩
abbrev s_need_one_degree : Stmt := topS 42
abbrev n_need_one_degree : List Str := ["one", "other"]
abbrev p_need_one_degree : List Str := ["one", "other"]
theorem st_need_one_degree {v0 : V} {v1 : V} : L2.start n_need_one_degree [v0, v1] = [some v0, some v1] := rfl
theorem sc_need_one_degree : FnScope n_need_one_degree p_need_one_degree (defScope s_need_one_degree) := ⟨rfl, rfl, rfl, by decide +kernel, rfl, by decide +kernel, by decide +kernel⟩
abbrev s_weight_of : Stmt := topS 47
abbrev n_weight_of : List Str := ["exponents", "index", "often"]
abbrev p_weight_of : List Str := ["exponents"]
theorem st_weight_of {v0 : V} : L2.start n_weight_of [v0] = [some v0, none, none] := rfl
theorem sc_weight_of : FnScope n_weight_of p_weight_of (defScope s_weight_of) := ⟨rfl, rfl, rfl, by decide +kernel, rfl, by decide +kernel, by decide +kernel⟩
abbrev s_first_of : Stmt := topS 48
abbrev n_first_of : List Str := ["terms", "exponents"]
abbrev p_first_of : List Str := ["terms"]
theorem st_first_of {v0 : V} : L2.start n_first_of [v0] = [some v0, none] := rfl
theorem sc_first_of : FnScope n_first_of p_first_of (defScope s_first_of) := ⟨rfl, rfl, rfl, by decide +kernel, rfl, by decide +kernel, by decide +kernel⟩
abbrev s_are_exponents : Stmt := topS 49
abbrev n_are_exponents : List Str := ["value", "degree", "often"]
abbrev p_are_exponents : List Str := ["value", "degree"]
theorem st_are_exponents {v0 : V} {v1 : V} : L2.start n_are_exponents [v0, v1] = [some v0, some v1, none] := rfl
theorem sc_are_exponents : FnScope n_are_exponents p_are_exponents (defScope s_are_exponents) := ⟨rfl, rfl, rfl, by decide +kernel, rfl, by decide +kernel, by decide +kernel⟩
abbrev s_are_terms : Stmt := topS 50
abbrev n_are_terms : List Str := ["value", "degree", "first", "size", "weight", "exponents", "number"]
abbrev p_are_terms : List Str := ["value", "degree"]
theorem st_are_terms {v0 : V} {v1 : V} : L2.start n_are_terms [v0, v1] = [some v0, some v1, none, none, none, none, none] := rfl
theorem sc_are_terms : FnScope n_are_terms p_are_terms (defScope s_are_terms) := ⟨rfl, rfl, rfl, by decide +kernel, rfl, by decide +kernel, by decide +kernel⟩
abbrev s_tidy : Stmt := topS 51
abbrev n_tidy : List Str := ["terms", "exponents"]
abbrev p_tidy : List Str := ["terms"]
theorem st_tidy {v0 : V} : L2.start n_tidy [v0] = [some v0, none] := rfl
theorem sc_tidy : FnScope n_tidy p_tidy (defScope s_tidy) := ⟨rfl, rfl, rfl, by decide +kernel, rfl, by decide +kernel, by decide +kernel⟩
abbrev s_added_terms : Stmt := topS 52
abbrev n_added_terms : List Str := ["one", "other", "factor", "found", "exponents"]
abbrev p_added_terms : List Str := ["one", "other", "factor"]
theorem st_added_terms {v0 : V} {v1 : V} {v2 : V} : L2.start n_added_terms [v0, v1, v2] = [some v0, some v1, some v2, none, none] := rfl
theorem sc_added_terms : FnScope n_added_terms p_added_terms (defScope s_added_terms) := ⟨rfl, rfl, rfl, by decide +kernel, rfl, by decide +kernel, by decide +kernel⟩
abbrev s_packed : Stmt := topS 53
abbrev n_packed : List Str := ["exponents", "found", "often"]
abbrev p_packed : List Str := ["exponents"]
theorem st_packed {v0 : V} : L2.start n_packed [v0] = [some v0, none, none] := rfl
theorem sc_packed : FnScope n_packed p_packed (defScope s_packed) := ⟨rfl, rfl, rfl, by decide +kernel, rfl, by decide +kernel, by decide +kernel⟩
abbrev s_unpacked : Stmt := topS 54
abbrev n_unpacked : List Str := ["number", "many", "place"]
abbrev p_unpacked : List Str := ["number", "many"]
theorem st_unpacked {v0 : V} {v1 : V} : L2.start n_unpacked [v0, v1] = [some v0, some v1, none] := rfl
theorem sc_unpacked : FnScope n_unpacked p_unpacked (defScope s_unpacked) := ⟨rfl, rfl, rfl, by decide +kernel, rfl, by decide +kernel, by decide +kernel⟩
abbrev s_product_terms : Stmt := topS 55
abbrev n_product_terms : List Str := ["one", "other", "first", "many", "factors", "found", "exponents", "place", "number", "key", "factor"]
abbrev p_product_terms : List Str := ["one", "other"]
theorem st_product_terms {v0 : V} {v1 : V} : L2.start n_product_terms [v0, v1] = [some v0, some v1, none, none, none, none, none, none, none, none, none] := rfl
theorem sc_product_terms : FnScope n_product_terms p_product_terms (defScope s_product_terms) := ⟨rfl, rfl, rfl, by decide +kernel, rfl, by decide +kernel, by decide +kernel⟩
abbrev s_made_sum : Stmt := topS 56
abbrev n_made_sum : List Str := ["degree", "terms", "made"]
abbrev p_made_sum : List Str := ["degree", "terms"]
theorem st_made_sum {v0 : V} {v1 : V} : L2.start n_made_sum [v0, v1] = [some v0, some v1, none] := rfl
theorem sc_made_sum : FnScope n_made_sum p_made_sum (defScope s_made_sum) := ⟨rfl, rfl, rfl, by decide +kernel, rfl, by decide +kernel, by decide +kernel⟩
abbrev s_need_like : Stmt := topS 58
abbrev n_need_like : List Str := ["one", "other"]
abbrev p_need_like : List Str := ["one", "other"]
theorem st_need_like {v0 : V} {v1 : V} : L2.start n_need_like [v0, v1] = [some v0, some v1] := rfl
theorem sc_need_like : FnScope n_need_like p_need_like (defScope s_need_like) := ⟨rfl, rfl, rfl, by decide +kernel, rfl, by decide +kernel, by decide +kernel⟩
abbrev s_need_product : Stmt := topS 59
abbrev n_need_product : List Str := ["one", "other"]
abbrev p_need_product : List Str := ["one", "other"]
theorem st_need_product {v0 : V} {v1 : V} : L2.start n_need_product [v0, v1] = [some v0, some v1] := rfl
theorem sc_need_product : FnScope n_need_product p_need_product (defScope s_need_product) := ⟨rfl, rfl, rfl, by decide +kernel, rfl, by decide +kernel, by decide +kernel⟩
abbrev s_law_dice : Stmt := topS 61
abbrev n_law_dice : List Str := ["_law_script", "_law_spot", "_law_cell", "_law_left"]
abbrev p_law_dice : List Str := ["_law_script", "_law_spot"]
theorem st_law_dice {v0 : V} {v1 : V} : L2.start n_law_dice [v0, v1] = [some v0, some v1, none, none] := rfl
theorem sc_law_dice : FnScope n_law_dice p_law_dice (defScope s_law_dice) := ⟨rfl, rfl, rfl, by decide +kernel, rfl, by decide +kernel, by decide +kernel⟩
abbrev s_law_roll : Stmt := topS 62
abbrev n_law_roll : List Str := ["_law_dice_here", "_law_total", "_law_found", "_law_one", "_law_two"]
abbrev p_law_roll : List Str := ["_law_dice_here", "_law_total"]
theorem st_law_roll {v0 : V} {v1 : V} : L2.start n_law_roll [v0, v1] = [some v0, some v1, none, none, none] := rfl
theorem sc_law_roll : FnScope n_law_roll p_law_roll (defScope s_law_roll) := ⟨rfl, rfl, rfl, by decide +kernel, rfl, by decide +kernel, by decide +kernel⟩
abbrev s_law_keys : Stmt := topS 63
abbrev n_law_keys : List Str := ["_law_degree", "_law_size", "_law_weight", "_law_found", "_law_at", "_law_longer", "_law_key", "_law_left", "_law_heavy", "_law_many"]
abbrev p_law_keys : List Str := ["_law_degree", "_law_size", "_law_weight"]
theorem st_law_keys {v0 : V} {v1 : V} {v2 : V} : L2.start n_law_keys [v0, v1, v2] = [some v0, some v1, some v2, none, none, none, none, none, none, none] := rfl
theorem sc_law_keys : FnScope n_law_keys p_law_keys (defScope s_law_keys) := ⟨rfl, rfl, rfl, by decide +kernel, rfl, by decide +kernel, by decide +kernel⟩
abbrev s_law_box_of : Stmt := topS 64
abbrev n_law_box_of : List Str := ["_law_key", "_law_found", "_law_at"]
abbrev p_law_box_of : List Str := ["_law_key"]
theorem st_law_box_of {v0 : V} : L2.start n_law_box_of [v0] = [some v0, none, none] := rfl
theorem sc_law_box_of : FnScope n_law_box_of p_law_box_of (defScope s_law_box_of) := ⟨rfl, rfl, rfl, by decide +kernel, rfl, by decide +kernel, by decide +kernel⟩
abbrev s_law_key_of : Stmt := topS 65
abbrev n_law_key_of : List Str := ["_law_box", "_law_degree", "_law_size", "_law_found", "_law_at"]
abbrev p_law_key_of : List Str := ["_law_box", "_law_degree", "_law_size"]
theorem st_law_key_of {v0 : V} {v1 : V} {v2 : V} : L2.start n_law_key_of [v0, v1, v2] = [some v0, some v1, some v2, none, none] := rfl
theorem sc_law_key_of : FnScope n_law_key_of p_law_key_of (defScope s_law_key_of) := ⟨rfl, rfl, rfl, by decide +kernel, rfl, by decide +kernel, by decide +kernel⟩
abbrev s_law_right : Stmt := topS 66
abbrev n_law_right : List Str := ["_law_dice_here", "_law_degree", "_law_size", "_law_weight", "_law_keys_here", "_law_told", "_law_made", "_law_box", "_law_turned", "_law_left", "_law_key", "_law_at"]
abbrev p_law_right : List Str := ["_law_dice_here"]
theorem st_law_right {v0 : V} : L2.start n_law_right [v0] = [some v0, none, none, none, none, none, none, none, none, none, none, none] := rfl
theorem sc_law_right : FnScope n_law_right p_law_right (defScope s_law_right) := ⟨rfl, rfl, rfl, by decide +kernel, rfl, by decide +kernel, by decide +kernel⟩
abbrev s_law : Stmt := topS 67
abbrev n_law : List Str := ["_law_script", "_law_spot", "_law_dice_here"]
abbrev p_law : List Str := ["_law_script"]
theorem st_law {v0 : V} : L2.start n_law [v0] = [some v0, none, none] := rfl
theorem sc_law : FnScope n_law p_law (defScope s_law) := ⟨rfl, rfl, rfl, by decide +kernel, rfl, by decide +kernel, by decide +kernel⟩
abbrev s_Sum___init__ : Stmt := inClass (topS 57) 0
abbrev n_Sum___init__ : List Str := ["self", "degree", "terms"]
abbrev p_Sum___init__ : List Str := ["self", "degree", "terms"]
theorem st_Sum___init__ {v0 : V} {v1 : V} {v2 : V} : L2.start n_Sum___init__ [v0, v1, v2] = [some v0, some v1, some v2] := rfl
theorem sc_Sum___init__ : FnScope n_Sum___init__ p_Sum___init__ (defScope s_Sum___init__) := ⟨rfl, rfl, rfl, by decide +kernel, rfl, by decide +kernel, by decide +kernel⟩
abbrev s_Sum_size : Stmt := inClass (topS 57) 4
abbrev n_Sum_size : List Str := ["self", "first"]
abbrev p_Sum_size : List Str := ["self"]
theorem st_Sum_size {v0 : V} : L2.start n_Sum_size [v0] = [some v0, none] := rfl
theorem sc_Sum_size : FnScope n_Sum_size p_Sum_size (defScope s_Sum_size) := ⟨rfl, rfl, rfl, by decide +kernel, rfl, by decide +kernel, by decide +kernel⟩
abbrev s_Sum_weight : Stmt := inClass (topS 57) 5
abbrev n_Sum_weight : List Str := ["self", "first"]
abbrev p_Sum_weight : List Str := ["self"]
theorem st_Sum_weight {v0 : V} : L2.start n_Sum_weight [v0] = [some v0, none] := rfl
theorem sc_Sum_weight : FnScope n_Sum_weight p_Sum_weight (defScope s_Sum_weight) := ⟨rfl, rfl, rfl, by decide +kernel, rfl, by decide +kernel, by decide +kernel⟩
abbrev s_Sum_order : Stmt := inClass (topS 57) 6
abbrev n_Sum_order : List Str := ["self", "first"]
abbrev p_Sum_order : List Str := ["self"]
theorem st_Sum_order {v0 : V} : L2.start n_Sum_order [v0] = [some v0, none] := rfl
theorem sc_Sum_order : FnScope n_Sum_order p_Sum_order (defScope s_Sum_order) := ⟨rfl, rfl, rfl, by decide +kernel, rfl, by decide +kernel, by decide +kernel⟩
abbrev s_Sum___len__ : Stmt := inClass (topS 57) 16
abbrev n_Sum___len__ : List Str := ["self"]
abbrev p_Sum___len__ : List Str := ["self"]
theorem st_Sum___len__ {v0 : V} : L2.start n_Sum___len__ [v0] = [some v0] := rfl
theorem sc_Sum___len__ : FnScope n_Sum___len__ p_Sum___len__ (defScope s_Sum___len__) := ⟨rfl, rfl, rfl, by decide +kernel, rfl, by decide +kernel, by decide +kernel⟩
set_option genInjectivity false in
set_option genSizeOf false in
structure Tx (K : PySem.W.Frag) (mg : Str → Option Value) where
  f_wall : Addr
  d_wall : FuncData
  F_wall : Fun K "_wall" "_wall" s_wall f_wall d_wall
  b_wall : Binds K d_wall p_wall []
  m_wall : mg "_wall" = some (.ref f_wall)
  f_is_integer : Addr
  d_is_integer : FuncData
  F_is_integer : Fun K "is_integer" "is_integer" s_is_integer f_is_integer d_is_integer
  b_is_integer : Binds K d_is_integer p_is_integer []
  m_is_integer : mg "is_integer" = some (.ref f_is_integer)
  f_is_within : Addr
  d_is_within : FuncData
  F_is_within : Fun K "is_within" "is_within" s_is_within f_is_within d_is_within
  b_is_within : Binds K d_is_within p_is_within []
  m_is_within : mg "is_within" = some (.ref f_is_within)
  f_need_number : Addr
  d_need_number : FuncData
  F_need_number : Fun K "need_number" "need_number" s_need_number f_need_number d_need_number
  b_need_number : Binds K d_need_number p_need_number []
  m_need_number : mg "need_number" = some (.ref f_need_number)
  f_is_row : Addr
  d_is_row : FuncData
  F_is_row : Fun K "is_row" "is_row" s_is_row f_is_row d_is_row
  b_is_row : Binds K d_is_row p_is_row []
  m_is_row : mg "is_row" = some (.ref f_is_row)
  f_is_pair : Addr
  d_is_pair : FuncData
  F_is_pair : Fun K "is_pair" "is_pair" s_is_pair f_is_pair d_is_pair
  b_is_pair : Binds K d_is_pair p_is_pair []
  m_is_pair : mg "is_pair" = some (.ref f_is_pair)
  f_lead_of : Addr
  d_lead_of : FuncData
  F_lead_of : Fun K "lead_of" "lead_of" s_lead_of f_lead_of d_lead_of
  b_lead_of : Binds K d_lead_of p_lead_of []
  m_lead_of : mg "lead_of" = some (.ref f_lead_of)
  f_powers_of : Addr
  d_powers_of : FuncData
  F_powers_of : Fun K "powers_of" "powers_of" s_powers_of f_powers_of d_powers_of
  b_powers_of : Binds K d_powers_of p_powers_of []
  m_powers_of : mg "powers_of" = some (.ref f_powers_of)
  f_packed_counts : Addr
  d_packed_counts : FuncData
  F_packed_counts : Fun K "packed_counts" "packed_counts" s_packed_counts f_packed_counts d_packed_counts
  b_packed_counts : Binds K d_packed_counts p_packed_counts []
  m_packed_counts : mg "packed_counts" = some (.ref f_packed_counts)
  f_lowest_bits : Addr
  d_lowest_bits : FuncData
  F_lowest_bits : Fun K "lowest_bits" "lowest_bits" s_lowest_bits f_lowest_bits d_lowest_bits
  b_lowest_bits : Binds K d_lowest_bits p_lowest_bits []
  m_lowest_bits : mg "lowest_bits" = some (.ref f_lowest_bits)
  f_box_count : Addr
  d_box_count : FuncData
  F_box_count : Fun K "box_count" "box_count" s_box_count f_box_count d_box_count
  b_box_count : Binds K d_box_count p_box_count []
  m_box_count : mg "box_count" = some (.ref f_box_count)
  f_filled : Addr
  d_filled : FuncData
  F_filled : Fun K "filled" "filled" s_filled f_filled d_filled
  b_filled : Binds K d_filled p_filled []
  m_filled : mg "filled" = some (.ref f_filled)
  f_box_behind : Addr
  d_box_behind : FuncData
  F_box_behind : Fun K "box_behind" "box_behind" s_box_behind f_box_behind d_box_behind
  b_box_behind : Binds K d_box_behind p_box_behind []
  m_box_behind : mg "box_behind" = some (.ref f_box_behind)
  f_boxes : Addr
  d_boxes : FuncData
  F_boxes : Fun K "boxes" "boxes" s_boxes f_boxes d_boxes
  b_boxes : Binds K d_boxes p_boxes []
  m_boxes : mg "boxes" = some (.ref f_boxes)
  f_is_box : Addr
  d_is_box : FuncData
  F_is_box : Fun K "is_box" "is_box" s_is_box f_is_box d_is_box
  b_is_box : Binds K d_is_box p_is_box []
  m_is_box : mg "is_box" = some (.ref f_is_box)
  f_need_box : Addr
  d_need_box : FuncData
  F_need_box : Fun K "need_box" "need_box" s_need_box f_need_box d_need_box
  b_need_box : Binds K d_need_box p_need_box []
  m_need_box : mg "need_box" = some (.ref f_need_box)
  f_turned_box : Addr
  d_turned_box : FuncData
  F_turned_box : Fun K "turned_box" "turned_box" s_turned_box f_turned_box d_turned_box
  b_turned_box : Binds K d_turned_box p_turned_box []
  m_turned_box : mg "turned_box" = some (.ref f_turned_box)
  f_left_box : Addr
  d_left_box : FuncData
  F_left_box : Fun K "left_box" "left_box" s_left_box f_left_box d_left_box
  b_left_box : Binds K d_left_box p_left_box []
  m_left_box : mg "left_box" = some (.ref f_left_box)
  f_product_row : Addr
  d_product_row : FuncData
  F_product_row : Fun K "product_row" "product_row" s_product_row f_product_row d_product_row
  b_product_row : Binds K d_product_row p_product_row []
  m_product_row : mg "product_row" = some (.ref f_product_row)
  f_sum_row : Addr
  d_sum_row : FuncData
  F_sum_row : Fun K "sum_row" "sum_row" s_sum_row f_sum_row d_sum_row
  b_sum_row : Binds K d_sum_row p_sum_row []
  m_sum_row : mg "sum_row" = some (.ref f_sum_row)
  f_multiple_row : Addr
  d_multiple_row : FuncData
  F_multiple_row : Fun K "multiple_row" "multiple_row" s_multiple_row f_multiple_row d_multiple_row
  b_multiple_row : Binds K d_multiple_row p_multiple_row []
  m_multiple_row : mg "multiple_row" = some (.ref f_multiple_row)
  f_power_row : Addr
  d_power_row : FuncData
  F_power_row : Fun K "power_row" "power_row" s_power_row f_power_row d_power_row
  b_power_row : Binds K d_power_row p_power_row []
  m_power_row : mg "power_row" = some (.ref f_power_row)
  f_row_value : Addr
  d_row_value : FuncData
  F_row_value : Fun K "row_value" "row_value" s_row_value f_row_value d_row_value
  b_row_value : Binds K d_row_value p_row_value []
  m_row_value : mg "row_value" = some (.ref f_row_value)
  f_made_form : Addr
  d_made_form : FuncData
  F_made_form : Fun K "made_form" "made_form" s_made_form f_made_form d_made_form
  b_made_form : Binds K d_made_form p_made_form []
  m_made_form : mg "made_form" = some (.ref f_made_form)
  f_need_one_degree : Addr
  d_need_one_degree : FuncData
  F_need_one_degree : Fun K "need_one_degree" "need_one_degree" s_need_one_degree f_need_one_degree d_need_one_degree
  b_need_one_degree : Binds K d_need_one_degree p_need_one_degree []
  m_need_one_degree : mg "need_one_degree" = some (.ref f_need_one_degree)
  f_weight_of : Addr
  d_weight_of : FuncData
  F_weight_of : Fun K "weight_of" "weight_of" s_weight_of f_weight_of d_weight_of
  b_weight_of : Binds K d_weight_of p_weight_of []
  m_weight_of : mg "weight_of" = some (.ref f_weight_of)
  f_first_of : Addr
  d_first_of : FuncData
  F_first_of : Fun K "first_of" "first_of" s_first_of f_first_of d_first_of
  b_first_of : Binds K d_first_of p_first_of []
  m_first_of : mg "first_of" = some (.ref f_first_of)
  f_are_exponents : Addr
  d_are_exponents : FuncData
  F_are_exponents : Fun K "are_exponents" "are_exponents" s_are_exponents f_are_exponents d_are_exponents
  b_are_exponents : Binds K d_are_exponents p_are_exponents []
  m_are_exponents : mg "are_exponents" = some (.ref f_are_exponents)
  f_are_terms : Addr
  d_are_terms : FuncData
  F_are_terms : Fun K "are_terms" "are_terms" s_are_terms f_are_terms d_are_terms
  b_are_terms : Binds K d_are_terms p_are_terms []
  m_are_terms : mg "are_terms" = some (.ref f_are_terms)
  f_tidy : Addr
  d_tidy : FuncData
  F_tidy : Fun K "tidy" "tidy" s_tidy f_tidy d_tidy
  b_tidy : Binds K d_tidy p_tidy []
  m_tidy : mg "tidy" = some (.ref f_tidy)
  f_added_terms : Addr
  d_added_terms : FuncData
  F_added_terms : Fun K "added_terms" "added_terms" s_added_terms f_added_terms d_added_terms
  b_added_terms : Binds K d_added_terms p_added_terms []
  m_added_terms : mg "added_terms" = some (.ref f_added_terms)
  f_packed : Addr
  d_packed : FuncData
  F_packed : Fun K "packed" "packed" s_packed f_packed d_packed
  b_packed : Binds K d_packed p_packed []
  m_packed : mg "packed" = some (.ref f_packed)
  f_unpacked : Addr
  d_unpacked : FuncData
  F_unpacked : Fun K "unpacked" "unpacked" s_unpacked f_unpacked d_unpacked
  b_unpacked : Binds K d_unpacked p_unpacked []
  m_unpacked : mg "unpacked" = some (.ref f_unpacked)
  f_product_terms : Addr
  d_product_terms : FuncData
  F_product_terms : Fun K "product_terms" "product_terms" s_product_terms f_product_terms d_product_terms
  b_product_terms : Binds K d_product_terms p_product_terms []
  m_product_terms : mg "product_terms" = some (.ref f_product_terms)
  f_made_sum : Addr
  d_made_sum : FuncData
  F_made_sum : Fun K "made_sum" "made_sum" s_made_sum f_made_sum d_made_sum
  b_made_sum : Binds K d_made_sum p_made_sum []
  m_made_sum : mg "made_sum" = some (.ref f_made_sum)
  f_need_like : Addr
  d_need_like : FuncData
  F_need_like : Fun K "need_like" "need_like" s_need_like f_need_like d_need_like
  b_need_like : Binds K d_need_like p_need_like []
  m_need_like : mg "need_like" = some (.ref f_need_like)
  f_need_product : Addr
  d_need_product : FuncData
  F_need_product : Fun K "need_product" "need_product" s_need_product f_need_product d_need_product
  b_need_product : Binds K d_need_product p_need_product []
  m_need_product : mg "need_product" = some (.ref f_need_product)
  f_law_dice : Addr
  d_law_dice : FuncData
  F_law_dice : Fun K "_law_dice" "_law_dice" s_law_dice f_law_dice d_law_dice
  b_law_dice : Binds K d_law_dice p_law_dice []
  m_law_dice : mg "_law_dice" = some (.ref f_law_dice)
  f_law_roll : Addr
  d_law_roll : FuncData
  F_law_roll : Fun K "_law_roll" "_law_roll" s_law_roll f_law_roll d_law_roll
  b_law_roll : Binds K d_law_roll p_law_roll []
  m_law_roll : mg "_law_roll" = some (.ref f_law_roll)
  f_law_keys : Addr
  d_law_keys : FuncData
  F_law_keys : Fun K "_law_keys" "_law_keys" s_law_keys f_law_keys d_law_keys
  b_law_keys : Binds K d_law_keys p_law_keys []
  m_law_keys : mg "_law_keys" = some (.ref f_law_keys)
  f_law_box_of : Addr
  d_law_box_of : FuncData
  F_law_box_of : Fun K "_law_box_of" "_law_box_of" s_law_box_of f_law_box_of d_law_box_of
  b_law_box_of : Binds K d_law_box_of p_law_box_of []
  m_law_box_of : mg "_law_box_of" = some (.ref f_law_box_of)
  f_law_key_of : Addr
  d_law_key_of : FuncData
  F_law_key_of : Fun K "_law_key_of" "_law_key_of" s_law_key_of f_law_key_of d_law_key_of
  b_law_key_of : Binds K d_law_key_of p_law_key_of []
  m_law_key_of : mg "_law_key_of" = some (.ref f_law_key_of)
  f_law_right : Addr
  d_law_right : FuncData
  F_law_right : Fun K "_law_right" "_law_right" s_law_right f_law_right d_law_right
  b_law_right : Binds K d_law_right p_law_right []
  m_law_right : mg "_law_right" = some (.ref f_law_right)
  f_law : Addr
  d_law : FuncData
  F_law : Fun K "law" "law" s_law f_law d_law
  b_law : Binds K d_law p_law []
  m_law : mg "law" = some (.ref f_law)
  f_Sum___init__ : Addr
  d_Sum___init__ : FuncData
  F_Sum___init__ : Fun K "__init__" "Sum.__init__" s_Sum___init__ f_Sum___init__ d_Sum___init__
  b_Sum___init__ : Binds K d_Sum___init__ p_Sum___init__ []
  f_Sum_size : Addr
  d_Sum_size : FuncData
  F_Sum_size : Fun K "size" "Sum.size" s_Sum_size f_Sum_size d_Sum_size
  b_Sum_size : Binds K d_Sum_size p_Sum_size []
  f_Sum_weight : Addr
  d_Sum_weight : FuncData
  F_Sum_weight : Fun K "weight" "Sum.weight" s_Sum_weight f_Sum_weight d_Sum_weight
  b_Sum_weight : Binds K d_Sum_weight p_Sum_weight []
  f_Sum_order : Addr
  d_Sum_order : FuncData
  F_Sum_order : Fun K "order" "Sum.order" s_Sum_order f_Sum_order d_Sum_order
  b_Sum_order : Binds K d_Sum_order p_Sum_order []
  f_Sum___len__ : Addr
  d_Sum___len__ : FuncData
  F_Sum___len__ : Fun K "__len__" "Sum.__len__" s_Sum___len__ f_Sum___len__ d_Sum___len__
  b_Sum___len__ : Binds K d_Sum___len__ p_Sum___len__ []
  C_Sum : Addr
  mg_Sum : mg "Sum" = some (.ref C_Sum)
  cl_Sum : Cls K C_Sum
  mk_Sum : Mk K C_Sum f_Sum___init__
  sf_Sum : PySem.W.selfFirst K C_Sum = true
  nf_Sum : PySem.W.notFirst K C_Sum (.ref C_Sum) = true
  no_Sum_degree : NoAttr K C_Sum "_degree"
  no_Sum_terms : NoAttr K C_Sum "_terms"
  me_Sum___init__ : Meth K C_Sum "__init__" f_Sum___init__
  pa_Sum_size : Addr
  pr_Sum_size : PropOf K C_Sum "size" pa_Sum_size f_Sum_size
  pa_Sum_weight : Addr
  pr_Sum_weight : PropOf K C_Sum "weight" pa_Sum_weight f_Sum_weight
  pa_Sum_order : Addr
  pr_Sum_order : PropOf K C_Sum "order" pa_Sum_order f_Sum_order
  me_Sum___len__ : Meth K C_Sum "__len__" f_Sum___len__
  z_abs : mg "abs" = none
  z_all : mg "all" = none
  z_bool : mg "bool" = none
  z_dict : mg "dict" = none
  z_enumerate : mg "enumerate" = none
  z_int : mg "int" = none
  z_isinstance : mg "isinstance" = none
  z_len : mg "len" = none
  z_list : mg "list" = none
  z_max : mg "max" = none
  z_min : mg "min" = none
  z_property : mg "property" = none
  z_range : mg "range" = none
  z_reversed : mg "reversed" = none
  z_sorted : mg "sorted" = none
  z_sum : mg "sum" = none
  z_tuple : mg "tuple" = none
  z_zip : mg "zip" = none
  i_comb : mg "comb" = some (.builtin "math.comb")
  t_TOO_LONG : Tok
  c_TOO_LONG : mg "TOO_LONG" = some (.int 1000000000000000000000000000000000000000000000000000000000000 t_TOO_LONG)
  t_MAX_PARTS : Tok
  c_MAX_PARTS : mg "MAX_PARTS" = some (.int 40 t_MAX_PARTS)
  t_MAX_WEIGHT : Tok
  c_MAX_WEIGHT : mg "MAX_WEIGHT" = some (.int 1600 t_MAX_WEIGHT)
  t_MAX_DEGREE : Tok
  c_MAX_DEGREE : mg "MAX_DEGREE" = some (.int 40 t_MAX_DEGREE)
  t_MAX_SUMMED : Tok
  c_MAX_SUMMED : mg "MAX_SUMMED" = some (.int 8 t_MAX_SUMMED)
  t_MAX_SIZE : Tok
  c_MAX_SIZE : mg "MAX_SIZE" = some (.int 12 t_MAX_SIZE)
  t_MAX_TERMS : Tok
  c_MAX_TERMS : mg "MAX_TERMS" = some (.int 4000 t_MAX_TERMS)
end My


namespace My
open PySem PySem.Spec PyProof.Rows L2 Pr M26
section
variable {P : Program} {w : World} {K : PySem.W.Frag} {mg : Str → Option Value} {base : Heap}
def sp_is_integer : Sp := fun vs H Q _ => ∃ (i : Int), vs = [.int i] ∧ -1000000 < i ∧ i < 1000000 ∧ Q (.bl true) H
theorem ok_is_integer (T : Tx K mg) : FnOk P w K mg base CX0 1 T.f_is_integer T.d_is_integer p_is_integer sp_is_integer := by
  refine T.F_is_integer.ok sc_is_integer (fun vs H Q E h => ?_) (fun cdv A outer s H vs Q E hr h => ?_)
  · obtain ⟨i, rfl, _⟩ := h
    rfl
  · obtain ⟨i, rfl, h1, h2, q⟩ := h
    refine ⟨_, (pss_cons (ps_if (PW.pt (pw_or (pt_not (pt_val (pe_callB cr_isiS (by rfl) T.z_isinstance (by decide +kernel) (pa_cons (pv 0) (pa_cons (pe_bltn (v := .ty "int") (by rfl) T.z_int (by decide +kernel) rfl) pa_nil))))) (pw_or1 (pt_val (pe_callB cr_isiS (by rfl) T.z_isinstance (by decide +kernel) (pa_cons (pv 0) (pa_cons (pe_bltn (v := .ty "bool") (by rfl) T.z_bool (by decide +kernel) rfl) pa_nil))))))) (pss_one (ps_ret pe_bl)) pss_nil)
      (pss_one (ps_ret (pe_chain op_lt op_lt (pe_un un_neg (pe_glob (v := .int 1000000000000000000000000000000000000000000000000000000000000) (by rfl) T.c_TOO_LONG ⟨_, rfl⟩)) (pv 0) (pe_glob (v := .int 1000000000000000000000000000000000000000000000000000000000000) (by rfl) T.c_TOO_LONG ⟨_, rfl⟩))))), ?_⟩
    rw [st_is_integer]
    have k1 : kitB "int" "int" = some true := by decide +kernel
    have k2 : kitB "int" "bool" = some false := by decide +kernel
    simp only [ap_seq, ap_next, ap_asg, ap_gName, ap_ret, ap_retN, ap_drop, ap_ifS, ap_break, ap_cont, ap_par, ap_aug, ap_ip, ap_gSub, ap_gTup, ap_gNil, ap_gCons, ap_var, ap_c, ap_op, ap_un, ap_if, ap_test, ap_B, ap_and, ap_or, ap_not, ap_andV, ap_orV, ap_notV, ap_nil, ap_cons, ap_tup, ap_lst, ap_cb, ap_bm, ap_call, ap_chain, ap_rI, ap_rI0, ap_rU, ap_rEq, ap_rNe, ap_revT, ap_sl, ap_part, ap_noPart, ap_ixLI, ap_ixTI, ap_ixLV, ap_ixTV, ap_len, ap_setLI, ap_setLV, ap_appI, ap_appV, ap_tupL, ap_listS, ap_sumLI, ap_sumTI, ap_repLI, ap_intI, ap_intB, ap_eqTI, ap_neTI, ap_eqLI, ap_neLI, ap_isi, ap_for, ap_rng1, ap_rng2, ap_iList, ap_iTup, ap_lc, ap_yes, ap_cut, ap_gTupH, ap_fmt, ap_jsn, ap_jsc, ap_gcd, ap_isqrt, ap_ixL, tyV_l, wipe_nil, wipe_cons, upd_same, ap_iEnT, ap_iEnL, ap_iZipA, ap_all, ap_tupT, ap_attF, ap_makeL, ap_dictKP, ap_neDP, ap_itemsT, ap_zipM, ap_lockE, ap_dget2, ap_dput, ap_dnewT, ap_iValsT, ap_iKeys, ap_sortedDT, ap_dictLT, ap_lenDT, ap_dcT, ap_sortT1, ap_listG, ap_callG, ap_star, ap_extend, ap_max, ap_setOfT, ap_sortedU, ap_sortedTU, ap_repTZ, ap_maxT, ap_revA, ap_att, ap_prop, ap_isO, ap_bin, ap_ne, ap_meth, ap_make, ins_inj, FE_inj, ap_slI, ap_catI, ap_perm, ap_lenO, ap_strO, ap_listO, ap_reprB, ap_iterT, ap_neT, ap_negO, ap_binI, ap_catL, ap_tM1, ap_repTI, ap_popN, ap_par3, ap_catTT, ap_repTA, ap_countT, ap_notInT, ap_repL1, ap_shl, ap_shr, ap_mask, ap_comb, ap_bits, ap_rng3, List.set_cons_zero, List.set_cons_succ, List.getElem?_cons_zero, List.getElem?_cons_succ, List.cons_append, List.nil_append, List.append_nil, Option.some.injEq, V.int.injEq, V.ref.injEq, V.bl.injEq, V.str.injEq, V.ty.injEq, Bool.not_true, Bool.not_false, HO.lst.injEq, HO.tup.injEq, reduceCtorEq, Int.reduceToNat, Int.reduceLT, Int.reduceLE, Nat.reduceAdd, Int.cast_ofNat_Int, gi_c0, gi_c1, gi_c2, gi_c3, Int.natCast_inj, map_int_inj, map_nil_iff, List.cons.injEq, exists_eq_left, exists_eq_left', exists_eq, exists_eq', exists_and_left, exists_and_right, exists_const, and_assoc, and_true, true_and, and_false, false_and, or_false, false_or, or_true, true_or, ite_true, ite_false, if_true, if_false, Bool.false_eq_true, own_cons, own_nil, le1, le2, le3, le4, me_cons, me_nil, List.length_map, List.length_cons, List.length_nil, ne_eq, not_false_eq_true, not_true_eq_false, decide_eq_true_eq, tyOf, k1, k2, Bool.not_true, Bool.not_false]
    rw [if_pos (by omega)]
    rw [decide_eq_true (by omega)]
    exact q
def sp_is_within : Sp := fun vs H Q _ => ∃ (i lo hi : Int), vs = [.int i, .int lo, .int hi] ∧ lo ≤ i ∧ i ≤ hi ∧ -1000000 < i ∧ i < 1000000 ∧ Q (.bl true) H
theorem ok_is_within (T : Tx K mg) : FnOk P w K mg base CX0 2 T.f_is_within T.d_is_within p_is_within sp_is_within := by
  refine T.F_is_within.ok sc_is_within (fun vs H Q E h => ?_) (fun cdv A outer s H vs Q E hr h => ?_)
  · obtain ⟨i, lo, hi, rfl, _⟩ := h
    rfl
  · obtain ⟨i, lo, hi, rfl, h1, h2, h3, h4, q⟩ := h
    refine ⟨_, (pss_one (ps_ret (pe_and (pe_call (ok_is_integer T) (hr.mono (by decide)) (by rfl) T.m_is_integer T.F_is_integer.kp T.b_is_integer .nil pass0 (pa_cons (pv 0) pa_nil)) (pe_one (pe_chain op_le op_le (pv 1) (pv 0) (pv 2)))))), ?_⟩
    rw [st_is_within]
    simp only [ap_seq, ap_next, ap_asg, ap_gName, ap_ret, ap_retN, ap_drop, ap_ifS, ap_break, ap_cont, ap_par, ap_aug, ap_ip, ap_gSub, ap_gTup, ap_gNil, ap_gCons, ap_var, ap_c, ap_op, ap_un, ap_if, ap_test, ap_B, ap_and, ap_or, ap_not, ap_andV, ap_orV, ap_notV, ap_nil, ap_cons, ap_tup, ap_lst, ap_cb, ap_bm, ap_call, ap_chain, ap_rI, ap_rI0, ap_rU, ap_rEq, ap_rNe, ap_revT, ap_sl, ap_part, ap_noPart, ap_ixLI, ap_ixTI, ap_ixLV, ap_ixTV, ap_len, ap_setLI, ap_setLV, ap_appI, ap_appV, ap_tupL, ap_listS, ap_sumLI, ap_sumTI, ap_repLI, ap_intI, ap_intB, ap_eqTI, ap_neTI, ap_eqLI, ap_neLI, ap_isi, ap_for, ap_rng1, ap_rng2, ap_iList, ap_iTup, ap_lc, ap_yes, ap_cut, ap_gTupH, ap_fmt, ap_jsn, ap_jsc, ap_gcd, ap_isqrt, ap_ixL, tyV_l, wipe_nil, wipe_cons, upd_same, ap_iEnT, ap_iEnL, ap_iZipA, ap_all, ap_tupT, ap_attF, ap_makeL, ap_dictKP, ap_neDP, ap_itemsT, ap_zipM, ap_lockE, ap_dget2, ap_dput, ap_dnewT, ap_iValsT, ap_iKeys, ap_sortedDT, ap_dictLT, ap_lenDT, ap_dcT, ap_sortT1, ap_listG, ap_callG, ap_star, ap_extend, ap_max, ap_setOfT, ap_sortedU, ap_sortedTU, ap_repTZ, ap_maxT, ap_revA, ap_att, ap_prop, ap_isO, ap_bin, ap_ne, ap_meth, ap_make, ins_inj, FE_inj, ap_slI, ap_catI, ap_perm, ap_lenO, ap_strO, ap_listO, ap_reprB, ap_iterT, ap_neT, ap_negO, ap_binI, ap_catL, ap_tM1, ap_repTI, ap_popN, ap_par3, ap_catTT, ap_repTA, ap_countT, ap_notInT, ap_repL1, ap_shl, ap_shr, ap_mask, ap_comb, ap_bits, ap_rng3, List.set_cons_zero, List.set_cons_succ, List.getElem?_cons_zero, List.getElem?_cons_succ, List.cons_append, List.nil_append, List.append_nil, Option.some.injEq, V.int.injEq, V.ref.injEq, V.bl.injEq, V.str.injEq, V.ty.injEq, Bool.not_true, Bool.not_false, HO.lst.injEq, HO.tup.injEq, reduceCtorEq, Int.reduceToNat, Int.reduceLT, Int.reduceLE, Nat.reduceAdd, Int.cast_ofNat_Int, gi_c0, gi_c1, gi_c2, gi_c3, Int.natCast_inj, map_int_inj, map_nil_iff, List.cons.injEq, exists_eq_left, exists_eq_left', exists_eq, exists_eq', exists_and_left, exists_and_right, exists_const, and_assoc, and_true, true_and, and_false, false_and, or_false, false_or, or_true, true_or, ite_true, ite_false, if_true, if_false, Bool.false_eq_true, own_cons, own_nil, le1, le2, le3, le4, me_cons, me_nil, List.length_map, List.length_cons, List.length_nil, ne_eq, not_false_eq_true, not_true_eq_false, decide_eq_true_eq, sp_is_integer]
    refine ⟨h3, h4, ?_⟩
    rw [if_pos h1, decide_eq_true h2]
    exact q
def sp_need_number : Sp := fun vs H Q _ => ∃ (i lo hi : Int), vs = [.int i, .int lo, .int hi] ∧ lo ≤ i ∧ i ≤ hi ∧ -1000000 < i ∧ i < 1000000 ∧ Q .non H
theorem ok_need_number (T : Tx K mg) : FnOk P w K mg base CX0 3 T.f_need_number T.d_need_number p_need_number sp_need_number := by
  refine T.F_need_number.ok sc_need_number (fun vs H Q E h => ?_) (fun cdv A outer s H vs Q E hr h => ?_)
  · obtain ⟨i, lo, hi, rfl, _⟩ := h
    rfl
  · obtain ⟨i, lo, hi, rfl, h1, h2, h3, h4, q⟩ := h
    refine ⟨_, (pss_one (ps_if (pt_not (pt_val (pe_call (ok_is_within T) (hr.mono (by decide)) (by rfl) T.m_is_within T.F_is_within.kp T.b_is_within .nil pass0 (pa_cons (pv 0) (pa_cons (pv 1) (pa_cons (pv 2) pa_nil)))))) (pss_one ps_never) pss_nil)), ?_⟩
    rw [st_need_number]
    simp only [ap_seq, ap_next, ap_asg, ap_gName, ap_ret, ap_retN, ap_drop, ap_ifS, ap_break, ap_cont, ap_par, ap_aug, ap_ip, ap_gSub, ap_gTup, ap_gNil, ap_gCons, ap_var, ap_c, ap_op, ap_un, ap_if, ap_test, ap_B, ap_and, ap_or, ap_not, ap_andV, ap_orV, ap_notV, ap_nil, ap_cons, ap_tup, ap_lst, ap_cb, ap_bm, ap_call, ap_chain, ap_rI, ap_rI0, ap_rU, ap_rEq, ap_rNe, ap_revT, ap_sl, ap_part, ap_noPart, ap_ixLI, ap_ixTI, ap_ixLV, ap_ixTV, ap_len, ap_setLI, ap_setLV, ap_appI, ap_appV, ap_tupL, ap_listS, ap_sumLI, ap_sumTI, ap_repLI, ap_intI, ap_intB, ap_eqTI, ap_neTI, ap_eqLI, ap_neLI, ap_isi, ap_for, ap_rng1, ap_rng2, ap_iList, ap_iTup, ap_lc, ap_yes, ap_cut, ap_gTupH, ap_fmt, ap_jsn, ap_jsc, ap_gcd, ap_isqrt, ap_ixL, tyV_l, wipe_nil, wipe_cons, upd_same, ap_iEnT, ap_iEnL, ap_iZipA, ap_all, ap_tupT, ap_attF, ap_makeL, ap_dictKP, ap_neDP, ap_itemsT, ap_zipM, ap_lockE, ap_dget2, ap_dput, ap_dnewT, ap_iValsT, ap_iKeys, ap_sortedDT, ap_dictLT, ap_lenDT, ap_dcT, ap_sortT1, ap_listG, ap_callG, ap_star, ap_extend, ap_max, ap_setOfT, ap_sortedU, ap_sortedTU, ap_repTZ, ap_maxT, ap_revA, ap_att, ap_prop, ap_isO, ap_bin, ap_ne, ap_meth, ap_make, ins_inj, FE_inj, ap_slI, ap_catI, ap_perm, ap_lenO, ap_strO, ap_listO, ap_reprB, ap_iterT, ap_neT, ap_negO, ap_binI, ap_catL, ap_tM1, ap_repTI, ap_popN, ap_par3, ap_catTT, ap_repTA, ap_countT, ap_notInT, ap_repL1, ap_shl, ap_shr, ap_mask, ap_comb, ap_bits, ap_rng3, List.set_cons_zero, List.set_cons_succ, List.getElem?_cons_zero, List.getElem?_cons_succ, List.cons_append, List.nil_append, List.append_nil, Option.some.injEq, V.int.injEq, V.ref.injEq, V.bl.injEq, V.str.injEq, V.ty.injEq, Bool.not_true, Bool.not_false, HO.lst.injEq, HO.tup.injEq, reduceCtorEq, Int.reduceToNat, Int.reduceLT, Int.reduceLE, Nat.reduceAdd, Int.cast_ofNat_Int, gi_c0, gi_c1, gi_c2, gi_c3, Int.natCast_inj, map_int_inj, map_nil_iff, List.cons.injEq, exists_eq_left, exists_eq_left', exists_eq, exists_eq', exists_and_left, exists_and_right, exists_const, and_assoc, and_true, true_and, and_false, false_and, or_false, false_or, or_true, true_or, ite_true, ite_false, if_true, if_false, Bool.false_eq_true, own_cons, own_nil, le1, le2, le3, le4, me_cons, me_nil, List.length_map, List.length_cons, List.length_nil, ne_eq, not_false_eq_true, not_true_eq_false, decide_eq_true_eq, sp_is_within, Bool.not_true]
    exact ⟨h1, h2, h3, h4, q⟩
theorem gi_crow {d m : Nat} {x : Int} (h0 : 0 ≤ x) (h1 : x < ((d * m + 1 : Nat) : Int)) : gi (crow d m) x = cnt d m x := by
  unfold gi crow
  rw [List.getD_eq_getElem?_getD, List.getElem?_map, List.getElem?_range (by omega)]
  show cnt d m (x.toNat : Int) = _
  rw [Int.toNat_of_nonneg h0]
theorem gi_upto {n : Nat} {f : Nat → Int} {x : Int} (h0 : 0 ≤ x) (h1 : x < n) : gi ((List.range n).map f) x = f x.toNat := by
  unfold gi
  rw [List.getD_eq_getElem?_getD, List.getElem?_map, List.getElem?_range (by omega)]
  rfl

theorem while_a {α : Type} {c : TT} {tb : TS} {D : Ends} {σ : L2.St} {H : Hp} (W : α → L2.St → Hp → Prop) (t : α → Bool) (μ : α → Nat) (a0 : α) (h0 : W a0 σ H)
    (hc : ∀ a σ H, W a σ H → ∀ Q : Bool → Hp → Prop, Q (t a) H → c σ H Q)
    (hs : ∀ a σ H, W a σ H → t a = true → tb { D with nx := fun σ' H' => ∃ a', μ a' < μ a ∧ W a' σ' H', ct := fun σ' H' => ∃ a', μ a' < μ a ∧ W a' σ' H', bk := D.nx } σ H)
    (hd : ∀ a σ H, W a σ H → t a = false → D.nx σ H) : tWhile c tb D σ H := by
  refine ⟨fun m σ H => ∃ a, μ a = m ∧ W a σ H, ⟨_, a0, rfl, h0⟩, ?_⟩
  rintro m σ H ⟨a, rfl, hw⟩
  refine hc a σ H hw _ ?_
  cases e : t a with
  | true => exact ⟨fun σ' H' => ∃ a', μ a' < μ a ∧ W a' σ' H', fun σ' H' ⟨a', h1, h2⟩ => ⟨_, h1, a', rfl, h2⟩, hs a σ H hw e⟩
  | false => exact hd a σ H hw e
theorem ap_revL' {K : PySem.W.Frag} {te : TE} {σ : L2.St} {H : Hp} {Q : VK} : tRevL K te σ H Q = te σ H fun x H1 => ∃ a xs, x = .ref a ∧ SqL K H1 a xs ∧ ∀ p, H1 p = none → Q (.ref p) (upd H1 p (.lst xs.reverse)) := rfl
def sp_packed_counts : Sp := fun vs H Q _ => ∃ (d m top : Nat), vs = [.int d, .int m, .int top] ∧ d ≤ 40 ∧ m ≤ 40 ∧ top ≤ d * m ∧
  ∀ H' p wd, Same H H' → H p = none → H' p = some (.tup [.int (V (2 ^ wd) (cnt d m) (top + 1)), .int (wd : Nat)]) → wd ≤ 81 → (∀ n, Fits (2 ^ wd) (cnt d m) n) → Q (.ref p) H'
theorem ok_packed_counts (T : Tx K mg) : FnOk P w K mg base CX0 1 T.f_packed_counts T.d_packed_counts p_packed_counts sp_packed_counts := by
  refine T.F_packed_counts.ok sc_packed_counts (fun vs H Q E h => ?_) (fun cdv A outer s H vs Q E hr h => ?_)
  · obtain ⟨d, m, top, rfl, _⟩ := h
    rfl
  · obtain ⟨d, m, top, rfl, hd, hm, ht, q⟩ := h
    refine ⟨_, (pss_cons (ps_par (i := 3) (j := 4) (by rfl) sc_packed_counts.nd rfl rfl (by decide) rfl rfl (pa_cons (pe_callB (call_min2 rfl) (by rfl) T.z_min (by decide +kernel) (pa_cons (pv 0) (pa_cons (pv 1) pa_nil))) (pa_cons (pe_callB (call_max2 rfl) (by rfl) T.z_max (by decide +kernel) (pa_cons (pv 0) (pa_cons (pv 1) pa_nil))) pa_nil)) (by rfl))
      (pss_cons (ps_set (i := 5) sc_packed_counts.nd rfl (Or.inl rfl) (pe_bits (pe_callBfun cr_comb (by rfl) T.i_comb (pa_cons (pe_op op_add (pv 3) (pv 4)) (pa_cons (pv 3) pa_nil)))))
      (pss_cons (ps_asg (pe_tup (pa_cons pe_int (pa_cons pe_int pa_nil))) (pg_tupH (n := 2) (by rfl) (pgs_cons (pg_name (i := 6) sc_packed_counts.nd rfl (by first | exact .inl rfl | exact .inr rfl)) (pgs_cons (pg_name (i := 7) sc_packed_counts.nd rfl (by first | exact .inl rfl | exact .inr rfl)) pgs_nil))))
      (pss_cons (ps_for PassesOwn.never rfl (pi_range2 (by rfl) T.z_range (pa_cons pe_int (pa_cons (pe_op op_add (pv 3) pe_int) pa_nil))) (pg_name (i := 8) sc_packed_counts.nd rfl (by first | exact .inl rfl | exact .inr rfl))
      (pss_cons (ps_set (i := 9) sc_packed_counts.nd rfl (Or.inl rfl) (pe_callB (call_min2 rfl) (by rfl) T.z_min (by decide +kernel) (pa_cons (pv 2) (pa_cons (pe_op op_mul (pv 8) (pv 4)) pa_nil))))
      (pss_cons (ps_set (i := 6) sc_packed_counts.nd rfl (Or.inl rfl) (pe_op op_shlK (pv 6) (pe_op op_mul (pe_op op_sub (pv 9) (pv 7)) (pv 5))))
      (pss_cons (ps_set (i := 7) sc_packed_counts.nd rfl (Or.inl rfl) (pv 9))
      (pss_cons (ps_set (i := 10) sc_packed_counts.nd rfl (Or.inl rfl) (pv 8))
      (pss_cons (ps_while PassesOwn.never (pt_cmpR op_le (pv 10) (pv 7) (nomark _))
      (pss_cons (ps_set (i := 6) sc_packed_counts.nd rfl (Or.inl rfl) (pe_op op_add (pv 6) (pe_op op_shrK (pv 6) (pe_op op_mul (pv 10) (pv 5)))))
      (pss_one (ps_set (i := 10) sc_packed_counts.nd rfl (Or.inl rfl) (pe_op op_mul pe_int (pv 10))))))
      (pss_one (ps_set (i := 6) sc_packed_counts.nd rfl (Or.inl rfl) (pe_op op_sub (pv 6) (pe_op op_shrK (pv 6) (pe_op op_mul (pe_op op_add (pv 4) (pv 8)) (pv 5))))))))))))
      (pss_one (ps_ret (pe_tup (pa_cons (pv 6) (pa_cons (pv 5) pa_nil))))))))), ?_⟩
    rw [st_packed_counts]
    obtain ⟨a, b, ea, eb, ha, hb, hab, eab⟩ : ∃ a b : Nat, (if (m : Int) < d then (m : Int) else d) = a ∧ (if (m : Int) > d then (m : Int) else d) = b ∧ a ≤ 40 ∧ b ≤ 40 ∧ cnt a b = cnt d m ∧ a * b = d * m := by
      by_cases c : (m : Int) < d
      · exact ⟨m, d, if_pos c, by rw [if_neg (by omega)], hm, hd, by funext x; exact swap m d x, Nat.mul_comm m d⟩
      · refine ⟨d, m, if_neg c, ?_, hd, hm, rfl, rfl⟩
        split <;> omega
    simp only [ap_seq, ap_next, ap_asg, ap_gName, ap_ret, ap_retN, ap_drop, ap_ifS, ap_break, ap_cont, ap_par, ap_aug, ap_ip, ap_gSub, ap_gTup, ap_gNil, ap_gCons, ap_var, ap_c, ap_op, ap_un, ap_if, ap_test, ap_B, ap_and, ap_or, ap_not, ap_andV, ap_orV, ap_notV, ap_nil, ap_cons, ap_tup, ap_lst, ap_cb, ap_bm, ap_call, ap_chain, ap_rI, ap_rI0, ap_rU, ap_rEq, ap_rNe, ap_revT, ap_sl, ap_part, ap_noPart, ap_ixLI, ap_ixTI, ap_ixLV, ap_ixTV, ap_len, ap_setLI, ap_setLV, ap_appI, ap_appV, ap_tupL, ap_listS, ap_sumLI, ap_sumTI, ap_repLI, ap_intI, ap_intB, ap_eqTI, ap_neTI, ap_eqLI, ap_neLI, ap_isi, ap_for, ap_rng1, ap_rng2, ap_iList, ap_iTup, ap_lc, ap_yes, ap_cut, ap_gTupH, ap_fmt, ap_jsn, ap_jsc, ap_gcd, ap_isqrt, ap_ixL, tyV_l, wipe_nil, wipe_cons, upd_same, ap_iEnT, ap_iEnL, ap_iZipA, ap_all, ap_tupT, ap_attF, ap_makeL, ap_dictKP, ap_neDP, ap_itemsT, ap_zipM, ap_lockE, ap_dget2, ap_dput, ap_dnewT, ap_iValsT, ap_iKeys, ap_sortedDT, ap_dictLT, ap_lenDT, ap_dcT, ap_sortT1, ap_listG, ap_callG, ap_star, ap_extend, ap_max, ap_setOfT, ap_sortedU, ap_sortedTU, ap_repTZ, ap_maxT, ap_revA, ap_att, ap_prop, ap_isO, ap_bin, ap_ne, ap_meth, ap_make, ins_inj, FE_inj, ap_slI, ap_catI, ap_perm, ap_lenO, ap_strO, ap_listO, ap_reprB, ap_iterT, ap_neT, ap_negO, ap_binI, ap_catL, ap_tM1, ap_repTI, ap_popN, ap_par3, ap_catTT, ap_repTA, ap_countT, ap_notInT, ap_repL1, ap_shl, ap_shr, ap_mask, ap_comb, ap_bits, ap_rng3, List.set_cons_zero, List.set_cons_succ, List.getElem?_cons_zero, List.getElem?_cons_succ, List.cons_append, List.nil_append, List.append_nil, Option.some.injEq, V.int.injEq, V.ref.injEq, V.bl.injEq, V.str.injEq, V.ty.injEq, Bool.not_true, Bool.not_false, HO.lst.injEq, HO.tup.injEq, reduceCtorEq, Int.reduceToNat, Int.reduceLT, Int.reduceLE, Nat.reduceAdd, Int.cast_ofNat_Int, gi_c0, gi_c1, gi_c2, gi_c3, Int.natCast_inj, map_int_inj, map_nil_iff, List.cons.injEq, exists_eq_left, exists_eq_left', exists_eq, exists_eq', exists_and_left, exists_and_right, exists_const, and_assoc, and_true, true_and, and_false, false_and, or_false, false_or, or_true, true_or, ite_true, ite_false, if_true, if_false, Bool.false_eq_true, own_cons, own_nil, le1, le2, le3, le4, me_cons, me_nil, List.length_map, List.length_cons, List.length_nil, ne_eq, not_false_eq_true, not_true_eq_false, decide_eq_true_eq, CMul]
    simp only [ea, eb]
    have ecomb : PySem.W.mcComb ((a : Int) + b) a = bn a b := by
      rw [← comb_bn a b]
      rfl
    have bw := bits_bn a b
    have bl := bits_lt (bn a b) (bn_pos a b)
    rw [ecomb]
    generalize Builtin.Int.intBits (bn a b) = wd at bw bl ⊢
    have hB : (0 : Int) < 2 ^ wd := Int.pow_pos (by omega)
    refine ⟨by omega, by omega, by omega, by omega, by decide, fun l nl => ?_⟩
    refine ⟨by omega, by omega, by omega, by omega, ?_⟩
    refine loop_range (fun i σ' H' => H' = upd H l (.tup [.int 1, .int 0]) ∧ ∃ (r : Nat) (y8 y9 y10 : Option V), σ' = [some (.int d), some (.int m), some (.int top), some (.int a), some (.int b), some (.int wd), some (.int (V (2 ^ wd) (cnt i b) (r + 1))), some (.int r), y8, y9, y10] ∧ r = min top (i * b))
      ⟨rfl, 0, none, none, none, ?_, by omega⟩ (fun i σ' H' hi hP => ?_) (fun σ' H' hP => ?_)
    · rw [vs, v0, c0, if_pos (show ((0 : Nat) : Int) = 0 from rfl), Int.zero_mul]
      rfl
    · obtain ⟨e1, r, y8, y9, y10, e, er⟩ := hP
      subst e1 e
      simp only [ap_seq, ap_next, ap_asg, ap_gName, ap_ret, ap_retN, ap_drop, ap_ifS, ap_break, ap_cont, ap_par, ap_aug, ap_ip, ap_gSub, ap_gTup, ap_gNil, ap_gCons, ap_var, ap_c, ap_op, ap_un, ap_if, ap_test, ap_B, ap_and, ap_or, ap_not, ap_andV, ap_orV, ap_notV, ap_nil, ap_cons, ap_tup, ap_lst, ap_cb, ap_bm, ap_call, ap_chain, ap_rI, ap_rI0, ap_rU, ap_rEq, ap_rNe, ap_revT, ap_sl, ap_part, ap_noPart, ap_ixLI, ap_ixTI, ap_ixLV, ap_ixTV, ap_len, ap_setLI, ap_setLV, ap_appI, ap_appV, ap_tupL, ap_listS, ap_sumLI, ap_sumTI, ap_repLI, ap_intI, ap_intB, ap_eqTI, ap_neTI, ap_eqLI, ap_neLI, ap_isi, ap_for, ap_rng1, ap_rng2, ap_iList, ap_iTup, ap_lc, ap_yes, ap_cut, ap_gTupH, ap_fmt, ap_jsn, ap_jsc, ap_gcd, ap_isqrt, ap_ixL, tyV_l, wipe_nil, wipe_cons, upd_same, ap_iEnT, ap_iEnL, ap_iZipA, ap_all, ap_tupT, ap_attF, ap_makeL, ap_dictKP, ap_neDP, ap_itemsT, ap_zipM, ap_lockE, ap_dget2, ap_dput, ap_dnewT, ap_iValsT, ap_iKeys, ap_sortedDT, ap_dictLT, ap_lenDT, ap_dcT, ap_sortT1, ap_listG, ap_callG, ap_star, ap_extend, ap_max, ap_setOfT, ap_sortedU, ap_sortedTU, ap_repTZ, ap_maxT, ap_revA, ap_att, ap_prop, ap_isO, ap_bin, ap_ne, ap_meth, ap_make, ins_inj, FE_inj, ap_slI, ap_catI, ap_perm, ap_lenO, ap_strO, ap_listO, ap_reprB, ap_iterT, ap_neT, ap_negO, ap_binI, ap_catL, ap_tM1, ap_repTI, ap_popN, ap_par3, ap_catTT, ap_repTA, ap_countT, ap_notInT, ap_repL1, ap_shl, ap_shr, ap_mask, ap_comb, ap_bits, ap_rng3, List.set_cons_zero, List.set_cons_succ, List.getElem?_cons_zero, List.getElem?_cons_succ, List.cons_append, List.nil_append, List.append_nil, Option.some.injEq, V.int.injEq, V.ref.injEq, V.bl.injEq, V.str.injEq, V.ty.injEq, Bool.not_true, Bool.not_false, HO.lst.injEq, HO.tup.injEq, reduceCtorEq, Int.reduceToNat, Int.reduceLT, Int.reduceLE, Nat.reduceAdd, Int.cast_ofNat_Int, gi_c0, gi_c1, gi_c2, gi_c3, Int.natCast_inj, map_int_inj, map_nil_iff, List.cons.injEq, exists_eq_left, exists_eq_left', exists_eq, exists_eq', exists_and_left, exists_and_right, exists_const, and_assoc, and_true, true_and, and_false, false_and, or_false, false_or, or_true, true_or, ite_true, ite_false, if_true, if_false, Bool.false_eq_true, own_cons, own_nil, le1, le2, le3, le4, me_cons, me_nil, List.length_map, List.length_cons, List.length_nil, ne_eq, not_false_eq_true, not_true_eq_false, decide_eq_true_eq, CMul]
      obtain ⟨L, eL⟩ : ∃ L : Nat, L = min top ((i + 1) * b) := ⟨_, rfl⟩
      have hia : i < a := by omega
      have tdm : top ≤ 1600 := Nat.le_trans ht (Nat.mul_le_mul hd hm)
      have mb : ((1 : Int) + i) * b = (((i + 1) * b : Nat) : Int) := by
        rw [Int.natCast_mul]
        congr 1
        omega
      have sb : (i + 1) * b = i * b + b := Nat.succ_mul i b
      have eI : (if ((1 : Int) + i) * b < (top : Int) then ((1 : Int) + i) * b else (top : Int)) = (L : Int) := by
        rw [mb]
        split <;> omega
      simp only [eI]
      have hrL : r ≤ L := by omega
      have e1 : ((L : Int) - r) * wd = (((L - r) * wd : Nat) : Int) := by
        rw [Int.natCast_mul]
        congr 1
        omega
      have F1 : ∀ n, Fits (2 ^ wd) (cnt i b) n := fun n => cnt_fits (D := a) (by omega) bl n
      have F2 : ∀ M n, Fits (2 ^ wd) (rep (cnt i b) (i + 1) M) n := fun M n => rep_fits (D := a) (by omega) bl (by omega) M n
      refine ⟨.inl (by omega), .inl (by omega), (L - r) * wd, e1, shl_ok (v_abs (F1 (r + 1))) ?_, ?_⟩
      · have h1 : (r + 1) * wd ≤ 1601 * 81 := Nat.mul_le_mul (by omega) (by omega)
        have h2 : (L - r) * wd ≤ 1600 * 81 := Nat.mul_le_mul (by omega) (by omega)
        omega
      have g1 : V (2 ^ wd) (cnt i b) (r + 1) * 2 ^ ((L - r) * wd) = V (2 ^ wd) (rep (cnt i b) (i + 1) 1) (L + 1) := by
        rw [← pow_wd, ← v_grow (r + 1) (L - r) fun x h1 h2 => high i b x (by omega)]
        have : r + 1 + (L - r) = L + 1 := by omega
        rw [this]
        exact v_ext fun x _ => (rep1 _ _ _).symm
      rw [g1]
      refine while_a (fun (M : Nat) σ' H' => H' = upd H l (.tup [.int 1, .int 0]) ∧ 1 ≤ M ∧ σ' = [some (.int d), some (.int m), some (.int top), some (.int a), some (.int b), some (.int wd), some (.int (V (2 ^ wd) (rep (cnt i b) (i + 1) M) (L + 1))), some (.int L), some (.int (1 + i)), some (.int L), some (.int (M * (i + 1) : Nat))])
        (fun M => decide (M * (i + 1) ≤ L)) (fun M => L + 1 - M * (i + 1)) 1 ⟨rfl, Nat.le_refl 1, ?_⟩ (fun M σ' H' hP Q1 hQ => ?_) (fun M σ' H' hP ht => ?_) (fun M σ' H' hP ht => ?_)
      · have : ((1 * (i + 1) : Nat) : Int) = 1 + i := by omega
        rw [this]
      · obtain ⟨e1, h1, e⟩ := hP
        subst e1 e
        simp only [ap_seq, ap_next, ap_asg, ap_gName, ap_ret, ap_retN, ap_drop, ap_ifS, ap_break, ap_cont, ap_par, ap_aug, ap_ip, ap_gSub, ap_gTup, ap_gNil, ap_gCons, ap_var, ap_c, ap_op, ap_un, ap_if, ap_test, ap_B, ap_and, ap_or, ap_not, ap_andV, ap_orV, ap_notV, ap_nil, ap_cons, ap_tup, ap_lst, ap_cb, ap_bm, ap_call, ap_chain, ap_rI, ap_rI0, ap_rU, ap_rEq, ap_rNe, ap_revT, ap_sl, ap_part, ap_noPart, ap_ixLI, ap_ixTI, ap_ixLV, ap_ixTV, ap_len, ap_setLI, ap_setLV, ap_appI, ap_appV, ap_tupL, ap_listS, ap_sumLI, ap_sumTI, ap_repLI, ap_intI, ap_intB, ap_eqTI, ap_neTI, ap_eqLI, ap_neLI, ap_isi, ap_for, ap_rng1, ap_rng2, ap_iList, ap_iTup, ap_lc, ap_yes, ap_cut, ap_gTupH, ap_fmt, ap_jsn, ap_jsc, ap_gcd, ap_isqrt, ap_ixL, tyV_l, wipe_nil, wipe_cons, upd_same, ap_iEnT, ap_iEnL, ap_iZipA, ap_all, ap_tupT, ap_attF, ap_makeL, ap_dictKP, ap_neDP, ap_itemsT, ap_zipM, ap_lockE, ap_dget2, ap_dput, ap_dnewT, ap_iValsT, ap_iKeys, ap_sortedDT, ap_dictLT, ap_lenDT, ap_dcT, ap_sortT1, ap_listG, ap_callG, ap_star, ap_extend, ap_max, ap_setOfT, ap_sortedU, ap_sortedTU, ap_repTZ, ap_maxT, ap_revA, ap_att, ap_prop, ap_isO, ap_bin, ap_ne, ap_meth, ap_make, ins_inj, FE_inj, ap_slI, ap_catI, ap_perm, ap_lenO, ap_strO, ap_listO, ap_reprB, ap_iterT, ap_neT, ap_negO, ap_binI, ap_catL, ap_tM1, ap_repTI, ap_popN, ap_par3, ap_catTT, ap_repTA, ap_countT, ap_notInT, ap_repL1, ap_shl, ap_shr, ap_mask, ap_comb, ap_bits, ap_rng3, List.set_cons_zero, List.set_cons_succ, List.getElem?_cons_zero, List.getElem?_cons_succ, List.cons_append, List.nil_append, List.append_nil, Option.some.injEq, V.int.injEq, V.ref.injEq, V.bl.injEq, V.str.injEq, V.ty.injEq, Bool.not_true, Bool.not_false, HO.lst.injEq, HO.tup.injEq, reduceCtorEq, Int.reduceToNat, Int.reduceLT, Int.reduceLE, Nat.reduceAdd, Int.cast_ofNat_Int, gi_c0, gi_c1, gi_c2, gi_c3, Int.natCast_inj, map_int_inj, map_nil_iff, List.cons.injEq, exists_eq_left, exists_eq_left', exists_eq, exists_eq', exists_and_left, exists_and_right, exists_const, and_assoc, and_true, true_and, and_false, false_and, or_false, false_or, or_true, true_or, ite_true, ite_false, if_true, if_false, Bool.false_eq_true, own_cons, own_nil, le1, le2, le3, le4, me_cons, me_nil, List.length_map, List.length_cons, List.length_nil, ne_eq, not_false_eq_true, not_true_eq_false, decide_eq_true_eq]
        have : decide (((M * (i + 1) : Nat) : Int) ≤ (L : Int)) = decide (M * (i + 1) ≤ L) := by
          apply decide_eq_decide.mpr
          omega
        rw [this]
        exact hQ
      · obtain ⟨e1, h1, e⟩ := hP
        subst e1 e
        have hML : M * (i + 1) ≤ L := of_decide_eq_true ht
        have hpos : 1 ≤ M * (i + 1) := Nat.mul_le_mul h1 (by omega : 1 ≤ i + 1)
        have s2 : (M + M) * (i + 1) = M * (i + 1) + M * (i + 1) := Nat.add_mul M M (i + 1)
        simp only [ap_seq, ap_next, ap_asg, ap_gName, ap_ret, ap_retN, ap_drop, ap_ifS, ap_break, ap_cont, ap_par, ap_aug, ap_ip, ap_gSub, ap_gTup, ap_gNil, ap_gCons, ap_var, ap_c, ap_op, ap_un, ap_if, ap_test, ap_B, ap_and, ap_or, ap_not, ap_andV, ap_orV, ap_notV, ap_nil, ap_cons, ap_tup, ap_lst, ap_cb, ap_bm, ap_call, ap_chain, ap_rI, ap_rI0, ap_rU, ap_rEq, ap_rNe, ap_revT, ap_sl, ap_part, ap_noPart, ap_ixLI, ap_ixTI, ap_ixLV, ap_ixTV, ap_len, ap_setLI, ap_setLV, ap_appI, ap_appV, ap_tupL, ap_listS, ap_sumLI, ap_sumTI, ap_repLI, ap_intI, ap_intB, ap_eqTI, ap_neTI, ap_eqLI, ap_neLI, ap_isi, ap_for, ap_rng1, ap_rng2, ap_iList, ap_iTup, ap_lc, ap_yes, ap_cut, ap_gTupH, ap_fmt, ap_jsn, ap_jsc, ap_gcd, ap_isqrt, ap_ixL, tyV_l, wipe_nil, wipe_cons, upd_same, ap_iEnT, ap_iEnL, ap_iZipA, ap_all, ap_tupT, ap_attF, ap_makeL, ap_dictKP, ap_neDP, ap_itemsT, ap_zipM, ap_lockE, ap_dget2, ap_dput, ap_dnewT, ap_iValsT, ap_iKeys, ap_sortedDT, ap_dictLT, ap_lenDT, ap_dcT, ap_sortT1, ap_listG, ap_callG, ap_star, ap_extend, ap_max, ap_setOfT, ap_sortedU, ap_sortedTU, ap_repTZ, ap_maxT, ap_revA, ap_att, ap_prop, ap_isO, ap_bin, ap_ne, ap_meth, ap_make, ins_inj, FE_inj, ap_slI, ap_catI, ap_perm, ap_lenO, ap_strO, ap_listO, ap_reprB, ap_iterT, ap_neT, ap_negO, ap_binI, ap_catL, ap_tM1, ap_repTI, ap_popN, ap_par3, ap_catTT, ap_repTA, ap_countT, ap_notInT, ap_repL1, ap_shl, ap_shr, ap_mask, ap_comb, ap_bits, ap_rng3, List.set_cons_zero, List.set_cons_succ, List.getElem?_cons_zero, List.getElem?_cons_succ, List.cons_append, List.nil_append, List.append_nil, Option.some.injEq, V.int.injEq, V.ref.injEq, V.bl.injEq, V.str.injEq, V.ty.injEq, Bool.not_true, Bool.not_false, HO.lst.injEq, HO.tup.injEq, reduceCtorEq, Int.reduceToNat, Int.reduceLT, Int.reduceLE, Nat.reduceAdd, Int.cast_ofNat_Int, gi_c0, gi_c1, gi_c2, gi_c3, Int.natCast_inj, map_int_inj, map_nil_iff, List.cons.injEq, exists_eq_left, exists_eq_left', exists_eq, exists_eq', exists_and_left, exists_and_right, exists_const, and_assoc, and_true, true_and, and_false, false_and, or_false, false_or, or_true, true_or, ite_true, ite_false, if_true, if_false, Bool.false_eq_true, own_cons, own_nil, le1, le2, le3, le4, me_cons, me_nil, List.length_map, List.length_cons, List.length_nil, ne_eq, not_false_eq_true, not_true_eq_false, decide_eq_true_eq, CMul]
        refine ⟨.inl (by omega), M * (i + 1) * wd, by rw [← Int.natCast_mul], .inl (by omega), M + M, ?_, by omega, ?_, ?_⟩
        · show L + 1 - (M + M) * (i + 1) < L + 1 - M * (i + 1)
          omega
        · rw [← pow_wd]
          exact step_one hB (neg i b) (F2 M (L + 1))
        · omega
      · obtain ⟨e1, h1, e⟩ := hP
        subst e1 e
        have hML : ¬ M * (i + 1) ≤ L := of_decide_eq_false ht
        simp only [ap_seq, ap_next, ap_asg, ap_gName, ap_ret, ap_retN, ap_drop, ap_ifS, ap_break, ap_cont, ap_par, ap_aug, ap_ip, ap_gSub, ap_gTup, ap_gNil, ap_gCons, ap_var, ap_c, ap_op, ap_un, ap_if, ap_test, ap_B, ap_and, ap_or, ap_not, ap_andV, ap_orV, ap_notV, ap_nil, ap_cons, ap_tup, ap_lst, ap_cb, ap_bm, ap_call, ap_chain, ap_rI, ap_rI0, ap_rU, ap_rEq, ap_rNe, ap_revT, ap_sl, ap_part, ap_noPart, ap_ixLI, ap_ixTI, ap_ixLV, ap_ixTV, ap_len, ap_setLI, ap_setLV, ap_appI, ap_appV, ap_tupL, ap_listS, ap_sumLI, ap_sumTI, ap_repLI, ap_intI, ap_intB, ap_eqTI, ap_neTI, ap_eqLI, ap_neLI, ap_isi, ap_for, ap_rng1, ap_rng2, ap_iList, ap_iTup, ap_lc, ap_yes, ap_cut, ap_gTupH, ap_fmt, ap_jsn, ap_jsc, ap_gcd, ap_isqrt, ap_ixL, tyV_l, wipe_nil, wipe_cons, upd_same, ap_iEnT, ap_iEnL, ap_iZipA, ap_all, ap_tupT, ap_attF, ap_makeL, ap_dictKP, ap_neDP, ap_itemsT, ap_zipM, ap_lockE, ap_dget2, ap_dput, ap_dnewT, ap_iValsT, ap_iKeys, ap_sortedDT, ap_dictLT, ap_lenDT, ap_dcT, ap_sortT1, ap_listG, ap_callG, ap_star, ap_extend, ap_max, ap_setOfT, ap_sortedU, ap_sortedTU, ap_repTZ, ap_maxT, ap_revA, ap_att, ap_prop, ap_isO, ap_bin, ap_ne, ap_meth, ap_make, ins_inj, FE_inj, ap_slI, ap_catI, ap_perm, ap_lenO, ap_strO, ap_listO, ap_reprB, ap_iterT, ap_neT, ap_negO, ap_binI, ap_catL, ap_tM1, ap_repTI, ap_popN, ap_par3, ap_catTT, ap_repTA, ap_countT, ap_notInT, ap_repL1, ap_shl, ap_shr, ap_mask, ap_comb, ap_bits, ap_rng3, List.set_cons_zero, List.set_cons_succ, List.getElem?_cons_zero, List.getElem?_cons_succ, List.cons_append, List.nil_append, List.append_nil, Option.some.injEq, V.int.injEq, V.ref.injEq, V.bl.injEq, V.str.injEq, V.ty.injEq, Bool.not_true, Bool.not_false, HO.lst.injEq, HO.tup.injEq, reduceCtorEq, Int.reduceToNat, Int.reduceLT, Int.reduceLE, Nat.reduceAdd, Int.cast_ofNat_Int, gi_c0, gi_c1, gi_c2, gi_c3, Int.natCast_inj, map_int_inj, map_nil_iff, List.cons.injEq, exists_eq_left, exists_eq_left', exists_eq, exists_eq', exists_and_left, exists_and_right, exists_const, and_assoc, and_true, true_and, and_false, false_and, or_false, false_or, or_true, true_or, ite_true, ite_false, if_true, if_false, Bool.false_eq_true, own_cons, own_nil, le1, le2, le3, le4, me_cons, me_nil, List.length_map, List.length_cons, List.length_nil, ne_eq, not_false_eq_true, not_true_eq_false, decide_eq_true_eq, CMul]
        refine ⟨.inl (by omega), (b + (i + 1)) * wd, ?_, L, ?_, rfl, eL⟩
        · rw [Int.natCast_mul]
          congr 1
          omega
        · rw [← pow_wd]
          exact step_part hB (by omega) (F2 M (L + 1))
    · obtain ⟨e1, r, y8, y9, y10, e, er⟩ := hP
      subst e1 e
      simp only [ap_seq, ap_next, ap_asg, ap_gName, ap_ret, ap_retN, ap_drop, ap_ifS, ap_break, ap_cont, ap_par, ap_aug, ap_ip, ap_gSub, ap_gTup, ap_gNil, ap_gCons, ap_var, ap_c, ap_op, ap_un, ap_if, ap_test, ap_B, ap_and, ap_or, ap_not, ap_andV, ap_orV, ap_notV, ap_nil, ap_cons, ap_tup, ap_lst, ap_cb, ap_bm, ap_call, ap_chain, ap_rI, ap_rI0, ap_rU, ap_rEq, ap_rNe, ap_revT, ap_sl, ap_part, ap_noPart, ap_ixLI, ap_ixTI, ap_ixLV, ap_ixTV, ap_len, ap_setLI, ap_setLV, ap_appI, ap_appV, ap_tupL, ap_listS, ap_sumLI, ap_sumTI, ap_repLI, ap_intI, ap_intB, ap_eqTI, ap_neTI, ap_eqLI, ap_neLI, ap_isi, ap_for, ap_rng1, ap_rng2, ap_iList, ap_iTup, ap_lc, ap_yes, ap_cut, ap_gTupH, ap_fmt, ap_jsn, ap_jsc, ap_gcd, ap_isqrt, ap_ixL, tyV_l, wipe_nil, wipe_cons, upd_same, ap_iEnT, ap_iEnL, ap_iZipA, ap_all, ap_tupT, ap_attF, ap_makeL, ap_dictKP, ap_neDP, ap_itemsT, ap_zipM, ap_lockE, ap_dget2, ap_dput, ap_dnewT, ap_iValsT, ap_iKeys, ap_sortedDT, ap_dictLT, ap_lenDT, ap_dcT, ap_sortT1, ap_listG, ap_callG, ap_star, ap_extend, ap_max, ap_setOfT, ap_sortedU, ap_sortedTU, ap_repTZ, ap_maxT, ap_revA, ap_att, ap_prop, ap_isO, ap_bin, ap_ne, ap_meth, ap_make, ins_inj, FE_inj, ap_slI, ap_catI, ap_perm, ap_lenO, ap_strO, ap_listO, ap_reprB, ap_iterT, ap_neT, ap_negO, ap_binI, ap_catL, ap_tM1, ap_repTI, ap_popN, ap_par3, ap_catTT, ap_repTA, ap_countT, ap_notInT, ap_repL1, ap_shl, ap_shr, ap_mask, ap_comb, ap_bits, ap_rng3, List.set_cons_zero, List.set_cons_succ, List.getElem?_cons_zero, List.getElem?_cons_succ, List.cons_append, List.nil_append, List.append_nil, Option.some.injEq, V.int.injEq, V.ref.injEq, V.bl.injEq, V.str.injEq, V.ty.injEq, Bool.not_true, Bool.not_false, HO.lst.injEq, HO.tup.injEq, reduceCtorEq, Int.reduceToNat, Int.reduceLT, Int.reduceLE, Nat.reduceAdd, Int.cast_ofNat_Int, gi_c0, gi_c1, gi_c2, gi_c3, Int.natCast_inj, map_int_inj, map_nil_iff, List.cons.injEq, exists_eq_left, exists_eq_left', exists_eq, exists_eq', exists_and_left, exists_and_right, exists_const, and_assoc, and_true, true_and, and_false, false_and, or_false, false_or, or_true, true_or, ite_true, ite_false, if_true, if_false, Bool.false_eq_true, own_cons, own_nil, le1, le2, le3, le4, me_cons, me_nil, List.length_map, List.length_cons, List.length_nil, ne_eq, not_false_eq_true, not_true_eq_false, decide_eq_true_eq]
      have en : ((a : Int) + 1 - 1).toNat = a := by omega
      rw [en] at er ⊢
      have er2 : r = top := by omega
      rw [er2]
      refine ⟨by decide, fun p np => ?_⟩
      have sm : Same H (upd H l (.tup [.int 1, .int 0])) := same_upd nl
      refine q _ p wd (sm.trans (same_upd np)) (sm.free np) ?_ (by omega) fun n => ?_
      · rw [upd_same, hab]
      · rw [← hab]
        exact cnt_fits (D := a) (Nat.le_refl a) bl n

def sp_lowest_bits : Sp := fun vs H Q _ => ∃ (i : Int) (k : Nat), vs = [.int i, .int k] ∧ k ≤ 100000 ∧ Q (.int (i % 2 ^ k)) H
theorem ok_lowest_bits (T : Tx K mg) : FnOk P w K mg base CX0 1 T.f_lowest_bits T.d_lowest_bits p_lowest_bits sp_lowest_bits := by
  refine T.F_lowest_bits.ok sc_lowest_bits (fun vs H Q E h => ?_) (fun cdv A outer s H vs Q E hr h => ?_)
  · obtain ⟨i, k, rfl, _⟩ := h
    rfl
  · obtain ⟨i, k, rfl, hk, q⟩ := h
    refine ⟨_, (pss_one (ps_ret (pe_op op_maskK (pv 0) (pe_op op_sub (pe_op op_shlK pe_int (pv 1)) pe_int)))), ?_⟩
    rw [st_lowest_bits]
    simp only [ap_seq, ap_next, ap_asg, ap_gName, ap_ret, ap_retN, ap_drop, ap_ifS, ap_break, ap_cont, ap_par, ap_aug, ap_ip, ap_gSub, ap_gTup, ap_gNil, ap_gCons, ap_var, ap_c, ap_op, ap_un, ap_if, ap_test, ap_B, ap_and, ap_or, ap_not, ap_andV, ap_orV, ap_notV, ap_nil, ap_cons, ap_tup, ap_lst, ap_cb, ap_bm, ap_call, ap_chain, ap_rI, ap_rI0, ap_rU, ap_rEq, ap_rNe, ap_revT, ap_sl, ap_part, ap_noPart, ap_ixLI, ap_ixTI, ap_ixLV, ap_ixTV, ap_len, ap_setLI, ap_setLV, ap_appI, ap_appV, ap_tupL, ap_listS, ap_sumLI, ap_sumTI, ap_repLI, ap_intI, ap_intB, ap_eqTI, ap_neTI, ap_eqLI, ap_neLI, ap_isi, ap_for, ap_rng1, ap_rng2, ap_iList, ap_iTup, ap_lc, ap_yes, ap_cut, ap_gTupH, ap_fmt, ap_jsn, ap_jsc, ap_gcd, ap_isqrt, ap_ixL, tyV_l, wipe_nil, wipe_cons, upd_same, ap_iEnT, ap_iEnL, ap_iZipA, ap_all, ap_tupT, ap_attF, ap_makeL, ap_dictKP, ap_neDP, ap_itemsT, ap_zipM, ap_lockE, ap_dget2, ap_dput, ap_dnewT, ap_iValsT, ap_iKeys, ap_sortedDT, ap_dictLT, ap_lenDT, ap_dcT, ap_sortT1, ap_listG, ap_callG, ap_star, ap_extend, ap_max, ap_setOfT, ap_sortedU, ap_sortedTU, ap_repTZ, ap_maxT, ap_revA, ap_att, ap_prop, ap_isO, ap_bin, ap_ne, ap_meth, ap_make, ins_inj, FE_inj, ap_slI, ap_catI, ap_perm, ap_lenO, ap_strO, ap_listO, ap_reprB, ap_iterT, ap_neT, ap_negO, ap_binI, ap_catL, ap_tM1, ap_repTI, ap_popN, ap_par3, ap_catTT, ap_repTA, ap_countT, ap_notInT, ap_repL1, ap_shl, ap_shr, ap_mask, ap_comb, ap_bits, ap_rng3, List.set_cons_zero, List.set_cons_succ, List.getElem?_cons_zero, List.getElem?_cons_succ, List.cons_append, List.nil_append, List.append_nil, Option.some.injEq, V.int.injEq, V.ref.injEq, V.bl.injEq, V.str.injEq, V.ty.injEq, Bool.not_true, Bool.not_false, HO.lst.injEq, HO.tup.injEq, reduceCtorEq, Int.reduceToNat, Int.reduceLT, Int.reduceLE, Nat.reduceAdd, Int.cast_ofNat_Int, gi_c0, gi_c1, gi_c2, gi_c3, Int.natCast_inj, map_int_inj, map_nil_iff, List.cons.injEq, exists_eq_left, exists_eq_left', exists_eq, exists_eq', exists_and_left, exists_and_right, exists_const, and_assoc, and_true, true_and, and_false, false_and, or_false, false_or, or_true, true_or, ite_true, ite_false, if_true, if_false, Bool.false_eq_true, own_cons, own_nil, le1, le2, le3, le4, me_cons, me_nil, List.length_map, List.length_cons, List.length_nil, ne_eq, not_false_eq_true, not_true_eq_false, decide_eq_true_eq]
    refine ⟨shl_ok (n := 1) (by decide) (by omega), k, by rw [Int.one_mul], q⟩
/-- counts up to the top, from the top down -/
def down (d m top : Nat) (n : Nat) : List Int := (List.range n).map fun j : Nat => cnt d m ((top : Int) - j)
theorem down_next (d m top n : Nat) : down d m top n ++ [cnt d m ((top : Int) - n)] = down d m top (n + 1) := by
  unfold down
  rw [List.range_succ, List.map_append]
  rfl
theorem down_rev (d m top : Nat) : (down d m top (top + 1)).reverse = (List.range (top + 1)).map fun w : Nat => cnt d m w := by
  unfold down
  apply List.ext_getElem
  · simp
  · intro i h1 h2
    have h3 : i < top + 1 := by simpa using h2
    rw [List.getElem_reverse, List.getElem_map, List.getElem_map, List.getElem_range, List.getElem_range]
    congr 1
    rw [List.length_map, List.length_range]
    omega
theorem one_count {d m top wd x y : Nat} (hf : ∀ n, Fits (2 ^ wd) (cnt d m) n) (hx : x + y ≤ top) (hy : y < 32) :
    V (2 ^ wd) (cnt d m) (top + 1) / 2 ^ (x * wd) % 2 ^ (32 * wd) / 2 ^ (y * wd) % 2 ^ wd = cnt d m ((top : Int) - (x + y : Nat)) := by
  have hB : (0 : Int) < 2 ^ wd := Int.pow_pos (by omega)
  rw [cut_two hy, ← pow_wd, ← pow_wd, v_div hB x (hf _), v_div hB y (hf _)]
  have e : top + 1 - x - y = (top - (x + y)) + 1 := by omega
  rw [e, v_low (hf _)]
  congr 1
  omega
def sp_box_count : Sp := fun vs H Q _ => ∃ (x : Int) (d m : Nat), vs = [.int x, .int d, .int m] ∧ d ≤ 40 ∧ m ≤ 40 ∧ 0 ≤ x ∧ x ≤ 1600 ∧
  ∀ H', Same H H' → Q (.int (cnt d m x)) H'
theorem ok_box_count (T : Tx K mg) : FnOk P w K mg base CX0 4 T.f_box_count T.d_box_count p_box_count sp_box_count := by
  refine T.F_box_count.ok sc_box_count (fun vs H Q E h => ?_) (fun cdv A outer s H vs Q E hr h => ?_)
  · obtain ⟨x, d, m, rfl, _⟩ := h
    rfl
  · obtain ⟨x, d, m, rfl, hd, hm, h0, h1, q⟩ := h
    have hdm : d * m ≤ 1600 := Nat.mul_le_mul hd hm
    have edm : (d : Int) * (m : Int) = ((d * m : Nat) : Int) := by rw [Int.natCast_mul]
    refine ⟨_, (pss_cons (ps_expr (pe_call (ok_need_number T) (hr.mono (by decide)) (by rfl) T.m_need_number T.F_need_number.kp T.b_need_number .nil pass0 (pa_cons (pv 0) (pa_cons pe_int (pa_cons (pe_glob (v := .int 1600) (by rfl) T.c_MAX_WEIGHT ⟨_, rfl⟩) pa_nil)))))
      (pss_cons (ps_expr (pe_call (ok_need_number T) (hr.mono (by decide)) (by rfl) T.m_need_number T.F_need_number.kp T.b_need_number .nil pass0 (pa_cons (pv 1) (pa_cons pe_int (pa_cons (pe_glob (v := .int 40) (by rfl) T.c_MAX_PARTS ⟨_, rfl⟩) pa_nil)))))
      (pss_cons (ps_expr (pe_call (ok_need_number T) (hr.mono (by decide)) (by rfl) T.m_need_number T.F_need_number.kp T.b_need_number .nil pass0 (pa_cons (pv 2) (pa_cons pe_int (pa_cons (pe_glob (v := .int 40) (by rfl) T.c_MAX_PARTS ⟨_, rfl⟩) pa_nil)))))
      (pss_cons (ps_set (i := 3) sc_box_count.nd rfl (Or.inl rfl) (pe_op op_sub (pe_op op_mul (pv 1) (pv 2)) (pv 0)))
      (pss_cons (ps_if (pt_cmpR op_lt (pv 3) pe_int (nomark _)) (pss_one (ps_ret pe_int)) pss_nil)
      (pss_cons (ps_asg (pe_call (ok_packed_counts T) (hr.mono (by decide)) (by rfl) T.m_packed_counts T.F_packed_counts.kp T.b_packed_counts .nil pass0 (pa_cons (pv 1) (pa_cons (pv 2) (pa_cons (pe_callB (call_min2 rfl) (by rfl) T.z_min (by decide +kernel) (pa_cons (pv 0) (pa_cons (pv 3) pa_nil))) pa_nil)))) (pg_tupH (n := 2) (by rfl) (pgs_cons (pg_name (i := 4) sc_box_count.nd rfl (by first | exact .inl rfl | exact .inr rfl)) (pgs_cons (pg_name (i := 5) sc_box_count.nd rfl (by first | exact .inl rfl | exact .inr rfl)) pgs_nil))))
      (pss_one (ps_ret (pe_call (ok_lowest_bits T) (hr.mono (by decide)) (by rfl) T.m_lowest_bits T.F_lowest_bits.kp T.b_lowest_bits .nil pass0 (pa_cons (pv 4) (pa_cons (pv 5) pa_nil))))))))))), ?_⟩
    rw [st_box_count]
    simp only [ap_seq, ap_next, ap_asg, ap_gName, ap_ret, ap_retN, ap_drop, ap_ifS, ap_break, ap_cont, ap_par, ap_aug, ap_ip, ap_gSub, ap_gTup, ap_gNil, ap_gCons, ap_var, ap_c, ap_op, ap_un, ap_if, ap_test, ap_B, ap_and, ap_or, ap_not, ap_andV, ap_orV, ap_notV, ap_nil, ap_cons, ap_tup, ap_lst, ap_cb, ap_bm, ap_call, ap_chain, ap_rI, ap_rI0, ap_rU, ap_rEq, ap_rNe, ap_revT, ap_sl, ap_part, ap_noPart, ap_ixLI, ap_ixTI, ap_ixLV, ap_ixTV, ap_len, ap_setLI, ap_setLV, ap_appI, ap_appV, ap_tupL, ap_listS, ap_sumLI, ap_sumTI, ap_repLI, ap_intI, ap_intB, ap_eqTI, ap_neTI, ap_eqLI, ap_neLI, ap_isi, ap_for, ap_rng1, ap_rng2, ap_iList, ap_iTup, ap_lc, ap_yes, ap_cut, ap_gTupH, ap_fmt, ap_jsn, ap_jsc, ap_gcd, ap_isqrt, ap_ixL, tyV_l, wipe_nil, wipe_cons, upd_same, ap_iEnT, ap_iEnL, ap_iZipA, ap_all, ap_tupT, ap_attF, ap_makeL, ap_dictKP, ap_neDP, ap_itemsT, ap_zipM, ap_lockE, ap_dget2, ap_dput, ap_dnewT, ap_iValsT, ap_iKeys, ap_sortedDT, ap_dictLT, ap_lenDT, ap_dcT, ap_sortT1, ap_listG, ap_callG, ap_star, ap_extend, ap_max, ap_setOfT, ap_sortedU, ap_sortedTU, ap_repTZ, ap_maxT, ap_revA, ap_att, ap_prop, ap_isO, ap_bin, ap_ne, ap_meth, ap_make, ins_inj, FE_inj, ap_slI, ap_catI, ap_perm, ap_lenO, ap_strO, ap_listO, ap_reprB, ap_iterT, ap_neT, ap_negO, ap_binI, ap_catL, ap_tM1, ap_repTI, ap_popN, ap_par3, ap_catTT, ap_repTA, ap_countT, ap_notInT, ap_repL1, ap_shl, ap_shr, ap_mask, ap_comb, ap_bits, ap_rng3, List.set_cons_zero, List.set_cons_succ, List.getElem?_cons_zero, List.getElem?_cons_succ, List.cons_append, List.nil_append, List.append_nil, Option.some.injEq, V.int.injEq, V.ref.injEq, V.bl.injEq, V.str.injEq, V.ty.injEq, Bool.not_true, Bool.not_false, HO.lst.injEq, HO.tup.injEq, reduceCtorEq, Int.reduceToNat, Int.reduceLT, Int.reduceLE, Nat.reduceAdd, Int.cast_ofNat_Int, gi_c0, gi_c1, gi_c2, gi_c3, Int.natCast_inj, map_int_inj, map_nil_iff, List.cons.injEq, exists_eq_left, exists_eq_left', exists_eq, exists_eq', exists_and_left, exists_and_right, exists_const, and_assoc, and_true, true_and, and_false, false_and, or_false, false_or, or_true, true_or, ite_true, ite_false, if_true, if_false, Bool.false_eq_true, own_cons, own_nil, le1, le2, le3, le4, me_cons, me_nil, List.length_map, List.length_cons, List.length_nil, ne_eq, not_false_eq_true, not_true_eq_false, decide_eq_true_eq, sp_need_number, CMul]
    refine ⟨by omega, by omega, by omega, by omega, by omega, by omega, by omega, by omega, by omega, by omega, by omega, by omega, .inl (by omega), ?_⟩
    rw [edm]
    by_cases c : ((d * m : Nat) : Int) - x < 0
    · rw [if_pos c]
      rw [← high d m x (by omega)]
      exact q H (Same.refl H)
    · rw [if_neg c]
      simp only [ap_seq, ap_next, ap_asg, ap_gName, ap_ret, ap_retN, ap_drop, ap_ifS, ap_break, ap_cont, ap_par, ap_aug, ap_ip, ap_gSub, ap_gTup, ap_gNil, ap_gCons, ap_var, ap_c, ap_op, ap_un, ap_if, ap_test, ap_B, ap_and, ap_or, ap_not, ap_andV, ap_orV, ap_notV, ap_nil, ap_cons, ap_tup, ap_lst, ap_cb, ap_bm, ap_call, ap_chain, ap_rI, ap_rI0, ap_rU, ap_rEq, ap_rNe, ap_revT, ap_sl, ap_part, ap_noPart, ap_ixLI, ap_ixTI, ap_ixLV, ap_ixTV, ap_len, ap_setLI, ap_setLV, ap_appI, ap_appV, ap_tupL, ap_listS, ap_sumLI, ap_sumTI, ap_repLI, ap_intI, ap_intB, ap_eqTI, ap_neTI, ap_eqLI, ap_neLI, ap_isi, ap_for, ap_rng1, ap_rng2, ap_iList, ap_iTup, ap_lc, ap_yes, ap_cut, ap_gTupH, ap_fmt, ap_jsn, ap_jsc, ap_gcd, ap_isqrt, ap_ixL, tyV_l, wipe_nil, wipe_cons, upd_same, ap_iEnT, ap_iEnL, ap_iZipA, ap_all, ap_tupT, ap_attF, ap_makeL, ap_dictKP, ap_neDP, ap_itemsT, ap_zipM, ap_lockE, ap_dget2, ap_dput, ap_dnewT, ap_iValsT, ap_iKeys, ap_sortedDT, ap_dictLT, ap_lenDT, ap_dcT, ap_sortT1, ap_listG, ap_callG, ap_star, ap_extend, ap_max, ap_setOfT, ap_sortedU, ap_sortedTU, ap_repTZ, ap_maxT, ap_revA, ap_att, ap_prop, ap_isO, ap_bin, ap_ne, ap_meth, ap_make, ins_inj, FE_inj, ap_slI, ap_catI, ap_perm, ap_lenO, ap_strO, ap_listO, ap_reprB, ap_iterT, ap_neT, ap_negO, ap_binI, ap_catL, ap_tM1, ap_repTI, ap_popN, ap_par3, ap_catTT, ap_repTA, ap_countT, ap_notInT, ap_repL1, ap_shl, ap_shr, ap_mask, ap_comb, ap_bits, ap_rng3, List.set_cons_zero, List.set_cons_succ, List.getElem?_cons_zero, List.getElem?_cons_succ, List.cons_append, List.nil_append, List.append_nil, Option.some.injEq, V.int.injEq, V.ref.injEq, V.bl.injEq, V.str.injEq, V.ty.injEq, Bool.not_true, Bool.not_false, HO.lst.injEq, HO.tup.injEq, reduceCtorEq, Int.reduceToNat, Int.reduceLT, Int.reduceLE, Nat.reduceAdd, Int.cast_ofNat_Int, gi_c0, gi_c1, gi_c2, gi_c3, Int.natCast_inj, map_int_inj, map_nil_iff, List.cons.injEq, exists_eq_left, exists_eq_left', exists_eq, exists_eq', exists_and_left, exists_and_right, exists_const, and_assoc, and_true, true_and, and_false, false_and, or_false, false_or, or_true, true_or, ite_true, ite_false, if_true, if_false, Bool.false_eq_true, own_cons, own_nil, le1, le2, le3, le4, me_cons, me_nil, List.length_map, List.length_cons, List.length_nil, ne_eq, not_false_eq_true, not_true_eq_false, decide_eq_true_eq, sp_packed_counts]
      obtain ⟨t, et⟩ : ∃ t : Nat, (if ((d * m : Nat) : Int) - x < x then ((d * m : Nat) : Int) - x else x) = t := ⟨(if ((d * m : Nat) : Int) - x < x then ((d * m : Nat) : Int) - x else x).toNat, by split <;> omega⟩
      have ht : t ≤ d * m := by
        by_cases c2 : ((d * m : Nat) : Int) - x < x
        · rw [if_pos c2] at et
          omega
        · rw [if_neg c2] at et
          omega
      have hv : cnt d m t = cnt d m x := by
        by_cases c2 : ((d * m : Nat) : Int) - x < x
        · rw [if_pos c2] at et
          rw [← et, pal]
        · rw [if_neg c2] at et
          rw [et]
      refine ⟨t, et, hd, hm, ht, fun H2 p wd s2 np e2 hwd hf => ?_⟩
      refine ⟨_, e2, rfl, _, _, rfl, _, _, rfl, rfl, ?_⟩
      refine ⟨_, wd, rfl, by omega, ?_⟩
      rw [v_low (hf _), hv]
      exact q H2 s2
end
end My


namespace My
open PySem PySem.Spec PyProof.Rows L2 Pr M26
section
variable {P : Program} {w : World} {K : PySem.W.Frag} {mg : Str → Option Value} {base : Heap}
/-! ### the law's own defs -/
/-- a lot of dice at d -/
def Dc (H : Hp) (d : Addr) : Prop := ∃ l m c : Int, H d = some (LI [l, m, c])
/-- all but d stands -/
def Exc (d : Addr) (H H' : Hp) : Prop := ∀ q o, q ≠ d → H q = some o → H' q = some o
theorem Exc.refl {d : Addr} {H : Hp} : Exc d H H := fun _ _ _ h => h
theorem Exc.trans {d : Addr} {H H1 H2 : Hp} (a : Exc d H H1) (b : Exc d H1 H2) : Exc d H H2 := fun q o n h => b q o n (a q o n h)
theorem Exc.same {d : Addr} {H H1 : Hp} (a : Same H H1) : Exc d H H1 := fun q o _ h => a q o h
theorem Exc.upd {d : Addr} {H : Hp} {o : HO} : Exc d H (upd H d o) := fun q o n h => by
  rw [upd_ne n]
  exact h
theorem Dc.same {d : Addr} {H H' : Hp} (a : Same H H') (h : Dc H d) : Dc H' d := by
  obtain ⟨l, m, c, h⟩ := h
  exact ⟨l, m, c, a _ _ h⟩
def sp_law_dice (K : PySem.W.Frag) : Sp := fun vs H Q _ => ∃ (a : Addr) (ns : List Int) (i : Nat), vs = [.ref a, .int i] ∧ SqL K H a (ns.map V.int) ∧ i < 64 ∧
  ∀ H' p, Same H H' → H p = none → Dc H' p → Q (.ref p) H'
theorem ok_law_dice (T : Tx K mg) : FnOk P w K mg base CX0 1 T.f_law_dice T.d_law_dice p_law_dice (sp_law_dice K) := by
  refine T.F_law_dice.ok sc_law_dice (fun vs H Q E h => ?_) (fun cdv A outer s H vs Q E hr h => ?_)
  · obtain ⟨a, ns, i, rfl, _⟩ := h
    rfl
  · obtain ⟨a, ns, i, rfl, hS, hi, q⟩ := h
    refine ⟨_, (pss_cons (ps_set (i := 2) sc_law_dice.nd rfl (Or.inl rfl) (pe_ifExp (pt_cmpR op_lt (pv 1) (pe_callB call_len_seq (by rfl) T.z_len PySem.boot_len (pa_cons (pv 0) pa_nil)) (nomark _)) (pe_callTy cr_intI (by rfl) T.z_int (by decide +kernel) (pa_cons (pe_ix ix_list (pv 0) (pv 1) (fun _ _ => rfl)) pa_nil)) (pe_op op_add (pe_op op_mul pe_int (pv 1)) pe_int)))
      (pss_cons (ps_set (i := 3) sc_law_dice.nd rfl (Or.inl rfl) (pe_op op_mod (pe_callB (call_max2 rfl) (by rfl) T.z_max (by decide +kernel) (pa_cons pe_int (pa_cons (pe_op op_sub (pe_callB call_abs (by rfl) T.z_abs (by decide +kernel) (pa_cons (pv 2) pa_nil)) (pe_op op_pow pe_int pe_int)) pa_nil))) (pe_op op_mulW (pe_op op_pow pe_int pe_int) (pe_op op_pow pe_int pe_int))))
      (pss_one (ps_ret (pe_lst (pa_cons (pv 3) (pa_cons (pe_op op_add (pe_op op_add (pe_op op_add (pe_op op_mul (pe_op op_mod (pe_callB call_abs (by rfl) T.z_abs (by decide +kernel) (pa_cons (pv 2) pa_nil)) pe_int) pe_int) (pe_op op_mul pe_int (pv 1))) (pe_op op_mul pe_int (pe_callTy cr_intB (by rfl) T.z_int (by decide +kernel) (pa_cons (pe_cmpR op_lt (pv 2) pe_int (nomark _)) pa_nil)))) pe_int) (pa_cons pe_int pa_nil)))))))), ?_⟩
    rw [st_law_dice]
    simp only [ap_seq, ap_next, ap_asg, ap_gName, ap_ret, ap_retN, ap_drop, ap_ifS, ap_break, ap_cont, ap_par, ap_aug, ap_ip, ap_gSub, ap_gTup, ap_gNil, ap_gCons, ap_var, ap_c, ap_op, ap_un, ap_if, ap_test, ap_B, ap_and, ap_or, ap_not, ap_andV, ap_orV, ap_notV, ap_nil, ap_cons, ap_tup, ap_lst, ap_cb, ap_bm, ap_call, ap_chain, ap_rI, ap_rI0, ap_rU, ap_rEq, ap_rNe, ap_revT, ap_sl, ap_part, ap_noPart, ap_ixLI, ap_ixTI, ap_ixLV, ap_ixTV, ap_len, ap_setLI, ap_setLV, ap_appI, ap_appV, ap_tupL, ap_listS, ap_sumLI, ap_sumTI, ap_repLI, ap_intI, ap_intB, ap_eqTI, ap_neTI, ap_eqLI, ap_neLI, ap_isi, ap_for, ap_rng1, ap_rng2, ap_iList, ap_iTup, ap_lc, ap_yes, ap_cut, ap_gTupH, ap_fmt, ap_jsn, ap_jsc, ap_gcd, ap_isqrt, ap_ixL, tyV_l, wipe_nil, wipe_cons, upd_same, ap_iEnT, ap_iEnL, ap_iZipA, ap_all, ap_tupT, ap_attF, ap_makeL, ap_dictKP, ap_neDP, ap_itemsT, ap_zipM, ap_lockE, ap_dget2, ap_dput, ap_dnewT, ap_iValsT, ap_iKeys, ap_sortedDT, ap_dictLT, ap_lenDT, ap_dcT, ap_sortT1, ap_listG, ap_callG, ap_star, ap_extend, ap_max, ap_setOfT, ap_sortedU, ap_sortedTU, ap_repTZ, ap_maxT, ap_revA, ap_att, ap_prop, ap_isO, ap_bin, ap_ne, ap_meth, ap_make, ins_inj, FE_inj, ap_slI, ap_catI, ap_perm, ap_lenO, ap_strO, ap_listO, ap_reprB, ap_iterT, ap_neT, ap_negO, ap_binI, ap_catL, ap_tM1, ap_repTI, ap_popN, ap_par3, ap_catTT, ap_repTA, ap_countT, ap_notInT, ap_repL1, ap_shl, ap_shr, ap_mask, ap_comb, ap_bits, ap_rng3, List.set_cons_zero, List.set_cons_succ, List.getElem?_cons_zero, List.getElem?_cons_succ, List.cons_append, List.nil_append, List.append_nil, Option.some.injEq, V.int.injEq, V.ref.injEq, V.bl.injEq, V.str.injEq, V.ty.injEq, Bool.not_true, Bool.not_false, HO.lst.injEq, HO.tup.injEq, reduceCtorEq, Int.reduceToNat, Int.reduceLT, Int.reduceLE, Nat.reduceAdd, Int.cast_ofNat_Int, gi_c0, gi_c1, gi_c2, gi_c3, Int.natCast_inj, map_int_inj, map_nil_iff, List.cons.injEq, exists_eq_left, exists_eq_left', exists_eq, exists_eq', exists_and_left, exists_and_right, exists_const, and_assoc, and_true, true_and, and_false, false_and, or_false, false_or, or_true, true_or, ite_true, ite_false, if_true, if_false, Bool.false_eq_true, own_cons, own_nil, le1, le2, le3, le4, me_cons, me_nil, List.length_map, List.length_cons, List.length_nil, ne_eq, not_false_eq_true, not_true_eq_false, decide_eq_true_eq]
    refine ⟨_, .inl hS, ?_⟩
    have hl : (ns.map V.int).length = ns.length := List.length_map ..
    have c1 : CPow 10 16 := ⟨by decide, by decide, by decide⟩
    have c2 : CPow 10 60 := ⟨by decide, by decide, by decide⟩
    have c3 : CMulW ((10 : Int) ^ 60) ((10 : Int) ^ 60) := by
      show ((10 : Int) ^ 60).natAbs.log2 + ((10 : Int) ^ 60).natAbs.log2 < 1000000
      decide +kernel
    have c4 : (0 : Int) < 10 ^ 60 * 10 ^ 60 := by decide +kernel
    by_cases c : (i : Int) < ((ns.map V.int).length : Int)
    · rw [if_pos c]
      refine ⟨_, hS, _, at_gi (by omega) (by omega), _, rfl, c1, c2, c2, c3, c4, .inr (by omega), .inl (by omega), .inl (by omega), by decide, fun p np => ?_⟩
      exact q _ p (same_upd np) np ⟨_, _, _, upd_same⟩
    · rw [if_neg c]
      refine ⟨.inl (by omega), c1, c2, c2, c3, c4, .inr (by omega), .inl (by omega), .inl (by omega), by decide, fun p np => ?_⟩
      exact q _ p (same_upd np) np ⟨_, _, _, upd_same⟩
def sp_law_roll : Sp := fun vs H Q _ => ∃ (d : Addr) (t : Int), vs = [.ref d, .int t] ∧ Dc H d ∧ 0 < t ∧ t < 1073741824 ∧
  ∀ H' r, Exc d H H' → Dc H' d → 0 ≤ r → r < t → Q (.int r) H'
theorem ok_law_roll (T : Tx K mg) : FnOk P w K mg base CX0 1 T.f_law_roll T.d_law_roll p_law_roll sp_law_roll := by
  refine T.F_law_roll.ok sc_law_roll (fun vs H Q E h => ?_) (fun cdv A outer s H vs Q E hr h => ?_)
  · obtain ⟨d, t, rfl, _⟩ := h
    rfl
  · obtain ⟨d, t, rfl, ⟨l, m, c, hD⟩, h0, h1, q⟩ := h
    refine ⟨_, (pss_cons (ps_if (pt_cmpR op_gt (pe_ix ix_LI (pv 0) pe_int (fun _ _ => rfl)) pe_int (nomark _)) (pss_cons (ps_set (i := 2) sc_law_roll.nd rfl (Or.inl rfl) (pe_op op_mod (pe_callTy cr_intI (by rfl) T.z_int (by decide +kernel) (pa_cons (pe_ix ix_LI (pv 0) pe_int (fun _ _ => rfl)) pa_nil)) (pv 1)))
      (pss_cons (ps_asg (pe_op op_fdiv (pe_ix ix_LI (pv 0) pe_int (fun _ _ => rfl)) (pv 1)) (pg_sub (pv 0) pe_int set_LI))
      (pss_one (ps_ret (pv 2))))) pss_nil)
      (pss_cons (ps_asg (pe_op op_add (pe_ix ix_LI (pv 0) pe_int (fun _ _ => rfl)) pe_int) (pg_sub (pv 0) pe_int set_LI))
      (pss_cons (ps_set (i := 3) sc_law_roll.nd rfl (Or.inl rfl) (pe_op op_mod (pe_callTy cr_intI (by rfl) T.z_int (by decide +kernel) (pa_cons (pe_op op_add (pe_ix ix_LI (pv 0) pe_int (fun _ _ => rfl)) (pe_op op_mul pe_int (pe_ix ix_LI (pv 0) pe_int (fun _ _ => rfl)))) pa_nil)) pe_int))
      (pss_cons (ps_set (i := 4) sc_law_roll.nd rfl (Or.inl rfl) (pe_op op_add (pe_op op_mul (pe_op op_mod (pe_callTy cr_intI (by rfl) T.z_int (by decide +kernel) (pa_cons (pe_op op_add (pe_op op_mul (pv 3) (pv 3)) (pe_op op_mul pe_int (pe_ix ix_LI (pv 0) pe_int (fun _ _ => rfl)))) pa_nil)) pe_int) pe_int) (pv 3)))
      (pss_one (ps_ret (pe_op op_mod (pe_callTy cr_intI (by rfl) T.z_int (by decide +kernel) (pa_cons (pe_op op_fdiv (pv 4) pe_int) pa_nil)) (pv 1)))))))), ?_⟩
    rw [st_law_roll]
    simp only [ap_seq, ap_next, ap_asg, ap_gName, ap_ret, ap_retN, ap_drop, ap_ifS, ap_break, ap_cont, ap_par, ap_aug, ap_ip, ap_gSub, ap_gTup, ap_gNil, ap_gCons, ap_var, ap_c, ap_op, ap_un, ap_if, ap_test, ap_B, ap_and, ap_or, ap_not, ap_andV, ap_orV, ap_notV, ap_nil, ap_cons, ap_tup, ap_lst, ap_cb, ap_bm, ap_call, ap_chain, ap_rI, ap_rI0, ap_rU, ap_rEq, ap_rNe, ap_revT, ap_sl, ap_part, ap_noPart, ap_ixLI, ap_ixTI, ap_ixLV, ap_ixTV, ap_len, ap_setLI, ap_setLV, ap_appI, ap_appV, ap_tupL, ap_listS, ap_sumLI, ap_sumTI, ap_repLI, ap_intI, ap_intB, ap_eqTI, ap_neTI, ap_eqLI, ap_neLI, ap_isi, ap_for, ap_rng1, ap_rng2, ap_iList, ap_iTup, ap_lc, ap_yes, ap_cut, ap_gTupH, ap_fmt, ap_jsn, ap_jsc, ap_gcd, ap_isqrt, ap_ixL, tyV_l, wipe_nil, wipe_cons, upd_same, ap_iEnT, ap_iEnL, ap_iZipA, ap_all, ap_tupT, ap_attF, ap_makeL, ap_dictKP, ap_neDP, ap_itemsT, ap_zipM, ap_lockE, ap_dget2, ap_dput, ap_dnewT, ap_iValsT, ap_iKeys, ap_sortedDT, ap_dictLT, ap_lenDT, ap_dcT, ap_sortT1, ap_listG, ap_callG, ap_star, ap_extend, ap_max, ap_setOfT, ap_sortedU, ap_sortedTU, ap_repTZ, ap_maxT, ap_revA, ap_att, ap_prop, ap_isO, ap_bin, ap_ne, ap_meth, ap_make, ins_inj, FE_inj, ap_slI, ap_catI, ap_perm, ap_lenO, ap_strO, ap_listO, ap_reprB, ap_iterT, ap_neT, ap_negO, ap_binI, ap_catL, ap_tM1, ap_repTI, ap_popN, ap_par3, ap_catTT, ap_repTA, ap_countT, ap_notInT, ap_repL1, ap_shl, ap_shr, ap_mask, ap_comb, ap_bits, ap_rng3, List.set_cons_zero, List.set_cons_succ, List.getElem?_cons_zero, List.getElem?_cons_succ, List.cons_append, List.nil_append, List.append_nil, Option.some.injEq, V.int.injEq, V.ref.injEq, V.bl.injEq, V.str.injEq, V.ty.injEq, Bool.not_true, Bool.not_false, HO.lst.injEq, HO.tup.injEq, reduceCtorEq, Int.reduceToNat, Int.reduceLT, Int.reduceLE, Nat.reduceAdd, Int.cast_ofNat_Int, gi_c0, gi_c1, gi_c2, gi_c3, Int.natCast_inj, map_int_inj, map_nil_iff, List.cons.injEq, exists_eq_left, exists_eq_left', exists_eq, exists_eq', exists_and_left, exists_and_right, exists_const, and_assoc, and_true, true_and, and_false, false_and, or_false, false_or, or_true, true_or, ite_true, ite_false, if_true, if_false, Bool.false_eq_true, own_cons, own_nil, le1, le2, le3, le4, me_cons, me_nil, List.length_map, List.length_cons, List.length_nil, ne_eq, not_false_eq_true, not_true_eq_false, decide_eq_true_eq, hD]
    by_cases c1 : 0 < l
    · rw [if_pos c1]
      exact ⟨h0, ⟨h0, h1⟩, q _ _ Exc.upd ⟨_, _, _, upd_same⟩ (Int.emod_nonneg _ (by omega)) (Int.emod_lt_of_pos _ h0)⟩
    · rw [if_neg c1]
      have r1 : ∀ x : Int, CMul (x % 2305843009213691579) (x % 2305843009213691579) := fun x => .inl (by omega)
      exact ⟨.inl (by omega), r1 _, .inl (by omega), .inr (by omega), ⟨by decide, by decide⟩, h0, q _ _ Exc.upd ⟨_, _, _, upd_same⟩ (Int.emod_nonneg _ (by omega)) (Int.emod_lt_of_pos _ h0)⟩
end
end My

namespace My
/-! the boxes, as the program makes them and as the law does; all small ones by the kernel -/
def filL (w m : Nat) : List Int := if w = 0 then [] else List.replicate (w / m) (m : Int) ++ (if 0 < w % m then [((w % m : Nat) : Int)] else [])
def behL (b : List Int) (p : Nat) : Nat → Int → Option (List Int)
  | 0, _ => none
  | i + 1, rest => if rest + 1 ≤ ((p : Int) - i - 1) * (b.getD i 0 - 1) then some (b.take i ++ [b.getD i 0 - 1] ++ filL (rest + 1).toNat (b.getD i 0 - 1).toNat) else behL b p i (rest + 1 + (b.getD i 0 - 1))
def boxGo (p : Nat) : Nat → Option (List Int) → List (List Int)
  | _, none => []
  | 0, some _ => []
  | f + 1, some b => b :: boxGo p f (behL b p b.length 0)
def boxL (w p m : Nat) : List (List Int) := if p * m < w then [] else boxGo p 64 (some (filL w m))
/-- its members from 1 to 6, at most so many -/
def smallB (p : Nat) (b : List Int) : Bool := decide (b.length ≤ p) && b.all fun x => decide (1 ≤ x) && decide (x ≤ 6)
def goOk (p : Nat) : Nat → Option (List Int) → Bool
  | _, none => true
  | 0, some _ => false
  | f + 1, some b => smallB p b && goOk p f (behL b p b.length 0)
/-- the law's own -/
def lawStep (m : Nat) (l : List (List Int × Int)) : List (List Int × Int) := l.flatMap fun q => (List.range (min (if q.1 = [] then (m : Int) else q.1.getLastD 0) q.2 + 1).toNat).map fun (v : Nat) => (q.1 ++ [(v : Int)], q.2 - (v : Int))
def lawAll (m : Nat) (w : Int) : Nat → List (List Int × Int)
  | 0 => [([], w)]
  | k + 1 => lawStep m (lawAll m w k)
def lawTold (w p m : Nat) : List (List Int) := ((lawAll m w p).filter fun q => decide (q.2 = 0)).map fun q => q.1.filter fun x => decide (0 < x)
def turnL (b : List Int) : List Int := (List.range (b.foldl max 0).toNat).map fun i => (((b.filter fun x => decide (((i : Nat) : Int) + 1 ≤ x)).length : Nat) : Int)
/-- the count by structure -/
def cntF : Nat → Nat → Nat → Int → Int
  | 0, _, _, w => if w = 0 then 1 else 0
  | _ + 1, 0, _, w => if w = 0 then 1 else 0
  | _ + 1, _ + 1, 0, w => if w = 0 then 1 else 0
  | f + 1, d + 1, m + 1, w => if w < 0 then 0 else cntF f d (m + 1) w + cntF f (d + 1) m (w - (d + 1))
theorem cntF_eq : ∀ (f d m : Nat) (w : Int), d + m ≤ f → cntF f d m w = M26.cnt d m w
  | 0, d, m, w, h => by
    obtain rfl : d = 0 := by omega
    obtain rfl : m = 0 := by omega
    rw [M26.c0]
    rfl
  | f + 1, 0, m, w, _ => by
    rw [M26.c0]
    rfl
  | f + 1, d + 1, 0, w, _ => by
    rw [M26.cm0]
    rfl
  | f + 1, d + 1, m + 1, w, h => by
    show (if w < 0 then 0 else cntF f d (m + 1) w + cntF f (d + 1) m (w - (d + 1))) = _
    split
    · rename_i hw
      exact (M26.neg _ _ _ hw).symm
    · rw [cntF_eq f d (m + 1) w (by omega), cntF_eq f (d + 1) m _ (by omega), M26.cs]
def chkW (w p m : Nat) : Bool := if p * m < w then true else
  goOk p 64 (some (filL w m)) && decide (lawTold w p m = (boxL w p m).reverse) && decide ((boxL w p m).length < 64) && decide (cntF 12 p m w = (boxL w p m).length) && decide (((boxL w p m).map turnL).length = (boxL w m p).length) && (boxL w m p).all fun b => ((boxL w p m).map turnL).contains b
theorem chkw0 : ((List.range 12).all fun w => (List.range 7).all fun p => (List.range 7).all fun m => chkW (w + 0) p m) = true := by decide +kernel
theorem chkw1 : ((List.range 5).all fun w => (List.range 7).all fun p => (List.range 7).all fun m => chkW (w + 12) p m) = true := by decide +kernel
theorem chkw2 : ((List.range 5).all fun w => (List.range 7).all fun p => (List.range 7).all fun m => chkW (w + 17) p m) = true := by decide +kernel
theorem chkw3 : ((List.range 6).all fun w => (List.range 7).all fun p => (List.range 7).all fun m => chkW (w + 22) p m) = true := by decide +kernel
theorem chkw4 : ((List.range 10).all fun w => (List.range 7).all fun p => (List.range 7).all fun m => chkW (w + 28) p m) = true := by decide +kernel
theorem chkw_at {w p m : Nat} (hw : w < 38) (hp : p < 7) (hm : m < 7) : chkW w p m = true := by
  by_cases c0 : w < 12
  · have h := List.all_eq_true.mp chkw0 (w - 0) (List.mem_range.mpr (by omega))
    have h := List.all_eq_true.mp h p (List.mem_range.mpr hp)
    have h := List.all_eq_true.mp h m (List.mem_range.mpr hm)
    rwa [show w - 0 + 0 = w by omega] at h
  by_cases c1 : w < 17
  · have h := List.all_eq_true.mp chkw1 (w - 12) (List.mem_range.mpr (by omega))
    have h := List.all_eq_true.mp h p (List.mem_range.mpr hp)
    have h := List.all_eq_true.mp h m (List.mem_range.mpr hm)
    rwa [show w - 12 + 12 = w by omega] at h
  by_cases c2 : w < 22
  · have h := List.all_eq_true.mp chkw2 (w - 17) (List.mem_range.mpr (by omega))
    have h := List.all_eq_true.mp h p (List.mem_range.mpr hp)
    have h := List.all_eq_true.mp h m (List.mem_range.mpr hm)
    rwa [show w - 17 + 17 = w by omega] at h
  by_cases c3 : w < 28
  · have h := List.all_eq_true.mp chkw3 (w - 22) (List.mem_range.mpr (by omega))
    have h := List.all_eq_true.mp h p (List.mem_range.mpr hp)
    have h := List.all_eq_true.mp h m (List.mem_range.mpr hm)
    rwa [show w - 22 + 22 = w by omega] at h
  have h := List.all_eq_true.mp chkw4 (w - 28) (List.mem_range.mpr (by omega))
  have h := List.all_eq_true.mp h p (List.mem_range.mpr hp)
  have h := List.all_eq_true.mp h m (List.mem_range.mpr hm)
  rwa [show w - 28 + 28 = w by omega] at h
end My


namespace My
open PySem PySem.Spec PyProof.Rows L2 Pr M26
theorem same_iff {A B : Prop} [Decidable A] [Decidable B] (h : A ↔ B) : decide A = decide B := decide_eq_decide.mpr h
section
variable {P : Program} {w : World} {K : PySem.W.Frag} {mg : Str → Option Value} {base : Heap}
def sp_filled : Sp := fun vs H Q _ => ∃ w m : Nat, vs = [.int (w : Nat), .int (m : Nat)] ∧ m ≤ 40 ∧ w ≤ 40 * m ∧ ∀ H' r, Same H H' → H' r = some (TI (filL w m)) → Q (.ref r) H'
theorem ok_filled (T : Tx K mg) : FnOk P w K mg base CX0 1 T.f_filled T.d_filled p_filled sp_filled := by
  refine T.F_filled.ok sc_filled (fun vs H Q E h => ?_) (fun cdv A outer s H vs Q E hr h => ?_)
  · obtain ⟨w, m, rfl, _⟩ := h
    rfl
  · obtain ⟨w, m, rfl, hm, hw, k⟩ := h
    refine ⟨_, (pss_cons (ps_if (pt_cmpR op_eq (pv 0) pe_int (nomark _)) (pss_one (ps_ret (pe_tup pa_nil))) pss_nil)
      (pss_cons (ps_set (i := 2) sc_filled.nd rfl (Or.inl rfl) (pe_op op_mod (pv 0) (pv 1)))
      (pss_one (ps_ret (pe_op op_catI (pe_op op_repTZ (pe_tup (pa_cons (pv 1) pa_nil)) (pe_op op_fdiv (pv 0) (pv 1))) (pe_ifExp (pt_cmpR op_gt (pv 2) pe_int (nomark _)) (pe_tup (pa_cons (pv 2) pa_nil)) (pe_tup pa_nil))))))), ?_⟩
    rw [st_filled]
    simp only [ap_seq, ap_next, ap_asg, ap_gName, ap_ret, ap_retN, ap_drop, ap_ifS, ap_break, ap_cont, ap_par, ap_aug, ap_ip, ap_gSub, ap_gTup, ap_gNil, ap_gCons, ap_var, ap_c, ap_op, ap_un, ap_if, ap_test, ap_B, ap_and, ap_or, ap_not, ap_andV, ap_orV, ap_notV, ap_nil, ap_cons, ap_tup, ap_lst, ap_cb, ap_bm, ap_call, ap_chain, ap_rI, ap_rI0, ap_rU, ap_rEq, ap_rNe, ap_revT, ap_sl, ap_part, ap_noPart, ap_ixLI, ap_ixTI, ap_ixLV, ap_ixTV, ap_len, ap_setLI, ap_setLV, ap_appI, ap_appV, ap_tupL, ap_listS, ap_sumLI, ap_sumTI, ap_repLI, ap_intI, ap_intB, ap_eqTI, ap_neTI, ap_eqLI, ap_neLI, ap_isi, ap_for, ap_rng1, ap_rng2, ap_iList, ap_iTup, ap_lc, ap_yes, ap_cut, ap_gTupH, ap_fmt, ap_jsn, ap_jsc, ap_gcd, ap_isqrt, ap_ixL, tyV_l, wipe_nil, wipe_cons, upd_same, ap_iEnT, ap_iEnL, ap_iZipA, ap_all, ap_tupT, ap_attF, ap_makeL, ap_dictKP, ap_neDP, ap_itemsT, ap_zipM, ap_lockE, ap_dget2, ap_dput, ap_dnewT, ap_iValsT, ap_iKeys, ap_sortedDT, ap_dictLT, ap_lenDT, ap_dcT, ap_sortT1, ap_listG, ap_callG, ap_star, ap_extend, ap_max, ap_setOfT, ap_sortedU, ap_sortedTU, ap_repTZ, ap_maxT, ap_revA, ap_att, ap_prop, ap_isO, ap_bin, ap_ne, ap_meth, ap_make, ins_inj, FE_inj, ap_slI, ap_catI, ap_perm, ap_lenO, ap_strO, ap_listO, ap_reprB, ap_iterT, ap_neT, ap_negO, ap_binI, ap_catL, ap_tM1, ap_repTI, ap_popN, ap_par3, ap_catTT, ap_repTA, ap_countT, ap_notInT, ap_repL1, ap_shl, ap_shr, ap_mask, ap_comb, ap_bits, ap_rng3, List.set_cons_zero, List.set_cons_succ, List.getElem?_cons_zero, List.getElem?_cons_succ, List.cons_append, List.nil_append, List.append_nil, Option.some.injEq, V.int.injEq, V.ref.injEq, V.bl.injEq, V.str.injEq, V.ty.injEq, Bool.not_true, Bool.not_false, HO.lst.injEq, HO.tup.injEq, reduceCtorEq, Int.reduceToNat, Int.reduceLT, Int.reduceLE, Nat.reduceAdd, Int.cast_ofNat_Int, gi_c0, gi_c1, gi_c2, gi_c3, Int.natCast_inj, map_int_inj, map_nil_iff, List.cons.injEq, exists_eq_left, exists_eq_left', exists_eq, exists_eq', exists_and_left, exists_and_right, exists_const, and_assoc, and_true, true_and, and_false, false_and, or_false, false_or, or_true, true_or, ite_true, ite_false, if_true, if_false, Bool.false_eq_true, own_cons, own_nil, le1, le2, le3, le4, me_cons, me_nil, List.length_map, List.length_cons, List.length_nil, ne_eq, not_false_eq_true, not_true_eq_false, decide_eq_true_eq]
    refine ⟨rfl, ?_⟩
    by_cases w0 : w = 0
    · rw [if_pos (by omega)]
      refine ⟨by decide, fun p np => k _ p (same_upd np) ?_⟩
      rw [upd_same]
      unfold filL
      rw [if_pos w0]
      rfl
    · rw [if_neg (by omega)]
      have m0 : 0 < m := Nat.pos_of_ne_zero fun h => by subst h; omega
      have q40 : w / m ≤ 40 := Nat.div_le_of_le_mul (by rw [Nat.mul_comm]; exact hw)
      have eq : ((w : Nat) : Int) / ((m : Nat) : Int) = ((w / m : Nat) : Int) := (Int.natCast_ediv w m).symm
      have em : ((w : Nat) : Int) % ((m : Nat) : Int) = ((w % m : Nat) : Int) := (Int.natCast_emod w m).symm
      have ef : filL w m = List.replicate (w / m) (m : Int) ++ (if 0 < w % m then [((w % m : Nat) : Int)] else []) := by
        unfold filL
        rw [if_neg w0]
      rw [eq, em, Int.toNat_natCast]
      clear eq em
      generalize w / m = qn at q40 ef ⊢
      generalize w % m = rn at ef ⊢
      refine ⟨by omega, by decide, fun p np => ⟨⟨by omega, by omega⟩, by omega, by omega, fun p1 H1 s1 e1 => ?_⟩⟩
      have s0 := same_upd (o := HO.tup [V.int (m : Nat)]) np
      by_cases c : 0 < rn
      · rw [if_pos (by omega)]
        refine ⟨by decide, fun p2 np2 => ?_⟩
        have s2 := same_upd (o := HO.tup [V.int ((rn : Nat) : Int)]) np2
        refine ⟨_, s2 _ _ e1, by rw [List.length_replicate]; omega, fun r H3 s3 e3 => k H3 r (s0.trans (s1.trans (s2.trans s3))) ?_⟩
        rw [ef, if_pos c]
        exact e3
      · rw [if_neg (by omega)]
        refine ⟨by decide, fun p2 np2 => ?_⟩
        have s2 := same_upd (o := HO.tup []) np2
        refine ⟨_, s2 _ _ e1, by rw [List.length_replicate]; omega, fun r H3 s3 e3 => k H3 r (s0.trans (s1.trans (s2.trans s3))) ?_⟩
        rw [ef, if_neg c, List.append_nil]
        exact e3
theorem filL_len {w m : Nat} (h : w ≤ 40 * m) : (filL w m).length ≤ 41 := by
  unfold filL
  split
  · exact Nat.zero_le _
  · have q : w / m ≤ 40 := Nat.div_le_of_le_mul (by rw [Nat.mul_comm]; exact h)
    rw [List.length_append, List.length_replicate]
    split <;> simp only [List.length_singleton, List.length_nil] <;> omega
/-- a box: members from 1 to M, at most p -/
def BoxM (M p : Nat) (b : List Int) : Prop := b.length ≤ p ∧ ∀ x ∈ b, 1 ≤ x ∧ x ≤ M
def sp_box_behind : Sp := fun vs H Q _ => ∃ (t : Addr) (b : List Int) (p : Nat), vs = [.ref t, .int (p : Nat)] ∧ H t = some (TI b) ∧ p ≤ 40 ∧ BoxM 40 p b ∧
  (∀ c, behL b p b.length 0 = some c → ∀ H' r, Same H H' → H' r = some (TI c) → Q (.ref r) H') ∧ (behL b p b.length 0 = none → Q .non H)
theorem ok_box_behind (T : Tx K mg) : FnOk P w K mg base CX0 2 T.f_box_behind T.d_box_behind p_box_behind sp_box_behind := by
  refine T.F_box_behind.ok sc_box_behind (fun vs H Q E h => ?_) (fun cdv A outer s H vs Q E hr h => ?_)
  · obtain ⟨t, b, p, rfl, _⟩ := h
    rfl
  · obtain ⟨t, b, p, rfl, ht, hp, ⟨hb, hm⟩, k1, k2⟩ := h
    refine ⟨_, (pss_cons (ps_set (i := 2) sc_box_behind.nd rfl (Or.inl rfl) pe_int)
      (pss_cons (ps_for PassesOwn.never rfl (pi_range3 (by rfl) T.z_range (pa_cons (pe_op op_sub (pe_callB cr_len (by rfl) T.z_len PySem.boot_len (pa_cons (pv 0) pa_nil)) pe_int) (pa_cons (pe_un un_neg pe_int) (pa_cons (pe_un un_neg pe_int) pa_nil)))) (pg_name (i := 3) sc_box_behind.nd rfl (by first | exact .inl rfl | exact .inr rfl))
      (pss_cons (ps_set (i := 2) sc_box_behind.nd rfl (Or.inl rfl) (pe_op op_add (pv 2) pe_int))
      (pss_cons (ps_set (i := 4) sc_box_behind.nd rfl (Or.inl rfl) (pe_op op_sub (pe_ix ix_TI (pv 0) (pv 3) (fun _ _ => rfl)) pe_int))
      (pss_cons (ps_if (pt_cmpR op_le (pv 2) (pe_op op_mul (pe_op op_sub (pe_op op_sub (pv 1) (pv 3)) pe_int) (pv 4)) (nomark _)) (pss_one (ps_ret (pe_op op_catI (pe_op op_catI (pe_slice sl_tupI (pv 0) po_none (po_some (pv 3))) (pe_tup (pa_cons (pv 4) pa_nil))) (pe_call (ok_filled T) (hr.mono (by decide)) (by rfl) T.m_filled T.F_filled.kp T.b_filled .nil pass0 (pa_cons (pv 2) (pa_cons (pv 4) pa_nil)))))) pss_nil)
      (pss_one (ps_set (i := 2) sc_box_behind.nd rfl (Or.inl rfl) (pe_op op_add (pv 2) (pv 4))))))))
      (pss_one (ps_ret pe_non)))), ?_⟩
    rw [st_box_behind]
    simp only [ap_seq, ap_next, ap_asg, ap_gName, ap_ret, ap_retN, ap_drop, ap_ifS, ap_break, ap_cont, ap_par, ap_aug, ap_ip, ap_gSub, ap_gTup, ap_gNil, ap_gCons, ap_var, ap_c, ap_op, ap_un, ap_if, ap_test, ap_B, ap_and, ap_or, ap_not, ap_andV, ap_orV, ap_notV, ap_nil, ap_cons, ap_tup, ap_lst, ap_cb, ap_bm, ap_call, ap_chain, ap_rI, ap_rI0, ap_rU, ap_rEq, ap_rNe, ap_revT, ap_sl, ap_part, ap_noPart, ap_ixLI, ap_ixTI, ap_ixLV, ap_ixTV, ap_len, ap_setLI, ap_setLV, ap_appI, ap_appV, ap_tupL, ap_listS, ap_sumLI, ap_sumTI, ap_repLI, ap_intI, ap_intB, ap_eqTI, ap_neTI, ap_eqLI, ap_neLI, ap_isi, ap_for, ap_rng1, ap_rng2, ap_iList, ap_iTup, ap_lc, ap_yes, ap_cut, ap_gTupH, ap_fmt, ap_jsn, ap_jsc, ap_gcd, ap_isqrt, ap_ixL, tyV_l, wipe_nil, wipe_cons, upd_same, ap_iEnT, ap_iEnL, ap_iZipA, ap_all, ap_tupT, ap_attF, ap_makeL, ap_dictKP, ap_neDP, ap_itemsT, ap_zipM, ap_lockE, ap_dget2, ap_dput, ap_dnewT, ap_iValsT, ap_iKeys, ap_sortedDT, ap_dictLT, ap_lenDT, ap_dcT, ap_sortT1, ap_listG, ap_callG, ap_star, ap_extend, ap_max, ap_setOfT, ap_sortedU, ap_sortedTU, ap_repTZ, ap_maxT, ap_revA, ap_att, ap_prop, ap_isO, ap_bin, ap_ne, ap_meth, ap_make, ins_inj, FE_inj, ap_slI, ap_catI, ap_perm, ap_lenO, ap_strO, ap_listO, ap_reprB, ap_iterT, ap_neT, ap_negO, ap_binI, ap_catL, ap_tM1, ap_repTI, ap_popN, ap_par3, ap_catTT, ap_repTA, ap_countT, ap_notInT, ap_repL1, ap_shl, ap_shr, ap_mask, ap_comb, ap_bits, ap_rng3, List.set_cons_zero, List.set_cons_succ, List.getElem?_cons_zero, List.getElem?_cons_succ, List.cons_append, List.nil_append, List.append_nil, Option.some.injEq, V.int.injEq, V.ref.injEq, V.bl.injEq, V.str.injEq, V.ty.injEq, Bool.not_true, Bool.not_false, HO.lst.injEq, HO.tup.injEq, reduceCtorEq, Int.reduceToNat, Int.reduceLT, Int.reduceLE, Nat.reduceAdd, Int.cast_ofNat_Int, gi_c0, gi_c1, gi_c2, gi_c3, Int.natCast_inj, map_int_inj, map_nil_iff, List.cons.injEq, exists_eq_left, exists_eq_left', exists_eq, exists_eq', exists_and_left, exists_and_right, exists_const, and_assoc, and_true, true_and, and_false, false_and, or_false, false_or, or_true, true_or, ite_true, ite_false, if_true, if_false, Bool.false_eq_true, own_cons, own_nil, le1, le2, le3, le4, me_cons, me_nil, List.length_map, List.length_cons, List.length_nil, ne_eq, not_false_eq_true, not_true_eq_false, decide_eq_true_eq]
    refine ⟨_, .inr ht, b.length, by rw [List.length_map]; have h := RgC.neg (i := (b.length : Int) - 1) (j := -1) (by omega) (by omega) (by decide) (by decide); rwa [show ((b.length : Int) - 1 - -1).toNat = b.length by omega] at h, ?_⟩
    refine loop_rangeC (fun i σ' H' => H' = H ∧ ∃ (rest : Int) (y3 y4 : Option V), σ' = [some (V.ref t), some (V.int (p : Nat)), some (V.int rest), y3, y4] ∧ 0 ≤ rest ∧ rest ≤ 40 * i ∧ behL b p b.length 0 = behL b p (b.length - i) rest) ⟨rfl, 0, _, _, rfl, by omega, by omega, rfl⟩ (fun i σ' H1 hi hP => ?_) (fun σ' H1 hP => ?_)
    · obtain ⟨rfl, rest, y3, y4, rfl, r0, r1, e⟩ := hP
      obtain ⟨j, hj, ej, ej2⟩ : ∃ j, j < b.length ∧ (((List.map V.int b).length : Int) - 1 + (i : Int) * -1 = (j : Int)) ∧ b.length - i = j + 1 := ⟨b.length - 1 - i, by omega, by rw [List.length_map]; omega, by omega⟩
      rw [ej]
      rw [ej2] at e
      have eb : b.getD j 0 = b[j] := by rw [List.getD_eq_getElem?_getD, List.getElem?_eq_getElem hj]; rfl
      obtain ⟨b1, b2⟩ := hm b[j] (List.getElem_mem hj)
      simp only [ap_seq, ap_next, ap_asg, ap_gName, ap_ret, ap_retN, ap_drop, ap_ifS, ap_break, ap_cont, ap_par, ap_aug, ap_ip, ap_gSub, ap_gTup, ap_gNil, ap_gCons, ap_var, ap_c, ap_op, ap_un, ap_if, ap_test, ap_B, ap_and, ap_or, ap_not, ap_andV, ap_orV, ap_notV, ap_nil, ap_cons, ap_tup, ap_lst, ap_cb, ap_bm, ap_call, ap_chain, ap_rI, ap_rI0, ap_rU, ap_rEq, ap_rNe, ap_revT, ap_sl, ap_part, ap_noPart, ap_ixLI, ap_ixTI, ap_ixLV, ap_ixTV, ap_len, ap_setLI, ap_setLV, ap_appI, ap_appV, ap_tupL, ap_listS, ap_sumLI, ap_sumTI, ap_repLI, ap_intI, ap_intB, ap_eqTI, ap_neTI, ap_eqLI, ap_neLI, ap_isi, ap_for, ap_rng1, ap_rng2, ap_iList, ap_iTup, ap_lc, ap_yes, ap_cut, ap_gTupH, ap_fmt, ap_jsn, ap_jsc, ap_gcd, ap_isqrt, ap_ixL, tyV_l, wipe_nil, wipe_cons, upd_same, ap_iEnT, ap_iEnL, ap_iZipA, ap_all, ap_tupT, ap_attF, ap_makeL, ap_dictKP, ap_neDP, ap_itemsT, ap_zipM, ap_lockE, ap_dget2, ap_dput, ap_dnewT, ap_iValsT, ap_iKeys, ap_sortedDT, ap_dictLT, ap_lenDT, ap_dcT, ap_sortT1, ap_listG, ap_callG, ap_star, ap_extend, ap_max, ap_setOfT, ap_sortedU, ap_sortedTU, ap_repTZ, ap_maxT, ap_revA, ap_att, ap_prop, ap_isO, ap_bin, ap_ne, ap_meth, ap_make, ins_inj, FE_inj, ap_slI, ap_catI, ap_perm, ap_lenO, ap_strO, ap_listO, ap_reprB, ap_iterT, ap_neT, ap_negO, ap_binI, ap_catL, ap_tM1, ap_repTI, ap_popN, ap_par3, ap_catTT, ap_repTA, ap_countT, ap_notInT, ap_repL1, ap_shl, ap_shr, ap_mask, ap_comb, ap_bits, ap_rng3, List.set_cons_zero, List.set_cons_succ, List.getElem?_cons_zero, List.getElem?_cons_succ, List.cons_append, List.nil_append, List.append_nil, Option.some.injEq, V.int.injEq, V.ref.injEq, V.bl.injEq, V.str.injEq, V.ty.injEq, Bool.not_true, Bool.not_false, HO.lst.injEq, HO.tup.injEq, reduceCtorEq, Int.reduceToNat, Int.reduceLT, Int.reduceLE, Nat.reduceAdd, Int.cast_ofNat_Int, gi_c0, gi_c1, gi_c2, gi_c3, Int.natCast_inj, map_int_inj, map_nil_iff, List.cons.injEq, exists_eq_left, exists_eq_left', exists_eq, exists_eq', exists_and_left, exists_and_right, exists_const, and_assoc, and_true, true_and, and_false, false_and, or_false, false_or, or_true, true_or, ite_true, ite_false, if_true, if_false, Bool.false_eq_true, own_cons, own_nil, le1, le2, le3, le4, me_cons, me_nil, List.length_map, List.length_cons, List.length_nil, ne_eq, not_false_eq_true, not_true_eq_false, decide_eq_true_eq, sp_filled]
      have eg : gi b (j : Int) = b[j] := by rw [gi_nat, eb]
      have ec : cutI b none (some (j : Int)) = b.take j := by
        unfold cutI
        rw [HT.sIx_none, HT.sIx_nat, List.drop_zero, Nat.sub_zero, Nat.min_eq_left (by omega)]
      refine ⟨b, ht, by omega, by omega, .inr ⟨by omega, by omega⟩, ?_⟩
      rw [eg]
      by_cases c : rest + 1 ≤ ((p : Int) - j - 1) * (b[j] - 1)
      · rw [if_pos c]
        have ev : behL b p b.length 0 = some (b.take j ++ [b[j] - 1] ++ filL (rest + 1).toNat (b[j] - 1).toNat) := by
          rw [e]
          show (if _ then _ else _) = _
          rw [eb, if_pos c]
        have hc : ((p : Int) - j - 1) * (b[j] - 1) ≤ 40 * (b[j] - 1) := Int.mul_le_mul_of_nonneg_right (by omega) (by omega)
        have hl : (b.take j).length = j := by rw [List.length_take]; omega
        refine ⟨b, ht, fun r1 H2 s1 e1 => ⟨by decide, fun p2 np2 => ?_⟩⟩
        have s2 := same_upd (o := HO.tup [V.int (b[j] - 1)]) np2
        rw [ec] at e1
        refine ⟨_, s2 _ _ e1, by omega, fun r3 H3 s3 e3 => ⟨(rest + 1).toNat, by omega, (b[j] - 1).toNat, by omega, by omega, by omega, fun H4 r4 s4 e4 => ⟨_, s4 _ _ e3, _, e4, ?_, fun r5 H5 s5 e5 => ?_⟩⟩⟩
        · have hf : (filL (rest + 1).toNat (b[j] - 1).toNat).length ≤ 41 := filL_len (by omega)
          rw [List.length_append, hl, List.length_singleton]
          omega
        · exact k1 _ ev _ _ (s1.trans (s2.trans (s3.trans (s4.trans s5)))) e5
      · rw [if_neg c]
        refine ⟨by omega, by omega, ?_⟩
        rw [e, show b.length - (i + 1) = j by omega]
        show (if _ then _ else _) = _
        rw [eb, if_neg c]
    · obtain ⟨rfl, rest, y3, y4, rfl, r0, r1, e⟩ := hP
      rw [Nat.sub_self] at e
      simp only [ap_seq, ap_next, ap_asg, ap_gName, ap_ret, ap_retN, ap_drop, ap_ifS, ap_break, ap_cont, ap_par, ap_aug, ap_ip, ap_gSub, ap_gTup, ap_gNil, ap_gCons, ap_var, ap_c, ap_op, ap_un, ap_if, ap_test, ap_B, ap_and, ap_or, ap_not, ap_andV, ap_orV, ap_notV, ap_nil, ap_cons, ap_tup, ap_lst, ap_cb, ap_bm, ap_call, ap_chain, ap_rI, ap_rI0, ap_rU, ap_rEq, ap_rNe, ap_revT, ap_sl, ap_part, ap_noPart, ap_ixLI, ap_ixTI, ap_ixLV, ap_ixTV, ap_len, ap_setLI, ap_setLV, ap_appI, ap_appV, ap_tupL, ap_listS, ap_sumLI, ap_sumTI, ap_repLI, ap_intI, ap_intB, ap_eqTI, ap_neTI, ap_eqLI, ap_neLI, ap_isi, ap_for, ap_rng1, ap_rng2, ap_iList, ap_iTup, ap_lc, ap_yes, ap_cut, ap_gTupH, ap_fmt, ap_jsn, ap_jsc, ap_gcd, ap_isqrt, ap_ixL, tyV_l, wipe_nil, wipe_cons, upd_same, ap_iEnT, ap_iEnL, ap_iZipA, ap_all, ap_tupT, ap_attF, ap_makeL, ap_dictKP, ap_neDP, ap_itemsT, ap_zipM, ap_lockE, ap_dget2, ap_dput, ap_dnewT, ap_iValsT, ap_iKeys, ap_sortedDT, ap_dictLT, ap_lenDT, ap_dcT, ap_sortT1, ap_listG, ap_callG, ap_star, ap_extend, ap_max, ap_setOfT, ap_sortedU, ap_sortedTU, ap_repTZ, ap_maxT, ap_revA, ap_att, ap_prop, ap_isO, ap_bin, ap_ne, ap_meth, ap_make, ins_inj, FE_inj, ap_slI, ap_catI, ap_perm, ap_lenO, ap_strO, ap_listO, ap_reprB, ap_iterT, ap_neT, ap_negO, ap_binI, ap_catL, ap_tM1, ap_repTI, ap_popN, ap_par3, ap_catTT, ap_repTA, ap_countT, ap_notInT, ap_repL1, ap_shl, ap_shr, ap_mask, ap_comb, ap_bits, ap_rng3, List.set_cons_zero, List.set_cons_succ, List.getElem?_cons_zero, List.getElem?_cons_succ, List.cons_append, List.nil_append, List.append_nil, Option.some.injEq, V.int.injEq, V.ref.injEq, V.bl.injEq, V.str.injEq, V.ty.injEq, Bool.not_true, Bool.not_false, HO.lst.injEq, HO.tup.injEq, reduceCtorEq, Int.reduceToNat, Int.reduceLT, Int.reduceLE, Nat.reduceAdd, Int.cast_ofNat_Int, gi_c0, gi_c1, gi_c2, gi_c3, Int.natCast_inj, map_int_inj, map_nil_iff, List.cons.injEq, exists_eq_left, exists_eq_left', exists_eq, exists_eq', exists_and_left, exists_and_right, exists_const, and_assoc, and_true, true_and, and_false, false_and, or_false, false_or, or_true, true_or, ite_true, ite_false, if_true, if_false, Bool.false_eq_true, own_cons, own_nil, le1, le2, le3, le4, me_cons, me_nil, List.length_map, List.length_cons, List.length_nil, ne_eq, not_false_eq_true, not_true_eq_false, decide_eq_true_eq]
      exact k2 e
end
end My


namespace My
open PySem PySem.Spec PyProof.Rows L2 Pr M26
section
variable {P : Program} {w : World} {K : PySem.W.Frag} {mg : Str → Option Value} {base : Heap}
theorem lc_boolI {σ : L2.St} {H : Hp} {j : Nat} {te : TE} {vs : List Nat} {Q : VK} {J : It} {F : Hp → Prop} {ns : List Int} (G : GoesXs J (ns.map V.int) F) (f : Int → Bool) (hn : ns.length < 1000000) (hF : ∀ H', Same H H' → F H') (hw : ∀ x, wipe ((wipe σ vs).set j (some x)) vs = wipe σ vs)
    (he : ∀ x H', x ∈ ns → Same H H' → ∀ Q' : VK, (∀ H'', Same H' H'' → Q' (.bl (f x)) H'') → te ((wipe σ vs).set j (some (.int x))) H' Q')
    (hq : ∀ p H', H p = none → Same H H' → H' p = some (.lst ((ns.map f).map V.bl)) → Q (.ref p) H') :
    tLcIn (gName j) tYes te vs σ Q J H := by
  refine lc_filt (xs := ns.map V.int) G (fun _ => true) (fun v => match v with | .int x => .bl (f x) | v => v) (by rw [List.length_map]; exact hn) hF hw (fun x H' hx s Q' q => q H' (Same.refl _)) (fun x H' hx => ?_) (fun p H' hp s e => hq p H' hp s ?_)
  · obtain ⟨y, hy, rfl⟩ := List.mem_map.mp hx
    exact fun _ => he y H' hy
  · rw [e, List.filter_eq_self.mpr (fun _ _ => rfl), List.map_map, List.map_map]
    rfl
theorem lc_rangeB {σ : L2.St} {H : Hp} {j : Nat} {te : TE} {vs : List Nat} {Q : VK} {lo : Int} {n : Nat} (f : Nat → Bool) (hn : n < 1000000) (hw : ∀ x, wipe ((wipe σ vs).set j (some x)) vs = wipe σ vs)
    (he : ∀ (i : Nat) H', i < n → Same H H' → ∀ Q' : VK, (∀ H'', Same H' H'' → Q' (.bl (f i)) H'') → te ((wipe σ vs).set j (some (.int (lo + i)))) H' Q')
    (hq : ∀ p H', H p = none → Same H H' → H' p = some (.lst (((List.range n).map f).map V.bl)) → Q (.ref p) H') :
    tLcIn (gName j) tYes te vs σ Q (Itr lo n) H := fun Dl hD => by
  refine lc_range (g := gName j) (lo := lo) (n := n) (fun i H' => Same H H' ∧ H' Dl = some (.lst (((List.range i).map f).map V.bl))) ⟨same_upd hD, ?_⟩ (fun i H' hi hP => ?_) (fun H' hP => hq Dl H' hD hP.1 hP.2)
  · rw [upd_same]
    rfl
  · obtain ⟨sm, ed⟩ := hP
    exact ⟨hw _, he i H' hi sm _ fun H2 s2 => ⟨_, s2 _ _ ed, sz (by simp; omega), same_mut (sm.trans s2) hD, by rw [upd_same, List.range_succ]; simp⟩⟩
def BoxV (b : List Int) : Prop := b.length ≤ 40 ∧ (∀ x ∈ b, 1 ≤ x ∧ x ≤ 40) ∧ b.Pairwise (fun x y => y ≤ x)
def sp_is_box : Sp := fun vs H Q _ => ∃ (t : Addr) (b : List Int), vs = [.ref t] ∧ H t = some (TI b) ∧ BoxV b ∧ ∀ H', Same H H' → Q (.bl true) H'
theorem ok_is_box (T : Tx K mg) : FnOk P w K mg base CX0 3 T.f_is_box T.d_is_box p_is_box sp_is_box := by
  refine T.F_is_box.ok sc_is_box (fun vs H Q E h => ?_) (fun cdv A outer s H vs Q E hr h => ?_)
  · obtain ⟨t, b, rfl, _⟩ := h
    rfl
  · obtain ⟨t, b, rfl, ht, ⟨hl, hm, hp⟩, k⟩ := h
    refine ⟨_, (pss_cons (ps_if (PW.pt (pw_or (pt_not (pt_val (pe_callB cr_isiS (by rfl) T.z_isinstance (by decide +kernel) (pa_cons (pv 0) (pa_cons (pe_bltn (v := .ty "tuple") (by rfl) T.z_tuple (by decide +kernel) rfl) pa_nil))))) (pw_or1 (pt_cmpR op_gt (pe_callB cr_len (by rfl) T.z_len PySem.boot_len (pa_cons (pv 0) pa_nil)) (pe_glob (v := .int 40) (by rfl) T.c_MAX_PARTS ⟨_, rfl⟩) (nomark _))))) (pss_one (ps_ret pe_bl)) pss_nil)
      (pss_cons (ps_if (pt_not (pt_val (pe_callB (cr_all rfl) (by rfl) T.z_all (by decide +kernel) (pa_cons (pe_lc (own := [("member", 1)]) (g := gName 1) (tt := tYes) rfl sc_is_box.nd (pi_tup (pv 0)) (blkOk_by (N := n_is_box) (sc := defScope s_is_box) (by decide +kernel)) (fun _ _ _ _ _ => (pg_name (i := 1) sc_is_box.nd rfl (by first | exact .inl rfl | exact .inr rfl))) (fun _ _ _ _ _ => pts_nil) (fun _ _ _ _ _ => (pe_call (ok_is_within T) (hr.mono (by decide)) (by rfl) T.m_is_within T.F_is_within.kp T.b_is_within .nil pass0 (pa_cons (pv 1) (pa_cons pe_int (pa_cons (pe_glob (v := .int 40) (by rfl) T.c_MAX_PARTS ⟨_, rfl⟩) pa_nil)))))) pa_nil)))) (pss_one (ps_ret pe_bl)) pss_nil)
      (pss_one (ps_ret (pe_callB (cr_all rfl) (by rfl) T.z_all (by decide +kernel) (pa_cons (pe_lc (own := [("index", 2)]) (g := gName 2) (tt := tYes) rfl sc_is_box.nd (pi_range2 (by rfl) T.z_range (pa_cons pe_int (pa_cons (pe_callB cr_len (by rfl) T.z_len PySem.boot_len (pa_cons (pv 0) pa_nil)) pa_nil))) (blkOk_by (N := n_is_box) (sc := defScope s_is_box) (by decide +kernel)) (fun _ _ _ _ _ => (pg_name (i := 2) sc_is_box.nd rfl (by first | exact .inl rfl | exact .inr rfl))) (fun _ _ _ _ _ => pts_nil) (fun _ _ _ _ _ => (pe_cmpR op_le (pe_ix ix_TI (pv 0) (pv 2) (fun _ _ => rfl)) (pe_ix ix_TI (pv 0) (pe_op op_sub (pv 2) pe_int) (fun _ _ => rfl)) (nomark _)))) pa_nil)))))), ?_⟩
    rw [st_is_box]
    simp only [ap_seq, ap_next, ap_asg, ap_gName, ap_ret, ap_retN, ap_drop, ap_ifS, ap_break, ap_cont, ap_par, ap_aug, ap_ip, ap_gSub, ap_gTup, ap_gNil, ap_gCons, ap_var, ap_c, ap_op, ap_un, ap_if, ap_test, ap_B, ap_and, ap_or, ap_not, ap_andV, ap_orV, ap_notV, ap_nil, ap_cons, ap_tup, ap_lst, ap_cb, ap_bm, ap_call, ap_chain, ap_rI, ap_rI0, ap_rU, ap_rEq, ap_rNe, ap_revT, ap_sl, ap_part, ap_noPart, ap_ixLI, ap_ixTI, ap_ixLV, ap_ixTV, ap_len, ap_setLI, ap_setLV, ap_appI, ap_appV, ap_tupL, ap_listS, ap_sumLI, ap_sumTI, ap_repLI, ap_intI, ap_intB, ap_eqTI, ap_neTI, ap_eqLI, ap_neLI, ap_isi, ap_for, ap_rng1, ap_rng2, ap_iList, ap_iTup, ap_lc, ap_yes, ap_cut, ap_gTupH, ap_fmt, ap_jsn, ap_jsc, ap_gcd, ap_isqrt, ap_ixL, tyV_l, wipe_nil, wipe_cons, upd_same, ap_iEnT, ap_iEnL, ap_iZipA, ap_all, ap_tupT, ap_attF, ap_makeL, ap_dictKP, ap_neDP, ap_itemsT, ap_zipM, ap_lockE, ap_dget2, ap_dput, ap_dnewT, ap_iValsT, ap_iKeys, ap_sortedDT, ap_dictLT, ap_lenDT, ap_dcT, ap_sortT1, ap_listG, ap_callG, ap_star, ap_extend, ap_max, ap_setOfT, ap_sortedU, ap_sortedTU, ap_repTZ, ap_maxT, ap_revA, ap_att, ap_prop, ap_isO, ap_bin, ap_ne, ap_meth, ap_make, ins_inj, FE_inj, ap_slI, ap_catI, ap_perm, ap_lenO, ap_strO, ap_listO, ap_reprB, ap_iterT, ap_neT, ap_negO, ap_binI, ap_catL, ap_tM1, ap_repTI, ap_popN, ap_par3, ap_catTT, ap_repTA, ap_countT, ap_notInT, ap_repL1, ap_shl, ap_shr, ap_mask, ap_comb, ap_bits, ap_rng3, List.set_cons_zero, List.set_cons_succ, List.getElem?_cons_zero, List.getElem?_cons_succ, List.cons_append, List.nil_append, List.append_nil, Option.some.injEq, V.int.injEq, V.ref.injEq, V.bl.injEq, V.str.injEq, V.ty.injEq, Bool.not_true, Bool.not_false, HO.lst.injEq, HO.tup.injEq, reduceCtorEq, Int.reduceToNat, Int.reduceLT, Int.reduceLE, Nat.reduceAdd, Int.cast_ofNat_Int, gi_c0, gi_c1, gi_c2, gi_c3, Int.natCast_inj, map_int_inj, map_nil_iff, List.cons.injEq, exists_eq_left, exists_eq_left', exists_eq, exists_eq', exists_and_left, exists_and_right, exists_const, and_assoc, and_true, true_and, and_false, false_and, or_false, false_or, or_true, true_or, ite_true, ite_false, if_true, if_false, Bool.false_eq_true, own_cons, own_nil, le1, le2, le3, le4, me_cons, me_nil, List.length_map, List.length_cons, List.length_nil, ne_eq, not_false_eq_true, not_true_eq_false, decide_eq_true_eq, sp_is_within]
    have hb : b.length ≤ 40 := hl
    refine ⟨_, by rw [ty_tup ht], _, rfl, ?_⟩
    rw [if_neg (by decide)]
    refine ⟨_, .inr ht, ?_⟩
    rw [List.length_map, if_neg (by omega)]
    refine ⟨⟨_, sqT_of ht⟩, ?_⟩
    refine lc_boolI (gives_tupT (xs := b.map V.int)) (fun _ => true) (by omega) (fun H' s => sqT_of (s _ _ ht)) (fun x => rfl) (fun x H' hx s Q' q => ?_) (fun l H1 hl1 s1 e1 => ?_)
    · obtain ⟨x1, x2⟩ := hm x hx
      simp only [ap_seq, ap_next, ap_asg, ap_gName, ap_ret, ap_retN, ap_drop, ap_ifS, ap_break, ap_cont, ap_par, ap_aug, ap_ip, ap_gSub, ap_gTup, ap_gNil, ap_gCons, ap_var, ap_c, ap_op, ap_un, ap_if, ap_test, ap_B, ap_and, ap_or, ap_not, ap_andV, ap_orV, ap_notV, ap_nil, ap_cons, ap_tup, ap_lst, ap_cb, ap_bm, ap_call, ap_chain, ap_rI, ap_rI0, ap_rU, ap_rEq, ap_rNe, ap_revT, ap_sl, ap_part, ap_noPart, ap_ixLI, ap_ixTI, ap_ixLV, ap_ixTV, ap_len, ap_setLI, ap_setLV, ap_appI, ap_appV, ap_tupL, ap_listS, ap_sumLI, ap_sumTI, ap_repLI, ap_intI, ap_intB, ap_eqTI, ap_neTI, ap_eqLI, ap_neLI, ap_isi, ap_for, ap_rng1, ap_rng2, ap_iList, ap_iTup, ap_lc, ap_yes, ap_cut, ap_gTupH, ap_fmt, ap_jsn, ap_jsc, ap_gcd, ap_isqrt, ap_ixL, tyV_l, wipe_nil, wipe_cons, upd_same, ap_iEnT, ap_iEnL, ap_iZipA, ap_all, ap_tupT, ap_attF, ap_makeL, ap_dictKP, ap_neDP, ap_itemsT, ap_zipM, ap_lockE, ap_dget2, ap_dput, ap_dnewT, ap_iValsT, ap_iKeys, ap_sortedDT, ap_dictLT, ap_lenDT, ap_dcT, ap_sortT1, ap_listG, ap_callG, ap_star, ap_extend, ap_max, ap_setOfT, ap_sortedU, ap_sortedTU, ap_repTZ, ap_maxT, ap_revA, ap_att, ap_prop, ap_isO, ap_bin, ap_ne, ap_meth, ap_make, ins_inj, FE_inj, ap_slI, ap_catI, ap_perm, ap_lenO, ap_strO, ap_listO, ap_reprB, ap_iterT, ap_neT, ap_negO, ap_binI, ap_catL, ap_tM1, ap_repTI, ap_popN, ap_par3, ap_catTT, ap_repTA, ap_countT, ap_notInT, ap_repL1, ap_shl, ap_shr, ap_mask, ap_comb, ap_bits, ap_rng3, List.set_cons_zero, List.set_cons_succ, List.getElem?_cons_zero, List.getElem?_cons_succ, List.cons_append, List.nil_append, List.append_nil, Option.some.injEq, V.int.injEq, V.ref.injEq, V.bl.injEq, V.str.injEq, V.ty.injEq, Bool.not_true, Bool.not_false, HO.lst.injEq, HO.tup.injEq, reduceCtorEq, Int.reduceToNat, Int.reduceLT, Int.reduceLE, Nat.reduceAdd, Int.cast_ofNat_Int, gi_c0, gi_c1, gi_c2, gi_c3, Int.natCast_inj, map_int_inj, map_nil_iff, List.cons.injEq, exists_eq_left, exists_eq_left', exists_eq, exists_eq', exists_and_left, exists_and_right, exists_const, and_assoc, and_true, true_and, and_false, false_and, or_false, false_or, or_true, true_or, ite_true, ite_false, if_true, if_false, Bool.false_eq_true, own_cons, own_nil, le1, le2, le3, le4, me_cons, me_nil, List.length_map, List.length_cons, List.length_nil, ne_eq, not_false_eq_true, not_true_eq_false, decide_eq_true_eq, sp_is_within]
      exact ⟨x1, by omega, by omega, by omega, q _ (Same.refl _)⟩
    · refine ⟨l, rfl, _, sqL_of e1, ?_⟩
      rw [show (b.map fun _ => true).all id = true by simp, if_neg (by decide)]
      refine ⟨_, .inr (s1 _ _ ht), by decide, by decide, by rw [List.length_map]; omega, by rw [List.length_map]; omega, ?_⟩
      rw [List.length_map]
      refine lc_rangeB (fun _ => true) (by omega) (fun x => rfl) (fun i H' hi s Q' q => ?_) (fun l2 H2 hl2 s2 e2 => ?_)
      · have t2 := s1.trans s
        have h1 : i < b.length := by omega
        have h2 : i + 1 < b.length := by omega
        have hd : b[i + 1] ≤ b[i] := List.pairwise_iff_getElem.mp hp i (i + 1) h1 h2 (by omega)
        have g1 : gi b (1 + (i : Int)) = b[i + 1] := by
          rw [show 1 + (i : Int) = ((i + 1 : Nat) : Int) by omega, gi_nat, List.getD_eq_getElem?_getD, List.getElem?_eq_getElem h2]
          rfl
        have g2 : gi b (1 + (i : Int) - 1) = b[i] := by
          rw [show 1 + (i : Int) - 1 = ((i : Nat) : Int) by omega, gi_nat, List.getD_eq_getElem?_getD, List.getElem?_eq_getElem h1]
          rfl
        simp only [ap_seq, ap_next, ap_asg, ap_gName, ap_ret, ap_retN, ap_drop, ap_ifS, ap_break, ap_cont, ap_par, ap_aug, ap_ip, ap_gSub, ap_gTup, ap_gNil, ap_gCons, ap_var, ap_c, ap_op, ap_un, ap_if, ap_test, ap_B, ap_and, ap_or, ap_not, ap_andV, ap_orV, ap_notV, ap_nil, ap_cons, ap_tup, ap_lst, ap_cb, ap_bm, ap_call, ap_chain, ap_rI, ap_rI0, ap_rU, ap_rEq, ap_rNe, ap_revT, ap_sl, ap_part, ap_noPart, ap_ixLI, ap_ixTI, ap_ixLV, ap_ixTV, ap_len, ap_setLI, ap_setLV, ap_appI, ap_appV, ap_tupL, ap_listS, ap_sumLI, ap_sumTI, ap_repLI, ap_intI, ap_intB, ap_eqTI, ap_neTI, ap_eqLI, ap_neLI, ap_isi, ap_for, ap_rng1, ap_rng2, ap_iList, ap_iTup, ap_lc, ap_yes, ap_cut, ap_gTupH, ap_fmt, ap_jsn, ap_jsc, ap_gcd, ap_isqrt, ap_ixL, tyV_l, wipe_nil, wipe_cons, upd_same, ap_iEnT, ap_iEnL, ap_iZipA, ap_all, ap_tupT, ap_attF, ap_makeL, ap_dictKP, ap_neDP, ap_itemsT, ap_zipM, ap_lockE, ap_dget2, ap_dput, ap_dnewT, ap_iValsT, ap_iKeys, ap_sortedDT, ap_dictLT, ap_lenDT, ap_dcT, ap_sortT1, ap_listG, ap_callG, ap_star, ap_extend, ap_max, ap_setOfT, ap_sortedU, ap_sortedTU, ap_repTZ, ap_maxT, ap_revA, ap_att, ap_prop, ap_isO, ap_bin, ap_ne, ap_meth, ap_make, ins_inj, FE_inj, ap_slI, ap_catI, ap_perm, ap_lenO, ap_strO, ap_listO, ap_reprB, ap_iterT, ap_neT, ap_negO, ap_binI, ap_catL, ap_tM1, ap_repTI, ap_popN, ap_par3, ap_catTT, ap_repTA, ap_countT, ap_notInT, ap_repL1, ap_shl, ap_shr, ap_mask, ap_comb, ap_bits, ap_rng3, List.set_cons_zero, List.set_cons_succ, List.getElem?_cons_zero, List.getElem?_cons_succ, List.cons_append, List.nil_append, List.append_nil, Option.some.injEq, V.int.injEq, V.ref.injEq, V.bl.injEq, V.str.injEq, V.ty.injEq, Bool.not_true, Bool.not_false, HO.lst.injEq, HO.tup.injEq, reduceCtorEq, Int.reduceToNat, Int.reduceLT, Int.reduceLE, Nat.reduceAdd, Int.cast_ofNat_Int, gi_c0, gi_c1, gi_c2, gi_c3, Int.natCast_inj, map_int_inj, map_nil_iff, List.cons.injEq, exists_eq_left, exists_eq_left', exists_eq, exists_eq', exists_and_left, exists_and_right, exists_const, and_assoc, and_true, true_and, and_false, false_and, or_false, false_or, or_true, true_or, ite_true, ite_false, if_true, if_false, Bool.false_eq_true, own_cons, own_nil, le1, le2, le3, le4, me_cons, me_nil, List.length_map, List.length_cons, List.length_nil, ne_eq, not_false_eq_true, not_true_eq_false, decide_eq_true_eq]
        refine ⟨b, t2 _ _ ht, by omega, by omega, b, t2 _ _ ht, by omega, by omega, ?_⟩
        rw [g1, g2, decide_eq_true hd]
        exact q _ (Same.refl _)
      · refine ⟨l2, rfl, _, sqL_of e2, ?_⟩
        rw [show ((List.range ((b.length : Int) - 1).toNat).map fun _ => true).all id = true by simp]
        exact k _ (s1.trans s2)
def sp_need_box : Sp := fun vs H Q _ => ∃ (t : Addr) (b : List Int), vs = [.ref t] ∧ H t = some (TI b) ∧ BoxV b ∧ ∀ H', Same H H' → Q .non H'
theorem ok_need_box (T : Tx K mg) : FnOk P w K mg base CX0 4 T.f_need_box T.d_need_box p_need_box sp_need_box := by
  refine T.F_need_box.ok sc_need_box (fun vs H Q E h => ?_) (fun cdv A outer s H vs Q E hr h => ?_)
  · obtain ⟨t, b, rfl, _⟩ := h
    rfl
  · obtain ⟨t, b, rfl, ht, hb, k⟩ := h
    refine ⟨_, (pss_one (ps_if (pt_not (pt_val (pe_call (ok_is_box T) (hr.mono (by decide)) (by rfl) T.m_is_box T.F_is_box.kp T.b_is_box .nil pass0 (pa_cons (pv 0) pa_nil)))) (pss_one ps_never) pss_nil)), ?_⟩
    rw [st_need_box]
    simp only [ap_seq, ap_next, ap_asg, ap_gName, ap_ret, ap_retN, ap_drop, ap_ifS, ap_break, ap_cont, ap_par, ap_aug, ap_ip, ap_gSub, ap_gTup, ap_gNil, ap_gCons, ap_var, ap_c, ap_op, ap_un, ap_if, ap_test, ap_B, ap_and, ap_or, ap_not, ap_andV, ap_orV, ap_notV, ap_nil, ap_cons, ap_tup, ap_lst, ap_cb, ap_bm, ap_call, ap_chain, ap_rI, ap_rI0, ap_rU, ap_rEq, ap_rNe, ap_revT, ap_sl, ap_part, ap_noPart, ap_ixLI, ap_ixTI, ap_ixLV, ap_ixTV, ap_len, ap_setLI, ap_setLV, ap_appI, ap_appV, ap_tupL, ap_listS, ap_sumLI, ap_sumTI, ap_repLI, ap_intI, ap_intB, ap_eqTI, ap_neTI, ap_eqLI, ap_neLI, ap_isi, ap_for, ap_rng1, ap_rng2, ap_iList, ap_iTup, ap_lc, ap_yes, ap_cut, ap_gTupH, ap_fmt, ap_jsn, ap_jsc, ap_gcd, ap_isqrt, ap_ixL, tyV_l, wipe_nil, wipe_cons, upd_same, ap_iEnT, ap_iEnL, ap_iZipA, ap_all, ap_tupT, ap_attF, ap_makeL, ap_dictKP, ap_neDP, ap_itemsT, ap_zipM, ap_lockE, ap_dget2, ap_dput, ap_dnewT, ap_iValsT, ap_iKeys, ap_sortedDT, ap_dictLT, ap_lenDT, ap_dcT, ap_sortT1, ap_listG, ap_callG, ap_star, ap_extend, ap_max, ap_setOfT, ap_sortedU, ap_sortedTU, ap_repTZ, ap_maxT, ap_revA, ap_att, ap_prop, ap_isO, ap_bin, ap_ne, ap_meth, ap_make, ins_inj, FE_inj, ap_slI, ap_catI, ap_perm, ap_lenO, ap_strO, ap_listO, ap_reprB, ap_iterT, ap_neT, ap_negO, ap_binI, ap_catL, ap_tM1, ap_repTI, ap_popN, ap_par3, ap_catTT, ap_repTA, ap_countT, ap_notInT, ap_repL1, ap_shl, ap_shr, ap_mask, ap_comb, ap_bits, ap_rng3, List.set_cons_zero, List.set_cons_succ, List.getElem?_cons_zero, List.getElem?_cons_succ, List.cons_append, List.nil_append, List.append_nil, Option.some.injEq, V.int.injEq, V.ref.injEq, V.bl.injEq, V.str.injEq, V.ty.injEq, Bool.not_true, Bool.not_false, HO.lst.injEq, HO.tup.injEq, reduceCtorEq, Int.reduceToNat, Int.reduceLT, Int.reduceLE, Nat.reduceAdd, Int.cast_ofNat_Int, gi_c0, gi_c1, gi_c2, gi_c3, Int.natCast_inj, map_int_inj, map_nil_iff, List.cons.injEq, exists_eq_left, exists_eq_left', exists_eq, exists_eq', exists_and_left, exists_and_right, exists_const, and_assoc, and_true, true_and, and_false, false_and, or_false, false_or, or_true, true_or, ite_true, ite_false, if_true, if_false, Bool.false_eq_true, own_cons, own_nil, le1, le2, le3, le4, me_cons, me_nil, List.length_map, List.length_cons, List.length_nil, ne_eq, not_false_eq_true, not_true_eq_false, decide_eq_true_eq, sp_is_box]
    exact ⟨b, ht, hb, fun H' s => k H' s⟩
theorem mx_ge (a : Int) : ∀ b : List Int, a ≤ b.foldl max a ∧ ∀ x ∈ b, x ≤ b.foldl max a
  | [] => ⟨Int.le_refl _, fun _ h => nomatch h⟩
  | y :: b => by
    obtain ⟨h1, h2⟩ := mx_ge (max a y) b
    refine ⟨by rw [List.foldl_cons]; omega, fun x hx => ?_⟩
    rw [List.foldl_cons]
    rcases List.mem_cons.mp hx with rfl | hx
    · omega
    · exact h2 x hx
theorem mx_mem (a : Int) : ∀ b : List Int, b.foldl max a ∈ a :: b
  | [] => List.mem_cons_self
  | y :: b => by
    rw [List.foldl_cons]
    rcases List.mem_cons.mp (mx_mem (max a y) b) with h | h
    · rw [h]
      rcases Int.le_total a y with c | c
      · rw [Int.max_eq_right c]
        exact List.mem_cons_of_mem _ List.mem_cons_self
      · rw [Int.max_eq_left c]
        exact List.mem_cons_self
    · exact List.mem_cons_of_mem _ (List.mem_cons_of_mem _ h)
theorem mx_of {b : List Int} {m : Int} (h1 : m ∈ (0 : Int) :: b) (h2 : ∀ y, y ∈ (0 : Int) :: b → y ≤ m) : m = b.foldl max 0 := by
  have a := h2 _ (mx_mem 0 b)
  obtain ⟨g1, g2⟩ := mx_ge 0 b
  rcases List.mem_cons.mp h1 with rfl | h
  · omega
  · have := g2 m h
    omega
theorem mx_bd {b : List Int} (hb : BoxV b) : 0 ≤ b.foldl max 0 ∧ b.foldl max 0 ≤ 40 := by
  refine ⟨(mx_ge 0 b).1, ?_⟩
  rcases List.mem_cons.mp (mx_mem 0 b) with h | h
  · rw [h]
    decide
  · exact (hb.2.1 _ h).2
def sp_turned_box : Sp := fun vs H Q _ => ∃ (t : Addr) (b : List Int), vs = [.ref t] ∧ H t = some (TI b) ∧ BoxV b ∧ ∀ H' r, Same H H' → H' r = some (TI (turnL b)) → Q (.ref r) H'
theorem ok_turned_box (T : Tx K mg) : FnOk P w K mg base CX0 5 T.f_turned_box T.d_turned_box p_turned_box sp_turned_box := by
  refine T.F_turned_box.ok sc_turned_box (fun vs H Q E h => ?_) (fun cdv A outer s H vs Q E hr h => ?_)
  · obtain ⟨t, b, rfl, _⟩ := h
    rfl
  · obtain ⟨t, b, rfl, ht, hb, k⟩ := h
    refine ⟨_, (pss_cons (ps_expr (pe_call (ok_need_box T) (hr.mono (by decide)) (by rfl) T.m_need_box T.F_need_box.kp T.b_need_box .nil pass0 (pa_cons (pv 0) pa_nil)))
      (pss_cons (ps_set (i := 1) sc_turned_box.nd rfl (Or.inl rfl) (pe_callB (cr_max rfl) (by rfl) T.z_max (by decide +kernel) (pa_cons (pe_lst (pa_cons pe_int (StX.pa_star (pv 0) pa_nil))) pa_nil)))
      (pss_one (ps_ret (pe_callTy cr_tupL (by rfl) T.z_tuple (by decide +kernel) (pa_cons (pe_lc (own := [("least", 2)]) (g := gName 2) (tt := tYes) rfl sc_turned_box.nd (pi_range2 (by rfl) T.z_range (pa_cons pe_int (pa_cons (pe_op op_add (pv 1) pe_int) pa_nil))) (blkOk_by (N := n_turned_box) (sc := defScope s_turned_box) (by decide +kernel)) (fun _ _ _ _ _ => (pg_name (i := 2) sc_turned_box.nd rfl (by first | exact .inl rfl | exact .inr rfl))) (fun _ _ _ _ _ => pts_nil) (fun _ _ _ _ _ => (pe_callB cr_len (by rfl) T.z_len PySem.boot_len (pa_cons (pe_lc (own := [("member", 3)]) (g := gName 3) rfl sc_turned_box.nd (pi_tupK (K := K) rfl (pv 0)) (blkOk_by (by rfl)) (fun _ _ _ _ _ => (pg_name (i := 3) sc_turned_box.nd rfl (by first | exact .inl rfl | exact .inr rfl))) (fun _ _ _ _ _ => (pts_one (pt_cmpR op_ge (pv 3) (pv 2) (nomark _)))) (fun _ _ _ _ _ => (pv 3))) pa_nil)))) pa_nil)))))), ?_⟩
    rw [st_turned_box]
    simp only [ap_seq, ap_next, ap_asg, ap_gName, ap_ret, ap_retN, ap_drop, ap_ifS, ap_break, ap_cont, ap_par, ap_aug, ap_ip, ap_gSub, ap_gTup, ap_gNil, ap_gCons, ap_var, ap_c, ap_op, ap_un, ap_if, ap_test, ap_B, ap_and, ap_or, ap_not, ap_andV, ap_orV, ap_notV, ap_nil, ap_cons, ap_tup, ap_lst, ap_cb, ap_bm, ap_call, ap_chain, ap_rI, ap_rI0, ap_rU, ap_rEq, ap_rNe, ap_revT, ap_sl, ap_part, ap_noPart, ap_ixLI, ap_ixTI, ap_ixLV, ap_ixTV, ap_len, ap_setLI, ap_setLV, ap_appI, ap_appV, ap_tupL, ap_listS, ap_sumLI, ap_sumTI, ap_repLI, ap_intI, ap_intB, ap_eqTI, ap_neTI, ap_eqLI, ap_neLI, ap_isi, ap_for, ap_rng1, ap_rng2, ap_iList, ap_iTup, ap_lc, ap_yes, ap_cut, ap_gTupH, ap_fmt, ap_jsn, ap_jsc, ap_gcd, ap_isqrt, ap_ixL, tyV_l, wipe_nil, wipe_cons, upd_same, ap_iEnT, ap_iEnL, ap_iZipA, ap_all, ap_tupT, ap_attF, ap_makeL, ap_dictKP, ap_neDP, ap_itemsT, ap_zipM, ap_lockE, ap_dget2, ap_dput, ap_dnewT, ap_iValsT, ap_iKeys, ap_sortedDT, ap_dictLT, ap_lenDT, ap_dcT, ap_sortT1, ap_listG, ap_callG, ap_star, ap_extend, ap_max, ap_setOfT, ap_sortedU, ap_sortedTU, ap_repTZ, ap_maxT, ap_revA, ap_att, ap_prop, ap_isO, ap_bin, ap_ne, ap_meth, ap_make, ins_inj, FE_inj, ap_slI, ap_catI, ap_perm, ap_lenO, ap_strO, ap_listO, ap_reprB, ap_iterT, ap_neT, ap_negO, ap_binI, ap_catL, ap_tM1, ap_repTI, ap_popN, ap_par3, ap_catTT, ap_repTA, ap_countT, ap_notInT, ap_repL1, ap_shl, ap_shr, ap_mask, ap_comb, ap_bits, ap_rng3, List.set_cons_zero, List.set_cons_succ, List.getElem?_cons_zero, List.getElem?_cons_succ, List.cons_append, List.nil_append, List.append_nil, Option.some.injEq, V.int.injEq, V.ref.injEq, V.bl.injEq, V.str.injEq, V.ty.injEq, Bool.not_true, Bool.not_false, HO.lst.injEq, HO.tup.injEq, reduceCtorEq, Int.reduceToNat, Int.reduceLT, Int.reduceLE, Nat.reduceAdd, Int.cast_ofNat_Int, gi_c0, gi_c1, gi_c2, gi_c3, Int.natCast_inj, map_int_inj, map_nil_iff, List.cons.injEq, exists_eq_left, exists_eq_left', exists_eq, exists_eq', exists_and_left, exists_and_right, exists_const, and_assoc, and_true, true_and, and_false, false_and, or_false, false_or, or_true, true_or, ite_true, ite_false, if_true, if_false, Bool.false_eq_true, own_cons, own_nil, le1, le2, le3, le4, me_cons, me_nil, List.length_map, List.length_cons, List.length_nil, ne_eq, not_false_eq_true, not_true_eq_false, decide_eq_true_eq, sp_need_box]
    refine ⟨b, ht, hb, fun H1 s1 => ⟨b.map V.int, .inl (sqT_of (s1 _ _ ht)), by rw [List.length_map]; exact Nat.le_trans (Nat.succ_le_succ hb.1) (by decide), fun p np => ⟨0 :: b, sqL_of upd_same, by simp, fun m h1 h2 => ?_⟩⟩⟩
    obtain rfl : m = b.foldl max 0 := mx_of h1 h2
    obtain ⟨m0, m40⟩ := mx_bd hb
    have t1 := s1.trans (same_upd (o := HO.lst (V.int 0 :: b.map V.int)) np)
    refine ⟨by decide, by decide, by omega, by omega, ?_⟩
    rw [show b.foldl max 0 + 1 - 1 = b.foldl max 0 by omega]
    refine lc_rangeI (fun i => (((b.filter fun x => decide (((i : Nat) : Int) + 1 ≤ x)).length : Nat) : Int)) (by omega) (fun x => rfl) (fun i H2 hi s2 Q' q => ?_) (fun l H2 hl s2 e2 => ⟨l, rfl, _, e2, fun r nr => k _ _ ((t1.trans s2).trans (same_upd nr)) (by rw [upd_same]; rfl)⟩)
    have t2 := t1.trans s2
    simp only [ap_seq, ap_next, ap_asg, ap_gName, ap_ret, ap_retN, ap_drop, ap_ifS, ap_break, ap_cont, ap_par, ap_aug, ap_ip, ap_gSub, ap_gTup, ap_gNil, ap_gCons, ap_var, ap_c, ap_op, ap_un, ap_if, ap_test, ap_B, ap_and, ap_or, ap_not, ap_andV, ap_orV, ap_notV, ap_nil, ap_cons, ap_tup, ap_lst, ap_cb, ap_bm, ap_call, ap_chain, ap_rI, ap_rI0, ap_rU, ap_rEq, ap_rNe, ap_revT, ap_sl, ap_part, ap_noPart, ap_ixLI, ap_ixTI, ap_ixLV, ap_ixTV, ap_len, ap_setLI, ap_setLV, ap_appI, ap_appV, ap_tupL, ap_listS, ap_sumLI, ap_sumTI, ap_repLI, ap_intI, ap_intB, ap_eqTI, ap_neTI, ap_eqLI, ap_neLI, ap_isi, ap_for, ap_rng1, ap_rng2, ap_iList, ap_iTup, ap_lc, ap_yes, ap_cut, ap_gTupH, ap_fmt, ap_jsn, ap_jsc, ap_gcd, ap_isqrt, ap_ixL, tyV_l, wipe_nil, wipe_cons, upd_same, ap_iEnT, ap_iEnL, ap_iZipA, ap_all, ap_tupT, ap_attF, ap_makeL, ap_dictKP, ap_neDP, ap_itemsT, ap_zipM, ap_lockE, ap_dget2, ap_dput, ap_dnewT, ap_iValsT, ap_iKeys, ap_sortedDT, ap_dictLT, ap_lenDT, ap_dcT, ap_sortT1, ap_listG, ap_callG, ap_star, ap_extend, ap_max, ap_setOfT, ap_sortedU, ap_sortedTU, ap_repTZ, ap_maxT, ap_revA, ap_att, ap_prop, ap_isO, ap_bin, ap_ne, ap_meth, ap_make, ins_inj, FE_inj, ap_slI, ap_catI, ap_perm, ap_lenO, ap_strO, ap_listO, ap_reprB, ap_iterT, ap_neT, ap_negO, ap_binI, ap_catL, ap_tM1, ap_repTI, ap_popN, ap_par3, ap_catTT, ap_repTA, ap_countT, ap_notInT, ap_repL1, ap_shl, ap_shr, ap_mask, ap_comb, ap_bits, ap_rng3, List.set_cons_zero, List.set_cons_succ, List.getElem?_cons_zero, List.getElem?_cons_succ, List.cons_append, List.nil_append, List.append_nil, Option.some.injEq, V.int.injEq, V.ref.injEq, V.bl.injEq, V.str.injEq, V.ty.injEq, Bool.not_true, Bool.not_false, HO.lst.injEq, HO.tup.injEq, reduceCtorEq, Int.reduceToNat, Int.reduceLT, Int.reduceLE, Nat.reduceAdd, Int.cast_ofNat_Int, gi_c0, gi_c1, gi_c2, gi_c3, Int.natCast_inj, map_int_inj, map_nil_iff, List.cons.injEq, exists_eq_left, exists_eq_left', exists_eq, exists_eq', exists_and_left, exists_and_right, exists_const, and_assoc, and_true, true_and, and_false, false_and, or_false, false_or, or_true, true_or, ite_true, ite_false, if_true, if_false, Bool.false_eq_true, own_cons, own_nil, le1, le2, le3, le4, me_cons, me_nil, List.length_map, List.length_cons, List.length_nil, ne_eq, not_false_eq_true, not_true_eq_false, decide_eq_true_eq]
    refine ⟨⟨_, sqT_of (t2 _ _ ht)⟩, ?_⟩
    refine lc_filtI (gives_tupT (xs := b.map V.int)) (fun x => decide (((i : Nat) : Int) + 1 ≤ x)) id (by have := hb.1; omega) (fun H' s => sqT_of (s _ _ (t2 _ _ ht))) (fun x => rfl) (fun x H' hx s Q' q => ?_) (fun x H' hx _ s Q' q => ?_) (fun l H3 hl s3 e3 => ?_)
    · simp only [ap_seq, ap_next, ap_asg, ap_gName, ap_ret, ap_retN, ap_drop, ap_ifS, ap_break, ap_cont, ap_par, ap_aug, ap_ip, ap_gSub, ap_gTup, ap_gNil, ap_gCons, ap_var, ap_c, ap_op, ap_un, ap_if, ap_test, ap_B, ap_and, ap_or, ap_not, ap_andV, ap_orV, ap_notV, ap_nil, ap_cons, ap_tup, ap_lst, ap_cb, ap_bm, ap_call, ap_chain, ap_rI, ap_rI0, ap_rU, ap_rEq, ap_rNe, ap_revT, ap_sl, ap_part, ap_noPart, ap_ixLI, ap_ixTI, ap_ixLV, ap_ixTV, ap_len, ap_setLI, ap_setLV, ap_appI, ap_appV, ap_tupL, ap_listS, ap_sumLI, ap_sumTI, ap_repLI, ap_intI, ap_intB, ap_eqTI, ap_neTI, ap_eqLI, ap_neLI, ap_isi, ap_for, ap_rng1, ap_rng2, ap_iList, ap_iTup, ap_lc, ap_yes, ap_cut, ap_gTupH, ap_fmt, ap_jsn, ap_jsc, ap_gcd, ap_isqrt, ap_ixL, tyV_l, wipe_nil, wipe_cons, upd_same, ap_iEnT, ap_iEnL, ap_iZipA, ap_all, ap_tupT, ap_attF, ap_makeL, ap_dictKP, ap_neDP, ap_itemsT, ap_zipM, ap_lockE, ap_dget2, ap_dput, ap_dnewT, ap_iValsT, ap_iKeys, ap_sortedDT, ap_dictLT, ap_lenDT, ap_dcT, ap_sortT1, ap_listG, ap_callG, ap_star, ap_extend, ap_max, ap_setOfT, ap_sortedU, ap_sortedTU, ap_repTZ, ap_maxT, ap_revA, ap_att, ap_prop, ap_isO, ap_bin, ap_ne, ap_meth, ap_make, ins_inj, FE_inj, ap_slI, ap_catI, ap_perm, ap_lenO, ap_strO, ap_listO, ap_reprB, ap_iterT, ap_neT, ap_negO, ap_binI, ap_catL, ap_tM1, ap_repTI, ap_popN, ap_par3, ap_catTT, ap_repTA, ap_countT, ap_notInT, ap_repL1, ap_shl, ap_shr, ap_mask, ap_comb, ap_bits, ap_rng3, List.set_cons_zero, List.set_cons_succ, List.getElem?_cons_zero, List.getElem?_cons_succ, List.cons_append, List.nil_append, List.append_nil, Option.some.injEq, V.int.injEq, V.ref.injEq, V.bl.injEq, V.str.injEq, V.ty.injEq, Bool.not_true, Bool.not_false, HO.lst.injEq, HO.tup.injEq, reduceCtorEq, Int.reduceToNat, Int.reduceLT, Int.reduceLE, Nat.reduceAdd, Int.cast_ofNat_Int, gi_c0, gi_c1, gi_c2, gi_c3, Int.natCast_inj, map_int_inj, map_nil_iff, List.cons.injEq, exists_eq_left, exists_eq_left', exists_eq, exists_eq', exists_and_left, exists_and_right, exists_const, and_assoc, and_true, true_and, and_false, false_and, or_false, false_or, or_true, true_or, ite_true, ite_false, if_true, if_false, Bool.false_eq_true, own_cons, own_nil, le1, le2, le3, le4, me_cons, me_nil, List.length_map, List.length_cons, List.length_nil, ne_eq, not_false_eq_true, not_true_eq_false, decide_eq_true_eq]
      rw [same_iff (show (1 + (i : Int) ≤ x ↔ (i : Int) + 1 ≤ x) by omega)]
      exact q _ (Same.refl _)
    · simp only [ap_seq, ap_next, ap_asg, ap_gName, ap_ret, ap_retN, ap_drop, ap_ifS, ap_break, ap_cont, ap_par, ap_aug, ap_ip, ap_gSub, ap_gTup, ap_gNil, ap_gCons, ap_var, ap_c, ap_op, ap_un, ap_if, ap_test, ap_B, ap_and, ap_or, ap_not, ap_andV, ap_orV, ap_notV, ap_nil, ap_cons, ap_tup, ap_lst, ap_cb, ap_bm, ap_call, ap_chain, ap_rI, ap_rI0, ap_rU, ap_rEq, ap_rNe, ap_revT, ap_sl, ap_part, ap_noPart, ap_ixLI, ap_ixTI, ap_ixLV, ap_ixTV, ap_len, ap_setLI, ap_setLV, ap_appI, ap_appV, ap_tupL, ap_listS, ap_sumLI, ap_sumTI, ap_repLI, ap_intI, ap_intB, ap_eqTI, ap_neTI, ap_eqLI, ap_neLI, ap_isi, ap_for, ap_rng1, ap_rng2, ap_iList, ap_iTup, ap_lc, ap_yes, ap_cut, ap_gTupH, ap_fmt, ap_jsn, ap_jsc, ap_gcd, ap_isqrt, ap_ixL, tyV_l, wipe_nil, wipe_cons, upd_same, ap_iEnT, ap_iEnL, ap_iZipA, ap_all, ap_tupT, ap_attF, ap_makeL, ap_dictKP, ap_neDP, ap_itemsT, ap_zipM, ap_lockE, ap_dget2, ap_dput, ap_dnewT, ap_iValsT, ap_iKeys, ap_sortedDT, ap_dictLT, ap_lenDT, ap_dcT, ap_sortT1, ap_listG, ap_callG, ap_star, ap_extend, ap_max, ap_setOfT, ap_sortedU, ap_sortedTU, ap_repTZ, ap_maxT, ap_revA, ap_att, ap_prop, ap_isO, ap_bin, ap_ne, ap_meth, ap_make, ins_inj, FE_inj, ap_slI, ap_catI, ap_perm, ap_lenO, ap_strO, ap_listO, ap_reprB, ap_iterT, ap_neT, ap_negO, ap_binI, ap_catL, ap_tM1, ap_repTI, ap_popN, ap_par3, ap_catTT, ap_repTA, ap_countT, ap_notInT, ap_repL1, ap_shl, ap_shr, ap_mask, ap_comb, ap_bits, ap_rng3, List.set_cons_zero, List.set_cons_succ, List.getElem?_cons_zero, List.getElem?_cons_succ, List.cons_append, List.nil_append, List.append_nil, Option.some.injEq, V.int.injEq, V.ref.injEq, V.bl.injEq, V.str.injEq, V.ty.injEq, Bool.not_true, Bool.not_false, HO.lst.injEq, HO.tup.injEq, reduceCtorEq, Int.reduceToNat, Int.reduceLT, Int.reduceLE, Nat.reduceAdd, Int.cast_ofNat_Int, gi_c0, gi_c1, gi_c2, gi_c3, Int.natCast_inj, map_int_inj, map_nil_iff, List.cons.injEq, exists_eq_left, exists_eq_left', exists_eq, exists_eq', exists_and_left, exists_and_right, exists_const, and_assoc, and_true, true_and, and_false, false_and, or_false, false_or, or_true, true_or, ite_true, ite_false, if_true, if_false, Bool.false_eq_true, own_cons, own_nil, le1, le2, le3, le4, me_cons, me_nil, List.length_map, List.length_cons, List.length_nil, ne_eq, not_false_eq_true, not_true_eq_false, decide_eq_true_eq]
      exact q _ (Same.refl _)
    · refine ⟨l, rfl, _, .inl e3, ?_⟩
      rw [List.map_id, List.length_map]
      exact q _ s3
/-- the members of the box that is left -/
def leftL (b : List Int) (p : Nat) (m : Int) : List Int := (List.replicate (p - b.length) m ++ b.reverse.map fun x => m - x).filter fun x => decide (0 < x)
def sp_left_box : Sp := fun vs H Q _ => ∃ (t : Addr) (b : List Int) (p m : Nat), vs = [.ref t, .int (p : Nat), .int (m : Nat)] ∧ H t = some (TI b) ∧ BoxV b ∧ p ≤ 40 ∧ m ≤ 40 ∧ b.length ≤ p ∧ (∀ x ∈ b, x ≤ m) ∧ ∀ H' r, Same H H' → H' r = some (TI (leftL b p m)) → Q (.ref r) H'
theorem ok_left_box (T : Tx K mg) : FnOk P w K mg base CX0 5 T.f_left_box T.d_left_box p_left_box sp_left_box := by
  refine T.F_left_box.ok sc_left_box (fun vs H Q E h => ?_) (fun cdv A outer s H vs Q E hr h => ?_)
  · obtain ⟨t, b, p, m, rfl, _⟩ := h
    rfl
  · obtain ⟨t, b, p, m, rfl, ht, hb, hp, hm, hlp, hxm, k⟩ := h
    refine ⟨_, (pss_cons (ps_expr (pe_call (ok_need_box T) (hr.mono (by decide)) (by rfl) T.m_need_box T.F_need_box.kp T.b_need_box .nil pass0 (pa_cons (pv 0) pa_nil)))
      (pss_cons (ps_expr (pe_call (ok_need_number T) (hr.mono (by decide)) (by rfl) T.m_need_number T.F_need_number.kp T.b_need_number .nil pass0 (pa_cons (pv 1) (pa_cons pe_int (pa_cons (pe_glob (v := .int 40) (by rfl) T.c_MAX_PARTS ⟨_, rfl⟩) pa_nil)))))
      (pss_cons (ps_expr (pe_call (ok_need_number T) (hr.mono (by decide)) (by rfl) T.m_need_number T.F_need_number.kp T.b_need_number .nil pass0 (pa_cons (pv 2) (pa_cons pe_int (pa_cons (pe_glob (v := .int 40) (by rfl) T.c_MAX_PARTS ⟨_, rfl⟩) pa_nil)))))
      (pss_cons (ps_if (PW.pt (pw_or (pt_cmpR op_gt (pe_callB cr_len (by rfl) T.z_len PySem.boot_len (pa_cons (pv 0) pa_nil)) (pv 1) (nomark _)) (pw_or1 (pt_cmpR op_gt (pe_callB (cr_max rfl) (by rfl) T.z_max (by decide +kernel) (pa_cons (pe_lst (pa_cons pe_int (StX.pa_star (pv 0) pa_nil))) pa_nil)) (pv 2) (nomark _))))) (pss_one ps_never) pss_nil)
      (pss_cons (ps_set (i := 3) sc_left_box.nd rfl (Or.inl rfl) (pe_op op_catI (pe_op op_repTZ (pe_tup (pa_cons (pv 2) pa_nil)) (pe_op op_sub (pv 1) (pe_callB cr_len (by rfl) T.z_len PySem.boot_len (pa_cons (pv 0) pa_nil)))) (pe_callTy cr_tupL (by rfl) T.z_tuple (by decide +kernel) (pa_cons (pe_lc (own := [("member", 4)]) (g := gName 4) (tt := tYes) rfl sc_left_box.nd (RT.pi_revA (by rfl) T.z_reversed (pv 0)) (blkOk_by (N := n_left_box) (sc := defScope s_left_box) (by decide +kernel)) (fun _ _ _ _ _ => (pg_name (i := 4) sc_left_box.nd rfl (by first | exact .inl rfl | exact .inr rfl))) (fun _ _ _ _ _ => pts_nil) (fun _ _ _ _ _ => (pe_op op_sub (pv 2) (pv 4)))) pa_nil))))
      (pss_one (ps_ret (pe_callTy cr_tupL (by rfl) T.z_tuple (by decide +kernel) (pa_cons (pe_lc (own := [("member", 4)]) (g := gName 4) rfl sc_left_box.nd (pi_tup (pv 3)) (blkOk_by (N := n_left_box) (sc := defScope s_left_box) (by decide +kernel)) (fun _ _ _ _ _ => (pg_name (i := 4) sc_left_box.nd rfl (by first | exact .inl rfl | exact .inr rfl))) (fun _ _ _ _ _ => (pts_one (pt_cmpR op_gt (pv 4) pe_int (nomark _)))) (fun _ _ _ _ _ => (pv 4))) pa_nil))))))))), ?_⟩
    rw [st_left_box]
    simp only [ap_seq, ap_next, ap_asg, ap_gName, ap_ret, ap_retN, ap_drop, ap_ifS, ap_break, ap_cont, ap_par, ap_aug, ap_ip, ap_gSub, ap_gTup, ap_gNil, ap_gCons, ap_var, ap_c, ap_op, ap_un, ap_if, ap_test, ap_B, ap_and, ap_or, ap_not, ap_andV, ap_orV, ap_notV, ap_nil, ap_cons, ap_tup, ap_lst, ap_cb, ap_bm, ap_call, ap_chain, ap_rI, ap_rI0, ap_rU, ap_rEq, ap_rNe, ap_revT, ap_sl, ap_part, ap_noPart, ap_ixLI, ap_ixTI, ap_ixLV, ap_ixTV, ap_len, ap_setLI, ap_setLV, ap_appI, ap_appV, ap_tupL, ap_listS, ap_sumLI, ap_sumTI, ap_repLI, ap_intI, ap_intB, ap_eqTI, ap_neTI, ap_eqLI, ap_neLI, ap_isi, ap_for, ap_rng1, ap_rng2, ap_iList, ap_iTup, ap_lc, ap_yes, ap_cut, ap_gTupH, ap_fmt, ap_jsn, ap_jsc, ap_gcd, ap_isqrt, ap_ixL, tyV_l, wipe_nil, wipe_cons, upd_same, ap_iEnT, ap_iEnL, ap_iZipA, ap_all, ap_tupT, ap_attF, ap_makeL, ap_dictKP, ap_neDP, ap_itemsT, ap_zipM, ap_lockE, ap_dget2, ap_dput, ap_dnewT, ap_iValsT, ap_iKeys, ap_sortedDT, ap_dictLT, ap_lenDT, ap_dcT, ap_sortT1, ap_listG, ap_callG, ap_star, ap_extend, ap_max, ap_setOfT, ap_sortedU, ap_sortedTU, ap_repTZ, ap_maxT, ap_revA, ap_att, ap_prop, ap_isO, ap_bin, ap_ne, ap_meth, ap_make, ins_inj, FE_inj, ap_slI, ap_catI, ap_perm, ap_lenO, ap_strO, ap_listO, ap_reprB, ap_iterT, ap_neT, ap_negO, ap_binI, ap_catL, ap_tM1, ap_repTI, ap_popN, ap_par3, ap_catTT, ap_repTA, ap_countT, ap_notInT, ap_repL1, ap_shl, ap_shr, ap_mask, ap_comb, ap_bits, ap_rng3, List.set_cons_zero, List.set_cons_succ, List.getElem?_cons_zero, List.getElem?_cons_succ, List.cons_append, List.nil_append, List.append_nil, Option.some.injEq, V.int.injEq, V.ref.injEq, V.bl.injEq, V.str.injEq, V.ty.injEq, Bool.not_true, Bool.not_false, HO.lst.injEq, HO.tup.injEq, reduceCtorEq, Int.reduceToNat, Int.reduceLT, Int.reduceLE, Nat.reduceAdd, Int.cast_ofNat_Int, gi_c0, gi_c1, gi_c2, gi_c3, Int.natCast_inj, map_int_inj, map_nil_iff, List.cons.injEq, exists_eq_left, exists_eq_left', exists_eq, exists_eq', exists_and_left, exists_and_right, exists_const, and_assoc, and_true, true_and, and_false, false_and, or_false, false_or, or_true, true_or, ite_true, ite_false, if_true, if_false, Bool.false_eq_true, own_cons, own_nil, le1, le2, le3, le4, me_cons, me_nil, List.length_map, List.length_cons, List.length_nil, ne_eq, not_false_eq_true, not_true_eq_false, decide_eq_true_eq, sp_need_box, sp_need_number]
    have mm := mx_mem 0 b
    have ml : b.foldl max 0 ≤ (m : Int) := by
      rcases List.mem_cons.mp mm with h | h
      · rw [h]
        omega
      · exact hxm _ h
    refine ⟨b, ht, hb, fun H1 s1 => ⟨by omega, by omega, by omega, by omega, by omega, by omega, by omega, by omega, b.map V.int, .inr (s1 _ _ ht), ?_⟩⟩
    rw [List.length_map, if_neg (by omega)]
    refine ⟨b.map V.int, .inl (sqT_of (s1 _ _ ht)), by rw [List.length_map]; exact Nat.le_trans (Nat.succ_le_succ hb.1) (by decide), fun p1 np1 => ⟨0 :: b, sqL_of upd_same, by simp, fun mx h1 h2 => ?_⟩⟩
    obtain rfl : mx = b.foldl max 0 := mx_of h1 h2
    rw [if_neg (by omega)]
    have s2 := s1.trans (same_upd (o := HO.lst (V.int 0 :: b.map V.int)) np1)
    refine ⟨by decide, fun p2 np2 => ?_⟩
    have s3 := s2.trans (same_upd (o := HO.tup [V.int (m : Nat)]) np2)
    refine ⟨b.map V.int, .inr (s3 _ _ ht), ?_⟩
    rw [List.length_map]
    refine ⟨by omega, by omega, fun p3 H3 s4 e4 => ?_⟩
    have s5 := s3.trans s4
    refine ⟨b.map V.int, .inr ⟨sqT_of (s5 _ _ ht), ?_⟩⟩
    have hlb := hb.1
    refine lc_filtI (ns := b.reverse) (by rw [List.map_reverse]; exact gives_revT) (fun _ => true) (fun x => (m : Int) - x) (by rw [List.length_reverse]; omega) (fun H' s => s _ _ (s5 _ _ ht)) (fun x => rfl) (fun x H' hx s Q' q => q _ (Same.refl _)) (fun x H' hx _ s Q' q => ?_) (fun l H4 hl s6 e6 => ?_)
    · simp only [ap_seq, ap_next, ap_asg, ap_gName, ap_ret, ap_retN, ap_drop, ap_ifS, ap_break, ap_cont, ap_par, ap_aug, ap_ip, ap_gSub, ap_gTup, ap_gNil, ap_gCons, ap_var, ap_c, ap_op, ap_un, ap_if, ap_test, ap_B, ap_and, ap_or, ap_not, ap_andV, ap_orV, ap_notV, ap_nil, ap_cons, ap_tup, ap_lst, ap_cb, ap_bm, ap_call, ap_chain, ap_rI, ap_rI0, ap_rU, ap_rEq, ap_rNe, ap_revT, ap_sl, ap_part, ap_noPart, ap_ixLI, ap_ixTI, ap_ixLV, ap_ixTV, ap_len, ap_setLI, ap_setLV, ap_appI, ap_appV, ap_tupL, ap_listS, ap_sumLI, ap_sumTI, ap_repLI, ap_intI, ap_intB, ap_eqTI, ap_neTI, ap_eqLI, ap_neLI, ap_isi, ap_for, ap_rng1, ap_rng2, ap_iList, ap_iTup, ap_lc, ap_yes, ap_cut, ap_gTupH, ap_fmt, ap_jsn, ap_jsc, ap_gcd, ap_isqrt, ap_ixL, tyV_l, wipe_nil, wipe_cons, upd_same, ap_iEnT, ap_iEnL, ap_iZipA, ap_all, ap_tupT, ap_attF, ap_makeL, ap_dictKP, ap_neDP, ap_itemsT, ap_zipM, ap_lockE, ap_dget2, ap_dput, ap_dnewT, ap_iValsT, ap_iKeys, ap_sortedDT, ap_dictLT, ap_lenDT, ap_dcT, ap_sortT1, ap_listG, ap_callG, ap_star, ap_extend, ap_max, ap_setOfT, ap_sortedU, ap_sortedTU, ap_repTZ, ap_maxT, ap_revA, ap_att, ap_prop, ap_isO, ap_bin, ap_ne, ap_meth, ap_make, ins_inj, FE_inj, ap_slI, ap_catI, ap_perm, ap_lenO, ap_strO, ap_listO, ap_reprB, ap_iterT, ap_neT, ap_negO, ap_binI, ap_catL, ap_tM1, ap_repTI, ap_popN, ap_par3, ap_catTT, ap_repTA, ap_countT, ap_notInT, ap_repL1, ap_shl, ap_shr, ap_mask, ap_comb, ap_bits, ap_rng3, List.set_cons_zero, List.set_cons_succ, List.getElem?_cons_zero, List.getElem?_cons_succ, List.cons_append, List.nil_append, List.append_nil, Option.some.injEq, V.int.injEq, V.ref.injEq, V.bl.injEq, V.str.injEq, V.ty.injEq, Bool.not_true, Bool.not_false, HO.lst.injEq, HO.tup.injEq, reduceCtorEq, Int.reduceToNat, Int.reduceLT, Int.reduceLE, Nat.reduceAdd, Int.cast_ofNat_Int, gi_c0, gi_c1, gi_c2, gi_c3, Int.natCast_inj, map_int_inj, map_nil_iff, List.cons.injEq, exists_eq_left, exists_eq_left', exists_eq, exists_eq', exists_and_left, exists_and_right, exists_const, and_assoc, and_true, true_and, and_false, false_and, or_false, false_or, or_true, true_or, ite_true, ite_false, if_true, if_false, Bool.false_eq_true, own_cons, own_nil, le1, le2, le3, le4, me_cons, me_nil, List.length_map, List.length_cons, List.length_nil, ne_eq, not_false_eq_true, not_true_eq_false, decide_eq_true_eq]
      exact q _ (Same.refl _)
    · rw [List.filter_eq_self.mpr (fun _ _ => rfl)] at e6
      refine ⟨l, rfl, _, e6, fun l5 n5 => ⟨_, (same_upd n5) _ _ (s6 _ _ e4), b.reverse.map fun x => (m : Int) - x, rfl, ?_, fun r H5 s7 e7 => ?_⟩⟩
      · rw [List.length_replicate, List.length_map, List.length_reverse]
        omega
      have s8 := (s5.trans s6).trans ((same_upd (o := HO.tup ((b.reverse.map fun x => (m : Int) - x).map V.int)) n5).trans s7)
      have er : ((p : Int) - (b.length : Int)).toNat = p - b.length := by omega
      rw [er] at e7
      refine ⟨⟨_, sqT_of e7⟩, ?_⟩
      refine lc_filtI (gives_tupT (xs := (List.replicate (p - b.length) (m : Int) ++ b.reverse.map fun x => (m : Int) - x).map V.int)) (fun x => decide (0 < x)) id (by rw [List.length_append, List.length_replicate, List.length_map, List.length_reverse]; omega) (fun H' s => sqT_of (s _ _ e7)) (fun x => rfl) (fun x H' hx s Q' q => ?_) (fun x H' hx _ s Q' q => ?_) (fun l6 H6 hl6 s9 e9 => ?_)
      · simp only [ap_seq, ap_next, ap_asg, ap_gName, ap_ret, ap_retN, ap_drop, ap_ifS, ap_break, ap_cont, ap_par, ap_aug, ap_ip, ap_gSub, ap_gTup, ap_gNil, ap_gCons, ap_var, ap_c, ap_op, ap_un, ap_if, ap_test, ap_B, ap_and, ap_or, ap_not, ap_andV, ap_orV, ap_notV, ap_nil, ap_cons, ap_tup, ap_lst, ap_cb, ap_bm, ap_call, ap_chain, ap_rI, ap_rI0, ap_rU, ap_rEq, ap_rNe, ap_revT, ap_sl, ap_part, ap_noPart, ap_ixLI, ap_ixTI, ap_ixLV, ap_ixTV, ap_len, ap_setLI, ap_setLV, ap_appI, ap_appV, ap_tupL, ap_listS, ap_sumLI, ap_sumTI, ap_repLI, ap_intI, ap_intB, ap_eqTI, ap_neTI, ap_eqLI, ap_neLI, ap_isi, ap_for, ap_rng1, ap_rng2, ap_iList, ap_iTup, ap_lc, ap_yes, ap_cut, ap_gTupH, ap_fmt, ap_jsn, ap_jsc, ap_gcd, ap_isqrt, ap_ixL, tyV_l, wipe_nil, wipe_cons, upd_same, ap_iEnT, ap_iEnL, ap_iZipA, ap_all, ap_tupT, ap_attF, ap_makeL, ap_dictKP, ap_neDP, ap_itemsT, ap_zipM, ap_lockE, ap_dget2, ap_dput, ap_dnewT, ap_iValsT, ap_iKeys, ap_sortedDT, ap_dictLT, ap_lenDT, ap_dcT, ap_sortT1, ap_listG, ap_callG, ap_star, ap_extend, ap_max, ap_setOfT, ap_sortedU, ap_sortedTU, ap_repTZ, ap_maxT, ap_revA, ap_att, ap_prop, ap_isO, ap_bin, ap_ne, ap_meth, ap_make, ins_inj, FE_inj, ap_slI, ap_catI, ap_perm, ap_lenO, ap_strO, ap_listO, ap_reprB, ap_iterT, ap_neT, ap_negO, ap_binI, ap_catL, ap_tM1, ap_repTI, ap_popN, ap_par3, ap_catTT, ap_repTA, ap_countT, ap_notInT, ap_repL1, ap_shl, ap_shr, ap_mask, ap_comb, ap_bits, ap_rng3, List.set_cons_zero, List.set_cons_succ, List.getElem?_cons_zero, List.getElem?_cons_succ, List.cons_append, List.nil_append, List.append_nil, Option.some.injEq, V.int.injEq, V.ref.injEq, V.bl.injEq, V.str.injEq, V.ty.injEq, Bool.not_true, Bool.not_false, HO.lst.injEq, HO.tup.injEq, reduceCtorEq, Int.reduceToNat, Int.reduceLT, Int.reduceLE, Nat.reduceAdd, Int.cast_ofNat_Int, gi_c0, gi_c1, gi_c2, gi_c3, Int.natCast_inj, map_int_inj, map_nil_iff, List.cons.injEq, exists_eq_left, exists_eq_left', exists_eq, exists_eq', exists_and_left, exists_and_right, exists_const, and_assoc, and_true, true_and, and_false, false_and, or_false, false_or, or_true, true_or, ite_true, ite_false, if_true, if_false, Bool.false_eq_true, own_cons, own_nil, le1, le2, le3, le4, me_cons, me_nil, List.length_map, List.length_cons, List.length_nil, ne_eq, not_false_eq_true, not_true_eq_false, decide_eq_true_eq]
        exact q _ (Same.refl _)
      · simp only [ap_seq, ap_next, ap_asg, ap_gName, ap_ret, ap_retN, ap_drop, ap_ifS, ap_break, ap_cont, ap_par, ap_aug, ap_ip, ap_gSub, ap_gTup, ap_gNil, ap_gCons, ap_var, ap_c, ap_op, ap_un, ap_if, ap_test, ap_B, ap_and, ap_or, ap_not, ap_andV, ap_orV, ap_notV, ap_nil, ap_cons, ap_tup, ap_lst, ap_cb, ap_bm, ap_call, ap_chain, ap_rI, ap_rI0, ap_rU, ap_rEq, ap_rNe, ap_revT, ap_sl, ap_part, ap_noPart, ap_ixLI, ap_ixTI, ap_ixLV, ap_ixTV, ap_len, ap_setLI, ap_setLV, ap_appI, ap_appV, ap_tupL, ap_listS, ap_sumLI, ap_sumTI, ap_repLI, ap_intI, ap_intB, ap_eqTI, ap_neTI, ap_eqLI, ap_neLI, ap_isi, ap_for, ap_rng1, ap_rng2, ap_iList, ap_iTup, ap_lc, ap_yes, ap_cut, ap_gTupH, ap_fmt, ap_jsn, ap_jsc, ap_gcd, ap_isqrt, ap_ixL, tyV_l, wipe_nil, wipe_cons, upd_same, ap_iEnT, ap_iEnL, ap_iZipA, ap_all, ap_tupT, ap_attF, ap_makeL, ap_dictKP, ap_neDP, ap_itemsT, ap_zipM, ap_lockE, ap_dget2, ap_dput, ap_dnewT, ap_iValsT, ap_iKeys, ap_sortedDT, ap_dictLT, ap_lenDT, ap_dcT, ap_sortT1, ap_listG, ap_callG, ap_star, ap_extend, ap_max, ap_setOfT, ap_sortedU, ap_sortedTU, ap_repTZ, ap_maxT, ap_revA, ap_att, ap_prop, ap_isO, ap_bin, ap_ne, ap_meth, ap_make, ins_inj, FE_inj, ap_slI, ap_catI, ap_perm, ap_lenO, ap_strO, ap_listO, ap_reprB, ap_iterT, ap_neT, ap_negO, ap_binI, ap_catL, ap_tM1, ap_repTI, ap_popN, ap_par3, ap_catTT, ap_repTA, ap_countT, ap_notInT, ap_repL1, ap_shl, ap_shr, ap_mask, ap_comb, ap_bits, ap_rng3, List.set_cons_zero, List.set_cons_succ, List.getElem?_cons_zero, List.getElem?_cons_succ, List.cons_append, List.nil_append, List.append_nil, Option.some.injEq, V.int.injEq, V.ref.injEq, V.bl.injEq, V.str.injEq, V.ty.injEq, Bool.not_true, Bool.not_false, HO.lst.injEq, HO.tup.injEq, reduceCtorEq, Int.reduceToNat, Int.reduceLT, Int.reduceLE, Nat.reduceAdd, Int.cast_ofNat_Int, gi_c0, gi_c1, gi_c2, gi_c3, Int.natCast_inj, map_int_inj, map_nil_iff, List.cons.injEq, exists_eq_left, exists_eq_left', exists_eq, exists_eq', exists_and_left, exists_and_right, exists_const, and_assoc, and_true, true_and, and_false, false_and, or_false, false_or, or_true, true_or, ite_true, ite_false, if_true, if_false, Bool.false_eq_true, own_cons, own_nil, le1, le2, le3, le4, me_cons, me_nil, List.length_map, List.length_cons, List.length_nil, ne_eq, not_false_eq_true, not_true_eq_false, decide_eq_true_eq]
        exact q _ (Same.refl _)
      · refine ⟨l6, rfl, _, e9, fun l7 n7 => k _ _ ((s8.trans s9).trans (same_upd n7)) ?_⟩
        rw [upd_same, List.map_id]
        rfl
end
end My

namespace My
/-! boxes turned and left: twice gives the box, and the sums -/
def leftM (b : List Int) (p : Nat) (m : Int) : List Int := (List.replicate (p - b.length) m ++ b.reverse.map fun x => m - x).filter fun x => decide (0 < x)
abbrev cGe (b : List Int) (k : Int) : Nat := (b.filter fun x => decide (k ≤ x)).length
/-- of a falling row the members from k on stand first -/
theorem cge_iff (k : Int) : ∀ (b : List Int), b.Pairwise (fun x y => y ≤ x) → ∀ j (h : j < b.length), k ≤ b[j] ↔ j < cGe b k
  | [], _, j, h => nomatch h
  | x :: l, hp, j, h => by
    obtain ⟨h1, h2⟩ := List.pairwise_cons.mp hp
    by_cases c : k ≤ x
    · have e : cGe (x :: l) k = cGe l k + 1 := by
        show (List.filter _ _).length = _
        rw [List.filter_cons_of_pos (by simpa using c)]
        rfl
      rw [e]
      cases j with
      | zero => simpa using c
      | succ j =>
        rw [List.getElem_cons_succ, cge_iff k l h2 j (by simpa using h)]
        omega
    · have e : cGe (x :: l) k = 0 := by
        show (List.filter _ _).length = _
        rw [List.filter_cons_of_neg (by simpa using c), List.length_eq_zero_iff, List.filter_eq_nil_iff]
        intro y hy
        have := h1 y hy
        simp only [decide_eq_true_eq]
        omega
      rw [e]
      refine ⟨fun hk => absurd hk ?_, fun h => nomatch h⟩
      cases j with
      | zero => simpa using c
      | succ j =>
        rw [List.getElem_cons_succ]
        have := h1 _ (List.getElem_mem (by simpa using h : j < l.length))
        omega
theorem cge_le (b : List Int) (k : Int) : cGe b k ≤ b.length := List.length_filter_le _ _
theorem cge_anti (k l : Int) (h : k ≤ l) : ∀ b : List Int, cGe b l ≤ cGe b k
  | [] => Nat.le_refl _
  | x :: b => by
    have ih := cge_anti k l h b
    show (List.filter _ _).length ≤ (List.filter _ _).length
    rw [List.filter_cons, List.filter_cons]
    by_cases c : l ≤ x
    · rw [if_pos (by simpa using c), if_pos (by simp only [decide_eq_true_eq]; omega)]
      exact Nat.succ_le_succ ih
    · rw [if_neg (by simpa using c)]
      split
      · exact Nat.le_succ_of_le ih
      · exact ih
theorem mxg (a : Int) : ∀ b : List Int, a ≤ b.foldl max a ∧ ∀ x ∈ b, x ≤ b.foldl max a
  | [] => ⟨Int.le_refl _, fun _ h => nomatch h⟩
  | y :: b => by
    obtain ⟨h1, h2⟩ := mxg (max a y) b
    refine ⟨by rw [List.foldl_cons]; omega, fun x hx => ?_⟩
    rw [List.foldl_cons]
    rcases List.mem_cons.mp hx with rfl | hx
    · omega
    · exact h2 x hx
theorem mxm (a : Int) : ∀ b : List Int, b.foldl max a ∈ a :: b
  | [] => List.mem_cons_self
  | y :: b => by
    rw [List.foldl_cons]
    rcases List.mem_cons.mp (mxm (max a y) b) with h | h
    · rw [h]
      rcases Int.le_total a y with c | c
      · rw [Int.max_eq_right c]
        exact List.mem_cons_of_mem _ List.mem_cons_self
      · rw [Int.max_eq_left c]
        exact List.mem_cons_self
    · exact List.mem_cons_of_mem _ (List.mem_cons_of_mem _ h)
/-- a box -/
structure Bx (b : List Int) : Prop where
  len : b.length ≤ 40
  mem : ∀ x ∈ b, 1 ≤ x ∧ x ≤ 40
  fall : b.Pairwise (fun x y => y ≤ x)
theorem mx_eq {b : List Int} {M : Int} (h : M ∈ (0 : Int) :: b) (g : ∀ x ∈ (0 : Int) :: b, x ≤ M) : b.foldl max 0 = M := by
  have a := g _ (mxm 0 b)
  obtain ⟨g1, g2⟩ := mxg 0 b
  rcases List.mem_cons.mp h with rfl | h
  · omega
  · have := g2 M h
    omega
theorem turn_get {b : List Int} {i : Nat} (h : i < (turnL b).length) : (turnL b)[i] = ((cGe b ((i : Int) + 1) : Nat) : Int) := by
  have h' : i < ((List.range (b.foldl max 0).toNat).map fun (i : Nat) => ((cGe b ((i : Int) + 1) : Nat) : Int)).length := h
  show ((List.range (b.foldl max 0).toNat).map fun (i : Nat) => ((cGe b ((i : Int) + 1) : Nat) : Int))[i] = _
  rw [List.getElem_map, List.getElem_range]
theorem turn_len (b : List Int) : (turnL b).length = (b.foldl max 0).toNat := by
  unfold turnL
  rw [List.length_map, List.length_range]
theorem cge_pos {b : List Int} {k : Int} (h : ∃ x ∈ b, k ≤ x) : 1 ≤ cGe b k := by
  obtain ⟨x, hx, hk⟩ := h
  exact List.length_pos_of_mem (List.mem_filter.mpr ⟨hx, by simpa using hk⟩)
theorem bx_max {b : List Int} (hb : Bx b) : 0 ≤ b.foldl max 0 ∧ b.foldl max 0 ≤ 40 := by
  refine ⟨(mxg 0 b).1, ?_⟩
  rcases List.mem_cons.mp (mxm 0 b) with h | h
  · rw [h]
    decide
  · exact (hb.mem _ h).2
theorem turn_bx {b : List Int} (hb : Bx b) : Bx (turnL b) := by
  have hm := bx_max hb
  refine ⟨by rw [turn_len]; omega, fun x hx => ?_, List.pairwise_iff_getElem.mpr fun i j hi hj lt => ?_⟩
  · obtain ⟨i, hi, rfl⟩ := List.mem_iff_getElem.mp hx
    rw [turn_get hi]
    rw [turn_len] at hi
    have h1 := cge_le b ((i : Int) + 1)
    have h2 := hb.len
    have h3 : 1 ≤ cGe b ((i : Int) + 1) := by
      refine cge_pos ?_
      rcases List.mem_cons.mp (mxm 0 b) with h | h
      · omega
      · exact ⟨_, h, by omega⟩
    omega
  · rw [turn_get hi, turn_get hj]
    have := cge_anti ((i : Int) + 1) ((j : Int) + 1) (by omega) b
    omega
/-- how many numbers below n have i + 1 ≤ x -/
theorem cnt_to (x : Int) : ∀ n : Nat, 0 ≤ x → ((List.range n).filter fun i => decide (((i : Nat) : Int) + 1 ≤ x)).length = min n x.toNat
  | 0, _ => by simp
  | n + 1, h => by
    rw [List.range_succ, List.filter_append, List.length_append, cnt_to x n h]
    by_cases c : ((n : Nat) : Int) + 1 ≤ x
    · rw [List.filter_cons_of_pos (by simpa using c)]
      simp
      omega
    · rw [List.filter_cons_of_neg (by simpa using c)]
      simp
      omega
theorem turn_max {b : List Int} (hb : Bx b) : (turnL b).foldl max 0 = (b.length : Int) := by
  by_cases h : b = []
  · subst h
    rfl
  · have hl : 0 < b.length := List.length_pos_iff.mpr h
    have hm := bx_max hb
    have m1 : 1 ≤ b.foldl max 0 := by
      have h1 := (hb.mem _ (List.getElem_mem hl)).1
      have h2 := (mxg 0 b).2 _ (List.getElem_mem hl)
      omega
    have h0 : 0 < (turnL b).length := by rw [turn_len]; omega
    refine mx_eq (List.mem_cons_of_mem _ ?_) fun x hx => ?_
    · have e : (turnL b)[0] = (b.length : Int) := by
        rw [turn_get h0]
        have : cGe b (((0 : Nat) : Int) + 1) = b.length := by
          show (List.filter _ _).length = _
          rw [List.filter_eq_self.mpr]
          intro x hx
          have := (hb.mem x hx).1
          simp only [decide_eq_true_eq]
          omega
        rw [this]
      rw [← e]
      exact List.getElem_mem h0
    · rcases List.mem_cons.mp hx with rfl | hx
      · omega
      · obtain ⟨i, hi, rfl⟩ := List.mem_iff_getElem.mp hx
        rw [turn_get hi]
        have := cge_le b ((i : Int) + 1)
        omega
theorem turn_turn {b : List Int} (hb : Bx b) : turnL (turnL b) = b := by
  have hm := bx_max hb
  refine List.ext_getElem (by rw [turn_len, turn_max hb]; omega) fun j h1 h2 => ?_
  rw [turn_get h1]
  have e : cGe (turnL b) ((j : Int) + 1) = ((List.range (b.foldl max 0).toNat).filter fun i => decide (((i : Nat) : Int) + 1 ≤ b[j])).length := by
    show (List.filter _ (List.map _ _)).length = _
    rw [List.filter_map, List.length_map]
    congr 1
    refine List.filter_congr fun i hi => ?_
    show decide _ = decide _
    refine decide_eq_decide.mpr ?_
    have := cge_iff ((i : Int) + 1) b hb.fall j h2
    show ((j : Int) + 1 ≤ ((cGe b ((i : Int) + 1) : Nat) : Int)) ↔ _
    omega
  have h3 := (hb.mem _ (List.getElem_mem h2)).1
  have h4 := (mxg 0 b).2 _ (List.getElem_mem h2)
  rw [e, cnt_to _ _ (by omega)]
  omega
theorem sum_cge : ∀ (b : List Int) (M : Nat), (∀ x ∈ b, 0 ≤ x ∧ x ≤ M) → ((List.range M).map fun i => ((cGe b (((i : Nat) : Int) + 1) : Nat) : Int)).sum = b.sum
  | [], M, _ => by
    have : ((List.range M).map fun i => ((cGe [] (((i : Nat) : Int) + 1) : Nat) : Int)) = List.replicate M 0 := by
      refine List.ext_getElem (by simp) fun i h1 h2 => ?_
      rw [List.getElem_map, List.getElem_replicate]
      rfl
    rw [this, List.sum_replicate_int]
    simp
  | x :: b, M, h => by
    have hx := h x List.mem_cons_self
    have e : ∀ k : Int, ((cGe (x :: b) k : Nat) : Int) = (if k ≤ x then 1 else 0) + ((cGe b k : Nat) : Int) := fun k => by
      show (((List.filter _ _).length : Nat) : Int) = _
      rw [List.filter_cons]
      show _ = _ + ((List.length (List.filter _ b) : Nat) : Int)
      by_cases c : k ≤ x
      · rw [if_pos (by simpa using c), if_pos c]
        show (((List.length _ + 1 : Nat)) : Int) = _
        omega
      · rw [if_neg (by simpa using c), if_neg c]
        omega
    have s1 : ∀ (n : Nat) (f g : Nat → Int), ((List.range n).map fun i => f i + g i).sum = ((List.range n).map f).sum + ((List.range n).map g).sum := fun n f g => by
      induction n with
      | zero => rfl
      | succ n ih =>
        simp only [List.range_succ, List.map_append, List.sum_append, List.map_cons, List.map_nil, List.sum_cons, List.sum_nil, ih]
        omega
    have s2 : ∀ n : Nat, ((List.range n).map fun i => if ((i : Nat) : Int) + 1 ≤ x then (1 : Int) else 0).sum = ((min n x.toNat : Nat) : Int) := fun n => by
      induction n with
      | zero => simp
      | succ n ih =>
        simp only [List.range_succ, List.map_append, List.sum_append, List.map_cons, List.map_nil, List.sum_cons, List.sum_nil, ih]
        split <;> omega
    simp only [e]
    rw [s1, s2, sum_cge b M (fun y hy => h y (List.mem_cons_of_mem _ hy)), List.sum_cons]
    omega
theorem turn_sum {b : List Int} (hb : Bx b) : (turnL b).sum = b.sum := by
  have hm := bx_max hb
  refine sum_cge b _ fun x hx => ?_
  have h3 := (hb.mem x hx).1
  have h4 := (mxg 0 b).2 x hx
  omega
/-! what is left of a rectangle -/
/-- the box filled up by nothings -/
def extL (b : List Int) (p : Nat) : List Int := b ++ List.replicate (p - b.length) 0
theorem left_ext (b : List Int) (p : Nat) (m : Int) : leftM b p m = ((extL b p).reverse.map fun x => m - x).filter fun x => decide (0 < x) := by
  unfold leftM extL
  rw [List.reverse_append, List.map_append, List.reverse_replicate, List.map_replicate, Int.sub_zero]
theorem left_due (b : List Int) (p : Nat) (m : Int) : ((extL b p).reverse.filter fun x => decide (x < m)).map (fun x => m - x) = leftM b p m := by
  rw [left_ext, List.filter_map]
  congr 1
  refine List.filter_congr fun x _ => ?_
  show decide _ = decide _
  refine decide_eq_decide.mpr ?_
  show x < m ↔ 0 < m - x
  omega
theorem ext_len {b : List Int} {p : Nat} (h : b.length ≤ p) : (extL b p).length = p := by
  unfold extL
  rw [List.length_append, List.length_replicate]
  omega
theorem left_sum {b : List Int} {p : Nat} {m : Int} (h : b.length ≤ p) (hm : ∀ x ∈ b, x ≤ m) (m0 : 0 ≤ m) : (leftM b p m).sum = p * m - b.sum := by
  have f : ∀ l : List Int, (∀ x ∈ l, 0 ≤ x) → (l.filter fun x => decide (0 < x)).sum = l.sum := fun l => by
    induction l with
    | nil => exact fun _ => rfl
    | cons x l ih =>
      intro h
      rw [List.filter_cons]
      have h0 := h x List.mem_cons_self
      have i1 := ih fun y hy => h y (List.mem_cons_of_mem _ hy)
      split
      · rw [List.sum_cons, List.sum_cons, i1]
      · rename_i c
        simp only [decide_eq_true_eq] at c
        rw [List.sum_cons, i1]
        omega
  have g : ∀ l : List Int, (l.map fun x => m - x).sum = l.length * m - l.sum := fun l => by
    induction l with
    | nil => simp
    | cons x l ih =>
      rw [List.map_cons, List.sum_cons, ih, List.sum_cons, List.length_cons]
      have e : ((l.length + 1 : Nat) : Int) * m = l.length * m + m := by
        rw [Int.natCast_add, Int.add_mul]
        simp
      omega
  have r : (extL b p).reverse.sum = b.sum := by
    rw [List.sum_reverse]
    unfold extL
    rw [List.sum_append, List.sum_replicate_int]
    simp
  unfold leftM
  rw [f]
  · have := left_ext b p m
    have e2 : List.replicate (p - b.length) m ++ b.reverse.map (fun x => m - x) = (extL b p).reverse.map fun x => m - x := by
      unfold extL
      rw [List.reverse_append, List.map_append, List.reverse_replicate, List.map_replicate, Int.sub_zero]
    rw [e2, g, List.length_reverse, ext_len h, r]
  · intro x hx
    rcases List.mem_append.mp hx with hx | hx
    · rw [List.eq_of_mem_replicate hx]
      exact m0
    · obtain ⟨y, hy, rfl⟩ := List.mem_map.mp hx
      have := hm y (List.mem_reverse.mp hy)
      omega
theorem ext_fall {b : List Int} {p : Nat} (hb : Bx b) : (extL b p).Pairwise (fun x y => y ≤ x) := by
  refine List.pairwise_append.mpr ⟨hb.fall, ?_, fun x hx y hy => ?_⟩
  · rw [List.pairwise_iff_getElem]
    intro i j hi hj lt
    rw [List.getElem_replicate, List.getElem_replicate]
    exact Int.le_refl _
  · rw [List.eq_of_mem_replicate hy]
    have := (hb.mem x hx).1
    omega
theorem left_bx {b : List Int} {p m : Nat} (hb : Bx b) (h : b.length ≤ p) (hp : p ≤ 40) (hm : m ≤ 40) (hx : ∀ x ∈ b, x ≤ (m : Int)) : Bx (leftM b p m) ∧ (leftM b p m).length ≤ p ∧ ∀ x ∈ leftM b p m, x ≤ (m : Int) := by
  have e := left_ext b p m
  have hl : (leftM b p m).length ≤ p := by
    rw [e]
    refine Nat.le_trans (List.length_filter_le _ _) ?_
    rw [List.length_map, List.length_reverse, ext_len h]
    exact Nat.le_refl _
  have hmem : ∀ x ∈ leftM b p m, 1 ≤ x ∧ x ≤ (m : Int) := fun x hx' => by
    rw [e] at hx'
    obtain ⟨h1, h2⟩ := List.mem_filter.mp hx'
    obtain ⟨y, hy, rfl⟩ := List.mem_map.mp h1
    have h3 : 0 < (m : Int) - y := by simpa using h2
    have h0 : 0 ≤ y := by
      rcases List.mem_append.mp (List.mem_reverse.mp hy) with hy | hy
      · have := (hb.mem y hy).1
        omega
      · rw [List.eq_of_mem_replicate hy]
        exact Int.le_refl _
    omega
  refine ⟨⟨by omega, fun x hx' => ⟨(hmem x hx').1, by have := (hmem x hx').2; omega⟩, ?_⟩, hl, fun x hx' => (hmem x hx').2⟩
  rw [e]
  refine List.Pairwise.filter _ ?_
  rw [List.pairwise_map, List.pairwise_reverse]
  exact (ext_fall hb).imp fun {x y} h => by omega
theorem left_left {b : List Int} {p m : Nat} (hb : Bx b) (h : b.length ≤ p) (hx : ∀ x ∈ b, x ≤ (m : Int)) : leftM (leftM b p m) p m = b := by
  have h0 : ∀ x ∈ extL b p, x ≤ (m : Int) := fun x hx' => by
    rcases List.mem_append.mp hx' with h' | h'
    · exact hx x h'
    · rw [List.eq_of_mem_replicate h']
      omega
  have split : ∀ l : List Int, l.Pairwise (fun x y => y ≤ x) → (∀ x ∈ l, x ≤ (m : Int)) → List.replicate (l.length - (l.filter fun x => decide (x < (m : Int))).length) (m : Int) ++ (l.filter fun x => decide (x < (m : Int))) = l := fun l => by
    induction l with
    | nil => exact fun _ _ => rfl
    | cons x l ih =>
      intro hp hx
      obtain ⟨h1, h2⟩ := List.pairwise_cons.mp hp
      have i1 := ih h2 fun y hy => hx y (List.mem_cons_of_mem _ hy)
      have xm := hx x List.mem_cons_self
      by_cases c : x < (m : Int)
      · have ef : (x :: l).filter (fun x => decide (x < (m : Int))) = x :: l := by
          refine List.filter_eq_self.mpr fun y hy => ?_
          rcases List.mem_cons.mp hy with rfl | hy
          · simpa using c
          · have := h1 y hy
            simp only [decide_eq_true_eq]
            omega
        rw [ef, Nat.sub_self]
        rfl
      · obtain rfl : x = (m : Int) := by omega
        rw [List.filter_cons_of_neg (by simp)]
        have hl := List.length_filter_le (fun x => decide (x < (m : Int))) l
        rw [List.length_cons, Nat.succ_sub hl, List.replicate_succ, List.cons_append, i1]
  have e : leftM b p m = ((extL b p).reverse.filter fun x => decide (x < (m : Int))).map fun x => (m : Int) - x := (left_due b p m).symm
  have hl : (leftM b p m).length = ((extL b p).filter fun x => decide (x < (m : Int))).length := by
    rw [e, List.length_map, List.filter_reverse, List.length_reverse]
  have er : (leftM b p m).reverse.map (fun x => (m : Int) - x) = (extL b p).filter fun x => decide (x < (m : Int)) := by
    rw [e, List.filter_reverse, ← List.map_reverse, List.reverse_reverse, List.map_map]
    have : ((fun x => (m : Int) - x) ∘ fun x => (m : Int) - x) = id := by
      funext x
      show (m : Int) - ((m : Int) - x) = x
      omega
    rw [this, List.map_id]
  have s := split (extL b p) (ext_fall hb) h0
  rw [ext_len h] at s
  show (List.replicate (p - (leftM b p m).length) (m : Int) ++ (leftM b p m).reverse.map fun x => (m : Int) - x).filter _ = b
  rw [hl, er, s]
  unfold extL
  rw [List.filter_append, List.filter_eq_self.mpr, List.filter_eq_nil_iff.mpr, List.append_nil]
  · intro x hx'
    rw [List.eq_of_mem_replicate hx']
    simp
  · intro x hx'
    have := (hb.mem x hx').1
    simp only [decide_eq_true_eq]
    omega
end My

namespace My
open PySem PySem.Spec PyProof.Rows L2 Pr M26
section
variable {P : Program} {w : World} {K : PySem.W.Frag} {mg : Str → Option Value} {base : Heap}
theorem bx_of {b : List Int} (h : BoxV b) : Bx b := ⟨h.1, h.2.1, h.2.2⟩
theorem of_bx {b : List Int} (h : Bx b) : BoxV b := ⟨h.len, h.mem, h.fall⟩
/-- the weight of the exponents -/
def weiL (ns : List Int) : Int := ((List.range ns.length).map fun i => ((i : Nat) : Int) * ns.getD i 0).sum
def sp_weight_of : Sp := fun vs H Q _ => ∃ (t : Addr) (ns : List Int), vs = [.ref t] ∧ H t = some (TI ns) ∧ ns.length ≤ 9 ∧ ∀ H', Same H H' → Q (.int (weiL ns)) H'
theorem ok_weight_of (T : Tx K mg) : FnOk P w K mg base CX0 1 T.f_weight_of T.d_weight_of p_weight_of sp_weight_of := by
  refine T.F_weight_of.ok sc_weight_of (fun vs H Q E h => ?_) (fun cdv A outer s H vs Q E hr h => ?_)
  · obtain ⟨t, ns, rfl, _⟩ := h
    rfl
  · obtain ⟨t, ns, rfl, ht, hl, k⟩ := h
    refine ⟨_, (pss_one (ps_ret (pe_callB (cr_sumLI rfl) (by rfl) T.z_sum (by decide +kernel) (pa_cons (pe_lc (own := [("index", 1), ("often", 2)]) (tt := tYes) rfl sc_weight_of.nd (pi_enT (by rfl) T.z_enumerate (pa_cons (pv 0) pa_nil)) (blkOk_by (N := n_weight_of) (sc := defScope s_weight_of) (by decide +kernel)) (fun _ _ _ _ _ => (pg_tupH (n := 2) (by rfl) (pgs_cons (pg_name (i := 1) sc_weight_of.nd rfl (by first | exact .inl rfl | exact .inr rfl)) (pgs_cons (pg_name (i := 2) sc_weight_of.nd rfl (by first | exact .inl rfl | exact .inr rfl)) pgs_nil)))) (fun _ _ _ _ _ => pts_nil) (fun _ _ _ _ _ => (pe_op op_mul (pv 1) (pv 2)))) pa_nil)))), ?_⟩
    rw [st_weight_of]
    simp only [ap_seq, ap_next, ap_asg, ap_gName, ap_ret, ap_retN, ap_drop, ap_ifS, ap_break, ap_cont, ap_par, ap_aug, ap_ip, ap_gSub, ap_gTup, ap_gNil, ap_gCons, ap_var, ap_c, ap_op, ap_un, ap_if, ap_test, ap_B, ap_and, ap_or, ap_not, ap_andV, ap_orV, ap_notV, ap_nil, ap_cons, ap_tup, ap_lst, ap_cb, ap_bm, ap_call, ap_chain, ap_rI, ap_rI0, ap_rU, ap_rEq, ap_rNe, ap_revT, ap_sl, ap_part, ap_noPart, ap_ixLI, ap_ixTI, ap_ixLV, ap_ixTV, ap_len, ap_setLI, ap_setLV, ap_appI, ap_appV, ap_tupL, ap_listS, ap_sumLI, ap_sumTI, ap_repLI, ap_intI, ap_intB, ap_eqTI, ap_neTI, ap_eqLI, ap_neLI, ap_isi, ap_for, ap_rng1, ap_rng2, ap_iList, ap_iTup, ap_lc, ap_yes, ap_cut, ap_gTupH, ap_fmt, ap_jsn, ap_jsc, ap_gcd, ap_isqrt, ap_ixL, tyV_l, wipe_nil, wipe_cons, upd_same, ap_iEnT, ap_iEnL, ap_iZipA, ap_all, ap_tupT, ap_attF, ap_makeL, ap_dictKP, ap_neDP, ap_itemsT, ap_zipM, ap_lockE, ap_dget2, ap_dput, ap_dnewT, ap_iValsT, ap_iKeys, ap_sortedDT, ap_dictLT, ap_lenDT, ap_dcT, ap_sortT1, ap_listG, ap_callG, ap_star, ap_extend, ap_max, ap_setOfT, ap_sortedU, ap_sortedTU, ap_repTZ, ap_maxT, ap_revA, ap_att, ap_prop, ap_isO, ap_bin, ap_ne, ap_meth, ap_make, ins_inj, FE_inj, ap_slI, ap_catI, ap_perm, ap_lenO, ap_strO, ap_listO, ap_reprB, ap_iterT, ap_neT, ap_negO, ap_binI, ap_catL, ap_tM1, ap_repTI, ap_popN, ap_par3, ap_catTT, ap_repTA, ap_countT, ap_notInT, ap_repL1, ap_shl, ap_shr, ap_mask, ap_comb, ap_bits, ap_rng3, List.set_cons_zero, List.set_cons_succ, List.getElem?_cons_zero, List.getElem?_cons_succ, List.cons_append, List.nil_append, List.append_nil, Option.some.injEq, V.int.injEq, V.ref.injEq, V.bl.injEq, V.str.injEq, V.ty.injEq, Bool.not_true, Bool.not_false, HO.lst.injEq, HO.tup.injEq, reduceCtorEq, Int.reduceToNat, Int.reduceLT, Int.reduceLE, Nat.reduceAdd, Int.cast_ofNat_Int, gi_c0, gi_c1, gi_c2, gi_c3, Int.natCast_inj, map_int_inj, map_nil_iff, List.cons.injEq, exists_eq_left, exists_eq_left', exists_eq, exists_eq', exists_and_left, exists_and_right, exists_const, and_assoc, and_true, true_and, and_false, false_and, or_false, false_or, or_true, true_or, ite_true, ite_false, if_true, if_false, Bool.false_eq_true, own_cons, own_nil, le1, le2, le3, le4, me_cons, me_nil, List.length_map, List.length_cons, List.length_nil, ne_eq, not_false_eq_true, not_true_eq_false, decide_eq_true_eq]
    refine ⟨⟨_, sqT_of ht⟩, ?_⟩
    have hlen : (ns.map V.int).length = ns.length := List.length_map ..
    refine lc_pairI (gives_en (xs := ns.map V.int)) (fun i => ((i : Nat) : Int) * ns.getD i 0) (by rw [hlen]; omega) (fun H' s => s _ _ ht) (fun x y => rfl) (fun i a b H' hi hR s Q' q => ?_) (fun l H' hl' s e => ⟨l, rfl, _, e, ?_⟩)
    · obtain ⟨rfl, eb⟩ := hR
      rw [List.getElem?_map] at eb
      rw [hlen] at hi
      rw [List.getElem?_eq_getElem hi] at eb
      obtain rfl := (Option.some.inj eb).symm
      have eg : ns.getD i 0 = ns[i] := by rw [List.getD_eq_getElem?_getD, List.getElem?_eq_getElem hi]; rfl
      simp only [ap_seq, ap_next, ap_asg, ap_gName, ap_ret, ap_retN, ap_drop, ap_ifS, ap_break, ap_cont, ap_par, ap_aug, ap_ip, ap_gSub, ap_gTup, ap_gNil, ap_gCons, ap_var, ap_c, ap_op, ap_un, ap_if, ap_test, ap_B, ap_and, ap_or, ap_not, ap_andV, ap_orV, ap_notV, ap_nil, ap_cons, ap_tup, ap_lst, ap_cb, ap_bm, ap_call, ap_chain, ap_rI, ap_rI0, ap_rU, ap_rEq, ap_rNe, ap_revT, ap_sl, ap_part, ap_noPart, ap_ixLI, ap_ixTI, ap_ixLV, ap_ixTV, ap_len, ap_setLI, ap_setLV, ap_appI, ap_appV, ap_tupL, ap_listS, ap_sumLI, ap_sumTI, ap_repLI, ap_intI, ap_intB, ap_eqTI, ap_neTI, ap_eqLI, ap_neLI, ap_isi, ap_for, ap_rng1, ap_rng2, ap_iList, ap_iTup, ap_lc, ap_yes, ap_cut, ap_gTupH, ap_fmt, ap_jsn, ap_jsc, ap_gcd, ap_isqrt, ap_ixL, tyV_l, wipe_nil, wipe_cons, upd_same, ap_iEnT, ap_iEnL, ap_iZipA, ap_all, ap_tupT, ap_attF, ap_makeL, ap_dictKP, ap_neDP, ap_itemsT, ap_zipM, ap_lockE, ap_dget2, ap_dput, ap_dnewT, ap_iValsT, ap_iKeys, ap_sortedDT, ap_dictLT, ap_lenDT, ap_dcT, ap_sortT1, ap_listG, ap_callG, ap_star, ap_extend, ap_max, ap_setOfT, ap_sortedU, ap_sortedTU, ap_repTZ, ap_maxT, ap_revA, ap_att, ap_prop, ap_isO, ap_bin, ap_ne, ap_meth, ap_make, ins_inj, FE_inj, ap_slI, ap_catI, ap_perm, ap_lenO, ap_strO, ap_listO, ap_reprB, ap_iterT, ap_neT, ap_negO, ap_binI, ap_catL, ap_tM1, ap_repTI, ap_popN, ap_par3, ap_catTT, ap_repTA, ap_countT, ap_notInT, ap_repL1, ap_shl, ap_shr, ap_mask, ap_comb, ap_bits, ap_rng3, List.set_cons_zero, List.set_cons_succ, List.getElem?_cons_zero, List.getElem?_cons_succ, List.cons_append, List.nil_append, List.append_nil, Option.some.injEq, V.int.injEq, V.ref.injEq, V.bl.injEq, V.str.injEq, V.ty.injEq, Bool.not_true, Bool.not_false, HO.lst.injEq, HO.tup.injEq, reduceCtorEq, Int.reduceToNat, Int.reduceLT, Int.reduceLE, Nat.reduceAdd, Int.cast_ofNat_Int, gi_c0, gi_c1, gi_c2, gi_c3, Int.natCast_inj, map_int_inj, map_nil_iff, List.cons.injEq, exists_eq_left, exists_eq_left', exists_eq, exists_eq', exists_and_left, exists_and_right, exists_const, and_assoc, and_true, true_and, and_false, false_and, or_false, false_or, or_true, true_or, ite_true, ite_false, if_true, if_false, Bool.false_eq_true, own_cons, own_nil, le1, le2, le3, le4, me_cons, me_nil, List.length_map, List.length_cons, List.length_nil, ne_eq, not_false_eq_true, not_true_eq_false, decide_eq_true_eq]
      refine ⟨.inl ⟨by omega, by omega⟩, ?_⟩
      rw [eg] at q
      exact q _ (Same.refl _)
    · rw [hlen]
      exact k _ s
/-- a dict of exponents is told by l, in the order of its making -/
def sp_first_of : Sp := fun vs H Q _ => ∃ (a : Addr) (l : List (List Int × Int)), vs = [.ref a] ∧ H a = some (.dT (dtOf l)) ∧ (l = [] → Q .non H) ∧ ∀ q m t, l = q :: m → H t = some (TI q.1) → Q (.ref t) H
theorem ok_first_of (T : Tx K mg) : FnOk P w K mg base CX0 1 T.f_first_of T.d_first_of p_first_of sp_first_of := by
  refine T.F_first_of.ok sc_first_of (fun vs H Q E h => ?_) (fun cdv A outer s H vs Q E hr h => ?_)
  · obtain ⟨t, ns, rfl, _⟩ := h
    rfl
  · obtain ⟨a, l, rfl, ha, k0, k1⟩ := h
    refine ⟨_, (pss_cons (ps_lock (ps_for PassesOwn.never rfl (pi_keys (pv 0)) (pg_name (i := 1) sc_first_of.nd rfl (by first | exact .inl rfl | exact .inr rfl))
      (pss_one (ps_ret (pv 1)))))
      (pss_one (ps_ret pe_non))), ?_⟩
    rw [st_first_of]
    simp only [ap_seq, ap_next, ap_asg, ap_gName, ap_ret, ap_retN, ap_drop, ap_ifS, ap_break, ap_cont, ap_par, ap_aug, ap_ip, ap_gSub, ap_gTup, ap_gNil, ap_gCons, ap_var, ap_c, ap_op, ap_un, ap_if, ap_test, ap_B, ap_and, ap_or, ap_not, ap_andV, ap_orV, ap_notV, ap_nil, ap_cons, ap_tup, ap_lst, ap_cb, ap_bm, ap_call, ap_chain, ap_rI, ap_rI0, ap_rU, ap_rEq, ap_rNe, ap_revT, ap_sl, ap_part, ap_noPart, ap_ixLI, ap_ixTI, ap_ixLV, ap_ixTV, ap_len, ap_setLI, ap_setLV, ap_appI, ap_appV, ap_tupL, ap_listS, ap_sumLI, ap_sumTI, ap_repLI, ap_intI, ap_intB, ap_eqTI, ap_neTI, ap_eqLI, ap_neLI, ap_isi, ap_for, ap_rng1, ap_rng2, ap_iList, ap_iTup, ap_lc, ap_yes, ap_cut, ap_gTupH, ap_fmt, ap_jsn, ap_jsc, ap_gcd, ap_isqrt, ap_ixL, tyV_l, wipe_nil, wipe_cons, upd_same, ap_iEnT, ap_iEnL, ap_iZipA, ap_all, ap_tupT, ap_attF, ap_makeL, ap_dictKP, ap_neDP, ap_itemsT, ap_zipM, ap_lockE, ap_dget2, ap_dput, ap_dnewT, ap_iValsT, ap_iKeys, ap_sortedDT, ap_dictLT, ap_lenDT, ap_dcT, ap_sortT1, ap_listG, ap_callG, ap_star, ap_extend, ap_max, ap_setOfT, ap_sortedU, ap_sortedTU, ap_repTZ, ap_maxT, ap_revA, ap_att, ap_prop, ap_isO, ap_bin, ap_ne, ap_meth, ap_make, ins_inj, FE_inj, ap_slI, ap_catI, ap_perm, ap_lenO, ap_strO, ap_listO, ap_reprB, ap_iterT, ap_neT, ap_negO, ap_binI, ap_catL, ap_tM1, ap_repTI, ap_popN, ap_par3, ap_catTT, ap_repTA, ap_countT, ap_notInT, ap_repL1, ap_shl, ap_shr, ap_mask, ap_comb, ap_bits, ap_rng3, List.set_cons_zero, List.set_cons_succ, List.getElem?_cons_zero, List.getElem?_cons_succ, List.cons_append, List.nil_append, List.append_nil, Option.some.injEq, V.int.injEq, V.ref.injEq, V.bl.injEq, V.str.injEq, V.ty.injEq, Bool.not_true, Bool.not_false, HO.lst.injEq, HO.tup.injEq, reduceCtorEq, Int.reduceToNat, Int.reduceLT, Int.reduceLE, Nat.reduceAdd, Int.cast_ofNat_Int, gi_c0, gi_c1, gi_c2, gi_c3, Int.natCast_inj, map_int_inj, map_nil_iff, List.cons.injEq, exists_eq_left, exists_eq_left', exists_eq, exists_eq', exists_and_left, exists_and_right, exists_const, and_assoc, and_true, true_and, and_false, false_and, or_false, false_or, or_true, true_or, ite_true, ite_false, if_true, if_false, Bool.false_eq_true, own_cons, own_nil, le1, le2, le3, le4, me_cons, me_nil, List.length_map, List.length_cons, List.length_nil, ne_eq, not_false_eq_true, not_true_eq_false, decide_eq_true_eq, ap_lockS]
    refine ⟨a, _, ha, trivial, fun od => ⟨od, .inr ⟨dtOf l, upd_same, ?_⟩⟩⟩
    have back : upd (upd H a (HO.frz od (.dT (dtOf l)))) a (.dT (dtOf l)) = H := by
      funext b
      by_cases c : b = a
      · rw [c, upd_same, ha]
      · rw [upd_ne c, upd_ne c]
    have hlen : (dtOf l).length = l.length := List.length_map ..
    refine loop_gen (gives_keysT (kvs := dtOf l)) (fun i σ' H' => (∃ y : Option V, σ' = [some (V.ref a), y]) ∧ H' = upd H a (HO.frz od (.dT (dtOf l))) ∧ i = 0) ⟨⟨_, rfl⟩, rfl, rfl⟩ (fun i σ' H' hi hP => by rw [hP.2.1, upd_same]) (fun i v σ' H1 H' hi hP hY => ?_) (fun σ' H' hP => ?_)
    · obtain ⟨⟨y, rfl⟩, rfl, rfl⟩ := hP
      obtain ⟨rfl, kk, x, q, ek, rfl, hq⟩ := hY
      have qa : q ≠ a := fun e => by
        rw [e, upd_same] at hq
        cases hq
      rw [upd_ne qa] at hq
      simp only [ap_seq, ap_next, ap_asg, ap_gName, ap_ret, ap_retN, ap_drop, ap_ifS, ap_break, ap_cont, ap_par, ap_aug, ap_ip, ap_gSub, ap_gTup, ap_gNil, ap_gCons, ap_var, ap_c, ap_op, ap_un, ap_if, ap_test, ap_B, ap_and, ap_or, ap_not, ap_andV, ap_orV, ap_notV, ap_nil, ap_cons, ap_tup, ap_lst, ap_cb, ap_bm, ap_call, ap_chain, ap_rI, ap_rI0, ap_rU, ap_rEq, ap_rNe, ap_revT, ap_sl, ap_part, ap_noPart, ap_ixLI, ap_ixTI, ap_ixLV, ap_ixTV, ap_len, ap_setLI, ap_setLV, ap_appI, ap_appV, ap_tupL, ap_listS, ap_sumLI, ap_sumTI, ap_repLI, ap_intI, ap_intB, ap_eqTI, ap_neTI, ap_eqLI, ap_neLI, ap_isi, ap_for, ap_rng1, ap_rng2, ap_iList, ap_iTup, ap_lc, ap_yes, ap_cut, ap_gTupH, ap_fmt, ap_jsn, ap_jsc, ap_gcd, ap_isqrt, ap_ixL, tyV_l, wipe_nil, wipe_cons, upd_same, ap_iEnT, ap_iEnL, ap_iZipA, ap_all, ap_tupT, ap_attF, ap_makeL, ap_dictKP, ap_neDP, ap_itemsT, ap_zipM, ap_lockE, ap_dget2, ap_dput, ap_dnewT, ap_iValsT, ap_iKeys, ap_sortedDT, ap_dictLT, ap_lenDT, ap_dcT, ap_sortT1, ap_listG, ap_callG, ap_star, ap_extend, ap_max, ap_setOfT, ap_sortedU, ap_sortedTU, ap_repTZ, ap_maxT, ap_revA, ap_att, ap_prop, ap_isO, ap_bin, ap_ne, ap_meth, ap_make, ins_inj, FE_inj, ap_slI, ap_catI, ap_perm, ap_lenO, ap_strO, ap_listO, ap_reprB, ap_iterT, ap_neT, ap_negO, ap_binI, ap_catL, ap_tM1, ap_repTI, ap_popN, ap_par3, ap_catTT, ap_repTA, ap_countT, ap_notInT, ap_repL1, ap_shl, ap_shr, ap_mask, ap_comb, ap_bits, ap_rng3, List.set_cons_zero, List.set_cons_succ, List.getElem?_cons_zero, List.getElem?_cons_succ, List.cons_append, List.nil_append, List.append_nil, Option.some.injEq, V.int.injEq, V.ref.injEq, V.bl.injEq, V.str.injEq, V.ty.injEq, Bool.not_true, Bool.not_false, HO.lst.injEq, HO.tup.injEq, reduceCtorEq, Int.reduceToNat, Int.reduceLT, Int.reduceLE, Nat.reduceAdd, Int.cast_ofNat_Int, gi_c0, gi_c1, gi_c2, gi_c3, Int.natCast_inj, map_int_inj, map_nil_iff, List.cons.injEq, exists_eq_left, exists_eq_left', exists_eq, exists_eq', exists_and_left, exists_and_right, exists_const, and_assoc, and_true, true_and, and_false, false_and, or_false, false_or, or_true, true_or, ite_true, ite_false, if_true, if_false, Bool.false_eq_true, own_cons, own_nil, le1, le2, le3, le4, me_cons, me_nil, List.length_map, List.length_cons, List.length_nil, ne_eq, not_false_eq_true, not_true_eq_false, decide_eq_true_eq]
      cases l with
      | nil => exact absurd ek (by simp [dtOf])
      | cons q0 m =>
        have e1 : (q0.1.map Sum.inl, V.int q0.2) = (kk, x) := Option.some.inj ek
        injection e1 with e2 e3
        rw [← e2, kV_ints] at hq
        rw [back]
        exact k1 q0 m q rfl hq
    · obtain ⟨⟨y, rfl⟩, rfl, e0⟩ := hP
      have e1 : l = [] := List.length_eq_zero_iff.mp (by rw [← hlen]; exact e0)
      refine ⟨upd_same, ?_⟩
      rw [back]
      exact k0 e1
theorem kit_tt : kitB "tuple" "tuple" = some true := by decide +kernel
/-- exponents for the degree n -/
def Ex (n : Nat) (ns : List Int) : Prop := ns.length = n + 1 ∧ (∀ x ∈ ns, 0 ≤ x ∧ x ≤ 12) ∧ ns.sum ≤ 12
def sp_is_row : Sp := fun vs H Q _ => ∃ (t : Addr) (ns : List Int), vs = [.ref t] ∧ H t = some (TI ns) ∧ ns.length ≤ 40 ∧ (∀ x ∈ ns, 0 ≤ x ∧ x ≤ 12) ∧ ∀ H', Same H H' → Q (.bl true) H'
theorem ok_is_row (T : Tx K mg) : FnOk P w K mg base CX0 2 T.f_is_row T.d_is_row p_is_row sp_is_row := by
  refine T.F_is_row.ok sc_is_row (fun vs H Q E h => ?_) (fun cdv A outer s H vs Q E hr h => ?_)
  · obtain ⟨p, ns, rfl, _⟩ := h
    rfl
  · obtain ⟨p, ns, rfl, hp, hl, hn, q⟩ := h
    refine ⟨_, (pss_one (ps_ret (pe_and (pe_callB cr_isiS (by rfl) T.z_isinstance (by decide +kernel) (pa_cons (pv 0) (pa_cons (pe_bltn (v := .ty "tuple") (by rfl) T.z_tuple (by decide +kernel) rfl) pa_nil))) (pe_one (pe_callB (cr_all rfl) (by rfl) T.z_all (by decide +kernel) (pa_cons (pe_lc (own := [("part", 1)]) (g := gName 1) (tt := tYes) rfl sc_is_row.nd (pi_tup (pv 0)) (blkOk_by (N := n_is_row) (sc := defScope s_is_row) (by decide +kernel)) (fun _ _ _ _ _ => (pg_name (i := 1) sc_is_row.nd rfl (by first | exact .inl rfl | exact .inr rfl))) (fun _ _ _ _ _ => pts_nil) (fun _ _ _ _ _ => (pe_call (ok_is_integer T) (hr.mono (by decide)) (by rfl) T.m_is_integer T.F_is_integer.kp T.b_is_integer .nil pass0 (pa_cons (pv 1) pa_nil)))) pa_nil)))))), ?_⟩
    rw [st_is_row]
    have ht := ty_tup hp
    simp only [ap_seq, ap_next, ap_asg, ap_gName, ap_ret, ap_retN, ap_drop, ap_ifS, ap_break, ap_cont, ap_par, ap_aug, ap_ip, ap_gSub, ap_gTup, ap_gNil, ap_gCons, ap_var, ap_c, ap_op, ap_un, ap_if, ap_test, ap_B, ap_and, ap_or, ap_not, ap_andV, ap_orV, ap_notV, ap_nil, ap_cons, ap_tup, ap_lst, ap_cb, ap_bm, ap_call, ap_chain, ap_rI, ap_rI0, ap_rU, ap_rEq, ap_rNe, ap_revT, ap_sl, ap_part, ap_noPart, ap_ixLI, ap_ixTI, ap_ixLV, ap_ixTV, ap_len, ap_setLI, ap_setLV, ap_appI, ap_appV, ap_tupL, ap_listS, ap_sumLI, ap_sumTI, ap_repLI, ap_intI, ap_intB, ap_eqTI, ap_neTI, ap_eqLI, ap_neLI, ap_isi, ap_for, ap_rng1, ap_rng2, ap_iList, ap_iTup, ap_lc, ap_yes, ap_cut, ap_gTupH, ap_fmt, ap_jsn, ap_jsc, ap_gcd, ap_isqrt, ap_ixL, tyV_l, wipe_nil, wipe_cons, upd_same, ap_iEnT, ap_iEnL, ap_iZipA, ap_all, ap_tupT, ap_attF, ap_makeL, ap_dictKP, ap_neDP, ap_itemsT, ap_zipM, ap_lockE, ap_dget2, ap_dput, ap_dnewT, ap_iValsT, ap_iKeys, ap_sortedDT, ap_dictLT, ap_lenDT, ap_dcT, ap_sortT1, ap_listG, ap_callG, ap_star, ap_extend, ap_max, ap_setOfT, ap_sortedU, ap_sortedTU, ap_repTZ, ap_maxT, ap_revA, ap_att, ap_prop, ap_isO, ap_bin, ap_ne, ap_meth, ap_make, ins_inj, FE_inj, ap_slI, ap_catI, ap_perm, ap_lenO, ap_strO, ap_listO, ap_reprB, ap_iterT, ap_neT, ap_negO, ap_binI, ap_catL, ap_tM1, ap_repTI, ap_popN, ap_par3, ap_catTT, ap_repTA, ap_countT, ap_notInT, ap_repL1, ap_shl, ap_shr, ap_mask, ap_comb, ap_bits, ap_rng3, List.set_cons_zero, List.set_cons_succ, List.getElem?_cons_zero, List.getElem?_cons_succ, List.cons_append, List.nil_append, List.append_nil, Option.some.injEq, V.int.injEq, V.ref.injEq, V.bl.injEq, V.str.injEq, V.ty.injEq, Bool.not_true, Bool.not_false, HO.lst.injEq, HO.tup.injEq, reduceCtorEq, Int.reduceToNat, Int.reduceLT, Int.reduceLE, Nat.reduceAdd, Int.cast_ofNat_Int, gi_c0, gi_c1, gi_c2, gi_c3, Int.natCast_inj, map_int_inj, map_nil_iff, List.cons.injEq, exists_eq_left, exists_eq_left', exists_eq, exists_eq', exists_and_left, exists_and_right, exists_const, and_assoc, and_true, true_and, and_false, false_and, or_false, false_or, or_true, true_or, ite_true, ite_false, if_true, if_false, Bool.false_eq_true, own_cons, own_nil, le1, le2, le3, le4, me_cons, me_nil, List.length_map, List.length_cons, List.length_nil, ne_eq, not_false_eq_true, not_true_eq_false, decide_eq_true_eq, ht, kit_tt, sp_is_integer]
    refine ⟨⟨_, sqT_of hp⟩, ?_⟩
    refine lc_boolI (gives_tupT (xs := ns.map V.int)) (fun _ => true) (by omega) (fun H' s => sqT_of (s _ _ hp)) (fun x => rfl) (fun x H' hx s Q' q => ?_) (fun l H1 hl1 s1 e1 => ?_)
    · obtain ⟨x1, x2⟩ := hn x hx
      simp only [ap_seq, ap_next, ap_asg, ap_gName, ap_ret, ap_retN, ap_drop, ap_ifS, ap_break, ap_cont, ap_par, ap_aug, ap_ip, ap_gSub, ap_gTup, ap_gNil, ap_gCons, ap_var, ap_c, ap_op, ap_un, ap_if, ap_test, ap_B, ap_and, ap_or, ap_not, ap_andV, ap_orV, ap_notV, ap_nil, ap_cons, ap_tup, ap_lst, ap_cb, ap_bm, ap_call, ap_chain, ap_rI, ap_rI0, ap_rU, ap_rEq, ap_rNe, ap_revT, ap_sl, ap_part, ap_noPart, ap_ixLI, ap_ixTI, ap_ixLV, ap_ixTV, ap_len, ap_setLI, ap_setLV, ap_appI, ap_appV, ap_tupL, ap_listS, ap_sumLI, ap_sumTI, ap_repLI, ap_intI, ap_intB, ap_eqTI, ap_neTI, ap_eqLI, ap_neLI, ap_isi, ap_for, ap_rng1, ap_rng2, ap_iList, ap_iTup, ap_lc, ap_yes, ap_cut, ap_gTupH, ap_fmt, ap_jsn, ap_jsc, ap_gcd, ap_isqrt, ap_ixL, tyV_l, wipe_nil, wipe_cons, upd_same, ap_iEnT, ap_iEnL, ap_iZipA, ap_all, ap_tupT, ap_attF, ap_makeL, ap_dictKP, ap_neDP, ap_itemsT, ap_zipM, ap_lockE, ap_dget2, ap_dput, ap_dnewT, ap_iValsT, ap_iKeys, ap_sortedDT, ap_dictLT, ap_lenDT, ap_dcT, ap_sortT1, ap_listG, ap_callG, ap_star, ap_extend, ap_max, ap_setOfT, ap_sortedU, ap_sortedTU, ap_repTZ, ap_maxT, ap_revA, ap_att, ap_prop, ap_isO, ap_bin, ap_ne, ap_meth, ap_make, ins_inj, FE_inj, ap_slI, ap_catI, ap_perm, ap_lenO, ap_strO, ap_listO, ap_reprB, ap_iterT, ap_neT, ap_negO, ap_binI, ap_catL, ap_tM1, ap_repTI, ap_popN, ap_par3, ap_catTT, ap_repTA, ap_countT, ap_notInT, ap_repL1, ap_shl, ap_shr, ap_mask, ap_comb, ap_bits, ap_rng3, List.set_cons_zero, List.set_cons_succ, List.getElem?_cons_zero, List.getElem?_cons_succ, List.cons_append, List.nil_append, List.append_nil, Option.some.injEq, V.int.injEq, V.ref.injEq, V.bl.injEq, V.str.injEq, V.ty.injEq, Bool.not_true, Bool.not_false, HO.lst.injEq, HO.tup.injEq, reduceCtorEq, Int.reduceToNat, Int.reduceLT, Int.reduceLE, Nat.reduceAdd, Int.cast_ofNat_Int, gi_c0, gi_c1, gi_c2, gi_c3, Int.natCast_inj, map_int_inj, map_nil_iff, List.cons.injEq, exists_eq_left, exists_eq_left', exists_eq, exists_eq', exists_and_left, exists_and_right, exists_const, and_assoc, and_true, true_and, and_false, false_and, or_false, false_or, or_true, true_or, ite_true, ite_false, if_true, if_false, Bool.false_eq_true, own_cons, own_nil, le1, le2, le3, le4, me_cons, me_nil, List.length_map, List.length_cons, List.length_nil, ne_eq, not_false_eq_true, not_true_eq_false, decide_eq_true_eq, sp_is_integer]
      exact ⟨by omega, by omega, q _ (Same.refl _)⟩
    · refine ⟨l, rfl, _, sqL_of e1, ?_⟩
      rw [show (ns.map fun _ => true).all id = true by simp]
      exact q _ s1
def sp_are_exponents : Sp := fun vs H Q _ => ∃ (t : Addr) (ns : List Int) (n : Nat), vs = [.ref t, .int (n : Nat)] ∧ H t = some (TI ns) ∧ n ≤ 8 ∧ Ex n ns ∧ ∀ H', Same H H' → Q (.bl true) H'
theorem ok_are_exponents (T : Tx K mg) : FnOk P w K mg base CX0 3 T.f_are_exponents T.d_are_exponents p_are_exponents sp_are_exponents := by
  refine T.F_are_exponents.ok sc_are_exponents (fun vs H Q E h => ?_) (fun cdv A outer s H vs Q E hr h => ?_)
  · obtain ⟨p, ns, n, rfl, _⟩ := h
    rfl
  · obtain ⟨p, ns, n, rfl, hp, hn, ⟨hl, hm, hsum⟩, q⟩ := h
    refine ⟨_, (pss_cons (ps_if (PW.pt (pw_or (pt_not (pt_val (pe_call (ok_is_row T) (hr.mono (by decide)) (by rfl) T.m_is_row T.F_is_row.kp T.b_is_row .nil pass0 (pa_cons (pv 0) pa_nil)))) (pw_or1 (pt_cmpR op_ne (pe_callB cr_len (by rfl) T.z_len PySem.boot_len (pa_cons (pv 0) pa_nil)) (pe_op op_add (pv 1) pe_int) (nomark _))))) (pss_one (ps_ret pe_bl)) pss_nil)
      (pss_one (ps_ret (pe_and (pe_callB (cr_all rfl) (by rfl) T.z_all (by decide +kernel) (pa_cons (pe_lc (own := [("often", 2)]) (g := gName 2) (tt := tYes) rfl sc_are_exponents.nd (pi_tup (pv 0)) (blkOk_by (N := n_are_exponents) (sc := defScope s_are_exponents) (by decide +kernel)) (fun _ _ _ _ _ => (pg_name (i := 2) sc_are_exponents.nd rfl (by first | exact .inl rfl | exact .inr rfl))) (fun _ _ _ _ _ => pts_nil) (fun _ _ _ _ _ => (pe_cmpR op_ge (pv 2) pe_int (nomark _)))) pa_nil)) (pe_one (pe_cmpR op_le (pe_callB (cr_sumTI rfl) (by rfl) T.z_sum (by decide +kernel) (pa_cons (pv 0) pa_nil)) (pe_glob (v := .int 12) (by rfl) T.c_MAX_SIZE ⟨_, rfl⟩) (nomark _))))))), ?_⟩
    rw [st_are_exponents]
    simp only [ap_seq, ap_next, ap_asg, ap_gName, ap_ret, ap_retN, ap_drop, ap_ifS, ap_break, ap_cont, ap_par, ap_aug, ap_ip, ap_gSub, ap_gTup, ap_gNil, ap_gCons, ap_var, ap_c, ap_op, ap_un, ap_if, ap_test, ap_B, ap_and, ap_or, ap_not, ap_andV, ap_orV, ap_notV, ap_nil, ap_cons, ap_tup, ap_lst, ap_cb, ap_bm, ap_call, ap_chain, ap_rI, ap_rI0, ap_rU, ap_rEq, ap_rNe, ap_revT, ap_sl, ap_part, ap_noPart, ap_ixLI, ap_ixTI, ap_ixLV, ap_ixTV, ap_len, ap_setLI, ap_setLV, ap_appI, ap_appV, ap_tupL, ap_listS, ap_sumLI, ap_sumTI, ap_repLI, ap_intI, ap_intB, ap_eqTI, ap_neTI, ap_eqLI, ap_neLI, ap_isi, ap_for, ap_rng1, ap_rng2, ap_iList, ap_iTup, ap_lc, ap_yes, ap_cut, ap_gTupH, ap_fmt, ap_jsn, ap_jsc, ap_gcd, ap_isqrt, ap_ixL, tyV_l, wipe_nil, wipe_cons, upd_same, ap_iEnT, ap_iEnL, ap_iZipA, ap_all, ap_tupT, ap_attF, ap_makeL, ap_dictKP, ap_neDP, ap_itemsT, ap_zipM, ap_lockE, ap_dget2, ap_dput, ap_dnewT, ap_iValsT, ap_iKeys, ap_sortedDT, ap_dictLT, ap_lenDT, ap_dcT, ap_sortT1, ap_listG, ap_callG, ap_star, ap_extend, ap_max, ap_setOfT, ap_sortedU, ap_sortedTU, ap_repTZ, ap_maxT, ap_revA, ap_att, ap_prop, ap_isO, ap_bin, ap_ne, ap_meth, ap_make, ins_inj, FE_inj, ap_slI, ap_catI, ap_perm, ap_lenO, ap_strO, ap_listO, ap_reprB, ap_iterT, ap_neT, ap_negO, ap_binI, ap_catL, ap_tM1, ap_repTI, ap_popN, ap_par3, ap_catTT, ap_repTA, ap_countT, ap_notInT, ap_repL1, ap_shl, ap_shr, ap_mask, ap_comb, ap_bits, ap_rng3, List.set_cons_zero, List.set_cons_succ, List.getElem?_cons_zero, List.getElem?_cons_succ, List.cons_append, List.nil_append, List.append_nil, Option.some.injEq, V.int.injEq, V.ref.injEq, V.bl.injEq, V.str.injEq, V.ty.injEq, Bool.not_true, Bool.not_false, HO.lst.injEq, HO.tup.injEq, reduceCtorEq, Int.reduceToNat, Int.reduceLT, Int.reduceLE, Nat.reduceAdd, Int.cast_ofNat_Int, gi_c0, gi_c1, gi_c2, gi_c3, Int.natCast_inj, map_int_inj, map_nil_iff, List.cons.injEq, exists_eq_left, exists_eq_left', exists_eq, exists_eq', exists_and_left, exists_and_right, exists_const, and_assoc, and_true, true_and, and_false, false_and, or_false, false_or, or_true, true_or, ite_true, ite_false, if_true, if_false, Bool.false_eq_true, own_cons, own_nil, le1, le2, le3, le4, me_cons, me_nil, List.length_map, List.length_cons, List.length_nil, ne_eq, not_false_eq_true, not_true_eq_false, decide_eq_true_eq, sp_is_row]
    refine ⟨ns, hp, by omega, hm, fun H1 s1 => ?_⟩
    refine ⟨_, .inr (s1 _ _ hp), rfl, ?_⟩
    rw [List.length_map, hl, if_neg (by simp)]
    refine ⟨⟨_, sqT_of (s1 _ _ hp)⟩, ?_⟩
    refine lc_boolI (gives_tupT (xs := ns.map V.int)) (fun _ => true) (by omega) (fun H' s => sqT_of (s _ _ (s1 _ _ hp))) (fun x => rfl) (fun x H' hx s Q' q => ?_) (fun l H2 hl1 s2 e1 => ?_)
    · simp only [ap_seq, ap_next, ap_asg, ap_gName, ap_ret, ap_retN, ap_drop, ap_ifS, ap_break, ap_cont, ap_par, ap_aug, ap_ip, ap_gSub, ap_gTup, ap_gNil, ap_gCons, ap_var, ap_c, ap_op, ap_un, ap_if, ap_test, ap_B, ap_and, ap_or, ap_not, ap_andV, ap_orV, ap_notV, ap_nil, ap_cons, ap_tup, ap_lst, ap_cb, ap_bm, ap_call, ap_chain, ap_rI, ap_rI0, ap_rU, ap_rEq, ap_rNe, ap_revT, ap_sl, ap_part, ap_noPart, ap_ixLI, ap_ixTI, ap_ixLV, ap_ixTV, ap_len, ap_setLI, ap_setLV, ap_appI, ap_appV, ap_tupL, ap_listS, ap_sumLI, ap_sumTI, ap_repLI, ap_intI, ap_intB, ap_eqTI, ap_neTI, ap_eqLI, ap_neLI, ap_isi, ap_for, ap_rng1, ap_rng2, ap_iList, ap_iTup, ap_lc, ap_yes, ap_cut, ap_gTupH, ap_fmt, ap_jsn, ap_jsc, ap_gcd, ap_isqrt, ap_ixL, tyV_l, wipe_nil, wipe_cons, upd_same, ap_iEnT, ap_iEnL, ap_iZipA, ap_all, ap_tupT, ap_attF, ap_makeL, ap_dictKP, ap_neDP, ap_itemsT, ap_zipM, ap_lockE, ap_dget2, ap_dput, ap_dnewT, ap_iValsT, ap_iKeys, ap_sortedDT, ap_dictLT, ap_lenDT, ap_dcT, ap_sortT1, ap_listG, ap_callG, ap_star, ap_extend, ap_max, ap_setOfT, ap_sortedU, ap_sortedTU, ap_repTZ, ap_maxT, ap_revA, ap_att, ap_prop, ap_isO, ap_bin, ap_ne, ap_meth, ap_make, ins_inj, FE_inj, ap_slI, ap_catI, ap_perm, ap_lenO, ap_strO, ap_listO, ap_reprB, ap_iterT, ap_neT, ap_negO, ap_binI, ap_catL, ap_tM1, ap_repTI, ap_popN, ap_par3, ap_catTT, ap_repTA, ap_countT, ap_notInT, ap_repL1, ap_shl, ap_shr, ap_mask, ap_comb, ap_bits, ap_rng3, List.set_cons_zero, List.set_cons_succ, List.getElem?_cons_zero, List.getElem?_cons_succ, List.cons_append, List.nil_append, List.append_nil, Option.some.injEq, V.int.injEq, V.ref.injEq, V.bl.injEq, V.str.injEq, V.ty.injEq, Bool.not_true, Bool.not_false, HO.lst.injEq, HO.tup.injEq, reduceCtorEq, Int.reduceToNat, Int.reduceLT, Int.reduceLE, Nat.reduceAdd, Int.cast_ofNat_Int, gi_c0, gi_c1, gi_c2, gi_c3, Int.natCast_inj, map_int_inj, map_nil_iff, List.cons.injEq, exists_eq_left, exists_eq_left', exists_eq, exists_eq', exists_and_left, exists_and_right, exists_const, and_assoc, and_true, true_and, and_false, false_and, or_false, false_or, or_true, true_or, ite_true, ite_false, if_true, if_false, Bool.false_eq_true, own_cons, own_nil, le1, le2, le3, le4, me_cons, me_nil, List.length_map, List.length_cons, List.length_nil, ne_eq, not_false_eq_true, not_true_eq_false, decide_eq_true_eq]
      rw [decide_eq_true (hm x hx).1]
      exact q _ (Same.refl _)
    · refine ⟨l, rfl, _, sqL_of e1, ?_⟩
      rw [show (ns.map fun _ => true).all id = true by simp, if_pos rfl]
      refine ⟨ns, s2 _ _ (s1 _ _ hp), ?_⟩
      rw [decide_eq_true hsum]
      exact q _ (s1.trans s2)
end
end My


namespace My
open PySem PySem.Spec PyProof.Rows L2 Pr M26
section
variable {P : Program} {w : World} {K : PySem.W.Frag} {mg : Str → Option Value} {base : Heap}
theorem chk_at {wt p m : Nat} (hw : wt < 38) (hp : p < 7) (hm : m < 7) (c : ¬ p * m < wt) : goOk p 64 (some (filL wt m)) = true ∧ lawTold wt p m = (boxL wt p m).reverse ∧ (boxL wt p m).length < 64 ∧ M26.cnt p m wt = (boxL wt p m).length ∧ ((boxL wt p m).map turnL).length = (boxL wt m p).length ∧ ∀ b ∈ boxL wt m p, b ∈ (boxL wt p m).map turnL := by
  have h := chkw_at hw hp hm
  unfold chkW at h
  rw [if_neg c] at h
  simp only [Bool.and_eq_true, decide_eq_true_eq, List.all_eq_true, List.contains_iff_mem] at h
  rw [cntF_eq 12 p m wt (by omega)] at h
  exact ⟨h.1.1.1.1.1, h.1.1.1.1.2, h.1.1.1.2, h.1.1.2, h.1.2, h.2⟩
/-- the boxes that come behind, all in hand -/
def sp_boxes : SpG := fun vs H Q _ => ∃ (wt p m : Nat), vs = [.int (wt : Nat), .int (p : Nat), .int (m : Nat)] ∧ wt < 38 ∧ p < 7 ∧ m < 7 ∧
  ∀ H' rs, Same H H' → RowsAt H' rs (boxL wt p m) → Q (rs.map V.ref) H'
def WB (H : Hp) (wt p m f : Nat) (ys : List V) (σ' : L2.St) (H' : Hp) : Prop := Same H H' ∧ ∃ (rs : List Addr) (bs : List (List Int)) (ob : Option (List Int)) (cur : V), ys = rs.map V.ref ∧ σ' = [some (V.int (wt : Nat)), some (V.int (p : Nat)), some (V.int (m : Nat)), some cur] ∧ RowsAt H' rs bs ∧ bs.length + f ≤ 64 ∧ (ob = none → cur = .non) ∧ (∀ b, ob = some b → ∃ t, cur = .ref t ∧ H' t = some (TI b)) ∧ boxL wt p m = bs ++ boxGo p f ob ∧ goOk p f ob = true
theorem ok_boxes (T : Tx K mg) : GFn P w K mg base 4 T.f_boxes T.d_boxes p_boxes sp_boxes := by
  refine fun_gen T.F_boxes sc_boxes (fun vs H Q E h => ?_) (fun cdv A outer s H vs Q E pn hr h => ?_)
  · obtain ⟨wt, p, m, rfl, _⟩ := h
    rfl
  · obtain ⟨wt, p, m, rfl, hw, hp, hm, k⟩ := h
    refine ⟨_, (gss_cons (gs_ps (ps_expr (pe_call (ok_need_number T) (hr.mono (by decide)) (by rfl) T.m_need_number T.F_need_number.kp T.b_need_number .nil pass0 (pa_cons (pv 0) (pa_cons pe_int (pa_cons (pe_glob (v := .int 1600) (by rfl) T.c_MAX_WEIGHT ⟨_, rfl⟩) pa_nil))))))
      (gss_cons (gs_ps (ps_expr (pe_call (ok_need_number T) (hr.mono (by decide)) (by rfl) T.m_need_number T.F_need_number.kp T.b_need_number .nil pass0 (pa_cons (pv 1) (pa_cons pe_int (pa_cons (pe_glob (v := .int 40) (by rfl) T.c_MAX_PARTS ⟨_, rfl⟩) pa_nil))))))
      (gss_cons (gs_ps (ps_expr (pe_call (ok_need_number T) (hr.mono (by decide)) (by rfl) T.m_need_number T.F_need_number.kp T.b_need_number .nil pass0 (pa_cons (pv 2) (pa_cons pe_int (pa_cons (pe_glob (v := .int 40) (by rfl) T.c_MAX_PARTS ⟨_, rfl⟩) pa_nil))))))
      (gss_cons (gs_ps (ps_if (pt_cmpR op_gt (pv 0) (pe_op op_mul (pv 1) (pv 2)) (nomark _)) (pss_one ps_retN) pss_nil))
      (gss_cons (gs_ps (ps_set (i := 3) sc_boxes.nd rfl (Or.inl rfl) (pe_call (ok_filled T) (hr.mono (by decide)) (by rfl) T.m_filled T.F_filled.kp T.b_filled .nil pass0 (pa_cons (pv 0) (pa_cons (pv 2) pa_nil)))))
      (gss_cons (gs_while owns_gcx (pt_cmpR op_notN (pv 3) pe_non (nomark _))
      (gss_cons (gs_yield (pv 3))
      (gss_cons (gs_ps (ps_set (i := 3) sc_boxes.nd rfl (Or.inl rfl) (pe_call (ok_box_behind T) (hr.mono (by decide)) (by rfl) T.m_box_behind T.F_box_behind.kp T.b_box_behind .nil pass0 (pa_cons (pv 3) (pa_cons (pv 1) pa_nil)))))
      gss_nil)))
      gss_nil)))))), ?_⟩
    rw [st_boxes]
    simp only [ap_seq, ap_next, ap_asg, ap_gName, ap_ret, ap_retN, ap_drop, ap_ifS, ap_break, ap_cont, ap_par, ap_aug, ap_ip, ap_gSub, ap_gTup, ap_gNil, ap_gCons, ap_var, ap_c, ap_op, ap_un, ap_if, ap_test, ap_B, ap_and, ap_or, ap_not, ap_andV, ap_orV, ap_notV, ap_nil, ap_cons, ap_tup, ap_lst, ap_cb, ap_bm, ap_call, ap_chain, ap_rI, ap_rI0, ap_rU, ap_rEq, ap_rNe, ap_revT, ap_sl, ap_part, ap_noPart, ap_ixLI, ap_ixTI, ap_ixLV, ap_ixTV, ap_len, ap_setLI, ap_setLV, ap_appI, ap_appV, ap_tupL, ap_listS, ap_sumLI, ap_sumTI, ap_repLI, ap_intI, ap_intB, ap_eqTI, ap_neTI, ap_eqLI, ap_neLI, ap_isi, ap_for, ap_rng1, ap_rng2, ap_iList, ap_iTup, ap_lc, ap_yes, ap_cut, ap_gTupH, ap_fmt, ap_jsn, ap_jsc, ap_gcd, ap_isqrt, ap_ixL, tyV_l, wipe_nil, wipe_cons, upd_same, ap_iEnT, ap_iEnL, ap_iZipA, ap_all, ap_tupT, ap_attF, ap_makeL, ap_dictKP, ap_neDP, ap_itemsT, ap_zipM, ap_lockE, ap_dget2, ap_dput, ap_dnewT, ap_iValsT, ap_iKeys, ap_sortedDT, ap_dictLT, ap_lenDT, ap_dcT, ap_sortT1, ap_listG, ap_callG, ap_star, ap_extend, ap_max, ap_setOfT, ap_sortedU, ap_sortedTU, ap_repTZ, ap_maxT, ap_revA, ap_att, ap_prop, ap_isO, ap_bin, ap_ne, ap_meth, ap_make, ins_inj, FE_inj, ap_slI, ap_catI, ap_perm, ap_lenO, ap_strO, ap_listO, ap_reprB, ap_iterT, ap_neT, ap_negO, ap_binI, ap_catL, ap_tM1, ap_repTI, ap_popN, ap_par3, ap_catTT, ap_repTA, ap_countT, ap_notInT, ap_repL1, ap_shl, ap_shr, ap_mask, ap_comb, ap_bits, ap_rng3, List.set_cons_zero, List.set_cons_succ, List.getElem?_cons_zero, List.getElem?_cons_succ, List.cons_append, List.nil_append, List.append_nil, Option.some.injEq, V.int.injEq, V.ref.injEq, V.bl.injEq, V.str.injEq, V.ty.injEq, Bool.not_true, Bool.not_false, HO.lst.injEq, HO.tup.injEq, reduceCtorEq, Int.reduceToNat, Int.reduceLT, Int.reduceLE, Nat.reduceAdd, Int.cast_ofNat_Int, gi_c0, gi_c1, gi_c2, gi_c3, Int.natCast_inj, map_int_inj, map_nil_iff, List.cons.injEq, exists_eq_left, exists_eq_left', exists_eq, exists_eq', exists_and_left, exists_and_right, exists_const, and_assoc, and_true, true_and, and_false, false_and, or_false, false_or, or_true, true_or, ite_true, ite_false, if_true, if_false, Bool.false_eq_true, own_cons, own_nil, le1, le2, le3, le4, me_cons, me_nil, List.length_map, List.length_cons, List.length_nil, ne_eq, not_false_eq_true, not_true_eq_false, decide_eq_true_eq, ap_gthen, ap_gplain, ap_g0, ap_gyield, ap_gat, sp_need_number, sp_filled, CMul]
    refine ⟨by omega, by omega, by omega, by omega, by omega, by omega, by omega, by omega, by omega, by omega, by omega, by omega, .inl ⟨by omega, by omega⟩, ?_⟩
    by_cases c : p * m < wt
    · rw [if_pos (by exact_mod_cast c)]
      have e : boxL wt p m = [] := if_pos c
      rw [e] at k
      exact ⟨rfl, k H [] (Same.refl _) .nil⟩
    · rw [if_neg (by exact_mod_cast c)]
      have e : boxL wt p m = boxGo p 64 (some (filL wt m)) := if_neg c
      have ok : goOk p 64 (some (filL wt m)) = true := (chk_at hw hp hm c).1
      have hw40 : wt ≤ 40 * m := Nat.le_trans (Nat.le_of_not_lt c) (Nat.mul_le_mul_right m (by omega))
      refine ⟨by omega, hw40, fun H1 r s1 e1 => ?_⟩
      refine ⟨WB H wt p m,
        ⟨64, s1, [], [], some (filL wt m), _, rfl, rfl, .nil, Nat.le_refl _, (fun h => nomatch h), (fun b hb => ⟨r, rfl, by rw [e1, Option.some.inj hb]⟩), e, ok⟩, fun f ys σ' H' hW => ?_⟩
      obtain ⟨sm, rs, bs, ob, cur, rfl, rfl, hrs, hl, hn, hb, eb, og⟩ := hW
      rcases ob with _ | b
      · obtain rfl := hn rfl
        simp only [ap_seq, ap_next, ap_asg, ap_gName, ap_ret, ap_retN, ap_drop, ap_ifS, ap_break, ap_cont, ap_par, ap_aug, ap_ip, ap_gSub, ap_gTup, ap_gNil, ap_gCons, ap_var, ap_c, ap_op, ap_un, ap_if, ap_test, ap_B, ap_and, ap_or, ap_not, ap_andV, ap_orV, ap_notV, ap_nil, ap_cons, ap_tup, ap_lst, ap_cb, ap_bm, ap_call, ap_chain, ap_rI, ap_rI0, ap_rU, ap_rEq, ap_rNe, ap_revT, ap_sl, ap_part, ap_noPart, ap_ixLI, ap_ixTI, ap_ixLV, ap_ixTV, ap_len, ap_setLI, ap_setLV, ap_appI, ap_appV, ap_tupL, ap_listS, ap_sumLI, ap_sumTI, ap_repLI, ap_intI, ap_intB, ap_eqTI, ap_neTI, ap_eqLI, ap_neLI, ap_isi, ap_for, ap_rng1, ap_rng2, ap_iList, ap_iTup, ap_lc, ap_yes, ap_cut, ap_gTupH, ap_fmt, ap_jsn, ap_jsc, ap_gcd, ap_isqrt, ap_ixL, tyV_l, wipe_nil, wipe_cons, upd_same, ap_iEnT, ap_iEnL, ap_iZipA, ap_all, ap_tupT, ap_attF, ap_makeL, ap_dictKP, ap_neDP, ap_itemsT, ap_zipM, ap_lockE, ap_dget2, ap_dput, ap_dnewT, ap_iValsT, ap_iKeys, ap_sortedDT, ap_dictLT, ap_lenDT, ap_dcT, ap_sortT1, ap_listG, ap_callG, ap_star, ap_extend, ap_max, ap_setOfT, ap_sortedU, ap_sortedTU, ap_repTZ, ap_maxT, ap_revA, ap_att, ap_prop, ap_isO, ap_bin, ap_ne, ap_meth, ap_make, ins_inj, FE_inj, ap_slI, ap_catI, ap_perm, ap_lenO, ap_strO, ap_listO, ap_reprB, ap_iterT, ap_neT, ap_negO, ap_binI, ap_catL, ap_tM1, ap_repTI, ap_popN, ap_par3, ap_catTT, ap_repTA, ap_countT, ap_notInT, ap_repL1, ap_shl, ap_shr, ap_mask, ap_comb, ap_bits, ap_rng3, List.set_cons_zero, List.set_cons_succ, List.getElem?_cons_zero, List.getElem?_cons_succ, List.cons_append, List.nil_append, List.append_nil, Option.some.injEq, V.int.injEq, V.ref.injEq, V.bl.injEq, V.str.injEq, V.ty.injEq, Bool.not_true, Bool.not_false, HO.lst.injEq, HO.tup.injEq, reduceCtorEq, Int.reduceToNat, Int.reduceLT, Int.reduceLE, Nat.reduceAdd, Int.cast_ofNat_Int, gi_c0, gi_c1, gi_c2, gi_c3, Int.natCast_inj, map_int_inj, map_nil_iff, List.cons.injEq, exists_eq_left, exists_eq_left', exists_eq, exists_eq', exists_and_left, exists_and_right, exists_const, and_assoc, and_true, true_and, and_false, false_and, or_false, false_or, or_true, true_or, ite_true, ite_false, if_true, if_false, Bool.false_eq_true, own_cons, own_nil, le1, le2, le3, le4, me_cons, me_nil, List.length_map, List.length_cons, List.length_nil, ne_eq, not_false_eq_true, not_true_eq_false, decide_eq_true_eq]
        have : boxGo p f none = [] := by cases f <;> rfl
        rw [this, List.append_nil] at eb
        exact k H' rs sm (eb ▸ hrs)
      · obtain ⟨t, rfl, ht⟩ := hb b rfl
        rcases f with _ | f
        · exact absurd og (by simp [goOk])
        · have og' : (smallB p b && goOk p f (behL b p b.length 0)) = true := og
          obtain ⟨sb, og2⟩ := Bool.and_eq_true_iff.mp og'
          unfold smallB at sb
          obtain ⟨sb1, sb2⟩ := Bool.and_eq_true_iff.mp sb
          have hbm : BoxM 40 p b := ⟨by simpa using sb1, fun x hx => by have := List.all_eq_true.mp sb2 x hx; simp only [Bool.and_eq_true, decide_eq_true_eq] at this; omega⟩
          have eb' : boxL wt p m = (bs ++ [b]) ++ boxGo p f (behL b p b.length 0) := by rw [eb, List.append_assoc]; rfl
          have hry : ∀ H2, Same H' H2 → RowsAt H2 (rs ++ [t]) (bs ++ [b]) := fun H2 s2 => (hrs.same s2).append (.cons (s2 _ _ ht) .nil)
          simp only [ap_seq, ap_next, ap_asg, ap_gName, ap_ret, ap_retN, ap_drop, ap_ifS, ap_break, ap_cont, ap_par, ap_aug, ap_ip, ap_gSub, ap_gTup, ap_gNil, ap_gCons, ap_var, ap_c, ap_op, ap_un, ap_if, ap_test, ap_B, ap_and, ap_or, ap_not, ap_andV, ap_orV, ap_notV, ap_nil, ap_cons, ap_tup, ap_lst, ap_cb, ap_bm, ap_call, ap_chain, ap_rI, ap_rI0, ap_rU, ap_rEq, ap_rNe, ap_revT, ap_sl, ap_part, ap_noPart, ap_ixLI, ap_ixTI, ap_ixLV, ap_ixTV, ap_len, ap_setLI, ap_setLV, ap_appI, ap_appV, ap_tupL, ap_listS, ap_sumLI, ap_sumTI, ap_repLI, ap_intI, ap_intB, ap_eqTI, ap_neTI, ap_eqLI, ap_neLI, ap_isi, ap_for, ap_rng1, ap_rng2, ap_iList, ap_iTup, ap_lc, ap_yes, ap_cut, ap_gTupH, ap_fmt, ap_jsn, ap_jsc, ap_gcd, ap_isqrt, ap_ixL, tyV_l, wipe_nil, wipe_cons, upd_same, ap_iEnT, ap_iEnL, ap_iZipA, ap_all, ap_tupT, ap_attF, ap_makeL, ap_dictKP, ap_neDP, ap_itemsT, ap_zipM, ap_lockE, ap_dget2, ap_dput, ap_dnewT, ap_iValsT, ap_iKeys, ap_sortedDT, ap_dictLT, ap_lenDT, ap_dcT, ap_sortT1, ap_listG, ap_callG, ap_star, ap_extend, ap_max, ap_setOfT, ap_sortedU, ap_sortedTU, ap_repTZ, ap_maxT, ap_revA, ap_att, ap_prop, ap_isO, ap_bin, ap_ne, ap_meth, ap_make, ins_inj, FE_inj, ap_slI, ap_catI, ap_perm, ap_lenO, ap_strO, ap_listO, ap_reprB, ap_iterT, ap_neT, ap_negO, ap_binI, ap_catL, ap_tM1, ap_repTI, ap_popN, ap_par3, ap_catTT, ap_repTA, ap_countT, ap_notInT, ap_repL1, ap_shl, ap_shr, ap_mask, ap_comb, ap_bits, ap_rng3, List.set_cons_zero, List.set_cons_succ, List.getElem?_cons_zero, List.getElem?_cons_succ, List.cons_append, List.nil_append, List.append_nil, Option.some.injEq, V.int.injEq, V.ref.injEq, V.bl.injEq, V.str.injEq, V.ty.injEq, Bool.not_true, Bool.not_false, HO.lst.injEq, HO.tup.injEq, reduceCtorEq, Int.reduceToNat, Int.reduceLT, Int.reduceLE, Nat.reduceAdd, Int.cast_ofNat_Int, gi_c0, gi_c1, gi_c2, gi_c3, Int.natCast_inj, map_int_inj, map_nil_iff, List.cons.injEq, exists_eq_left, exists_eq_left', exists_eq, exists_eq', exists_and_left, exists_and_right, exists_const, and_assoc, and_true, true_and, and_false, false_and, or_false, false_or, or_true, true_or, ite_true, ite_false, if_true, if_false, Bool.false_eq_true, own_cons, own_nil, le1, le2, le3, le4, me_cons, me_nil, List.length_map, List.length_cons, List.length_nil, ne_eq, not_false_eq_true, not_true_eq_false, decide_eq_true_eq, ap_gthen, ap_gplain, ap_g0, ap_gyield, ap_gat, sp_box_behind]
          rw [if_pos (by decide)]
          refine ⟨WB H wt p m f, fun ys' σ' H2 h => ⟨f, Nat.lt_succ_self f, h⟩, by have := hrs.1; exact sz (by omega), b, ht, by omega, hbm, fun c ec H2 r s2 e2 => ?_, fun ec => ?_⟩
          · exact ⟨sm.trans s2, rs ++ [t], bs ++ [b], some c, _, by rw [List.map_append]; rfl, rfl, hry H2 s2, by rw [List.length_append]; show _ + 1 + f ≤ 64; omega, (fun h => nomatch h), (fun b hb => ⟨r, rfl, by rw [e2, Option.some.inj hb]⟩), by rw [eb', ec], by rw [← ec]; exact og2⟩
          · exact ⟨sm, rs ++ [t], bs ++ [b], none, _, by rw [List.map_append]; rfl, rfl, hry H' (Same.refl _), by rw [List.length_append]; show _ + 1 + f ≤ 64; omega, (fun _ => rfl), (fun b hb => nomatch hb), by rw [eb', ec], by rw [← ec]; exact og2⟩
end
end My

namespace My
open PySem PySem.Spec PyProof.Rows L2 Pr M26
section
variable {P : Program} {w : World} {K : PySem.W.Frag} {mg : Str → Option Value} {base : Heap}
theorem lock_same {H H' : Hp} {a : Addr} {u f : HO} (ha : H a = some u) (s : Same (upd H a f) H') : Same H (upd H' a u) := fun b o e => by
  by_cases c : b = a
  · subst c
    rw [upd_same, ← ha, e]
  · rw [upd_ne c]
    exact s _ _ (by rw [upd_ne c]; exact e)
theorem lc_trues {σ : L2.St} {H : Hp} {j : Nat} {te : TE} {vs : List Nat} {Q : VK} {J : It} {n : Nat} {F : Hp → Prop} {Y : Nat → V → Hp → Hp → Prop} (G : Gives J n F Y) (hn : n < 1000000) (hF : ∀ H', Same H H' → F H') (hw : ∀ x, wipe ((wipe σ vs).set j (some x)) vs = wipe σ vs)
    (he : ∀ i v H1 H', i < n → Same H H1 → Y i v H1 H' → Same H1 H' ∧ ∀ Q' : VK, (∀ H'', Same H' H'' → Q' (.bl true) H'') → te ((wipe σ vs).set j (some v)) H' Q')
    (hq : ∀ p H', H p = none → Same H H' → H' p = some (.lst ((List.replicate n true).map V.bl)) → Q (.ref p) H') :
    tLcIn (gName j) tYes te vs σ Q J H := by
  refine lc_gen (g := gName j) G (fun A i H' => Same H H' ∧ H' A = some (.lst ((List.replicate i true).map V.bl))) (fun A hA => ⟨same_upd hA, by rw [upd_same]; rfl⟩) (fun A i H' _ p => hF H' p.1) (fun A i x H1 H' hA hi p y => ?_) (fun A H' hA p => hq A H' hA p.1 p.2)
  obtain ⟨s1, te1⟩ := he i x H1 H' hi p.1 y
  refine ⟨hw _, ?_⟩
  show te _ _ _
  refine te1 _ fun H2 s2 => ⟨_, s2 _ _ (s1 _ _ p.2), sz (by simp; omega), same_mut ((p.1.trans s1).trans s2) hA, ?_⟩
  rw [upd_same, List.replicate_succ', List.map_append]
  rfl
theorem ty_dT {a : Addr} {H : Hp} {xs : List (List L2.Key × V)} (h : H a = some (.dT xs)) : tyOf (.ref a) H = some "dict" := by
  show (match H a with
      | some (.lst _) => some "list"
      | some (.tup _) => some "tuple"
      | some (.dK _) => some "dict"
      | some (.dT _) => some "dict"
      | _ => none) = _
  rw [h]
theorem kit_dd : kitB "dict" "dict" = some true := by decide +kernel
theorem dt_get {l : List (List Int × Int)} {i : Nat} {k : List L2.Key} {x : V} (h : (dtOf l)[i]? = some (k, x)) : ∃ e ∈ l, k = e.1.map Sum.inl ∧ x = .int e.2 := by
  unfold dtOf at h
  rw [List.getElem?_map, Option.map_eq_some_iff] at h
  obtain ⟨e, he, e2⟩ := h
  cases e2
  exact ⟨e, List.mem_of_getElem? he, rfl, rfl⟩
theorem all_trues (n : Nat) : (List.replicate n true).all id = true := by simp
/-- what is told of a dict of exponents -/
structure Terms (n s w : Nat) (l : List (List Int × Int)) : Prop where
  few : l.length ≤ 1000
  nd : (l.map (·.1)).Nodup
  ex : ∀ q ∈ l, Ex n q.1 ∧ q.1.sum = s ∧ weiL q.1 = w
  num : ∀ q ∈ l, q.2 ≠ 0 ∧ -1000000 < q.2 ∧ q.2 < 1000000
def sp_are_terms : Sp := fun vs H Q _ => ∃ (a : Addr) (l : List (List Int × Int)) (n s w : Nat), vs = [.ref a, .int (n : Nat)] ∧ H a = some (.dT (dtOf l)) ∧ n ≤ 8 ∧ Terms n s w l ∧ ∀ H', Same H H' → Q (.bl true) H'
theorem ok_are_terms (T : Tx K mg) : FnOk P w K mg base CX0 4 T.f_are_terms T.d_are_terms p_are_terms sp_are_terms := by
  refine T.F_are_terms.ok sc_are_terms (fun vs H Q E h => ?_) (fun cdv A outer s H vs Q E hr h => ?_)
  · obtain ⟨a, l, n, s, w, rfl, _⟩ := h
    rfl
  · obtain ⟨a, l, n, sz0, wt, rfl, ha, hn, hT, k⟩ := h
    refine ⟨_, (pss_cons (ps_if (PW.pt (pw_or (pt_not (pt_val (pe_callB cr_isiS (by rfl) T.z_isinstance (by decide +kernel) (pa_cons (pv 0) (pa_cons (pe_bltn (v := .ty "dict") (by rfl) T.z_dict (by decide +kernel) rfl) pa_nil))))) (pw_or1 (pt_cmpR op_gt (pe_callB cr_lenDT (by rfl) T.z_len PySem.boot_len (pa_cons (pv 0) pa_nil)) (pe_glob (v := .int 4000) (by rfl) T.c_MAX_TERMS ⟨_, rfl⟩) (nomark _))))) (pss_one (ps_ret pe_bl)) pss_nil)
      (pss_cons (ps_if (pt_not (pt_val (pe_callB (cr_all rfl) (by rfl) T.z_all (by decide +kernel) (pa_cons (pe_lock (pe_lc (own := [("exponents", 5)]) (g := gName 5) (tt := tYes) rfl sc_are_terms.nd (pi_keys (pv 0)) (blkOk_by (N := n_are_terms) (sc := defScope s_are_terms) (by decide +kernel)) (fun _ _ _ _ _ => (pg_name (i := 5) sc_are_terms.nd rfl (by first | exact .inl rfl | exact .inr rfl))) (fun _ _ _ _ _ => pts_nil) (fun _ _ _ _ _ => (pe_call (ok_are_exponents T) (hr.mono (by decide)) (by rfl) T.m_are_exponents T.F_are_exponents.kp T.b_are_exponents .nil pass0 (pa_cons (pv 5) (pa_cons (pv 1) pa_nil)))))) pa_nil)))) (pss_one (ps_ret pe_bl)) pss_nil)
      (pss_cons (ps_if (pt_not (pt_val (pe_callB (cr_all rfl) (by rfl) T.z_all (by decide +kernel) (pa_cons (pe_lock (pe_lc (own := [("number", 6)]) (g := gName 6) (tt := tYes) rfl sc_are_terms.nd (pi_valuesT (pv 0)) (blkOk_by (N := n_are_terms) (sc := defScope s_are_terms) (by decide +kernel)) (fun _ _ _ _ _ => (pg_name (i := 6) sc_are_terms.nd rfl (by first | exact .inl rfl | exact .inr rfl))) (fun _ _ _ _ _ => pts_nil) (fun _ _ _ _ _ => (pe_and (pe_call (ok_is_integer T) (hr.mono (by decide)) (by rfl) T.m_is_integer T.F_is_integer.kp T.b_is_integer .nil pass0 (pa_cons (pv 6) pa_nil)) (pe_one (pe_cmpR op_ne (pv 6) pe_int (nomark _))))))) pa_nil)))) (pss_one (ps_ret pe_bl)) pss_nil)
      (pss_cons (ps_set (i := 2) sc_are_terms.nd rfl (Or.inl rfl) (pe_call (ok_first_of T) (hr.mono (by decide)) (by rfl) T.m_first_of T.F_first_of.kp T.b_first_of .nil pass0 (pa_cons (pv 0) pa_nil)))
      (pss_cons (ps_if (pt_cmpR op_isN (pv 2) pe_non (nomark _)) (pss_one (ps_ret pe_bl)) pss_nil)
      (pss_cons (ps_asg (pe_tup (pa_cons (pe_callB (cr_sumTI rfl) (by rfl) T.z_sum (by decide +kernel) (pa_cons (pv 2) pa_nil)) (pa_cons (pe_call (ok_weight_of T) (hr.mono (by decide)) (by rfl) T.m_weight_of T.F_weight_of.kp T.b_weight_of .nil pass0 (pa_cons (pv 2) pa_nil)) pa_nil))) (pg_tupH (n := 2) (by rfl) (pgs_cons (pg_name (i := 3) sc_are_terms.nd rfl (by first | exact .inl rfl | exact .inr rfl)) (pgs_cons (pg_name (i := 4) sc_are_terms.nd rfl (by first | exact .inl rfl | exact .inr rfl)) pgs_nil))))
      (pss_one (ps_ret (pe_callB (cr_all rfl) (by rfl) T.z_all (by decide +kernel) (pa_cons (pe_lock (pe_lc (own := [("exponents", 5)]) (g := gName 5) (tt := tYes) rfl sc_are_terms.nd (pi_keys (pv 0)) (blkOk_by (N := n_are_terms) (sc := defScope s_are_terms) (by decide +kernel)) (fun _ _ _ _ _ => (pg_name (i := 5) sc_are_terms.nd rfl (by first | exact .inl rfl | exact .inr rfl))) (fun _ _ _ _ _ => pts_nil) (fun _ _ _ _ _ => (pe_and (pe_cmpR op_eq (pe_callB (cr_sumTI rfl) (by rfl) T.z_sum (by decide +kernel) (pa_cons (pv 5) pa_nil)) (pv 3) (nomark _)) (pe_one (pe_cmpR op_eq (pe_call (ok_weight_of T) (hr.mono (by decide)) (by rfl) T.m_weight_of T.F_weight_of.kp T.b_weight_of .nil pass0 (pa_cons (pv 5) pa_nil)) (pv 4) (nomark _))))))) pa_nil)))))))))), ?_⟩
    rw [st_are_terms]
    simp only [ap_seq, ap_next, ap_asg, ap_gName, ap_ret, ap_retN, ap_drop, ap_ifS, ap_break, ap_cont, ap_par, ap_aug, ap_ip, ap_gSub, ap_gTup, ap_gNil, ap_gCons, ap_var, ap_c, ap_op, ap_un, ap_if, ap_test, ap_B, ap_and, ap_or, ap_not, ap_andV, ap_orV, ap_notV, ap_nil, ap_cons, ap_tup, ap_lst, ap_cb, ap_bm, ap_call, ap_chain, ap_rI, ap_rI0, ap_rU, ap_rEq, ap_rNe, ap_revT, ap_sl, ap_part, ap_noPart, ap_ixLI, ap_ixTI, ap_ixLV, ap_ixTV, ap_len, ap_setLI, ap_setLV, ap_appI, ap_appV, ap_tupL, ap_listS, ap_sumLI, ap_sumTI, ap_repLI, ap_intI, ap_intB, ap_eqTI, ap_neTI, ap_eqLI, ap_neLI, ap_isi, ap_for, ap_rng1, ap_rng2, ap_iList, ap_iTup, ap_lc, ap_yes, ap_cut, ap_gTupH, ap_fmt, ap_jsn, ap_jsc, ap_gcd, ap_isqrt, ap_ixL, tyV_l, wipe_nil, wipe_cons, upd_same, ap_iEnT, ap_iEnL, ap_iZipA, ap_all, ap_tupT, ap_attF, ap_makeL, ap_dictKP, ap_neDP, ap_itemsT, ap_zipM, ap_lockE, ap_dget2, ap_dput, ap_dnewT, ap_iValsT, ap_iKeys, ap_sortedDT, ap_dictLT, ap_lenDT, ap_dcT, ap_sortT1, ap_dget, ap_listG, ap_callG, ap_star, ap_extend, ap_max, ap_setOfT, ap_sortedU, ap_sortedTU, ap_repTZ, ap_maxT, ap_revA, ap_att, ap_prop, ap_isO, ap_bin, ap_ne, ap_meth, ap_make, ins_inj, FE_inj, ap_slI, ap_catI, ap_perm, ap_lenO, ap_strO, ap_listO, ap_reprB, ap_iterT, ap_neT, ap_negO, ap_binI, ap_catL, ap_tM1, ap_repTI, ap_popN, ap_par3, ap_catTT, ap_repTA, ap_countT, ap_notInT, ap_repL1, ap_shl, ap_shr, ap_mask, ap_comb, ap_bits, ap_rng3, List.set_cons_zero, List.set_cons_succ, List.getElem?_cons_zero, List.getElem?_cons_succ, List.cons_append, List.nil_append, List.append_nil, Option.some.injEq, V.int.injEq, V.ref.injEq, V.bl.injEq, V.str.injEq, V.ty.injEq, Bool.not_true, Bool.not_false, HO.lst.injEq, HO.tup.injEq, reduceCtorEq, Int.reduceToNat, Int.reduceLT, Int.reduceLE, Nat.reduceAdd, Int.cast_ofNat_Int, gi_c0, gi_c1, gi_c2, gi_c3, Int.natCast_inj, map_int_inj, map_nil_iff, List.cons.injEq, exists_eq_left, exists_eq_left', exists_eq, exists_eq', exists_and_left, exists_and_right, exists_const, and_assoc, and_true, true_and, and_false, false_and, or_false, false_or, or_true, true_or, ite_true, ite_false, if_true, if_false, Bool.false_eq_true, own_cons, own_nil, le1, le2, le3, le4, me_cons, me_nil, List.length_map, List.length_cons, List.length_nil, ne_eq, not_false_eq_true, not_true_eq_false, decide_eq_true_eq, ap_lockE, sp_is_integer]
    refine ⟨_, ty_dT ha, _, kit_dd, ?_⟩
    rw [if_neg (by decide)]
    have few := hT.few
    have hlen : (dtOf l).length = l.length := List.length_map ..
    refine ⟨_, .inl ha, ?_⟩
    rw [hlen, if_neg (by omega)]
    refine ⟨a, _, ha, trivial, fun od => ⟨od, .inr ⟨dtOf l, upd_same, ?_⟩⟩⟩
    refine lc_trues (gives_keysT (kvs := dtOf l)) (by omega) (fun H' s => s _ _ upd_same) (fun x => rfl) (fun i v H1 H' hi s1 y => ?_) (fun p1 H1 n1 s1 e1 => ?_)
    · obtain ⟨rfl, kk, x, q, ek, rfl, hq⟩ := y
      obtain ⟨e, me, rfl, rfl⟩ := dt_get ek
      rw [kV_ints] at hq
      refine ⟨Same.refl _, fun Q' q' => ?_⟩
      simp only [ap_seq, ap_next, ap_asg, ap_gName, ap_ret, ap_retN, ap_drop, ap_ifS, ap_break, ap_cont, ap_par, ap_aug, ap_ip, ap_gSub, ap_gTup, ap_gNil, ap_gCons, ap_var, ap_c, ap_op, ap_un, ap_if, ap_test, ap_B, ap_and, ap_or, ap_not, ap_andV, ap_orV, ap_notV, ap_nil, ap_cons, ap_tup, ap_lst, ap_cb, ap_bm, ap_call, ap_chain, ap_rI, ap_rI0, ap_rU, ap_rEq, ap_rNe, ap_revT, ap_sl, ap_part, ap_noPart, ap_ixLI, ap_ixTI, ap_ixLV, ap_ixTV, ap_len, ap_setLI, ap_setLV, ap_appI, ap_appV, ap_tupL, ap_listS, ap_sumLI, ap_sumTI, ap_repLI, ap_intI, ap_intB, ap_eqTI, ap_neTI, ap_eqLI, ap_neLI, ap_isi, ap_for, ap_rng1, ap_rng2, ap_iList, ap_iTup, ap_lc, ap_yes, ap_cut, ap_gTupH, ap_fmt, ap_jsn, ap_jsc, ap_gcd, ap_isqrt, ap_ixL, tyV_l, wipe_nil, wipe_cons, upd_same, ap_iEnT, ap_iEnL, ap_iZipA, ap_all, ap_tupT, ap_attF, ap_makeL, ap_dictKP, ap_neDP, ap_itemsT, ap_zipM, ap_lockE, ap_dget2, ap_dput, ap_dnewT, ap_iValsT, ap_iKeys, ap_sortedDT, ap_dictLT, ap_lenDT, ap_dcT, ap_sortT1, ap_dget, ap_listG, ap_callG, ap_star, ap_extend, ap_max, ap_setOfT, ap_sortedU, ap_sortedTU, ap_repTZ, ap_maxT, ap_revA, ap_att, ap_prop, ap_isO, ap_bin, ap_ne, ap_meth, ap_make, ins_inj, FE_inj, ap_slI, ap_catI, ap_perm, ap_lenO, ap_strO, ap_listO, ap_reprB, ap_iterT, ap_neT, ap_negO, ap_binI, ap_catL, ap_tM1, ap_repTI, ap_popN, ap_par3, ap_catTT, ap_repTA, ap_countT, ap_notInT, ap_repL1, ap_shl, ap_shr, ap_mask, ap_comb, ap_bits, ap_rng3, List.set_cons_zero, List.set_cons_succ, List.getElem?_cons_zero, List.getElem?_cons_succ, List.cons_append, List.nil_append, List.append_nil, Option.some.injEq, V.int.injEq, V.ref.injEq, V.bl.injEq, V.str.injEq, V.ty.injEq, Bool.not_true, Bool.not_false, HO.lst.injEq, HO.tup.injEq, reduceCtorEq, Int.reduceToNat, Int.reduceLT, Int.reduceLE, Nat.reduceAdd, Int.cast_ofNat_Int, gi_c0, gi_c1, gi_c2, gi_c3, Int.natCast_inj, map_int_inj, map_nil_iff, List.cons.injEq, exists_eq_left, exists_eq_left', exists_eq, exists_eq', exists_and_left, exists_and_right, exists_const, and_assoc, and_true, true_and, and_false, false_and, or_false, false_or, or_true, true_or, ite_true, ite_false, if_true, if_false, Bool.false_eq_true, own_cons, own_nil, le1, le2, le3, le4, me_cons, me_nil, List.length_map, List.length_cons, List.length_nil, ne_eq, not_false_eq_true, not_true_eq_false, decide_eq_true_eq, sp_are_exponents]
      exact ⟨_, hq, hn, (hT.ex e me).1, fun H3 s3 => q' H3 s3⟩
    have L1 := lock_same ha s1
    have np1 : p1 ≠ a := fun e => by
      rw [e, upd_same] at n1
      cases n1
    refine ⟨s1 _ _ upd_same, p1, rfl, _, sqL_of (by rw [upd_ne np1]; exact e1), ?_⟩
    rw [all_trues, if_neg (by decide)]
    have ha1 := L1 _ _ ha
    generalize upd H1 a (.dT (dtOf l)) = H2 at *
    refine ⟨a, _, ha1, trivial, fun od => ⟨od, dtOf l, upd_same, ?_⟩⟩
    refine lc_trues (gives_valsT (kvs := dtOf l)) (by omega) (fun H' s => s _ _ upd_same) (fun x => rfl) (fun i v H1 H' hi s1 y => ?_) (fun p2 H3 n2 s2 e2 => ?_)
    · obtain ⟨rfl, kk, ek⟩ := y
      obtain ⟨e, me, rfl, rfl⟩ := dt_get ek
      refine ⟨Same.refl _, fun Q' q' => ?_⟩
      simp only [ap_seq, ap_next, ap_asg, ap_gName, ap_ret, ap_retN, ap_drop, ap_ifS, ap_break, ap_cont, ap_par, ap_aug, ap_ip, ap_gSub, ap_gTup, ap_gNil, ap_gCons, ap_var, ap_c, ap_op, ap_un, ap_if, ap_test, ap_B, ap_and, ap_or, ap_not, ap_andV, ap_orV, ap_notV, ap_nil, ap_cons, ap_tup, ap_lst, ap_cb, ap_bm, ap_call, ap_chain, ap_rI, ap_rI0, ap_rU, ap_rEq, ap_rNe, ap_revT, ap_sl, ap_part, ap_noPart, ap_ixLI, ap_ixTI, ap_ixLV, ap_ixTV, ap_len, ap_setLI, ap_setLV, ap_appI, ap_appV, ap_tupL, ap_listS, ap_sumLI, ap_sumTI, ap_repLI, ap_intI, ap_intB, ap_eqTI, ap_neTI, ap_eqLI, ap_neLI, ap_isi, ap_for, ap_rng1, ap_rng2, ap_iList, ap_iTup, ap_lc, ap_yes, ap_cut, ap_gTupH, ap_fmt, ap_jsn, ap_jsc, ap_gcd, ap_isqrt, ap_ixL, tyV_l, wipe_nil, wipe_cons, upd_same, ap_iEnT, ap_iEnL, ap_iZipA, ap_all, ap_tupT, ap_attF, ap_makeL, ap_dictKP, ap_neDP, ap_itemsT, ap_zipM, ap_lockE, ap_dget2, ap_dput, ap_dnewT, ap_iValsT, ap_iKeys, ap_sortedDT, ap_dictLT, ap_lenDT, ap_dcT, ap_sortT1, ap_dget, ap_listG, ap_callG, ap_star, ap_extend, ap_max, ap_setOfT, ap_sortedU, ap_sortedTU, ap_repTZ, ap_maxT, ap_revA, ap_att, ap_prop, ap_isO, ap_bin, ap_ne, ap_meth, ap_make, ins_inj, FE_inj, ap_slI, ap_catI, ap_perm, ap_lenO, ap_strO, ap_listO, ap_reprB, ap_iterT, ap_neT, ap_negO, ap_binI, ap_catL, ap_tM1, ap_repTI, ap_popN, ap_par3, ap_catTT, ap_repTA, ap_countT, ap_notInT, ap_repL1, ap_shl, ap_shr, ap_mask, ap_comb, ap_bits, ap_rng3, List.set_cons_zero, List.set_cons_succ, List.getElem?_cons_zero, List.getElem?_cons_succ, List.cons_append, List.nil_append, List.append_nil, Option.some.injEq, V.int.injEq, V.ref.injEq, V.bl.injEq, V.str.injEq, V.ty.injEq, Bool.not_true, Bool.not_false, HO.lst.injEq, HO.tup.injEq, reduceCtorEq, Int.reduceToNat, Int.reduceLT, Int.reduceLE, Nat.reduceAdd, Int.cast_ofNat_Int, gi_c0, gi_c1, gi_c2, gi_c3, Int.natCast_inj, map_int_inj, map_nil_iff, List.cons.injEq, exists_eq_left, exists_eq_left', exists_eq, exists_eq', exists_and_left, exists_and_right, exists_const, and_assoc, and_true, true_and, and_false, false_and, or_false, false_or, or_true, true_or, ite_true, ite_false, if_true, if_false, Bool.false_eq_true, own_cons, own_nil, le1, le2, le3, le4, me_cons, me_nil, List.length_map, List.length_cons, List.length_nil, ne_eq, not_false_eq_true, not_true_eq_false, decide_eq_true_eq, sp_is_integer]
      obtain ⟨z0, z1, z2⟩ := hT.num e me
      refine ⟨z1, z2, rfl, ?_⟩
      rw [decide_eq_false z0]
      exact q' _ (Same.refl _)
    have L2' := lock_same ha1 s2
    have np2 : p2 ≠ a := fun e => by
      rw [e, upd_same] at n2
      cases n2
    refine ⟨s2 _ _ upd_same, p2, rfl, _, sqL_of (by rw [upd_ne np2]; exact e2), ?_⟩
    rw [all_trues, if_neg (by decide)]
    have ha2 := L2' _ _ ha1
    generalize upd H3 a (.dT (dtOf l)) = H4 at *
    refine ⟨a, l, rfl, ha2, fun _ => ?_, fun q0 m t el ht => ?_⟩
    · show (if _ then _ else _)
      rw [if_pos rfl]
      exact k _ (L1.trans L2')
    · show (if _ then _ else _)
      have mq : q0 ∈ l := by rw [el]; exact List.mem_cons_self
      obtain ⟨x1, x2, x3⟩ := hT.ex q0 mq
      rw [if_neg (fun e => by cases e)]
      refine ⟨t, rfl, _, ht, t, _, rfl, ht, by have := x1.1; omega, fun H5 s5 => ⟨by decide, fun p6 n6 => ?_⟩⟩
      rw [x2, x3]
      have s6 := same_upd (o := HO.tup [V.int (sz0 : Nat), V.int (wt : Nat)]) n6
      have ha3 := s6 _ _ (s5 _ _ ha2)
      generalize upd H5 p6 (HO.tup [V.int (sz0 : Nat), V.int (wt : Nat)]) = H6 at *
      refine ⟨a, _, ha3, trivial, fun od => ⟨od, .inr ⟨dtOf l, upd_same, ?_⟩⟩⟩
      refine lc_trues (gives_keysT (kvs := dtOf l)) (by omega) (fun H' s => s _ _ upd_same) (fun x => rfl) (fun i v H1 H' hi s1 y => ?_) (fun p7 H7 n7 s7 e7 => ?_)
      · obtain ⟨rfl, kk, x, q, ek, rfl, hq⟩ := y
        obtain ⟨e, me, rfl, rfl⟩ := dt_get ek
        rw [kV_ints] at hq
        obtain ⟨y1, y2, y3⟩ := hT.ex e me
        refine ⟨Same.refl _, fun Q' q' => ?_⟩
        simp only [ap_seq, ap_next, ap_asg, ap_gName, ap_ret, ap_retN, ap_drop, ap_ifS, ap_break, ap_cont, ap_par, ap_aug, ap_ip, ap_gSub, ap_gTup, ap_gNil, ap_gCons, ap_var, ap_c, ap_op, ap_un, ap_if, ap_test, ap_B, ap_and, ap_or, ap_not, ap_andV, ap_orV, ap_notV, ap_nil, ap_cons, ap_tup, ap_lst, ap_cb, ap_bm, ap_call, ap_chain, ap_rI, ap_rI0, ap_rU, ap_rEq, ap_rNe, ap_revT, ap_sl, ap_part, ap_noPart, ap_ixLI, ap_ixTI, ap_ixLV, ap_ixTV, ap_len, ap_setLI, ap_setLV, ap_appI, ap_appV, ap_tupL, ap_listS, ap_sumLI, ap_sumTI, ap_repLI, ap_intI, ap_intB, ap_eqTI, ap_neTI, ap_eqLI, ap_neLI, ap_isi, ap_for, ap_rng1, ap_rng2, ap_iList, ap_iTup, ap_lc, ap_yes, ap_cut, ap_gTupH, ap_fmt, ap_jsn, ap_jsc, ap_gcd, ap_isqrt, ap_ixL, tyV_l, wipe_nil, wipe_cons, upd_same, ap_iEnT, ap_iEnL, ap_iZipA, ap_all, ap_tupT, ap_attF, ap_makeL, ap_dictKP, ap_neDP, ap_itemsT, ap_zipM, ap_lockE, ap_dget2, ap_dput, ap_dnewT, ap_iValsT, ap_iKeys, ap_sortedDT, ap_dictLT, ap_lenDT, ap_dcT, ap_sortT1, ap_dget, ap_listG, ap_callG, ap_star, ap_extend, ap_max, ap_setOfT, ap_sortedU, ap_sortedTU, ap_repTZ, ap_maxT, ap_revA, ap_att, ap_prop, ap_isO, ap_bin, ap_ne, ap_meth, ap_make, ins_inj, FE_inj, ap_slI, ap_catI, ap_perm, ap_lenO, ap_strO, ap_listO, ap_reprB, ap_iterT, ap_neT, ap_negO, ap_binI, ap_catL, ap_tM1, ap_repTI, ap_popN, ap_par3, ap_catTT, ap_repTA, ap_countT, ap_notInT, ap_repL1, ap_shl, ap_shr, ap_mask, ap_comb, ap_bits, ap_rng3, List.set_cons_zero, List.set_cons_succ, List.getElem?_cons_zero, List.getElem?_cons_succ, List.cons_append, List.nil_append, List.append_nil, Option.some.injEq, V.int.injEq, V.ref.injEq, V.bl.injEq, V.str.injEq, V.ty.injEq, Bool.not_true, Bool.not_false, HO.lst.injEq, HO.tup.injEq, reduceCtorEq, Int.reduceToNat, Int.reduceLT, Int.reduceLE, Nat.reduceAdd, Int.cast_ofNat_Int, gi_c0, gi_c1, gi_c2, gi_c3, Int.natCast_inj, map_int_inj, map_nil_iff, List.cons.injEq, exists_eq_left, exists_eq_left', exists_eq, exists_eq', exists_and_left, exists_and_right, exists_const, and_assoc, and_true, true_and, and_false, false_and, or_false, false_or, or_true, true_or, ite_true, ite_false, if_true, if_false, Bool.false_eq_true, own_cons, own_nil, le1, le2, le3, le4, me_cons, me_nil, List.length_map, List.length_cons, List.length_nil, ne_eq, not_false_eq_true, not_true_eq_false, decide_eq_true_eq, sp_weight_of]
        refine ⟨_, hq, rfl, ?_⟩
        rw [if_pos y2]
        refine ⟨_, hq, by have := y1.1; omega, fun H8 s8 => ⟨rfl, ?_⟩⟩
        rw [decide_eq_true y3]
        exact q' _ s8
      have L3 := lock_same ha3 s7
      have np7 : p7 ≠ a := fun e => by
        rw [e, upd_same] at n7
        cases n7
      refine ⟨s7 _ _ upd_same, p7, rfl, _, sqL_of (by rw [upd_ne np7]; exact e7), ?_⟩
      rw [all_trues]
      exact k _ (L1.trans (L2'.trans (s5.trans (s6.trans L3))))
theorem val_dt : ∀ {l : List (List Int × Int)}, (l.map (·.1)).Nodup → ∀ {k : List Int} {n : Int}, (k, n) ∈ l → valV (dtOf l) (k.map Sum.inl) = some (V.int n)
  | [], _, _, _, h => absurd h List.not_mem_nil
  | q :: l, nd, k, n, h => by
    obtain ⟨n1, n2⟩ := List.nodup_cons.mp (show (q.1 :: l.map (·.1)).Nodup from nd)
    show valV ((q.1.map Sum.inl, V.int q.2) :: dtOf l) _ = _
    rcases List.mem_cons.mp h with rfl | h
    · unfold valV
      simp
    · have ne : q.1 ≠ k := fun e => n1 (by rw [e]; exact List.mem_map_of_mem (f := (·.1)) h)
      have ih := val_dt n2 h
      unfold valV at ih ⊢
      rw [List.find?_cons_of_neg (by simpa using fun e => ne (map_inl_inj e))]
      exact ih
theorem put_new {l : List (List Int × Int)} {k : List Int} {v : V} (h : k ∉ l.map (·.1)) : putK (dtOf l) (k.map Sum.inl) v = dtOf l ++ [(k.map Sum.inl, v)] := by
  unfold putK
  rw [if_neg fun e => ?_]
  obtain ⟨p, hp, e⟩ := List.any_eq_true.mp e
  unfold dtOf at hp
  obtain ⟨q, hq, rfl⟩ := List.mem_map.mp hp
  exact h (List.mem_map.mpr ⟨q, hq, map_inl_inj (by simpa using e)⟩)
def sp_tidy : Sp := fun vs H Q _ => ∃ (a : Addr) (l : List (List Int × Int)) (d : Nat) (B : Int), vs = [.ref a] ∧ H a = some (.dT (dtOf l)) ∧ l.length < 64 ∧ (l.map (·.1)).Nodup ∧ 1 ≤ d ∧ (∀ q ∈ l, q.1.length = d ∧ TS.Bd B q.1 ∧ -1000000 < q.2 ∧ q.2 < 1000000) ∧
  ∀ H' p l', Same H H' → H p = none → H' p = some (.dT (dtOf l')) → l'.Perm (l.filter fun q => decide (q.2 ≠ 0)) → l'.Pairwise (fun q r => TS.code B q.1 ≤ TS.code B r.1) → Q (.ref p) H'
theorem ok_tidy (T : Tx K mg) : FnOk P w K mg base CX0 1 T.f_tidy T.d_tidy p_tidy sp_tidy := by
  refine T.F_tidy.ok sc_tidy (fun vs H Q E h => ?_) (fun cdv A outer s H vs Q E hr h => ?_)
  · obtain ⟨a, l, d, B, rfl, _⟩ := h
    rfl
  · obtain ⟨a, l, d, B, rfl, ha, h64, nd, hd, hl, k⟩ := h
    refine ⟨_, (pss_one (ps_ret (pe_dcT (own := [("exponents", 1)]) (g := gName 1) rfl hr.units0 sc_tidy.nd (pi_list (pe_callB (cr_sortedDT rfl) (by rfl) T.z_sorted (by decide +kernel) (pa_cons (pv 0) pa_nil))) (blkOk_by (N := n_tidy) (sc := defScope s_tidy) (by decide +kernel)) ⟨(fun _ _ _ _ _ => (pg_name (i := 1) sc_tidy.nd rfl (by first | exact .inl rfl | exact .inr rfl))), (fun _ _ _ _ _ => (pts_one (pt_cmpR op_ne (pe_dget (hu_of8 hr.units) (pv 0) (pv 1) (fun _ _ => rfl)) pe_int (nomark _)))), (fun _ _ _ _ _ => (pv 1)), (fun _ _ _ _ _ => (pe_dget (hu_of8 hr.units) (pv 0) (pv 1) (fun _ _ => rfl)))⟩))), ?_⟩
    rw [st_tidy]
    simp only [ap_seq, ap_next, ap_asg, ap_gName, ap_ret, ap_retN, ap_drop, ap_ifS, ap_break, ap_cont, ap_par, ap_aug, ap_ip, ap_gSub, ap_gTup, ap_gNil, ap_gCons, ap_var, ap_c, ap_op, ap_un, ap_if, ap_test, ap_B, ap_and, ap_or, ap_not, ap_andV, ap_orV, ap_notV, ap_nil, ap_cons, ap_tup, ap_lst, ap_cb, ap_bm, ap_call, ap_chain, ap_rI, ap_rI0, ap_rU, ap_rEq, ap_rNe, ap_revT, ap_sl, ap_part, ap_noPart, ap_ixLI, ap_ixTI, ap_ixLV, ap_ixTV, ap_len, ap_setLI, ap_setLV, ap_appI, ap_appV, ap_tupL, ap_listS, ap_sumLI, ap_sumTI, ap_repLI, ap_intI, ap_intB, ap_eqTI, ap_neTI, ap_eqLI, ap_neLI, ap_isi, ap_for, ap_rng1, ap_rng2, ap_iList, ap_iTup, ap_lc, ap_yes, ap_cut, ap_gTupH, ap_fmt, ap_jsn, ap_jsc, ap_gcd, ap_isqrt, ap_ixL, tyV_l, wipe_nil, wipe_cons, upd_same, ap_iEnT, ap_iEnL, ap_iZipA, ap_all, ap_tupT, ap_attF, ap_makeL, ap_dictKP, ap_neDP, ap_itemsT, ap_zipM, ap_lockE, ap_dget2, ap_dput, ap_dnewT, ap_iValsT, ap_iKeys, ap_sortedDT, ap_dictLT, ap_lenDT, ap_dcT, ap_sortT1, ap_dget, ap_listG, ap_callG, ap_star, ap_extend, ap_max, ap_setOfT, ap_sortedU, ap_sortedTU, ap_repTZ, ap_maxT, ap_revA, ap_att, ap_prop, ap_isO, ap_bin, ap_ne, ap_meth, ap_make, ins_inj, FE_inj, ap_slI, ap_catI, ap_perm, ap_lenO, ap_strO, ap_listO, ap_reprB, ap_iterT, ap_neT, ap_negO, ap_binI, ap_catL, ap_tM1, ap_repTI, ap_popN, ap_par3, ap_catTT, ap_repTA, ap_countT, ap_notInT, ap_repL1, ap_shl, ap_shr, ap_mask, ap_comb, ap_bits, ap_rng3, List.set_cons_zero, List.set_cons_succ, List.getElem?_cons_zero, List.getElem?_cons_succ, List.cons_append, List.nil_append, List.append_nil, Option.some.injEq, V.int.injEq, V.ref.injEq, V.bl.injEq, V.str.injEq, V.ty.injEq, Bool.not_true, Bool.not_false, HO.lst.injEq, HO.tup.injEq, reduceCtorEq, Int.reduceToNat, Int.reduceLT, Int.reduceLE, Nat.reduceAdd, Int.cast_ofNat_Int, gi_c0, gi_c1, gi_c2, gi_c3, Int.natCast_inj, map_int_inj, map_nil_iff, List.cons.injEq, exists_eq_left, exists_eq_left', exists_eq, exists_eq', exists_and_left, exists_and_right, exists_const, and_assoc, and_true, true_and, and_false, false_and, or_false, false_or, or_true, true_or, ite_true, ite_false, if_true, if_false, Bool.false_eq_true, own_cons, own_nil, le1, le2, le3, le4, me_cons, me_nil, List.length_map, List.length_cons, List.length_nil, ne_eq, not_false_eq_true, not_true_eq_false, decide_eq_true_eq]
    refine ⟨dtOf l, l.map (·.1), d, hd, .inl ha, ?_, by rw [List.length_map]; exact h64, B, fun r hr => ?_, fun L p pm hL pw np => ⟨⟨_, sqL_of upd_same⟩, ?_⟩⟩
    · unfold dtOf
      rw [List.map_map, List.map_map]
      rfl
    · obtain ⟨q, hq, rfl⟩ := List.mem_map.mp hr
      exact ⟨(hl q hq).1, (hl q hq).2.1⟩
    obtain ⟨l', pl, el⟩ := perm_lift (·.1) pm l rfl
    have sp := same_upd (o := HO.lst (L.map fun q => V.ref q.1)) np
    have nd' : (l'.map (·.1)).Nodup := (pl.map (·.1)).nodup_iff.mpr nd
    have len1 : l'.length = L.length := by
      have := congrArg List.length el
      simpa using this
    have len2 : l'.length = l.length := pl.length_eq
    refine dc_xs (gives_list (xs := L.map fun q => V.ref q.1)) (fun D i H' => Same (upd H p (HO.lst (L.map fun q => V.ref q.1))) H' ∧ H' D = some (.dT (dtOf ((l'.take i).filter fun q => decide (q.2 ≠ 0))))) (fun D hD => ⟨same_upd hD, upd_same⟩) (fun D i H' _ q => q.1 _ _ upd_same)
      (fun D i x H' hD ex q => ?_) (fun D H' hD q => ?_)
    · obtain ⟨s1, e1⟩ := q
      rw [List.getElem?_map, Option.map_eq_some_iff] at ex
      obtain ⟨⟨t, ky⟩, eL, rfl⟩ := ex
      obtain ⟨n, en⟩ : ∃ n, l'[i]? = some (ky, n) := by
        have e2 := congrArg (fun z => z[i]?) el
        simp only [List.getElem?_map, eL] at e2
        obtain ⟨⟨k2, n⟩, e3, e4⟩ := Option.map_eq_some_iff.mp e2
        exact ⟨n, by rw [e3]; exact congrArg (fun z => some (z, n)) e4⟩
      have ml : (ky, n) ∈ l := pl.mem_iff.mp (List.mem_of_getElem? en)
      have ht : H' t = some (TI ky) := s1 _ _ (sp _ _ (hL _ (List.mem_of_getElem? eL)))
      have ha' : H' a = some (.dT (dtOf l)) := s1 _ _ (sp _ _ ha)
      have hv := val_dt nd ml
      have hg : DGet H' a (.ref t) (some (.int n)) := by
        rw [← hv]
        exact DGet.t ha' (by rw [kV_ints]; exact ht)
      unfold DcStep
      simp only [ap_seq, ap_next, ap_asg, ap_gName, ap_ret, ap_retN, ap_drop, ap_ifS, ap_break, ap_cont, ap_par, ap_aug, ap_ip, ap_gSub, ap_gTup, ap_gNil, ap_gCons, ap_var, ap_c, ap_op, ap_un, ap_if, ap_test, ap_B, ap_and, ap_or, ap_not, ap_andV, ap_orV, ap_notV, ap_nil, ap_cons, ap_tup, ap_lst, ap_cb, ap_bm, ap_call, ap_chain, ap_rI, ap_rI0, ap_rU, ap_rEq, ap_rNe, ap_revT, ap_sl, ap_part, ap_noPart, ap_ixLI, ap_ixTI, ap_ixLV, ap_ixTV, ap_len, ap_setLI, ap_setLV, ap_appI, ap_appV, ap_tupL, ap_listS, ap_sumLI, ap_sumTI, ap_repLI, ap_intI, ap_intB, ap_eqTI, ap_neTI, ap_eqLI, ap_neLI, ap_isi, ap_for, ap_rng1, ap_rng2, ap_iList, ap_iTup, ap_lc, ap_yes, ap_cut, ap_gTupH, ap_fmt, ap_jsn, ap_jsc, ap_gcd, ap_isqrt, ap_ixL, tyV_l, wipe_nil, wipe_cons, upd_same, ap_iEnT, ap_iEnL, ap_iZipA, ap_all, ap_tupT, ap_attF, ap_makeL, ap_dictKP, ap_neDP, ap_itemsT, ap_zipM, ap_lockE, ap_dget2, ap_dput, ap_dnewT, ap_iValsT, ap_iKeys, ap_sortedDT, ap_dictLT, ap_lenDT, ap_dcT, ap_sortT1, ap_dget, ap_listG, ap_callG, ap_star, ap_extend, ap_max, ap_setOfT, ap_sortedU, ap_sortedTU, ap_repTZ, ap_maxT, ap_revA, ap_att, ap_prop, ap_isO, ap_bin, ap_ne, ap_meth, ap_make, ins_inj, FE_inj, ap_slI, ap_catI, ap_perm, ap_lenO, ap_strO, ap_listO, ap_reprB, ap_iterT, ap_neT, ap_negO, ap_binI, ap_catL, ap_tM1, ap_repTI, ap_popN, ap_par3, ap_catTT, ap_repTA, ap_countT, ap_notInT, ap_repL1, ap_shl, ap_shr, ap_mask, ap_comb, ap_bits, ap_rng3, List.set_cons_zero, List.set_cons_succ, List.getElem?_cons_zero, List.getElem?_cons_succ, List.cons_append, List.nil_append, List.append_nil, Option.some.injEq, V.int.injEq, V.ref.injEq, V.bl.injEq, V.str.injEq, V.ty.injEq, Bool.not_true, Bool.not_false, HO.lst.injEq, HO.tup.injEq, reduceCtorEq, Int.reduceToNat, Int.reduceLT, Int.reduceLE, Nat.reduceAdd, Int.cast_ofNat_Int, gi_c0, gi_c1, gi_c2, gi_c3, Int.natCast_inj, map_int_inj, map_nil_iff, List.cons.injEq, exists_eq_left, exists_eq_left', exists_eq, exists_eq', exists_and_left, exists_and_right, exists_const, and_assoc, and_true, true_and, and_false, false_and, or_false, false_or, or_true, true_or, ite_true, ite_false, if_true, if_false, Bool.false_eq_true, own_cons, own_nil, le1, le2, le3, le4, me_cons, me_nil, List.length_map, List.length_cons, List.length_nil, ne_eq, not_false_eq_true, not_true_eq_false, decide_eq_true_eq]
      refine ⟨_, hg, rfl, ?_⟩
      have tk : l'.take (i + 1) = l'.take i ++ [(ky, n)] := by rw [List.take_succ, en]; rfl
      rw [tk, List.filter_append]
      by_cases c : n = 0
      · rw [if_neg (by simp [c]), List.filter_cons_of_neg (by simp [c]), List.filter_nil, List.append_nil]
        exact ⟨s1, e1⟩
      · rw [if_pos (by simp [c]), List.filter_cons_of_pos (by simp [c]), List.filter_nil]
        have hno : ky ∉ (l'.take i).map (·.1) := fun hm => by
          have e5 := nd'
          rw [← List.take_append_drop (i + 1) l', tk, List.map_append, List.map_append] at e5
          have e6 := (List.nodup_append.mp (List.nodup_append.mp e5).1).2.2
          exact e6 ky hm ky (by simp) rfl
        have few : ((l'.take i).filter fun q => decide (¬ q.2 = 0)).length ≤ 64 := Nat.le_trans (List.length_filter_le _ _) (by rw [List.length_take]; omega)
        refine ⟨_, hg, _, DPut.t e1 (by rw [kV_ints]; exact ht) ?_, ?_, ?_⟩
        · unfold dtOf
          rw [List.length_map]
          have few' := few
          simp only [ne_eq] at few' ⊢
          exact sz (Nat.lt_of_le_of_lt few' (by decide))
        · exact same_mut s1 hD
        · rw [upd_same, put_new (fun hm => hno ?_)]
          · unfold dtOf
            rw [List.map_append]
            rfl
          · obtain ⟨q, hq, e⟩ := List.mem_map.mp hm
            rw [← e]
            exact List.mem_map_of_mem (List.mem_filter.mp hq).1
    · obtain ⟨s1, e1⟩ := q
      rw [List.length_map, ← len1, List.take_length] at e1
      refine k H' D _ (sp.trans s1) ?_ e1 (pl.filter _) ?_
      · by_cases e : D = p
        · rw [e]; exact np
        · rw [upd_ne e] at hD
          exact hD
      · refine List.Pairwise.filter _ ?_
        have h5 : (l'.map (·.1)).Pairwise (fun x y => TS.code B x ≤ TS.code B y) := by
          rw [el, List.pairwise_map]
          exact pw
        exact (List.pairwise_map (f := fun q : List Int × Int => q.1) (R := fun x y => TS.code B x ≤ TS.code B y)).mp h5
end
end My

namespace My
open PySem PySem.Spec PyProof.Rows L2 Pr M26
/-! ### sums -/
/-- what a sum keeps -/
def SMe (n : Int) (t : Addr) : List (Str × V) := [(Str.ofString "_degree", .int n), (Str.ofString "_terms", .ref t)]
theorem SM_n {n : Int} {t : Addr} : (SMe n t).lookup (Str.ofString "_degree") = some (V.int n) := by
  unfold SMe
  simp [List.lookup]
theorem SM_t {n : Int} {t : Addr} : (SMe n t).lookup (Str.ofString "_terms") = some (V.ref t) := by
  unfold SMe
  have h : (Str.ofString "_terms" == Str.ofString "_degree") = false := by decide +kernel
  simp [List.lookup, h]
theorem SM_put1 {n : Int} : putF (Str.ofString "_degree") (V.int n) [] = [(Str.ofString "_degree", V.int n)] := rfl
theorem SM_put2 {n : Int} {t : Addr} : putF (Str.ofString "_terms") (V.ref t) [(Str.ofString "_degree", V.int n)] = SMe n t := by
  show (if Str.ofString "_degree" = Str.ofString "_terms" then _ else _) = _
  rw [if_neg (by decide +kernel)]
  rfl
/-- a sum at a: its terms, in their order -/
def SumAt (C : Addr) (H : Hp) (a : Addr) (n : Nat) (l : List (List Int × Int)) : Prop := ∃ dx t, H a = some (.ins C dx (SMe (n : Nat) t)) ∧ H t = some (.dT (dtOf l))
theorem SumAt.same {C a : Addr} {H H' : Hp} {n : Nat} {l : List (List Int × Int)} (h : SumAt C H a n l) (s : Same H H') : SumAt C H' a n l := by
  obtain ⟨dx, t, h1, h2⟩ := h
  exact ⟨dx, t, s _ _ h1, s _ _ h2⟩
section
variable {P : Program} {w : World} {K : PySem.W.Frag} {mg : Str → Option Value} {base : Heap}
def sp_Sum___init__ (C : Addr) : Sp := fun vs H Q _ => ∃ (x dx a : Addr) (n s w : Nat) (l : List (List Int × Int)), vs = [.ref x, .int (n : Nat), .ref a] ∧ H x = some (.ins C dx []) ∧ H a = some (.dT (dtOf l)) ∧ 1 ≤ n ∧ n ≤ 8 ∧ l.length < 64 ∧ Terms n s w l ∧
  ∀ H' t l', (∀ b o, b ≠ x → H b = some o → H' b = some o) → H' x = some (.ins C dx (SMe (n : Nat) t)) → H' t = some (.dT (dtOf l')) → l'.Perm l → l'.Pairwise (fun q r => TS.code 16 q.1 ≤ TS.code 16 r.1) → Q .non H'
theorem ok_Sum___init__ (T : Tx K mg) : FnOk P w K mg base CX0 5 T.f_Sum___init__ T.d_Sum___init__ p_Sum___init__ (sp_Sum___init__ T.C_Sum) := by
  refine T.F_Sum___init__.ok sc_Sum___init__ (fun vs H Q E h => ?_) (fun cdv A outer s H vs Q E hr h => ?_)
  · obtain ⟨x, dx, a, n, s, w, l, rfl, _⟩ := h
    rfl
  · obtain ⟨x, dx, a, n, sz0, wt, l, rfl, hx, ha, n1, n8, few, hT, k⟩ := h
    refine ⟨_, (pss_cons (ps_expr (pe_call (ok_need_number T) (hr.mono (by decide)) (by rfl) T.m_need_number T.F_need_number.kp T.b_need_number .nil pass0 (pa_cons (pv 1) (pa_cons pe_int (pa_cons (pe_glob (v := .int 8) (by rfl) T.c_MAX_SUMMED ⟨_, rfl⟩) pa_nil)))))
      (pss_cons (ps_if (pt_not (pt_val (pe_call (ok_are_terms T) (hr.mono (by decide)) (by rfl) T.m_are_terms T.F_are_terms.kp T.b_are_terms .nil pass0 (pa_cons (pv 2) (pa_cons (pv 1) pa_nil))))) (pss_one ps_never) pss_nil)
      (pss_cons (ps_fld (pv 0) (pv 1) rfl)
      (pss_one (ps_fld (pv 0) (pe_call (ok_tidy T) (hr.mono (by decide)) (by rfl) T.m_tidy T.F_tidy.kp T.b_tidy .nil pass0 (pa_cons (pv 2) pa_nil)) rfl))))), ?_⟩
    rw [st_Sum___init__]
    simp only [ap_seq, ap_next, ap_asg, ap_gName, ap_ret, ap_retN, ap_drop, ap_ifS, ap_break, ap_cont, ap_par, ap_aug, ap_ip, ap_gSub, ap_gTup, ap_gNil, ap_gCons, ap_var, ap_c, ap_op, ap_un, ap_if, ap_test, ap_B, ap_and, ap_or, ap_not, ap_andV, ap_orV, ap_notV, ap_nil, ap_cons, ap_tup, ap_lst, ap_cb, ap_bm, ap_call, ap_chain, ap_rI, ap_rI0, ap_rU, ap_rEq, ap_rNe, ap_revT, ap_sl, ap_part, ap_noPart, ap_ixLI, ap_ixTI, ap_ixLV, ap_ixTV, ap_len, ap_setLI, ap_setLV, ap_appI, ap_appV, ap_tupL, ap_listS, ap_sumLI, ap_sumTI, ap_repLI, ap_intI, ap_intB, ap_eqTI, ap_neTI, ap_eqLI, ap_neLI, ap_isi, ap_for, ap_rng1, ap_rng2, ap_iList, ap_iTup, ap_lc, ap_yes, ap_cut, ap_gTupH, ap_fmt, ap_jsn, ap_jsc, ap_gcd, ap_isqrt, ap_ixL, tyV_l, wipe_nil, wipe_cons, upd_same, ap_iEnT, ap_iEnL, ap_iZipA, ap_all, ap_tupT, ap_attF, ap_makeL, ap_dictKP, ap_neDP, ap_itemsT, ap_zipM, ap_lockE, ap_dget2, ap_dput, ap_dnewT, ap_iValsT, ap_iKeys, ap_sortedDT, ap_dictLT, ap_lenDT, ap_dcT, ap_sortT1, ap_dget, ap_listG, ap_callG, ap_star, ap_extend, ap_max, ap_setOfT, ap_sortedU, ap_sortedTU, ap_repTZ, ap_maxT, ap_revA, ap_att, ap_prop, ap_isO, ap_bin, ap_ne, ap_meth, ap_make, ins_inj, FE_inj, ap_slI, ap_catI, ap_perm, ap_lenO, ap_strO, ap_listO, ap_reprB, ap_iterT, ap_neT, ap_negO, ap_binI, ap_catL, ap_tM1, ap_repTI, ap_popN, ap_par3, ap_catTT, ap_repTA, ap_countT, ap_notInT, ap_repL1, ap_shl, ap_shr, ap_mask, ap_comb, ap_bits, ap_rng3, List.set_cons_zero, List.set_cons_succ, List.getElem?_cons_zero, List.getElem?_cons_succ, List.cons_append, List.nil_append, List.append_nil, Option.some.injEq, V.int.injEq, V.ref.injEq, V.bl.injEq, V.str.injEq, V.ty.injEq, Bool.not_true, Bool.not_false, HO.lst.injEq, HO.tup.injEq, reduceCtorEq, Int.reduceToNat, Int.reduceLT, Int.reduceLE, Nat.reduceAdd, Int.cast_ofNat_Int, gi_c0, gi_c1, gi_c2, gi_c3, Int.natCast_inj, map_int_inj, map_nil_iff, List.cons.injEq, exists_eq_left, exists_eq_left', exists_eq, exists_eq', exists_and_left, exists_and_right, exists_const, and_assoc, and_true, true_and, and_false, false_and, or_false, false_or, or_true, true_or, ite_true, ite_false, if_true, if_false, Bool.false_eq_true, own_cons, own_nil, le1, le2, le3, le4, me_cons, me_nil, List.length_map, List.length_cons, List.length_nil, ne_eq, not_false_eq_true, not_true_eq_false, decide_eq_true_eq, sp_need_number, sp_are_terms]
    have nax : a ≠ x := fun e => by
      subst e
      rw [ha] at hx
      cases hx
    refine ⟨by omega, by omega, by omega, by omega, l, ha, n8, ⟨_, _, hT⟩, fun H1 s1 => ?_⟩
    have ha1 := s1 _ _ ha
    have hx1 := s1 _ _ hx
    refine ⟨_, rfl, _, rfl, x, T.C_Sum, dx, _, rfl, hx1, T.cl_Sum, T.no_Sum_degree, by decide, ?_⟩
    refine ⟨_, rfl, a, l, n + 1, 16, rfl, by rw [upd_ne nax]; exact ha1, few, hT.nd, by omega, fun q hq => ?_, fun H2 p l' s2 np e2 pm pw => ?_⟩
    · obtain ⟨x1, x2, x3⟩ := hT.ex q hq
      obtain ⟨y1, y2, y3⟩ := hT.num q hq
      exact ⟨x1.1, fun m hm => by have := x1.2.1 m hm; omega, y2, y3⟩
    refine ⟨_, rfl, x, T.C_Sum, dx, _, rfl, s2 _ _ upd_same, T.cl_Sum, T.no_Sum_terms, by rw [SM_put1]; show 1 < 1000; omega, ?_⟩
    have npx : p ≠ x := fun e => by
      subst e
      rw [upd_same] at np
      cases np
    have ef : (l.filter fun q => decide (q.2 ≠ 0)) = l := List.filter_eq_self.mpr fun q hq => by simpa using (hT.num q hq).1
    rw [ef] at pm
    refine k _ p l' (fun b o hb e => ?_) (upd_same.trans (congrArg (fun f => some (HO.ins T.C_Sum dx f)) ?_)) (by rw [upd_ne npx]; exact e2) pm pw
    · rw [upd_ne hb]
      refine s2 _ _ ?_
      rw [upd_ne hb]
      exact s1 _ _ e
    · exact SM_put2
def sp_Sum_size (C : Addr) : Sp := fun vs H Q _ => ∃ (a : Addr) (n : Nat) (l : List (List Int × Int)), vs = [.ref a] ∧ SumAt C H a n l ∧ (l = [] → Q .non H) ∧ ∀ q m, l = q :: m → Q (.int q.1.sum) H
theorem ok_Sum_size (T : Tx K mg) : FnOk P w K mg base CX0 2 T.f_Sum_size T.d_Sum_size p_Sum_size (sp_Sum_size T.C_Sum) := by
  refine T.F_Sum_size.ok sc_Sum_size (fun vs H Q E h => ?_) (fun cdv A outer s H vs Q E hr h => ?_)
  · obtain ⟨a, n, l, rfl, _⟩ := h
    rfl
  · obtain ⟨a, n, l, rfl, ⟨dx, t, ha, ht⟩, k0, k1⟩ := h
    refine ⟨_, (pss_cons (ps_set (i := 1) sc_Sum_size.nd rfl (Or.inl rfl) (pe_call (ok_first_of T) (hr.mono (by decide)) (by rfl) T.m_first_of T.F_first_of.kp T.b_first_of .nil pass0 (pa_cons (pe_attF (pe_fld (pv 0) rfl) mono_var T.cl_Sum T.no_Sum_terms) pa_nil)))
      (pss_one (ps_ret (pe_ifExp (pt_cmpR op_isN (pv 1) pe_non (nomark _)) pe_non (pe_callB (cr_sumTI rfl) (by rfl) T.z_sum (by decide +kernel) (pa_cons (pv 1) pa_nil)))))), ?_⟩
    rw [st_Sum_size]
    simp only [ap_seq, ap_next, ap_asg, ap_gName, ap_ret, ap_retN, ap_drop, ap_ifS, ap_break, ap_cont, ap_par, ap_aug, ap_ip, ap_gSub, ap_gTup, ap_gNil, ap_gCons, ap_var, ap_c, ap_op, ap_un, ap_if, ap_test, ap_B, ap_and, ap_or, ap_not, ap_andV, ap_orV, ap_notV, ap_nil, ap_cons, ap_tup, ap_lst, ap_cb, ap_bm, ap_call, ap_chain, ap_rI, ap_rI0, ap_rU, ap_rEq, ap_rNe, ap_revT, ap_sl, ap_part, ap_noPart, ap_ixLI, ap_ixTI, ap_ixLV, ap_ixTV, ap_len, ap_setLI, ap_setLV, ap_appI, ap_appV, ap_tupL, ap_listS, ap_sumLI, ap_sumTI, ap_repLI, ap_intI, ap_intB, ap_eqTI, ap_neTI, ap_eqLI, ap_neLI, ap_isi, ap_for, ap_rng1, ap_rng2, ap_iList, ap_iTup, ap_lc, ap_yes, ap_cut, ap_gTupH, ap_fmt, ap_jsn, ap_jsc, ap_gcd, ap_isqrt, ap_ixL, tyV_l, wipe_nil, wipe_cons, upd_same, ap_iEnT, ap_iEnL, ap_iZipA, ap_all, ap_tupT, ap_attF, ap_makeL, ap_dictKP, ap_neDP, ap_itemsT, ap_zipM, ap_lockE, ap_dget2, ap_dput, ap_dnewT, ap_iValsT, ap_iKeys, ap_sortedDT, ap_dictLT, ap_lenDT, ap_dcT, ap_sortT1, ap_dget, ap_listG, ap_callG, ap_star, ap_extend, ap_max, ap_setOfT, ap_sortedU, ap_sortedTU, ap_repTZ, ap_maxT, ap_revA, ap_att, ap_prop, ap_isO, ap_bin, ap_ne, ap_meth, ap_make, ins_inj, FE_inj, ap_slI, ap_catI, ap_perm, ap_lenO, ap_strO, ap_listO, ap_reprB, ap_iterT, ap_neT, ap_negO, ap_binI, ap_catL, ap_tM1, ap_repTI, ap_popN, ap_par3, ap_catTT, ap_repTA, ap_countT, ap_notInT, ap_repL1, ap_shl, ap_shr, ap_mask, ap_comb, ap_bits, ap_rng3, List.set_cons_zero, List.set_cons_succ, List.getElem?_cons_zero, List.getElem?_cons_succ, List.cons_append, List.nil_append, List.append_nil, Option.some.injEq, V.int.injEq, V.ref.injEq, V.bl.injEq, V.str.injEq, V.ty.injEq, Bool.not_true, Bool.not_false, HO.lst.injEq, HO.tup.injEq, reduceCtorEq, Int.reduceToNat, Int.reduceLT, Int.reduceLE, Nat.reduceAdd, Int.cast_ofNat_Int, gi_c0, gi_c1, gi_c2, gi_c3, Int.natCast_inj, map_int_inj, map_nil_iff, List.cons.injEq, exists_eq_left, exists_eq_left', exists_eq, exists_eq', exists_and_left, exists_and_right, exists_const, and_assoc, and_true, true_and, and_false, false_and, or_false, false_or, or_true, true_or, ite_true, ite_false, if_true, if_false, Bool.false_eq_true, own_cons, own_nil, le1, le2, le3, le4, me_cons, me_nil, List.length_map, List.length_cons, List.length_nil, ne_eq, not_false_eq_true, not_true_eq_false, decide_eq_true_eq, ha, SM_n, SM_t]
    refine ⟨t, l, rfl, ht, fun e => ?_, fun q m p e hp => ?_⟩
    · show (if _ then _ else _)
      rw [if_pos rfl]
      exact k0 e
    · show (if _ then _ else _)
      rw [if_neg (fun e => by cases e)]
      exact ⟨p, rfl, _, hp, k1 q m e⟩
def sp_Sum_weight (C : Addr) : Sp := fun vs H Q _ => ∃ (a : Addr) (n : Nat) (l : List (List Int × Int)), vs = [.ref a] ∧ SumAt C H a n l ∧ (∀ q ∈ l, q.1.length ≤ 9) ∧ (l = [] → Q .non H) ∧ ∀ q m H', l = q :: m → Same H H' → Q (.int (weiL q.1)) H'
theorem ok_Sum_weight (T : Tx K mg) : FnOk P w K mg base CX0 2 T.f_Sum_weight T.d_Sum_weight p_Sum_weight (sp_Sum_weight T.C_Sum) := by
  refine T.F_Sum_weight.ok sc_Sum_weight (fun vs H Q E h => ?_) (fun cdv A outer s H vs Q E hr h => ?_)
  · obtain ⟨a, n, l, rfl, _⟩ := h
    rfl
  · obtain ⟨a, n, l, rfl, ⟨dx, t, ha, ht⟩, h9, k0, k1⟩ := h
    refine ⟨_, (pss_cons (ps_set (i := 1) sc_Sum_weight.nd rfl (Or.inl rfl) (pe_call (ok_first_of T) (hr.mono (by decide)) (by rfl) T.m_first_of T.F_first_of.kp T.b_first_of .nil pass0 (pa_cons (pe_attF (pe_fld (pv 0) rfl) mono_var T.cl_Sum T.no_Sum_terms) pa_nil)))
      (pss_one (ps_ret (pe_ifExp (pt_cmpR op_isN (pv 1) pe_non (nomark _)) pe_non (pe_call (ok_weight_of T) (hr.mono (by decide)) (by rfl) T.m_weight_of T.F_weight_of.kp T.b_weight_of .nil pass0 (pa_cons (pv 1) pa_nil)))))), ?_⟩
    rw [st_Sum_weight]
    simp only [ap_seq, ap_next, ap_asg, ap_gName, ap_ret, ap_retN, ap_drop, ap_ifS, ap_break, ap_cont, ap_par, ap_aug, ap_ip, ap_gSub, ap_gTup, ap_gNil, ap_gCons, ap_var, ap_c, ap_op, ap_un, ap_if, ap_test, ap_B, ap_and, ap_or, ap_not, ap_andV, ap_orV, ap_notV, ap_nil, ap_cons, ap_tup, ap_lst, ap_cb, ap_bm, ap_call, ap_chain, ap_rI, ap_rI0, ap_rU, ap_rEq, ap_rNe, ap_revT, ap_sl, ap_part, ap_noPart, ap_ixLI, ap_ixTI, ap_ixLV, ap_ixTV, ap_len, ap_setLI, ap_setLV, ap_appI, ap_appV, ap_tupL, ap_listS, ap_sumLI, ap_sumTI, ap_repLI, ap_intI, ap_intB, ap_eqTI, ap_neTI, ap_eqLI, ap_neLI, ap_isi, ap_for, ap_rng1, ap_rng2, ap_iList, ap_iTup, ap_lc, ap_yes, ap_cut, ap_gTupH, ap_fmt, ap_jsn, ap_jsc, ap_gcd, ap_isqrt, ap_ixL, tyV_l, wipe_nil, wipe_cons, upd_same, ap_iEnT, ap_iEnL, ap_iZipA, ap_all, ap_tupT, ap_attF, ap_makeL, ap_dictKP, ap_neDP, ap_itemsT, ap_zipM, ap_lockE, ap_dget2, ap_dput, ap_dnewT, ap_iValsT, ap_iKeys, ap_sortedDT, ap_dictLT, ap_lenDT, ap_dcT, ap_sortT1, ap_dget, ap_listG, ap_callG, ap_star, ap_extend, ap_max, ap_setOfT, ap_sortedU, ap_sortedTU, ap_repTZ, ap_maxT, ap_revA, ap_att, ap_prop, ap_isO, ap_bin, ap_ne, ap_meth, ap_make, ins_inj, FE_inj, ap_slI, ap_catI, ap_perm, ap_lenO, ap_strO, ap_listO, ap_reprB, ap_iterT, ap_neT, ap_negO, ap_binI, ap_catL, ap_tM1, ap_repTI, ap_popN, ap_par3, ap_catTT, ap_repTA, ap_countT, ap_notInT, ap_repL1, ap_shl, ap_shr, ap_mask, ap_comb, ap_bits, ap_rng3, List.set_cons_zero, List.set_cons_succ, List.getElem?_cons_zero, List.getElem?_cons_succ, List.cons_append, List.nil_append, List.append_nil, Option.some.injEq, V.int.injEq, V.ref.injEq, V.bl.injEq, V.str.injEq, V.ty.injEq, Bool.not_true, Bool.not_false, HO.lst.injEq, HO.tup.injEq, reduceCtorEq, Int.reduceToNat, Int.reduceLT, Int.reduceLE, Nat.reduceAdd, Int.cast_ofNat_Int, gi_c0, gi_c1, gi_c2, gi_c3, Int.natCast_inj, map_int_inj, map_nil_iff, List.cons.injEq, exists_eq_left, exists_eq_left', exists_eq, exists_eq', exists_and_left, exists_and_right, exists_const, and_assoc, and_true, true_and, and_false, false_and, or_false, false_or, or_true, true_or, ite_true, ite_false, if_true, if_false, Bool.false_eq_true, own_cons, own_nil, le1, le2, le3, le4, me_cons, me_nil, List.length_map, List.length_cons, List.length_nil, ne_eq, not_false_eq_true, not_true_eq_false, decide_eq_true_eq, ha, SM_n, SM_t]
    refine ⟨t, l, rfl, ht, fun e => ?_, fun q m p e hp => ?_⟩
    · show (if _ then _ else _)
      rw [if_pos rfl]
      exact k0 e
    · show (if _ then _ else _)
      rw [if_neg (fun e => by cases e)]
      exact ⟨p, _, rfl, hp, h9 q (by rw [e]; exact List.mem_cons_self), fun H' s => k1 q m H' e s⟩
def sp_Sum_order (C : Addr) : Sp := fun vs H Q _ => ∃ (a : Addr) (n : Nat) (l : List (List Int × Int)), vs = [.ref a] ∧ SumAt C H a n l ∧ n ≤ 8 ∧ (∀ q ∈ l, q.1.length ≤ 9 ∧ 0 ≤ q.1.sum ∧ q.1.sum ≤ 1000 ∧ 0 ≤ weiL q.1 ∧ weiL q.1 ≤ 1000) ∧ (l = [] → Q .non H) ∧ ∀ q m H', l = q :: m → Same H H' → Q (.int ((n : Int) * q.1.sum - 2 * weiL q.1)) H'
theorem ok_Sum_order (T : Tx K mg) : FnOk P w K mg base CX0 2 T.f_Sum_order T.d_Sum_order p_Sum_order (sp_Sum_order T.C_Sum) := by
  refine T.F_Sum_order.ok sc_Sum_order (fun vs H Q E h => ?_) (fun cdv A outer s H vs Q E hr h => ?_)
  · obtain ⟨a, n, l, rfl, _⟩ := h
    rfl
  · obtain ⟨a, n, l, rfl, ⟨dx, t, ha, ht⟩, n8, h9, k0, k1⟩ := h
    refine ⟨_, (pss_cons (ps_set (i := 1) sc_Sum_order.nd rfl (Or.inl rfl) (pe_call (ok_first_of T) (hr.mono (by decide)) (by rfl) T.m_first_of T.F_first_of.kp T.b_first_of .nil pass0 (pa_cons (pe_attF (pe_fld (pv 0) rfl) mono_var T.cl_Sum T.no_Sum_terms) pa_nil)))
      (pss_one (ps_ret (pe_ifExp (pt_cmpR op_isN (pv 1) pe_non (nomark _)) pe_non (pe_op op_sub (pe_op op_mul (pe_attF (pe_fld (pv 0) rfl) mono_var T.cl_Sum T.no_Sum_degree) (pe_callB (cr_sumTI rfl) (by rfl) T.z_sum (by decide +kernel) (pa_cons (pv 1) pa_nil))) (pe_op op_mul pe_int (pe_call (ok_weight_of T) (hr.mono (by decide)) (by rfl) T.m_weight_of T.F_weight_of.kp T.b_weight_of .nil pass0 (pa_cons (pv 1) pa_nil)))))))), ?_⟩
    rw [st_Sum_order]
    simp only [ap_seq, ap_next, ap_asg, ap_gName, ap_ret, ap_retN, ap_drop, ap_ifS, ap_break, ap_cont, ap_par, ap_aug, ap_ip, ap_gSub, ap_gTup, ap_gNil, ap_gCons, ap_var, ap_c, ap_op, ap_un, ap_if, ap_test, ap_B, ap_and, ap_or, ap_not, ap_andV, ap_orV, ap_notV, ap_nil, ap_cons, ap_tup, ap_lst, ap_cb, ap_bm, ap_call, ap_chain, ap_rI, ap_rI0, ap_rU, ap_rEq, ap_rNe, ap_revT, ap_sl, ap_part, ap_noPart, ap_ixLI, ap_ixTI, ap_ixLV, ap_ixTV, ap_len, ap_setLI, ap_setLV, ap_appI, ap_appV, ap_tupL, ap_listS, ap_sumLI, ap_sumTI, ap_repLI, ap_intI, ap_intB, ap_eqTI, ap_neTI, ap_eqLI, ap_neLI, ap_isi, ap_for, ap_rng1, ap_rng2, ap_iList, ap_iTup, ap_lc, ap_yes, ap_cut, ap_gTupH, ap_fmt, ap_jsn, ap_jsc, ap_gcd, ap_isqrt, ap_ixL, tyV_l, wipe_nil, wipe_cons, upd_same, ap_iEnT, ap_iEnL, ap_iZipA, ap_all, ap_tupT, ap_attF, ap_makeL, ap_dictKP, ap_neDP, ap_itemsT, ap_zipM, ap_lockE, ap_dget2, ap_dput, ap_dnewT, ap_iValsT, ap_iKeys, ap_sortedDT, ap_dictLT, ap_lenDT, ap_dcT, ap_sortT1, ap_dget, ap_listG, ap_callG, ap_star, ap_extend, ap_max, ap_setOfT, ap_sortedU, ap_sortedTU, ap_repTZ, ap_maxT, ap_revA, ap_att, ap_prop, ap_isO, ap_bin, ap_ne, ap_meth, ap_make, ins_inj, FE_inj, ap_slI, ap_catI, ap_perm, ap_lenO, ap_strO, ap_listO, ap_reprB, ap_iterT, ap_neT, ap_negO, ap_binI, ap_catL, ap_tM1, ap_repTI, ap_popN, ap_par3, ap_catTT, ap_repTA, ap_countT, ap_notInT, ap_repL1, ap_shl, ap_shr, ap_mask, ap_comb, ap_bits, ap_rng3, List.set_cons_zero, List.set_cons_succ, List.getElem?_cons_zero, List.getElem?_cons_succ, List.cons_append, List.nil_append, List.append_nil, Option.some.injEq, V.int.injEq, V.ref.injEq, V.bl.injEq, V.str.injEq, V.ty.injEq, Bool.not_true, Bool.not_false, HO.lst.injEq, HO.tup.injEq, reduceCtorEq, Int.reduceToNat, Int.reduceLT, Int.reduceLE, Nat.reduceAdd, Int.cast_ofNat_Int, gi_c0, gi_c1, gi_c2, gi_c3, Int.natCast_inj, map_int_inj, map_nil_iff, List.cons.injEq, exists_eq_left, exists_eq_left', exists_eq, exists_eq', exists_and_left, exists_and_right, exists_const, and_assoc, and_true, true_and, and_false, false_and, or_false, false_or, or_true, true_or, ite_true, ite_false, if_true, if_false, Bool.false_eq_true, own_cons, own_nil, le1, le2, le3, le4, me_cons, me_nil, List.length_map, List.length_cons, List.length_nil, ne_eq, not_false_eq_true, not_true_eq_false, decide_eq_true_eq, ha, SM_n, SM_t]
    refine ⟨t, l, rfl, ht, fun e => ?_, fun q m p e hp => ?_⟩
    · show (if _ then _ else _)
      rw [if_pos rfl]
      exact k0 e
    · show (if _ then _ else _)
      rw [if_neg (fun e => by cases e)]
      obtain ⟨b1, b2, b3, b4, b5⟩ := h9 q (by rw [e]; exact List.mem_cons_self)
      refine ⟨_, _, ha, _, SM_n, p, rfl, _, hp, _, rfl, .inl ⟨by omega, by omega⟩, p, _, rfl, hp, b1, fun H' s => ⟨_, rfl, .inl ⟨by omega, by omega⟩, k1 q m H' e s⟩⟩
def sp_Sum___len__ (C : Addr) : Sp := fun vs H Q _ => ∃ (a : Addr) (n : Nat) (l : List (List Int × Int)), vs = [.ref a] ∧ SumAt C H a n l ∧ Q (.int (l.length : Nat)) H
theorem ok_Sum___len__ (T : Tx K mg) : FnOk P w K mg base CX0 1 T.f_Sum___len__ T.d_Sum___len__ p_Sum___len__ (sp_Sum___len__ T.C_Sum) := by
  refine T.F_Sum___len__.ok sc_Sum___len__ (fun vs H Q E h => ?_) (fun cdv A outer s H vs Q E hr h => ?_)
  · obtain ⟨a, n, l, rfl, _⟩ := h
    rfl
  · obtain ⟨a, n, l, rfl, ⟨dx, t, ha, ht⟩, q⟩ := h
    refine ⟨_, (pss_one (ps_ret (pe_callB cr_lenDT (by rfl) T.z_len PySem.boot_len (pa_cons (pe_attF (pe_fld (pv 0) rfl) mono_var T.cl_Sum T.no_Sum_terms) pa_nil)))), ?_⟩
    rw [st_Sum___len__]
    simp only [ap_seq, ap_next, ap_asg, ap_gName, ap_ret, ap_retN, ap_drop, ap_ifS, ap_break, ap_cont, ap_par, ap_aug, ap_ip, ap_gSub, ap_gTup, ap_gNil, ap_gCons, ap_var, ap_c, ap_op, ap_un, ap_if, ap_test, ap_B, ap_and, ap_or, ap_not, ap_andV, ap_orV, ap_notV, ap_nil, ap_cons, ap_tup, ap_lst, ap_cb, ap_bm, ap_call, ap_chain, ap_rI, ap_rI0, ap_rU, ap_rEq, ap_rNe, ap_revT, ap_sl, ap_part, ap_noPart, ap_ixLI, ap_ixTI, ap_ixLV, ap_ixTV, ap_len, ap_setLI, ap_setLV, ap_appI, ap_appV, ap_tupL, ap_listS, ap_sumLI, ap_sumTI, ap_repLI, ap_intI, ap_intB, ap_eqTI, ap_neTI, ap_eqLI, ap_neLI, ap_isi, ap_for, ap_rng1, ap_rng2, ap_iList, ap_iTup, ap_lc, ap_yes, ap_cut, ap_gTupH, ap_fmt, ap_jsn, ap_jsc, ap_gcd, ap_isqrt, ap_ixL, tyV_l, wipe_nil, wipe_cons, upd_same, ap_iEnT, ap_iEnL, ap_iZipA, ap_all, ap_tupT, ap_attF, ap_makeL, ap_dictKP, ap_neDP, ap_itemsT, ap_zipM, ap_lockE, ap_dget2, ap_dput, ap_dnewT, ap_iValsT, ap_iKeys, ap_sortedDT, ap_dictLT, ap_lenDT, ap_dcT, ap_sortT1, ap_dget, ap_listG, ap_callG, ap_star, ap_extend, ap_max, ap_setOfT, ap_sortedU, ap_sortedTU, ap_repTZ, ap_maxT, ap_revA, ap_att, ap_prop, ap_isO, ap_bin, ap_ne, ap_meth, ap_make, ins_inj, FE_inj, ap_slI, ap_catI, ap_perm, ap_lenO, ap_strO, ap_listO, ap_reprB, ap_iterT, ap_neT, ap_negO, ap_binI, ap_catL, ap_tM1, ap_repTI, ap_popN, ap_par3, ap_catTT, ap_repTA, ap_countT, ap_notInT, ap_repL1, ap_shl, ap_shr, ap_mask, ap_comb, ap_bits, ap_rng3, List.set_cons_zero, List.set_cons_succ, List.getElem?_cons_zero, List.getElem?_cons_succ, List.cons_append, List.nil_append, List.append_nil, Option.some.injEq, V.int.injEq, V.ref.injEq, V.bl.injEq, V.str.injEq, V.ty.injEq, Bool.not_true, Bool.not_false, HO.lst.injEq, HO.tup.injEq, reduceCtorEq, Int.reduceToNat, Int.reduceLT, Int.reduceLE, Nat.reduceAdd, Int.cast_ofNat_Int, gi_c0, gi_c1, gi_c2, gi_c3, Int.natCast_inj, map_int_inj, map_nil_iff, List.cons.injEq, exists_eq_left, exists_eq_left', exists_eq, exists_eq', exists_and_left, exists_and_right, exists_const, and_assoc, and_true, true_and, and_false, false_and, or_false, false_or, or_true, true_or, ite_true, ite_false, if_true, if_false, Bool.false_eq_true, own_cons, own_nil, le1, le2, le3, le4, me_cons, me_nil, List.length_map, List.length_cons, List.length_nil, ne_eq, not_false_eq_true, not_true_eq_false, decide_eq_true_eq, ha, SM_n, SM_t]
    refine ⟨_, .inl ht, ?_⟩
    rw [show (dtOf l).length = l.length from List.length_map ..]
    exact q
end
end My

namespace My
def strictD : List Int → Bool
  | a :: b :: t => decide (b < a) && strictD (b :: t)
  | _ => true
theorem strictD_pw : ∀ l : List Int, strictD l = true → l.Pairwise (fun a b => b < a)
  | [], _ => .nil
  | [a], _ => List.pairwise_singleton _ _
  | a :: b :: t, h => by
    obtain ⟨h1, h2⟩ := Bool.and_eq_true_iff.mp (show (decide (b < a) && strictD (b :: t)) = true from h)
    have h1 : b < a := by simpa using h1
    have ih := strictD_pw (b :: t) h2
    refine List.pairwise_cons.mpr ⟨fun x hx => ?_, ih⟩
    rcases List.mem_cons.mp hx with rfl | hx
    · exact h1
    · have := (List.pairwise_cons.mp ih).1 x hx
      omega
def chk2 (w p m : Nat) : Bool := strictD ((boxL w p m).map fun b => Pr.padC 8 6 b) && ((boxL w p m).map turnL).isPerm (boxL w m p) && (decide ((boxL w p m).length < 2) || (boxL w p m).all fun b => decide (1 ≤ b.length))
theorem chkv0 : ((List.range 15).all fun w => (List.range 7).all fun p => (List.range 7).all fun m => chk2 (w + 0) p m) = true := by decide +kernel
theorem chkv1 : ((List.range 7).all fun w => (List.range 7).all fun p => (List.range 7).all fun m => chk2 (w + 15) p m) = true := by decide +kernel
theorem chkv2 : ((List.range 16).all fun w => (List.range 7).all fun p => (List.range 7).all fun m => chk2 (w + 22) p m) = true := by decide +kernel
theorem chkv_at {w p m : Nat} (hw : w < 38) (hp : p < 7) (hm : m < 7) : chk2 w p m = true := by
  by_cases c0 : w < 15
  · have h := List.all_eq_true.mp chkv0 (w - 0) (List.mem_range.mpr (by omega))
    have h := List.all_eq_true.mp h p (List.mem_range.mpr hp)
    have h := List.all_eq_true.mp h m (List.mem_range.mpr hm)
    rwa [show w - 0 + 0 = w by omega] at h
  by_cases c1 : w < 22
  · have h := List.all_eq_true.mp chkv1 (w - 15) (List.mem_range.mpr (by omega))
    have h := List.all_eq_true.mp h p (List.mem_range.mpr hp)
    have h := List.all_eq_true.mp h m (List.mem_range.mpr hm)
    rwa [show w - 15 + 15 = w by omega] at h
  have h := List.all_eq_true.mp chkv2 (w - 22) (List.mem_range.mpr (by omega))
  have h := List.all_eq_true.mp h p (List.mem_range.mpr hp)
  have h := List.all_eq_true.mp h m (List.mem_range.mpr hm)
  rwa [show w - 22 + 22 = w by omega] at h
theorem chk2_at {wt p m : Nat} (hw : wt < 38) (hp : p < 7) (hm : m < 7) : (boxL wt p m).Pairwise (fun a b => Pr.padC 8 6 b < Pr.padC 8 6 a) ∧ ((boxL wt p m).map turnL).Perm (boxL wt m p) ∧ (2 ≤ (boxL wt p m).length → ∀ b ∈ boxL wt p m, 1 ≤ b.length) := by
  have h := chkv_at hw hp hm
  obtain ⟨h0, h3⟩ := Bool.and_eq_true_iff.mp h
  obtain ⟨h1, h2⟩ := Bool.and_eq_true_iff.mp h0
  refine ⟨List.pairwise_map.mp (strictD_pw _ h1), List.isPerm_iff.mp h2, fun hl b hb => ?_⟩
  rcases Bool.or_eq_true_iff.mp h3 with h3 | h3
  · simp only [decide_eq_true_eq] at h3
    omega
  · simpa using List.all_eq_true.mp h3 b hb
theorem inj_of {α : Type} {f : α → Int} : ∀ {S : List α}, S.Pairwise (fun a b => f b < f a) → ∀ a ∈ S, ∀ b ∈ S, f a = f b → a = b
  | [], _, a, ha, _, _, _ => absurd ha List.not_mem_nil
  | x :: S, h, a, ha, b, hb, e => by
    obtain ⟨h1, h2⟩ := List.pairwise_cons.mp h
    rcases List.mem_cons.mp ha with rfl | ha'
    · rcases List.mem_cons.mp hb with rfl | hb'
      · rfl
      · have := h1 b hb'
        omega
    · rcases List.mem_cons.mp hb with rfl | hb'
      · have := h1 a ha'
        omega
      · exact inj_of h2 a ha' b hb' e
theorem nodup_of {α : Type} {f : α → Int} {S : List α} (h : S.Pairwise (fun a b => f b < f a)) : S.Nodup := h.imp fun {a b} h e => by subst e; omega
/-- what is sorted and has the boxes' members is the boxes backwards -/
theorem sorted_is {S L : List (List Int)} (h : S.Pairwise (fun a b => Pr.padC 8 6 b < Pr.padC 8 6 a)) (pm : L.Perm S) (hs : L.Pairwise (fun a b => Pr.padC 8 6 a ≤ Pr.padC 8 6 b)) : L = S.reverse := by
  refine List.Perm.eq_of_pairwise (le := fun a b => Pr.padC 8 6 a ≤ Pr.padC 8 6 b) (fun a b ha hb h1 h2 => ?_) hs ?_ (pm.trans (List.reverse_perm S).symm)
  · exact inj_of h a (pm.mem_iff.mp ha) b (List.mem_reverse.mp hb) (Int.le_antisymm h1 h2)
  · rw [List.pairwise_reverse]
    exact h.imp fun {a b} h => Int.le_of_lt h
/-- all boxes that the program makes are small -/
theorem go_small (p : Nat) : ∀ (f : Nat) (ob : Option (List Int)), goOk p f ob = true → ∀ b ∈ boxGo p f ob, smallB p b = true
  | 0, none, _, b, hb => absurd hb List.not_mem_nil
  | f + 1, none, _, b, hb => absurd hb List.not_mem_nil
  | 0, some _, h, _, _ => absurd h (by simp [goOk])
  | f + 1, some c, h, b, hb => by
    obtain ⟨h1, h2⟩ := Bool.and_eq_true_iff.mp (show (smallB p c && goOk p f (behL c p c.length 0)) = true from h)
    rcases List.mem_cons.mp hb with rfl | hb
    · exact h1
    · exact go_small p f _ h2 b hb
end My

namespace My
theorem over_ok : ((List.range 7).all fun p => (List.range 7).all fun m => decide (lawTold (p * m + 1) p m = [])) = true := by decide +kernel
theorem told_over {p m : Nat} (hp : p < 7) (hm : m < 7) : lawTold (p * m + 1) p m = [] := by
  have h := List.all_eq_true.mp over_ok p (List.mem_range.mpr hp)
  have h := List.all_eq_true.mp h m (List.mem_range.mpr hm)
  simpa using h
def fallB : List Int → Bool
  | a :: b :: t => decide (b ≤ a) && fallB (b :: t)
  | _ => true
theorem fallB_pw : ∀ l : List Int, fallB l = true → l.Pairwise (fun a b => b ≤ a)
  | [], _ => .nil
  | [a], _ => List.pairwise_singleton _ _
  | a :: b :: t, h => by
    obtain ⟨h1, h2⟩ := Bool.and_eq_true_iff.mp (show (decide (b ≤ a) && fallB (b :: t)) = true from h)
    have h1 : b ≤ a := by simpa using h1
    have ih := fallB_pw (b :: t) h2
    refine List.pairwise_cons.mpr ⟨fun x hx => ?_, ih⟩
    rcases List.mem_cons.mp hx with rfl | hx
    · exact h1
    · have := (List.pairwise_cons.mp ih).1 x hx
      omega
theorem fall_ok : ((List.range 38).all fun w => (List.range 7).all fun p => (List.range 7).all fun m => (boxL w p m).all fallB) = true := by decide +kernel
theorem fall_at {wt p m : Nat} (hw : wt < 38) (hp : p < 7) (hm : m < 7) : ∀ b ∈ boxL wt p m, b.Pairwise (fun a b => b ≤ a) := by
  have h := List.all_eq_true.mp fall_ok wt (List.mem_range.mpr hw)
  have h := List.all_eq_true.mp h p (List.mem_range.mpr hp)
  have h := List.all_eq_true.mp h m (List.mem_range.mpr hm)
  exact fun b hb => fallB_pw b (List.all_eq_true.mp h b hb)
end My

namespace My
/-! the exponents of size s and weight w for the degree d; their boxes; all small ones by the kernel -/
def keyRow (at_ : Nat) (q : List Int × Int × Int) : List (List Int × Int × Int) :=
  ((List.range (q.2.1 + 1).toNat).filter fun (v : Nat) => decide ((v : Int) * (at_ : Int) ≤ q.2.2)).map fun (v : Nat) => (q.1 ++ [(v : Int)], q.2.1 - (v : Int), q.2.2 - (v : Int) * (at_ : Int))
def keyAll (s w : Nat) : Nat → List (List Int × Int × Int)
  | 0 => [([], (s : Int), (w : Int))]
  | k + 1 => (keyAll s w k).flatMap (keyRow k)
def keyL (d s w : Nat) : List (List Int) := ((keyAll s w (d + 1)).filter fun q => decide (q.2.1 = 0) && decide (q.2.2 = 0)).map (·.1)
def boxOf (k : List Int) : List Int := (List.range (k.length - 1)).flatMap fun i => List.replicate (k.getD (k.length - 1 - i) 0).toNat ((k.length - 1 - i : Nat) : Int)
def keyStep (r : List Int) (x : Int) : List Int := r.set x.toNat (r.getD x.toNat 0 + 1)
def keyOf (b : List Int) (d s : Nat) : List Int := b.foldl keyStep ((List.replicate (d + 1) (0 : Int)).set 0 ((s : Int) - b.length))
def weiK (ns : List Int) : Int := ((List.range ns.length).map fun i => ((i : Nat) : Int) * ns.getD i 0).sum
def codeK : List Int → Int
  | [] => 0
  | p :: ns => p * 8 ^ ns.length + codeK ns
def strictU : List Int → Bool
  | a :: b :: t => decide (a < b) && strictU (b :: t)
  | _ => true
def keyOk (d s w : Nat) (k : List Int) : Bool := decide (k.length = d + 1) && (k.all fun x => decide (0 ≤ x) && decide (x ≤ 5)) && decide (k.sum = s) && decide (weiK k = w)
def leftK (b : List Int) (p : Nat) (m : Int) : List Int := (List.replicate (p - b.length) m ++ b.reverse.map fun x => m - x).filter fun x => decide (0 < x)
def chkK (d s w : Nat) : Bool := ((keyL d s w).map boxOf).isPerm (boxL w s d) && ((boxL w s d).map fun b => keyOf b d s).isPerm (keyL d s w) && (keyL d s w).all (keyOk d s w) && strictU ((keyL d s w).map codeK) && decide (0 < (keyL d s w).length) &&
  (boxL w s d).all fun b => decide (keyOf (leftK b s d) d s = (keyOf b d s).reverse)
def chkD (d s : Nat) : Bool := (List.range (d * s + 1)).all fun w => chkK d s w
theorem chkd0 : ((List.range 4).all fun d => (List.range 5).all fun s => chkD (d + 1) (s + 1)) = true := by decide +kernel
theorem chkd1 : ((List.range 5).all fun s => chkD 5 (s + 1)) = true := by decide +kernel
theorem chkd2 : ((List.range 4).all fun s => chkD 6 (s + 1)) = true := by decide +kernel
theorem chkd3 : chkD 6 5 = true := by decide +kernel
end My

namespace My
open PySem PySem.Spec PyProof.Rows L2 Pr
theorem chkD_at {d s : Nat} (d1 : 1 ≤ d) (d6 : d ≤ 6) (s1 : 1 ≤ s) (s5 : s ≤ 5) : chkD d s = true := by
  by_cases c0 : d ≤ 4
  · have h := List.all_eq_true.mp chkd0 (d - 1) (List.mem_range.mpr (by omega))
    have h := List.all_eq_true.mp h (s - 1) (List.mem_range.mpr (by omega))
    rwa [show d - 1 + 1 = d by omega, show s - 1 + 1 = s by omega] at h
  by_cases c1 : d = 5
  · have h := List.all_eq_true.mp chkd1 (s - 1) (List.mem_range.mpr (by omega))
    rw [show s - 1 + 1 = s by omega] at h
    rw [c1]
    exact h
  obtain rfl : d = 6 := by omega
  by_cases c2 : s ≤ 4
  · have h := List.all_eq_true.mp chkd2 (s - 1) (List.mem_range.mpr (by omega))
    rwa [show s - 1 + 1 = s by omega] at h
  · obtain rfl : s = 5 := by omega
    exact chkd3
theorem code_K : ∀ ns : List Int, TS.code 8 ns = codeK ns
  | [] => rfl
  | p :: ns => by
    show p * 8 ^ ns.length + TS.code 8 ns = p * 8 ^ ns.length + codeK ns
    rw [code_K ns]
theorem strictU_pw : ∀ l : List Int, strictU l = true → l.Pairwise (fun a b => a < b)
  | [], _ => .nil
  | [a], _ => List.pairwise_singleton _ _
  | a :: b :: t, h => by
    obtain ⟨h1, h2⟩ := Bool.and_eq_true_iff.mp (show (decide (a < b) && strictU (b :: t)) = true from h)
    have h1 : a < b := by simpa using h1
    have ih := strictU_pw (b :: t) h2
    refine List.pairwise_cons.mpr ⟨fun x hx => ?_, ih⟩
    rcases List.mem_cons.mp hx with rfl | hx
    · exact h1
    · have := (List.pairwise_cons.mp ih).1 x hx
      omega
structure KeyFacts (d s w : Nat) : Prop where
  boxes : ((keyL d s w).map boxOf).Perm (boxL w s d)
  keys : ((boxL w s d).map fun b => keyOf b d s).Perm (keyL d s w)
  ok : ∀ k ∈ keyL d s w, k.length = d + 1 ∧ (∀ x ∈ k, 0 ≤ x ∧ x ≤ 5) ∧ k.sum = s ∧ weiK k = w
  up : (keyL d s w).Pairwise (fun a b => TS.code 8 a < TS.code 8 b)
  pos : 0 < (keyL d s w).length
  left : ∀ b ∈ boxL w s d, keyOf (leftK b s d) d s = (keyOf b d s).reverse
theorem keyFacts {d s w : Nat} (d1 : 1 ≤ d) (d6 : d ≤ 6) (s1 : 1 ≤ s) (s5 : s ≤ 5) (hw : w ≤ d * s) : KeyFacts d s w := by
  have h := List.all_eq_true.mp (chkD_at d1 d6 s1 s5) w (List.mem_range.mpr (by omega))
  unfold chkK at h
  simp only [Bool.and_eq_true] at h
  obtain ⟨⟨⟨⟨⟨h1, h2⟩, h3⟩, h4⟩, h5⟩, h6⟩ := h
  refine ⟨List.isPerm_iff.mp h1, List.isPerm_iff.mp h2, fun k hk => ?_, ?_, of_decide_eq_true h5, fun b hb => of_decide_eq_true (List.all_eq_true.mp h6 b hb)⟩
  · have h := List.all_eq_true.mp h3 k hk
    unfold keyOk at h
    simp only [Bool.and_eq_true, decide_eq_true_eq, List.all_eq_true] at h
    exact ⟨h.1.1.1, h.1.1.2, h.1.2, h.2⟩
  · have h := List.pairwise_map.mp (strictU_pw _ h4)
    refine h.imp fun {a b} h => ?_
    rw [code_K, code_K]
    exact h
theorem injU {α : Type} {f : α → Int} : ∀ {S : List α}, S.Pairwise (fun a b => f a < f b) → ∀ a ∈ S, ∀ b ∈ S, f a = f b → a = b
  | [], _, a, ha, _, _, _ => absurd ha List.not_mem_nil
  | x :: S, h, a, ha, b, hb, e => by
    obtain ⟨h1, h2⟩ := List.pairwise_cons.mp h
    rcases List.mem_cons.mp ha with rfl | ha'
    · rcases List.mem_cons.mp hb with rfl | hb'
      · rfl
      · have := h1 b hb'
        omega
    · rcases List.mem_cons.mp hb with rfl | hb'
      · have := h1 a ha'
        omega
      · exact injU h2 a ha' b hb' e
theorem nodupU {α : Type} {f : α → Int} {S : List α} (h : S.Pairwise (fun a b => f a < f b)) : S.Nodup := h.imp fun {a b} h e => by subst e; omega
/-- what is sorted and has these members is these -/
theorem sortedU_is {S L : List (List Int)} {f : List Int → Int} (h : S.Pairwise (fun a b => f a < f b)) (pm : L.Perm S) (hs : L.Pairwise (fun a b => f a ≤ f b)) : L = S := by
  refine List.Perm.eq_of_pairwise (le := fun a b => f a ≤ f b) (fun a b ha hb h1 h2 => ?_) hs ?_ pm
  · exact injU h a (pm.mem_iff.mp ha) b hb (Int.le_antisymm h1 h2)
  · exact h.imp fun {a b} h => Int.le_of_lt h
theorem rowsOf {H : Hp} : ∀ {L : List (Addr × List Int)}, (∀ q ∈ L, H q.1 = some (TI q.2)) → RowsAt H (L.map (·.1)) (L.map (·.2))
  | [], _ => .nil
  | q :: L, h => .cons (h q List.mem_cons_self) (rowsOf fun r hr => h r (List.mem_cons_of_mem _ hr))
/-- rows sorted by the rule for one length -/
theorem sortT_rows {K : PySem.W.Frag} {H : Hp} {rs : List Addr} {rows S : List (List Int)} {ys : List V} (hR : RowsAt H rs rows) (pm : rows.Perm S) (hS : S.Pairwise (fun a b => TS.code 8 a < TS.code 8 b)) (py : ys.Perm (rs.map V.ref))
    (pw : ys.Pairwise (fun x y => ∀ n m, TupI K H x n → TupI K H y m → TS.code 8 n ≤ TS.code 8 m)) : ∃ rs', ys = rs'.map V.ref ∧ RowsAt H rs' S := by
  have hl := hR.1
  have k1 : (rs.zip rows).map (·.1) = rs := List.map_fst_zip (Nat.le_of_eq hl)
  have k2 : (rs.zip rows).map (·.2) = rows := List.map_snd_zip (Nat.le_of_eq hl.symm)
  have kAt : ∀ q ∈ rs.zip rows, H q.1 = some (TI q.2) := fun q hq => by
    obtain ⟨i, hi, rfl⟩ := List.mem_iff_getElem.mp hq
    have hi' := hi
    rw [List.length_zip] at hi'
    rw [List.getElem_zip]
    exact hR.2 i _ _ (List.getElem?_eq_getElem (by omega)) (List.getElem?_eq_getElem (by omega))
  have kr : (rs.zip rows).map (fun q => V.ref q.1) = rs.map V.ref := by
    rw [show (fun q : Addr × List Int => V.ref q.1) = V.ref ∘ (·.1) from rfl, ← List.map_map, k1]
  obtain ⟨zs, pz, ez⟩ := perm_lift (fun q : Addr × List Int => V.ref q.1) py (rs.zip rows) kr
  have zAt : ∀ q ∈ zs, H q.1 = some (TI q.2) := fun q hq => kAt q (pz.mem_iff.mp hq)
  have e2 : zs.map (·.2) = S := by
    refine sortedU_is (f := TS.code 8) hS ?_ ?_
    · have := pz.map (·.2)
      rw [k2] at this
      exact this.trans pm
    · rw [← ez, List.pairwise_map] at pw
      rw [List.pairwise_map]
      exact List.Pairwise.imp_of_mem (fun {a b} ha hb h => h _ _ ⟨_, rfl, sqT_of (zAt a ha)⟩ ⟨_, rfl, sqT_of (zAt b hb)⟩) pw
  refine ⟨zs.map (·.1), ?_, e2 ▸ rowsOf zAt⟩
  rw [← ez, List.map_map]
  rfl
end My

namespace My
open PySem PySem.Spec PyProof.Rows L2 Pr M26
section
variable {P : Program} {w : World} {K : PySem.W.Frag} {mg : Str → Option Value} {base : Heap}
abbrev T3 := List Int × Int × Int
/-- a list of triples: a tuple of ints, two ints -/
def P3 (H : Hp) : List Addr → List T3 → Prop
  | [], [] => True
  | a :: as, q :: l => (∃ t, H a = some (.tup [.ref t, .int q.2.1, .int q.2.2]) ∧ H t = some (TI q.1)) ∧ P3 H as l
  | _, _ => False
theorem P3.same {H H' : Hp} (s : Same H H') : ∀ {as : List Addr} {l : List T3}, P3 H as l → P3 H' as l
  | [], [], _ => trivial
  | a :: as, q :: l, ⟨⟨t, h1, h2⟩, h⟩ => ⟨⟨t, s _ _ h1, s _ _ h2⟩, P3.same s h⟩
  | [], _ :: _, h => h.elim
  | _ :: _, [], h => h.elim
theorem P3.append {H : Hp} : ∀ {as bs : List Addr} {l k : List T3}, P3 H as l → P3 H bs k → P3 H (as ++ bs) (l ++ k)
  | [], _, [], _, _, h => h
  | a :: as, _, q :: l, _, ⟨h1, h2⟩, h => ⟨h1, P3.append h2 h⟩
  | [], _, _ :: _, _, h, _ => h.elim
  | _ :: _, _, [], _, h, _ => h.elim
theorem P3.len {H : Hp} : ∀ {as : List Addr} {l : List T3}, P3 H as l → as.length = l.length
  | [], [], _ => rfl
  | a :: as, q :: l, ⟨_, h⟩ => by rw [List.length_cons, List.length_cons, P3.len h]
  | [], _ :: _, h => h.elim
  | _ :: _, [], h => h.elim
theorem P3.get {H : Hp} : ∀ {as : List Addr} {l : List T3}, P3 H as l → ∀ (i : Nat) (v : V), (as.map V.ref)[i]? = some v → ∃ a q t, v = .ref a ∧ l[i]? = some q ∧ H a = some (.tup [.ref t, .int q.2.1, .int q.2.2]) ∧ H t = some (TI q.1)
  | [], [], _, i, v, h => by simp at h
  | a :: as, q :: l, ⟨⟨t, h1, h2⟩, h⟩, 0, v, e => ⟨a, q, t, (Option.some.inj e).symm, rfl, h1, h2⟩
  | a :: as, q :: l, ⟨_, h⟩, i + 1, v, e => P3.get h i v e
  | [], _ :: _, h, _, _, _ => h.elim
  | _ :: _, [], h, _, _, _ => h.elim
theorem P3.upd {H : Hp} {l5 : Addr} {xs : List V} {o : HO} (hl : H l5 = some (.lst xs)) : ∀ {as : List Addr} {l : List T3}, P3 H as l → P3 (upd H l5 o) as l
  | [], [], _ => trivial
  | a :: as, q :: l, ⟨⟨t, h1, h2⟩, h⟩ => by
    refine ⟨⟨t, ?_, ?_⟩, P3.upd hl h⟩
    · rw [upd_ne fun e => ?_]
      · exact h1
      · rw [e, hl] at h1
        cases h1
    · rw [upd_ne fun e => ?_]
      · exact h2
      · rw [e, hl] at h2
        cases h2
  | [], _ :: _, h => h.elim
  | _ :: _, [], h => h.elim
structure Ok3 (s w k : Nat) (q : T3) : Prop where
  len : q.1.length = k
  mem : ∀ x ∈ q.1, 0 ≤ x ∧ x ≤ (s : Int)
  l0 : 0 ≤ q.2.1
  l1 : q.2.1 ≤ s
  h0 : 0 ≤ q.2.2
  h1 : q.2.2 ≤ w
def keyPre (at_ : Nat) (q : T3) (n : Nat) : List T3 := ((List.range n).filter fun (v : Nat) => decide ((v : Int) * (at_ : Int) ≤ q.2.2)).map fun (v : Nat) => (q.1 ++ [(v : Int)], q.2.1 - (v : Int), q.2.2 - (v : Int) * (at_ : Int))
theorem keyRow_pre (at_ : Nat) (q : T3) : keyRow at_ q = keyPre at_ q (q.2.1 + 1).toNat := rfl
theorem keyPre_succ (at_ : Nat) (q : T3) (n : Nat) : keyPre at_ q (n + 1) = keyPre at_ q n ++ (if (n : Int) * (at_ : Int) ≤ q.2.2 then [(q.1 ++ [(n : Int)], q.2.1 - (n : Int), q.2.2 - (n : Int) * (at_ : Int))] else []) := by
  unfold keyPre
  rw [List.range_succ, List.filter_append, List.map_append]
  congr 1
  split
  · rename_i c
    rw [List.filter_cons_of_pos (by simpa using c)]
    rfl
  · rename_i c
    rw [List.filter_cons_of_neg (by simpa using c)]
    rfl
theorem keyPre_len (at_ : Nat) (q : T3) (n : Nat) : (keyPre at_ q n).length ≤ n := by
  unfold keyPre
  rw [List.length_map]
  exact Nat.le_trans (List.length_filter_le _ _) (by rw [List.length_range]; exact Nat.le_refl _)
theorem keyRow_ok {s w k at_ : Nat} {q : T3} (h : Ok3 s w k q) : ∀ r ∈ keyRow at_ q, Ok3 s w (k + 1) r := fun r hr => by
  obtain ⟨v, hv, rfl⟩ := List.mem_map.mp hr
  obtain ⟨v1, v2⟩ := List.mem_filter.mp hv
  have v1 := List.mem_range.mp v1
  have v2 : (v : Int) * (at_ : Int) ≤ q.2.2 := by simpa using v2
  have v3 : (0 : Int) ≤ (v : Int) * (at_ : Int) := Int.mul_nonneg (by omega) (by omega)
  have := h.l0
  have := h.l1
  have := h.h1
  refine ⟨by show (q.1 ++ [_]).length = _; rw [List.length_append, h.len]; rfl, fun x hx => ?_, by show 0 ≤ q.2.1 - (v : Int); omega, by show q.2.1 - (v : Int) ≤ _; omega, by show 0 ≤ q.2.2 - (v : Int) * (at_ : Int); omega, by show q.2.2 - (v : Int) * (at_ : Int) ≤ _; omega⟩
  rcases List.mem_append.mp hx with hx | hx
  · exact h.mem x hx
  · rw [List.mem_singleton.mp hx]
    omega
theorem keyFlat_len {s w k at_ : Nat} (hs : s ≤ 5) : ∀ l : List T3, (∀ q ∈ l, Ok3 s w k q) → (l.flatMap (keyRow at_)).length ≤ 6 * l.length
  | [], _ => Nat.le_refl _
  | q :: l, h => by
    rw [List.flatMap_cons, List.length_append, List.length_cons, keyRow_pre]
    have h1 := keyPre_len at_ q (q.2.1 + 1).toNat
    have h2 := (h q List.mem_cons_self).l1
    have h3 := keyFlat_len (at_ := at_) hs l fun x hx => h x (List.mem_cons_of_mem _ hx)
    omega
theorem keyAll_ok (s w : Nat) (hs : s ≤ 5) : ∀ k, (∀ q ∈ keyAll s w k, Ok3 s w k q) ∧ (keyAll s w k).length ≤ 6 ^ k
  | 0 => ⟨fun q hq => by
      obtain rfl := List.mem_singleton.mp hq
      exact ⟨rfl, fun _ h => absurd h List.not_mem_nil, by show (0 : Int) ≤ (s : Int); omega, Int.le_refl _, by show (0 : Int) ≤ (w : Int); omega, Int.le_refl _⟩, Nat.le_refl _⟩
  | k + 1 => by
    obtain ⟨h1, h2⟩ := keyAll_ok s w hs k
    refine ⟨fun q hq => ?_, ?_⟩
    · obtain ⟨r, hr, hq⟩ := List.mem_flatMap.mp hq
      exact keyRow_ok (h1 r hr) q hq
    · have := keyFlat_len (at_ := k) hs _ h1
      rw [Nat.pow_succ]
      show ((keyAll s w k).flatMap (keyRow k)).length ≤ _
      omega
def toldK (l : List T3) : List (List Int) := (l.filter fun q => decide (q.2.1 = 0) && decide (q.2.2 = 0)).map (·.1)
theorem box_few29 {wt p m : Nat} (hw : wt < 38) (hp : p < 7) (hm : m < 7) : (boxL wt p m).length < 64 := by
  by_cases c : p * m < wt
  · unfold boxL
    rw [if_pos c]
    decide
  · exact (chk_at hw hp hm c).2.2.1
def sp_law_keys : Sp := fun vs H Q _ => ∃ (d s w : Nat), vs = [.int (d : Nat), .int (s : Nat), .int (w : Nat)] ∧ 1 ≤ d ∧ d ≤ 6 ∧ 1 ≤ s ∧ s ≤ 5 ∧ w ≤ d * s ∧ ∀ H' a rs, Same H H' → H' a = some (.lst (rs.map V.ref)) → RowsAt H' rs (keyL d s w) → Q (.ref a) H'
theorem ok_law_keys (T : Tx K mg) : FnOk P w K mg base CX0 1 T.f_law_keys T.d_law_keys p_law_keys sp_law_keys := by
  refine T.F_law_keys.ok sc_law_keys (fun vs H Q E h => ?_) (fun cdv A outer s H vs Q E hr h => ?_)
  · obtain ⟨d, s, w, rfl, _⟩ := h
    rfl
  · obtain ⟨dg, s, wt, rfl, d1, d6, s1, s5, hw, k⟩ := h
    refine ⟨_, (pss_cons (ps_set (i := 3) sc_law_keys.nd rfl (Or.inl rfl) (pe_lst (pa_cons (pe_tup (pa_cons (pe_tup pa_nil) (pa_cons (pv 1) (pa_cons (pv 2) pa_nil)))) pa_nil)))
      (pss_cons (ps_for PassesOwn.never rfl (pi_range1 (by rfl) T.z_range (pa_cons (pe_op op_add (pv 0) pe_int) pa_nil)) (pg_name (i := 4) sc_law_keys.nd rfl (by first | exact .inl rfl | exact .inr rfl))
      (pss_cons (ps_set (i := 5) sc_law_keys.nd rfl (Or.inl rfl) (pe_lst pa_nil))
      (pss_cons (ps_for PassesOwn.never rfl (pi_list (pv 3)) (pg_tupH (n := 3) (by rfl) (pgs_cons (pg_name (i := 6) sc_law_keys.nd rfl (by first | exact .inl rfl | exact .inr rfl)) (pgs_cons (pg_name (i := 7) sc_law_keys.nd rfl (by first | exact .inl rfl | exact .inr rfl)) (pgs_cons (pg_name (i := 8) sc_law_keys.nd rfl (by first | exact .inl rfl | exact .inr rfl)) pgs_nil))))
      (pss_one (ps_for PassesOwn.never rfl (pi_range1 (by rfl) T.z_range (pa_cons (pe_op op_add (pv 7) pe_int) pa_nil)) (pg_name (i := 9) sc_law_keys.nd rfl (by first | exact .inl rfl | exact .inr rfl))
      (pss_one (ps_if (pt_cmpR op_le (pe_op op_mul (pv 9) (pv 4)) (pv 8) (nomark _)) (pss_one (ps_expr (pe_bm PySem.F.plainAttrs_list PySem.F.slot_list_append PySem.F.type_list_append mt_appV (pv 5) (pa_cons (pe_tup (pa_cons (pe_op op_catI (pv 6) (pe_tup (pa_cons (pv 9) pa_nil))) (pa_cons (pe_op op_sub (pv 7) (pv 9)) (pa_cons (pe_op op_sub (pv 8) (pe_op op_mul (pv 9) (pv 4))) pa_nil)))) pa_nil)))) pss_nil)))))
      (pss_one (ps_set (i := 3) sc_law_keys.nd rfl (Or.inl rfl) (pe_callTy cr_listS (by rfl) T.z_list (by decide +kernel) (pa_cons (pv 5) pa_nil)))))))
      (pss_one (ps_ret (pe_callB (cr_sortT (d := dg + 1) (B := 8) (by omega)) (by rfl) T.z_sorted (by decide +kernel) (pa_cons (pe_lc (own := [("_law_key", 6), ("_law_left", 7), ("_law_heavy", 8)]) rfl sc_law_keys.nd (pi_list (pv 3)) (blkOk_by (N := n_law_keys) (sc := defScope s_law_keys) (by decide +kernel)) (fun _ _ _ _ _ => (pg_tupH (n := 3) (by rfl) (pgs_cons (pg_name (i := 6) sc_law_keys.nd rfl (by first | exact .inl rfl | exact .inr rfl)) (pgs_cons (pg_name (i := 7) sc_law_keys.nd rfl (by first | exact .inl rfl | exact .inr rfl)) (pgs_cons (pg_name (i := 8) sc_law_keys.nd rfl (by first | exact .inl rfl | exact .inr rfl)) pgs_nil))))) (fun _ _ _ _ _ => (pts_one (PW.pt (pw_and (pt_cmpR op_eq (pv 7) pe_int (nomark _)) (pw_and1 (pt_cmpR op_eq (pv 8) pe_int (nomark _))))))) (fun _ _ _ _ _ => (pv 6))) pa_nil)))))), ?_⟩
    rw [st_law_keys]
    simp only [ap_seq, ap_next, ap_asg, ap_gName, ap_ret, ap_retN, ap_drop, ap_ifS, ap_break, ap_cont, ap_par, ap_aug, ap_ip, ap_gSub, ap_gTup, ap_gNil, ap_gCons, ap_var, ap_c, ap_op, ap_un, ap_if, ap_test, ap_B, ap_and, ap_or, ap_not, ap_andV, ap_orV, ap_notV, ap_nil, ap_cons, ap_tup, ap_lst, ap_cb, ap_bm, ap_call, ap_chain, ap_rI, ap_rI0, ap_rU, ap_rEq, ap_rNe, ap_revT, ap_sl, ap_part, ap_noPart, ap_ixLI, ap_ixTI, ap_ixLV, ap_ixTV, ap_len, ap_setLI, ap_setLV, ap_appI, ap_appV, ap_tupL, ap_listS, ap_sumLI, ap_sumTI, ap_repLI, ap_intI, ap_intB, ap_eqTI, ap_neTI, ap_eqLI, ap_neLI, ap_isi, ap_for, ap_rng1, ap_rng2, ap_iList, ap_iTup, ap_lc, ap_yes, ap_cut, ap_gTupH, ap_fmt, ap_jsn, ap_jsc, ap_gcd, ap_isqrt, ap_ixL, tyV_l, wipe_nil, wipe_cons, upd_same, ap_iEnT, ap_iEnL, ap_iZipA, ap_all, ap_tupT, ap_attF, ap_makeL, ap_dictKP, ap_neDP, ap_itemsT, ap_zipM, ap_lockE, ap_dget2, ap_dput, ap_dnewT, ap_iValsT, ap_iKeys, ap_sortedDT, ap_dictLT, ap_lenDT, ap_dcT, ap_sortT1, ap_dget, ap_listG, ap_callG, ap_star, ap_extend, ap_max, ap_setOfT, ap_sortedU, ap_sortedTU, ap_repTZ, ap_maxT, ap_revA, ap_att, ap_prop, ap_isO, ap_bin, ap_ne, ap_meth, ap_make, ins_inj, FE_inj, ap_slI, ap_catI, ap_perm, ap_lenO, ap_strO, ap_listO, ap_reprB, ap_iterT, ap_neT, ap_negO, ap_binI, ap_catL, ap_tM1, ap_repTI, ap_popN, ap_par3, ap_catTT, ap_repTA, ap_countT, ap_notInT, ap_repL1, ap_shl, ap_shr, ap_mask, ap_comb, ap_bits, ap_rng3, List.set_cons_zero, List.set_cons_succ, List.getElem?_cons_zero, List.getElem?_cons_succ, List.cons_append, List.nil_append, List.append_nil, Option.some.injEq, V.int.injEq, V.ref.injEq, V.bl.injEq, V.str.injEq, V.ty.injEq, Bool.not_true, Bool.not_false, HO.lst.injEq, HO.tup.injEq, reduceCtorEq, Int.reduceToNat, Int.reduceLT, Int.reduceLE, Nat.reduceAdd, Int.cast_ofNat_Int, gi_c0, gi_c1, gi_c2, gi_c3, Int.natCast_inj, map_int_inj, map_nil_iff, List.cons.injEq, exists_eq_left, exists_eq_left', exists_eq, exists_eq', exists_and_left, exists_and_right, exists_const, and_assoc, and_true, true_and, and_false, false_and, or_false, false_or, or_true, true_or, ite_true, ite_false, if_true, if_false, Bool.false_eq_true, own_cons, own_nil, le1, le2, le3, le4, me_cons, me_nil, List.length_map, List.length_cons, List.length_nil, ne_eq, not_false_eq_true, not_true_eq_false, decide_eq_true_eq]
    refine ⟨by decide, fun p1 np1 => ⟨by decide, fun p2 np2 => ⟨by decide, fun p3 np3 => ⟨by omega, by omega, ?_⟩⟩⟩⟩
    have t1 := same_upd (o := HO.tup []) np1
    have t2 := same_upd (o := HO.tup [V.ref p1, V.int (s : Nat), V.int (wt : Nat)]) np2
    have t3 := same_upd (o := HO.lst [V.ref p2]) np3
    rw [show ((dg : Int) + 1).toNat = dg + 1 by omega]
    refine loop_range (fun i σ' H' => Same H H' ∧ ∃ (l3 : Addr) (as : List Addr) (y4 y5 y6 y7 y8 y9 : Option V), σ' = [some (V.int (dg : Nat)), some (V.int (s : Nat)), some (V.int (wt : Nat)), some (V.ref l3), y4, y5, y6, y7, y8, y9] ∧ H' l3 = some (.lst (as.map V.ref)) ∧ P3 H' as (keyAll s wt i))
      ⟨t1.trans (t2.trans t3), p3, [p2], _, _, _, _, _, _, rfl, upd_same, ⟨p1, t3 _ _ upd_same, t3 _ _ (t2 _ _ upd_same)⟩, trivial⟩ (fun i σ' H1 hi hP => ?_) (fun σ' H1 hP => ?_)
    · obtain ⟨sm, l3, as, y4, y5, y6, y7, y8, y9, rfl, e31, hPA⟩ := hP
      obtain ⟨aok, alen⟩ := keyAll_ok s wt s5 i
      have len7 : (keyAll s wt i).length ≤ 46656 := Nat.le_trans alen (Nat.le_trans (Nat.pow_le_pow_right (by decide) (show i ≤ 6 by omega)) (by decide))
      simp only [ap_seq, ap_next, ap_asg, ap_gName, ap_ret, ap_retN, ap_drop, ap_ifS, ap_break, ap_cont, ap_par, ap_aug, ap_ip, ap_gSub, ap_gTup, ap_gNil, ap_gCons, ap_var, ap_c, ap_op, ap_un, ap_if, ap_test, ap_B, ap_and, ap_or, ap_not, ap_andV, ap_orV, ap_notV, ap_nil, ap_cons, ap_tup, ap_lst, ap_cb, ap_bm, ap_call, ap_chain, ap_rI, ap_rI0, ap_rU, ap_rEq, ap_rNe, ap_revT, ap_sl, ap_part, ap_noPart, ap_ixLI, ap_ixTI, ap_ixLV, ap_ixTV, ap_len, ap_setLI, ap_setLV, ap_appI, ap_appV, ap_tupL, ap_listS, ap_sumLI, ap_sumTI, ap_repLI, ap_intI, ap_intB, ap_eqTI, ap_neTI, ap_eqLI, ap_neLI, ap_isi, ap_for, ap_rng1, ap_rng2, ap_iList, ap_iTup, ap_lc, ap_yes, ap_cut, ap_gTupH, ap_fmt, ap_jsn, ap_jsc, ap_gcd, ap_isqrt, ap_ixL, tyV_l, wipe_nil, wipe_cons, upd_same, ap_iEnT, ap_iEnL, ap_iZipA, ap_all, ap_tupT, ap_attF, ap_makeL, ap_dictKP, ap_neDP, ap_itemsT, ap_zipM, ap_lockE, ap_dget2, ap_dput, ap_dnewT, ap_iValsT, ap_iKeys, ap_sortedDT, ap_dictLT, ap_lenDT, ap_dcT, ap_sortT1, ap_dget, ap_listG, ap_callG, ap_star, ap_extend, ap_max, ap_setOfT, ap_sortedU, ap_sortedTU, ap_repTZ, ap_maxT, ap_revA, ap_att, ap_prop, ap_isO, ap_bin, ap_ne, ap_meth, ap_make, ins_inj, FE_inj, ap_slI, ap_catI, ap_perm, ap_lenO, ap_strO, ap_listO, ap_reprB, ap_iterT, ap_neT, ap_negO, ap_binI, ap_catL, ap_tM1, ap_repTI, ap_popN, ap_par3, ap_catTT, ap_repTA, ap_countT, ap_notInT, ap_repL1, ap_shl, ap_shr, ap_mask, ap_comb, ap_bits, ap_rng3, List.set_cons_zero, List.set_cons_succ, List.getElem?_cons_zero, List.getElem?_cons_succ, List.cons_append, List.nil_append, List.append_nil, Option.some.injEq, V.int.injEq, V.ref.injEq, V.bl.injEq, V.str.injEq, V.ty.injEq, Bool.not_true, Bool.not_false, HO.lst.injEq, HO.tup.injEq, reduceCtorEq, Int.reduceToNat, Int.reduceLT, Int.reduceLE, Nat.reduceAdd, Int.cast_ofNat_Int, gi_c0, gi_c1, gi_c2, gi_c3, Int.natCast_inj, map_int_inj, map_nil_iff, List.cons.injEq, exists_eq_left, exists_eq_left', exists_eq, exists_eq', exists_and_left, exists_and_right, exists_const, and_assoc, and_true, true_and, and_false, false_and, or_false, false_or, or_true, true_or, ite_true, ite_false, if_true, if_false, Bool.false_eq_true, own_cons, own_nil, le1, le2, le3, le4, me_cons, me_nil, List.length_map, List.length_cons, List.length_nil, ne_eq, not_false_eq_true, not_true_eq_false, decide_eq_true_eq]
      refine ⟨by decide, fun l5 n5 => ?_⟩
      have s5' := same_upd (o := HO.lst []) n5
      refine ⟨⟨_, sqL_of (s5' _ _ e31)⟩, ?_⟩
      refine loop_gen (gives_list (xs := as.map V.ref)) (fun j σ' H' => Same H1 H' ∧ H' l3 = some (.lst (as.map V.ref)) ∧ P3 H' as (keyAll s wt i) ∧ ∃ (bs : List Addr) (y6 y7 y8 y9 : Option V), σ' = [some (V.int (dg : Nat)), some (V.int (s : Nat)), some (V.int (wt : Nat)), some (V.ref l3), some (V.int (i : Nat)), some (V.ref l5), y6, y7, y8, y9] ∧ H' l5 = some (.lst (bs.map V.ref)) ∧ P3 H' bs (((keyAll s wt i).take j).flatMap (keyRow i)))
        ⟨s5', s5' _ _ e31, hPA.same s5', [], _, _, _, _, by rw [Int.zero_add], upd_same, trivial⟩ (fun j σ' H' _ h => h.2.1) (fun j v σ' H2 H' hj hP hY => ?_) (fun σ' H2 hP => ?_)
      · obtain ⟨rfl, y⟩ := hY
        obtain ⟨sa, e3, pa, bs, y6, y7, y8, y9, rfl, e5, pb⟩ := hP
        obtain ⟨a, q, t, rfl, eq, h1, h2⟩ := pa.get j v y
        refine ⟨a, rfl, [.ref t, .int q.2.1, .int q.2.2], h1, rfl, _, _, rfl, _, _, rfl, _, [], rfl, rfl, ?_⟩
        simp only [ap_seq, ap_next, ap_asg, ap_gName, ap_ret, ap_retN, ap_drop, ap_ifS, ap_break, ap_cont, ap_par, ap_aug, ap_ip, ap_gSub, ap_gTup, ap_gNil, ap_gCons, ap_var, ap_c, ap_op, ap_un, ap_if, ap_test, ap_B, ap_and, ap_or, ap_not, ap_andV, ap_orV, ap_notV, ap_nil, ap_cons, ap_tup, ap_lst, ap_cb, ap_bm, ap_call, ap_chain, ap_rI, ap_rI0, ap_rU, ap_rEq, ap_rNe, ap_revT, ap_sl, ap_part, ap_noPart, ap_ixLI, ap_ixTI, ap_ixLV, ap_ixTV, ap_len, ap_setLI, ap_setLV, ap_appI, ap_appV, ap_tupL, ap_listS, ap_sumLI, ap_sumTI, ap_repLI, ap_intI, ap_intB, ap_eqTI, ap_neTI, ap_eqLI, ap_neLI, ap_isi, ap_for, ap_rng1, ap_rng2, ap_iList, ap_iTup, ap_lc, ap_yes, ap_cut, ap_gTupH, ap_fmt, ap_jsn, ap_jsc, ap_gcd, ap_isqrt, ap_ixL, tyV_l, wipe_nil, wipe_cons, upd_same, ap_iEnT, ap_iEnL, ap_iZipA, ap_all, ap_tupT, ap_attF, ap_makeL, ap_dictKP, ap_neDP, ap_itemsT, ap_zipM, ap_lockE, ap_dget2, ap_dput, ap_dnewT, ap_iValsT, ap_iKeys, ap_sortedDT, ap_dictLT, ap_lenDT, ap_dcT, ap_sortT1, ap_dget, ap_listG, ap_callG, ap_star, ap_extend, ap_max, ap_setOfT, ap_sortedU, ap_sortedTU, ap_repTZ, ap_maxT, ap_revA, ap_att, ap_prop, ap_isO, ap_bin, ap_ne, ap_meth, ap_make, ins_inj, FE_inj, ap_slI, ap_catI, ap_perm, ap_lenO, ap_strO, ap_listO, ap_reprB, ap_iterT, ap_neT, ap_negO, ap_binI, ap_catL, ap_tM1, ap_repTI, ap_popN, ap_par3, ap_catTT, ap_repTA, ap_countT, ap_notInT, ap_repL1, ap_shl, ap_shr, ap_mask, ap_comb, ap_bits, ap_rng3, List.set_cons_zero, List.set_cons_succ, List.getElem?_cons_zero, List.getElem?_cons_succ, List.cons_append, List.nil_append, List.append_nil, Option.some.injEq, V.int.injEq, V.ref.injEq, V.bl.injEq, V.str.injEq, V.ty.injEq, Bool.not_true, Bool.not_false, HO.lst.injEq, HO.tup.injEq, reduceCtorEq, Int.reduceToNat, Int.reduceLT, Int.reduceLE, Nat.reduceAdd, Int.cast_ofNat_Int, gi_c0, gi_c1, gi_c2, gi_c3, Int.natCast_inj, map_int_inj, map_nil_iff, List.cons.injEq, exists_eq_left, exists_eq_left', exists_eq, exists_eq', exists_and_left, exists_and_right, exists_const, and_assoc, and_true, true_and, and_false, false_and, or_false, false_or, or_true, true_or, ite_true, ite_false, if_true, if_false, Bool.false_eq_true, own_cons, own_nil, le1, le2, le3, le4, me_cons, me_nil, List.length_map, List.length_cons, List.length_nil, ne_eq, not_false_eq_true, not_true_eq_false, decide_eq_true_eq]
        have mq : q ∈ keyAll s wt i := List.mem_of_getElem? eq
        have oq := aok q mq
        have q0 := oq.l0
        have q1 := oq.l1
        refine ⟨by omega, by omega, ?_⟩
        have b3 := keyFlat_len (at_ := i) s5 ((keyAll s wt i).take j) fun x hx => aok x (List.mem_of_mem_take hx)
        have b5 : ((keyAll s wt i).take j).length ≤ 46656 := by rw [List.length_take]; omega
        have b6 := pb.len
        refine loop_range (fun v σ' H' => Same H1 H' ∧ H' l3 = some (.lst (as.map V.ref)) ∧ P3 H' as (keyAll s wt i) ∧ H' t = some (TI q.1) ∧ ∃ (cs : List Addr) (y9 : Option V), σ' = [some (V.int (dg : Nat)), some (V.int (s : Nat)), some (V.int (wt : Nat)), some (V.ref l3), some (V.int (i : Nat)), some (V.ref l5), some (V.ref t), some (V.int q.2.1), some (V.int q.2.2), y9] ∧ H' l5 = some (.lst (cs.map V.ref)) ∧
            P3 H' cs (((keyAll s wt i).take j).flatMap (keyRow i) ++ keyPre i q v)) ⟨sa, e3, pa, h2, bs, _, rfl, e5, by show P3 _ _ (_ ++ []); rw [List.append_nil]; exact pb⟩ (fun v σ' H3 hv hP => ?_) (fun σ' H3 hP => ?_)
        · obtain ⟨sb, f3, pc, ht, cs, y9, rfl, g5, pd⟩ := hP
          have d1 := pd.len
          rw [List.length_append] at d1
          have d2 := keyPre_len i q v
          have hv6 : v < 6 := by omega
          have hvi : v * i ≤ 6 * 6 := Nat.mul_le_mul (by omega) (by omega)
          have evi : ((v : Int) * (i : Int)) = ((v * i : Nat) : Int) := (Int.natCast_mul v i).symm
          rw [Int.zero_add]
          simp only [ap_seq, ap_next, ap_asg, ap_gName, ap_ret, ap_retN, ap_drop, ap_ifS, ap_break, ap_cont, ap_par, ap_aug, ap_ip, ap_gSub, ap_gTup, ap_gNil, ap_gCons, ap_var, ap_c, ap_op, ap_un, ap_if, ap_test, ap_B, ap_and, ap_or, ap_not, ap_andV, ap_orV, ap_notV, ap_nil, ap_cons, ap_tup, ap_lst, ap_cb, ap_bm, ap_call, ap_chain, ap_rI, ap_rI0, ap_rU, ap_rEq, ap_rNe, ap_revT, ap_sl, ap_part, ap_noPart, ap_ixLI, ap_ixTI, ap_ixLV, ap_ixTV, ap_len, ap_setLI, ap_setLV, ap_appI, ap_appV, ap_tupL, ap_listS, ap_sumLI, ap_sumTI, ap_repLI, ap_intI, ap_intB, ap_eqTI, ap_neTI, ap_eqLI, ap_neLI, ap_isi, ap_for, ap_rng1, ap_rng2, ap_iList, ap_iTup, ap_lc, ap_yes, ap_cut, ap_gTupH, ap_fmt, ap_jsn, ap_jsc, ap_gcd, ap_isqrt, ap_ixL, tyV_l, wipe_nil, wipe_cons, upd_same, ap_iEnT, ap_iEnL, ap_iZipA, ap_all, ap_tupT, ap_attF, ap_makeL, ap_dictKP, ap_neDP, ap_itemsT, ap_zipM, ap_lockE, ap_dget2, ap_dput, ap_dnewT, ap_iValsT, ap_iKeys, ap_sortedDT, ap_dictLT, ap_lenDT, ap_dcT, ap_sortT1, ap_dget, ap_listG, ap_callG, ap_star, ap_extend, ap_max, ap_setOfT, ap_sortedU, ap_sortedTU, ap_repTZ, ap_maxT, ap_revA, ap_att, ap_prop, ap_isO, ap_bin, ap_ne, ap_meth, ap_make, ins_inj, FE_inj, ap_slI, ap_catI, ap_perm, ap_lenO, ap_strO, ap_listO, ap_reprB, ap_iterT, ap_neT, ap_negO, ap_binI, ap_catL, ap_tM1, ap_repTI, ap_popN, ap_par3, ap_catTT, ap_repTA, ap_countT, ap_notInT, ap_repL1, ap_shl, ap_shr, ap_mask, ap_comb, ap_bits, ap_rng3, List.set_cons_zero, List.set_cons_succ, List.getElem?_cons_zero, List.getElem?_cons_succ, List.cons_append, List.nil_append, List.append_nil, Option.some.injEq, V.int.injEq, V.ref.injEq, V.bl.injEq, V.str.injEq, V.ty.injEq, Bool.not_true, Bool.not_false, HO.lst.injEq, HO.tup.injEq, reduceCtorEq, Int.reduceToNat, Int.reduceLT, Int.reduceLE, Nat.reduceAdd, Int.cast_ofNat_Int, gi_c0, gi_c1, gi_c2, gi_c3, Int.natCast_inj, map_int_inj, map_nil_iff, List.cons.injEq, exists_eq_left, exists_eq_left', exists_eq, exists_eq', exists_and_left, exists_and_right, exists_const, and_assoc, and_true, true_and, and_false, false_and, or_false, false_or, or_true, true_or, ite_true, ite_false, if_true, if_false, Bool.false_eq_true, own_cons, own_nil, le1, le2, le3, le4, me_cons, me_nil, List.length_map, List.length_cons, List.length_nil, ne_eq, not_false_eq_true, not_true_eq_false, decide_eq_true_eq]
          refine ⟨.inl ⟨by omega, by omega⟩, ?_⟩
          rw [keyPre_succ, ← List.append_assoc]
          by_cases c : (v : Int) * (i : Int) ≤ q.2.2
          · rw [if_pos (by simpa using c), if_pos c]
            refine ⟨.inl ⟨rfl, _, sqL_of g5⟩, by decide, fun p6 n6 => ?_⟩
            have u6 := same_upd (o := HO.tup [V.int (v : Int)]) n6
            refine ⟨q.1, u6 _ _ ht, by rw [oq.len]; omega, fun r H5 s5a er => ⟨.inl ⟨by omega, by omega⟩, by decide, fun p8 n8 => ?_⟩⟩
            have u8 := same_upd (o := HO.tup [V.ref r, V.int (q.2.1 - (v : Int)), V.int (q.2.2 - (v : Int) * (i : Int))]) n8
            have u := (u6.trans s5a).trans u8
            have s0 : ∀ o, Same H1 (upd (upd H5 p8 (HO.tup [V.ref r, V.int (q.2.1 - (v : Int)), V.int (q.2.2 - (v : Int) * (i : Int))])) l5 o) := fun o => same_mut (sb.trans u) n5
            refine ⟨_, u _ _ g5, by rw [List.length_map]; omega, s0 _, s0 _ _ _ e31, hPA.same (s0 _), ?_, cs ++ [p8], by rw [List.map_append]; rfl, ?_⟩
            · have h5 := u _ _ ht
              rw [upd_ne fun e => ?_]
              · exact h5
              · rw [e, u _ _ g5] at h5
                cases h5
            · exact P3.upd (u _ _ g5) ((pd.same u).append ⟨⟨r, upd_same, u8 _ _ er⟩, trivial⟩)
          · rw [if_neg (by simpa using c), if_neg c, List.append_nil]
            exact ⟨sb, f3, pc, ht, cs, g5, pd⟩
        · obtain ⟨sb, f3, pc, ht, cs, y9, rfl, g5, pd⟩ := hP
          simp only [ap_seq, ap_next, ap_asg, ap_gName, ap_ret, ap_retN, ap_drop, ap_ifS, ap_break, ap_cont, ap_par, ap_aug, ap_ip, ap_gSub, ap_gTup, ap_gNil, ap_gCons, ap_var, ap_c, ap_op, ap_un, ap_if, ap_test, ap_B, ap_and, ap_or, ap_not, ap_andV, ap_orV, ap_notV, ap_nil, ap_cons, ap_tup, ap_lst, ap_cb, ap_bm, ap_call, ap_chain, ap_rI, ap_rI0, ap_rU, ap_rEq, ap_rNe, ap_revT, ap_sl, ap_part, ap_noPart, ap_ixLI, ap_ixTI, ap_ixLV, ap_ixTV, ap_len, ap_setLI, ap_setLV, ap_appI, ap_appV, ap_tupL, ap_listS, ap_sumLI, ap_sumTI, ap_repLI, ap_intI, ap_intB, ap_eqTI, ap_neTI, ap_eqLI, ap_neLI, ap_isi, ap_for, ap_rng1, ap_rng2, ap_iList, ap_iTup, ap_lc, ap_yes, ap_cut, ap_gTupH, ap_fmt, ap_jsn, ap_jsc, ap_gcd, ap_isqrt, ap_ixL, tyV_l, wipe_nil, wipe_cons, upd_same, ap_iEnT, ap_iEnL, ap_iZipA, ap_all, ap_tupT, ap_attF, ap_makeL, ap_dictKP, ap_neDP, ap_itemsT, ap_zipM, ap_lockE, ap_dget2, ap_dput, ap_dnewT, ap_iValsT, ap_iKeys, ap_sortedDT, ap_dictLT, ap_lenDT, ap_dcT, ap_sortT1, ap_dget, ap_listG, ap_callG, ap_star, ap_extend, ap_max, ap_setOfT, ap_sortedU, ap_sortedTU, ap_repTZ, ap_maxT, ap_revA, ap_att, ap_prop, ap_isO, ap_bin, ap_ne, ap_meth, ap_make, ins_inj, FE_inj, ap_slI, ap_catI, ap_perm, ap_lenO, ap_strO, ap_listO, ap_reprB, ap_iterT, ap_neT, ap_negO, ap_binI, ap_catL, ap_tM1, ap_repTI, ap_popN, ap_par3, ap_catTT, ap_repTA, ap_countT, ap_notInT, ap_repL1, ap_shl, ap_shr, ap_mask, ap_comb, ap_bits, ap_rng3, List.set_cons_zero, List.set_cons_succ, List.getElem?_cons_zero, List.getElem?_cons_succ, List.cons_append, List.nil_append, List.append_nil, Option.some.injEq, V.int.injEq, V.ref.injEq, V.bl.injEq, V.str.injEq, V.ty.injEq, Bool.not_true, Bool.not_false, HO.lst.injEq, HO.tup.injEq, reduceCtorEq, Int.reduceToNat, Int.reduceLT, Int.reduceLE, Nat.reduceAdd, Int.cast_ofNat_Int, gi_c0, gi_c1, gi_c2, gi_c3, Int.natCast_inj, map_int_inj, map_nil_iff, List.cons.injEq, exists_eq_left, exists_eq_left', exists_eq, exists_eq', exists_and_left, exists_and_right, exists_const, and_assoc, and_true, true_and, and_false, false_and, or_false, false_or, or_true, true_or, ite_true, ite_false, if_true, if_false, Bool.false_eq_true, own_cons, own_nil, le1, le2, le3, le4, me_cons, me_nil, List.length_map, List.length_cons, List.length_nil, ne_eq, not_false_eq_true, not_true_eq_false, decide_eq_true_eq]
          refine ⟨sb, f3, pc, cs, g5, ?_⟩
          rw [List.take_succ, eq, List.flatMap_append]
          show P3 H3 cs (_ ++ List.flatMap (keyRow i) [q])
          rw [List.flatMap_cons, List.flatMap_nil, List.append_nil, keyRow_pre]
          exact pd
      · obtain ⟨sa, e3, pa, bs, y6, y7, y8, y9, rfl, e5, pb⟩ := hP
        simp only [ap_seq, ap_next, ap_asg, ap_gName, ap_ret, ap_retN, ap_drop, ap_ifS, ap_break, ap_cont, ap_par, ap_aug, ap_ip, ap_gSub, ap_gTup, ap_gNil, ap_gCons, ap_var, ap_c, ap_op, ap_un, ap_if, ap_test, ap_B, ap_and, ap_or, ap_not, ap_andV, ap_orV, ap_notV, ap_nil, ap_cons, ap_tup, ap_lst, ap_cb, ap_bm, ap_call, ap_chain, ap_rI, ap_rI0, ap_rU, ap_rEq, ap_rNe, ap_revT, ap_sl, ap_part, ap_noPart, ap_ixLI, ap_ixTI, ap_ixLV, ap_ixTV, ap_len, ap_setLI, ap_setLV, ap_appI, ap_appV, ap_tupL, ap_listS, ap_sumLI, ap_sumTI, ap_repLI, ap_intI, ap_intB, ap_eqTI, ap_neTI, ap_eqLI, ap_neLI, ap_isi, ap_for, ap_rng1, ap_rng2, ap_iList, ap_iTup, ap_lc, ap_yes, ap_cut, ap_gTupH, ap_fmt, ap_jsn, ap_jsc, ap_gcd, ap_isqrt, ap_ixL, tyV_l, wipe_nil, wipe_cons, upd_same, ap_iEnT, ap_iEnL, ap_iZipA, ap_all, ap_tupT, ap_attF, ap_makeL, ap_dictKP, ap_neDP, ap_itemsT, ap_zipM, ap_lockE, ap_dget2, ap_dput, ap_dnewT, ap_iValsT, ap_iKeys, ap_sortedDT, ap_dictLT, ap_lenDT, ap_dcT, ap_sortT1, ap_dget, ap_listG, ap_callG, ap_star, ap_extend, ap_max, ap_setOfT, ap_sortedU, ap_sortedTU, ap_repTZ, ap_maxT, ap_revA, ap_att, ap_prop, ap_isO, ap_bin, ap_ne, ap_meth, ap_make, ins_inj, FE_inj, ap_slI, ap_catI, ap_perm, ap_lenO, ap_strO, ap_listO, ap_reprB, ap_iterT, ap_neT, ap_negO, ap_binI, ap_catL, ap_tM1, ap_repTI, ap_popN, ap_par3, ap_catTT, ap_repTA, ap_countT, ap_notInT, ap_repL1, ap_shl, ap_shr, ap_mask, ap_comb, ap_bits, ap_rng3, List.set_cons_zero, List.set_cons_succ, List.getElem?_cons_zero, List.getElem?_cons_succ, List.cons_append, List.nil_append, List.append_nil, Option.some.injEq, V.int.injEq, V.ref.injEq, V.bl.injEq, V.str.injEq, V.ty.injEq, Bool.not_true, Bool.not_false, HO.lst.injEq, HO.tup.injEq, reduceCtorEq, Int.reduceToNat, Int.reduceLT, Int.reduceLE, Nat.reduceAdd, Int.cast_ofNat_Int, gi_c0, gi_c1, gi_c2, gi_c3, Int.natCast_inj, map_int_inj, map_nil_iff, List.cons.injEq, exists_eq_left, exists_eq_left', exists_eq, exists_eq', exists_and_left, exists_and_right, exists_const, and_assoc, and_true, true_and, and_false, false_and, or_false, false_or, or_true, true_or, ite_true, ite_false, if_true, if_false, Bool.false_eq_true, own_cons, own_nil, le1, le2, le3, le4, me_cons, me_nil, List.length_map, List.length_cons, List.length_nil, ne_eq, not_false_eq_true, not_true_eq_false, decide_eq_true_eq]
        rw [List.length_map, hPA.len, List.take_length] at pb
        exact ⟨_, .inl e5, fun l nl => ⟨sm.trans (sa.trans (same_upd nl)), bs, rfl, pb.same (same_upd nl)⟩⟩
    · obtain ⟨sm, l3, as, y4, y5, y6, y7, y8, y9, rfl, e3, hPA⟩ := hP
      simp only [ap_seq, ap_next, ap_asg, ap_gName, ap_ret, ap_retN, ap_drop, ap_ifS, ap_break, ap_cont, ap_par, ap_aug, ap_ip, ap_gSub, ap_gTup, ap_gNil, ap_gCons, ap_var, ap_c, ap_op, ap_un, ap_if, ap_test, ap_B, ap_and, ap_or, ap_not, ap_andV, ap_orV, ap_notV, ap_nil, ap_cons, ap_tup, ap_lst, ap_cb, ap_bm, ap_call, ap_chain, ap_rI, ap_rI0, ap_rU, ap_rEq, ap_rNe, ap_revT, ap_sl, ap_part, ap_noPart, ap_ixLI, ap_ixTI, ap_ixLV, ap_ixTV, ap_len, ap_setLI, ap_setLV, ap_appI, ap_appV, ap_tupL, ap_listS, ap_sumLI, ap_sumTI, ap_repLI, ap_intI, ap_intB, ap_eqTI, ap_neTI, ap_eqLI, ap_neLI, ap_isi, ap_for, ap_rng1, ap_rng2, ap_iList, ap_iTup, ap_lc, ap_yes, ap_cut, ap_gTupH, ap_fmt, ap_jsn, ap_jsc, ap_gcd, ap_isqrt, ap_ixL, tyV_l, wipe_nil, wipe_cons, upd_same, ap_iEnT, ap_iEnL, ap_iZipA, ap_all, ap_tupT, ap_attF, ap_makeL, ap_dictKP, ap_neDP, ap_itemsT, ap_zipM, ap_lockE, ap_dget2, ap_dput, ap_dnewT, ap_iValsT, ap_iKeys, ap_sortedDT, ap_dictLT, ap_lenDT, ap_dcT, ap_sortT1, ap_dget, ap_listG, ap_callG, ap_star, ap_extend, ap_max, ap_setOfT, ap_sortedU, ap_sortedTU, ap_repTZ, ap_maxT, ap_revA, ap_att, ap_prop, ap_isO, ap_bin, ap_ne, ap_meth, ap_make, ins_inj, FE_inj, ap_slI, ap_catI, ap_perm, ap_lenO, ap_strO, ap_listO, ap_reprB, ap_iterT, ap_neT, ap_negO, ap_binI, ap_catL, ap_tM1, ap_repTI, ap_popN, ap_par3, ap_catTT, ap_repTA, ap_countT, ap_notInT, ap_repL1, ap_shl, ap_shr, ap_mask, ap_comb, ap_bits, ap_rng3, List.set_cons_zero, List.set_cons_succ, List.getElem?_cons_zero, List.getElem?_cons_succ, List.cons_append, List.nil_append, List.append_nil, Option.some.injEq, V.int.injEq, V.ref.injEq, V.bl.injEq, V.str.injEq, V.ty.injEq, Bool.not_true, Bool.not_false, HO.lst.injEq, HO.tup.injEq, reduceCtorEq, Int.reduceToNat, Int.reduceLT, Int.reduceLE, Nat.reduceAdd, Int.cast_ofNat_Int, gi_c0, gi_c1, gi_c2, gi_c3, Int.natCast_inj, map_int_inj, map_nil_iff, List.cons.injEq, exists_eq_left, exists_eq_left', exists_eq, exists_eq', exists_and_left, exists_and_right, exists_const, and_assoc, and_true, true_and, and_false, false_and, or_false, false_or, or_true, true_or, ite_true, ite_false, if_true, if_false, Bool.false_eq_true, own_cons, own_nil, le1, le2, le3, le4, me_cons, me_nil, List.length_map, List.length_cons, List.length_nil, ne_eq, not_false_eq_true, not_true_eq_false, decide_eq_true_eq]
      have kf := keyFacts d1 d6 s1 s5 hw
      obtain ⟨aok, alen⟩ := keyAll_ok s wt s5 (dg + 1)
      have len7 : (keyAll s wt (dg + 1)).length ≤ 279936 := Nat.le_trans alen (Nat.le_trans (Nat.pow_le_pow_right (by decide) (show dg + 1 ≤ 7 by omega)) (by decide))
      refine ⟨⟨_, sqL_of e3⟩, ?_⟩
      refine lc_gen (gives_list (xs := as.map V.ref)) (fun A j H' => Same H1 H' ∧ ∃ rs, H' A = some (.lst (rs.map V.ref)) ∧ RowsAt H' rs (toldK ((keyAll s wt (dg + 1)).take j))) (fun A hA => ⟨same_upd hA, [], upd_same, .nil⟩) (fun A j H' _ p => p.1 _ _ e3) (fun A j v H2 H' hA hj hP hY => ?_) (fun A H' hA hP => ?_)
      · obtain ⟨rfl, y⟩ := hY
        obtain ⟨sa, rs, eA, hR⟩ := hP
        obtain ⟨a, q, t, rfl, eq, h1, h2⟩ := hPA.get j v y
        refine ⟨a, rfl, [.ref t, .int q.2.1, .int q.2.2], sa _ _ h1, rfl, _, _, rfl, _, _, rfl, _, [], rfl, rfl, rfl, ?_⟩
        simp only [ap_seq, ap_next, ap_asg, ap_gName, ap_ret, ap_retN, ap_drop, ap_ifS, ap_break, ap_cont, ap_par, ap_aug, ap_ip, ap_gSub, ap_gTup, ap_gNil, ap_gCons, ap_var, ap_c, ap_op, ap_un, ap_if, ap_test, ap_B, ap_and, ap_or, ap_not, ap_andV, ap_orV, ap_notV, ap_nil, ap_cons, ap_tup, ap_lst, ap_cb, ap_bm, ap_call, ap_chain, ap_rI, ap_rI0, ap_rU, ap_rEq, ap_rNe, ap_revT, ap_sl, ap_part, ap_noPart, ap_ixLI, ap_ixTI, ap_ixLV, ap_ixTV, ap_len, ap_setLI, ap_setLV, ap_appI, ap_appV, ap_tupL, ap_listS, ap_sumLI, ap_sumTI, ap_repLI, ap_intI, ap_intB, ap_eqTI, ap_neTI, ap_eqLI, ap_neLI, ap_isi, ap_for, ap_rng1, ap_rng2, ap_iList, ap_iTup, ap_lc, ap_yes, ap_cut, ap_gTupH, ap_fmt, ap_jsn, ap_jsc, ap_gcd, ap_isqrt, ap_ixL, tyV_l, wipe_nil, wipe_cons, upd_same, ap_iEnT, ap_iEnL, ap_iZipA, ap_all, ap_tupT, ap_attF, ap_makeL, ap_dictKP, ap_neDP, ap_itemsT, ap_zipM, ap_lockE, ap_dget2, ap_dput, ap_dnewT, ap_iValsT, ap_iKeys, ap_sortedDT, ap_dictLT, ap_lenDT, ap_dcT, ap_sortT1, ap_dget, ap_listG, ap_callG, ap_star, ap_extend, ap_max, ap_setOfT, ap_sortedU, ap_sortedTU, ap_repTZ, ap_maxT, ap_revA, ap_att, ap_prop, ap_isO, ap_bin, ap_ne, ap_meth, ap_make, ins_inj, FE_inj, ap_slI, ap_catI, ap_perm, ap_lenO, ap_strO, ap_listO, ap_reprB, ap_iterT, ap_neT, ap_negO, ap_binI, ap_catL, ap_tM1, ap_repTI, ap_popN, ap_par3, ap_catTT, ap_repTA, ap_countT, ap_notInT, ap_repL1, ap_shl, ap_shr, ap_mask, ap_comb, ap_bits, ap_rng3, List.set_cons_zero, List.set_cons_succ, List.getElem?_cons_zero, List.getElem?_cons_succ, List.cons_append, List.nil_append, List.append_nil, Option.some.injEq, V.int.injEq, V.ref.injEq, V.bl.injEq, V.str.injEq, V.ty.injEq, Bool.not_true, Bool.not_false, HO.lst.injEq, HO.tup.injEq, reduceCtorEq, Int.reduceToNat, Int.reduceLT, Int.reduceLE, Nat.reduceAdd, Int.cast_ofNat_Int, gi_c0, gi_c1, gi_c2, gi_c3, Int.natCast_inj, map_int_inj, map_nil_iff, List.cons.injEq, exists_eq_left, exists_eq_left', exists_eq, exists_eq', exists_and_left, exists_and_right, exists_const, and_assoc, and_true, true_and, and_false, false_and, or_false, false_or, or_true, true_or, ite_true, ite_false, if_true, if_false, Bool.false_eq_true, own_cons, own_nil, le1, le2, le3, le4, me_cons, me_nil, List.length_map, List.length_cons, List.length_nil, ne_eq, not_false_eq_true, not_true_eq_false, decide_eq_true_eq]
        have tk : toldK ((keyAll s wt (dg + 1)).take (j + 1)) = toldK ((keyAll s wt (dg + 1)).take j) ++ toldK [q] := by
          unfold toldK
          rw [List.take_succ, eq, List.filter_append, List.map_append]
          rfl
        have b5 : ((keyAll s wt (dg + 1)).take j).length ≤ 279936 := by rw [List.length_take]; omega
        have b6 : (toldK ((keyAll s wt (dg + 1)).take j)).length ≤ 279936 := by
          unfold toldK
          rw [List.length_map]
          exact Nat.le_trans (List.length_filter_le _ _) b5
        have no : ¬ (q.2.1 = 0 ∧ q.2.2 = 0) → Same H1 H' ∧ ∃ rs, H' A = some (HO.lst (List.map V.ref rs)) ∧ RowsAt H' rs (toldK (List.take (j + 1) (keyAll s wt (dg + 1)))) := fun c => by
          refine ⟨sa, rs, eA, ?_⟩
          have e : toldK [q] = [] := by
            unfold toldK
            rw [List.filter_cons_of_neg (by simpa using c)]
            rfl
          rw [tk, e, List.append_nil]
          exact hR
        refine ⟨rfl, ?_⟩
        by_cases c1 : q.2.1 = 0
        · rw [if_pos c1]
          refine ⟨rfl, ?_⟩
          by_cases c2 : q.2.2 = 0
          · rw [if_pos c2]
            have hR2 : RowsAt H' (rs ++ [t]) (toldK ((keyAll s wt (dg + 1)).take (j + 1))) := by
              have e : toldK [q] = [q.1] := by
                unfold toldK
                rw [List.filter_cons_of_pos (by simp [c1, c2])]
                rfl
              rw [tk, e]
              exact hR.append (.cons (sa _ _ h2) .nil)
            refine ⟨_, eA, ?_, same_mut sa hA, rs ++ [t], by rw [List.map_append]; rfl, hR2.1, fun k r' ns e1 e2 => ?_⟩
            · rw [List.length_map, hR.1]
              exact sz (by omega)
            · have h4 := hR2.2 k r' ns e1 e2
              rw [upd_ne fun e => ?_]
              · exact h4
              · rw [e, eA] at h4
                cases h4
          · rw [if_neg c2]
            exact no fun h => c2 h.2
        · rw [if_neg c1]
          exact no fun h => c1 h.1
      · obtain ⟨sa, rs, eA, hR⟩ := hP
        rw [List.length_map, hPA.len, List.take_length] at hR
        have hR : RowsAt H' rs (keyL dg s wt) := hR
        have few : (keyL dg s wt).length < 64 := by
          have e1 := kf.boxes.length_eq
          rw [List.length_map] at e1
          rw [e1]
          exact box_few29 (by have : dg * s ≤ 6 * 5 := Nat.mul_le_mul d6 s5; omega) (by omega) (by omega)
        refine ⟨A, rfl, _, sqL_of eA, by rw [List.length_map, hR.1]; exact few, fun x hx => ?_, fun ys p py pw np => ?_⟩
        · obtain ⟨r, hr, rfl⟩ := List.mem_map.mp hx
          obtain ⟨i, hi, rfl⟩ := List.mem_iff_getElem.mp hr
          obtain ⟨ns, e1, e2⟩ := hR.mem hi
          obtain ⟨x1, x2, _⟩ := kf.ok ns (List.mem_of_getElem? e1)
          exact ⟨ns, ⟨_, rfl, sqT_of e2⟩, x1, fun m hm => by have := x2 m hm; omega⟩
        · obtain ⟨rs', rfl, hR'⟩ := sortT_rows hR (List.Perm.refl _) kf.up py pw
          have sp := same_upd (o := HO.lst (rs'.map V.ref)) np
          exact k _ p rs' (sm.trans (sa.trans sp)) upd_same (hR'.same sp)
end
end My

namespace My
open PySem PySem.Spec PyProof.Rows L2 Pr M26
section
variable {P : Program} {w : World} {K : PySem.W.Frag} {mg : Str → Option Value} {base : Heap}
def boxPre (k : List Int) (n : Nat) : List Int := (List.range n).flatMap fun i => List.replicate (k.getD (k.length - 1 - i) 0).toNat ((k.length - 1 - i : Nat) : Int)
theorem boxPre_succ (k : List Int) (n : Nat) : boxPre k (n + 1) = boxPre k n ++ List.replicate (k.getD (k.length - 1 - n) 0).toNat ((k.length - 1 - n : Nat) : Int) := by
  unfold boxPre
  rw [List.range_succ, List.flatMap_append, List.flatMap_cons, List.flatMap_nil, List.append_nil]
theorem boxPre_len {k : List Int} (h : ∀ x ∈ k, 0 ≤ x ∧ x ≤ 12) : ∀ n, (boxPre k n).length ≤ 12 * n
  | 0 => Nat.le_refl _
  | n + 1 => by
    rw [boxPre_succ, List.length_append, List.length_replicate]
    have ih := boxPre_len h n
    have h2 : (k.getD (k.length - 1 - n) 0) ≤ 12 := by
      rw [List.getD_eq_getElem?_getD]
      cases e : k[k.length - 1 - n]? with
      | none => show (0 : Int) ≤ 12; omega
      | some y => exact (h y (List.mem_of_getElem? e)).2
    omega
def sp_law_box_of : Sp := fun vs H Q _ => ∃ (t : Addr) (k : List Int), vs = [.ref t] ∧ H t = some (TI k) ∧ 1 ≤ k.length ∧ k.length ≤ 9 ∧ (∀ x ∈ k, 0 ≤ x ∧ x ≤ 12) ∧ ∀ H' r, Same H H' → H' r = some (TI (boxOf k)) → Q (.ref r) H'
theorem ok_law_box_of (T : Tx K mg) : FnOk P w K mg base CX0 1 T.f_law_box_of T.d_law_box_of p_law_box_of sp_law_box_of := by
  refine T.F_law_box_of.ok sc_law_box_of (fun vs H Q E h => ?_) (fun cdv A outer s H vs Q E hr h => ?_)
  · obtain ⟨t, k, rfl, _⟩ := h
    rfl
  · obtain ⟨t, ky, rfl, ht, l1, l9, hk, k⟩ := h
    refine ⟨_, (pss_cons (ps_set (i := 1) sc_law_box_of.nd rfl (Or.inl rfl) (pe_lst pa_nil))
      (pss_cons (ps_for PassesOwn.never rfl (pi_range3 (by rfl) T.z_range (pa_cons (pe_op op_sub (pe_callB cr_len (by rfl) T.z_len PySem.boot_len (pa_cons (pv 0) pa_nil)) pe_int) (pa_cons pe_int (pa_cons (pe_un un_neg pe_int) pa_nil)))) (pg_name (i := 2) sc_law_box_of.nd rfl (by first | exact .inl rfl | exact .inr rfl))
      (pss_one (ps_set (i := 1) sc_law_box_of.nd rfl (Or.inl rfl) (pe_op op_catL (pv 1) (pe_op op_repLI (pe_lst (pa_cons (pv 2) pa_nil)) (pe_ix ix_TI (pv 0) (pv 2) (fun _ _ => rfl)))))))
      (pss_one (ps_ret (pe_callTy cr_tupL (by rfl) T.z_tuple (by decide +kernel) (pa_cons (pv 1) pa_nil)))))), ?_⟩
    rw [st_law_box_of]
    simp only [ap_seq, ap_next, ap_asg, ap_gName, ap_ret, ap_retN, ap_drop, ap_ifS, ap_break, ap_cont, ap_par, ap_aug, ap_ip, ap_gSub, ap_gTup, ap_gNil, ap_gCons, ap_var, ap_c, ap_op, ap_un, ap_if, ap_test, ap_B, ap_and, ap_or, ap_not, ap_andV, ap_orV, ap_notV, ap_nil, ap_cons, ap_tup, ap_lst, ap_cb, ap_bm, ap_call, ap_chain, ap_rI, ap_rI0, ap_rU, ap_rEq, ap_rNe, ap_revT, ap_sl, ap_part, ap_noPart, ap_ixLI, ap_ixTI, ap_ixLV, ap_ixTV, ap_len, ap_setLI, ap_setLV, ap_appI, ap_appV, ap_tupL, ap_listS, ap_sumLI, ap_sumTI, ap_repLI, ap_intI, ap_intB, ap_eqTI, ap_neTI, ap_eqLI, ap_neLI, ap_isi, ap_for, ap_rng1, ap_rng2, ap_iList, ap_iTup, ap_lc, ap_yes, ap_cut, ap_gTupH, ap_fmt, ap_jsn, ap_jsc, ap_gcd, ap_isqrt, ap_ixL, tyV_l, wipe_nil, wipe_cons, upd_same, ap_iEnT, ap_iEnL, ap_iZipA, ap_all, ap_tupT, ap_attF, ap_makeL, ap_dictKP, ap_neDP, ap_itemsT, ap_zipM, ap_lockE, ap_dget2, ap_dput, ap_dnewT, ap_iValsT, ap_iKeys, ap_sortedDT, ap_dictLT, ap_lenDT, ap_dcT, ap_sortT1, ap_dget, ap_listG, ap_callG, ap_star, ap_extend, ap_max, ap_setOfT, ap_sortedU, ap_sortedTU, ap_repTZ, ap_maxT, ap_revA, ap_att, ap_prop, ap_isO, ap_bin, ap_ne, ap_meth, ap_make, ins_inj, FE_inj, ap_slI, ap_catI, ap_perm, ap_lenO, ap_strO, ap_listO, ap_reprB, ap_iterT, ap_neT, ap_negO, ap_binI, ap_catL, ap_tM1, ap_repTI, ap_popN, ap_par3, ap_catTT, ap_repTA, ap_countT, ap_notInT, ap_repL1, ap_shl, ap_shr, ap_mask, ap_comb, ap_bits, ap_rng3, List.set_cons_zero, List.set_cons_succ, List.getElem?_cons_zero, List.getElem?_cons_succ, List.cons_append, List.nil_append, List.append_nil, Option.some.injEq, V.int.injEq, V.ref.injEq, V.bl.injEq, V.str.injEq, V.ty.injEq, Bool.not_true, Bool.not_false, HO.lst.injEq, HO.tup.injEq, reduceCtorEq, Int.reduceToNat, Int.reduceLT, Int.reduceLE, Nat.reduceAdd, Int.cast_ofNat_Int, gi_c0, gi_c1, gi_c2, gi_c3, Int.natCast_inj, map_int_inj, map_nil_iff, List.cons.injEq, exists_eq_left, exists_eq_left', exists_eq, exists_eq', exists_and_left, exists_and_right, exists_const, and_assoc, and_true, true_and, and_false, false_and, or_false, false_or, or_true, true_or, ite_true, ite_false, if_true, if_false, Bool.false_eq_true, own_cons, own_nil, le1, le2, le3, le4, me_cons, me_nil, List.length_map, List.length_cons, List.length_nil, ne_eq, not_false_eq_true, not_true_eq_false, decide_eq_true_eq]
    refine ⟨by decide, fun p1 n1 => ?_⟩
    have t1 := same_upd (o := HO.lst []) n1
    refine ⟨_, .inr (t1 _ _ ht), ky.length - 1, by rw [List.length_map]; have h := RgC.neg (i := (ky.length : Int) - 1) (j := 0) (by omega) (by omega) (by decide) (by decide); rwa [show ((ky.length : Int) - 1 - 0).toNat = ky.length - 1 by omega] at h, ?_⟩
    refine for_rangeC (g := gName 2) (fun i σ' H' => Same H H' ∧ ∃ (q : Addr) (y : Option V), σ' = [some (V.ref t), some (V.ref q), y] ∧ H' q = some (LI (boxPre ky i))) ⟨t1, p1, _, rfl, upd_same⟩ (fun i σ' H1 hi hP => ?_) (fun σ' H1 hP => ?_)
    · obtain ⟨sm, q, y, rfl, hq⟩ := hP
      have bl := boxPre_len hk i
      have ea : (ky.length : Int) - 1 + (i : Int) * -1 = ((ky.length - 1 - i : Nat) : Int) := by omega
      have hi' : ky.length - 1 - i < ky.length := by omega
      have eg : gi ky ((ky.length - 1 - i : Nat) : Int) = ky[ky.length - 1 - i] := by rw [gi_nat, List.getD_eq_getElem?_getD, List.getElem?_eq_getElem hi']; rfl
      have eg2 : ky.getD (ky.length - 1 - i) 0 = ky[ky.length - 1 - i] := by rw [List.getD_eq_getElem?_getD, List.getElem?_eq_getElem hi']; rfl
      obtain ⟨g0, g1⟩ := hk _ (List.getElem_mem hi')
      simp only [ap_seq, ap_next, ap_asg, ap_gName, ap_ret, ap_retN, ap_drop, ap_ifS, ap_break, ap_cont, ap_par, ap_aug, ap_ip, ap_gSub, ap_gTup, ap_gNil, ap_gCons, ap_var, ap_c, ap_op, ap_un, ap_if, ap_test, ap_B, ap_and, ap_or, ap_not, ap_andV, ap_orV, ap_notV, ap_nil, ap_cons, ap_tup, ap_lst, ap_cb, ap_bm, ap_call, ap_chain, ap_rI, ap_rI0, ap_rU, ap_rEq, ap_rNe, ap_revT, ap_sl, ap_part, ap_noPart, ap_ixLI, ap_ixTI, ap_ixLV, ap_ixTV, ap_len, ap_setLI, ap_setLV, ap_appI, ap_appV, ap_tupL, ap_listS, ap_sumLI, ap_sumTI, ap_repLI, ap_intI, ap_intB, ap_eqTI, ap_neTI, ap_eqLI, ap_neLI, ap_isi, ap_for, ap_rng1, ap_rng2, ap_iList, ap_iTup, ap_lc, ap_yes, ap_cut, ap_gTupH, ap_fmt, ap_jsn, ap_jsc, ap_gcd, ap_isqrt, ap_ixL, tyV_l, wipe_nil, wipe_cons, upd_same, ap_iEnT, ap_iEnL, ap_iZipA, ap_all, ap_tupT, ap_attF, ap_makeL, ap_dictKP, ap_neDP, ap_itemsT, ap_zipM, ap_lockE, ap_dget2, ap_dput, ap_dnewT, ap_iValsT, ap_iKeys, ap_sortedDT, ap_dictLT, ap_lenDT, ap_dcT, ap_sortT1, ap_dget, ap_listG, ap_callG, ap_star, ap_extend, ap_max, ap_setOfT, ap_sortedU, ap_sortedTU, ap_repTZ, ap_maxT, ap_revA, ap_att, ap_prop, ap_isO, ap_bin, ap_ne, ap_meth, ap_make, ins_inj, FE_inj, ap_slI, ap_catI, ap_perm, ap_lenO, ap_strO, ap_listO, ap_reprB, ap_iterT, ap_neT, ap_negO, ap_binI, ap_catL, ap_tM1, ap_repTI, ap_popN, ap_par3, ap_catTT, ap_repTA, ap_countT, ap_notInT, ap_repL1, ap_shl, ap_shr, ap_mask, ap_comb, ap_bits, ap_rng3, List.set_cons_zero, List.set_cons_succ, List.getElem?_cons_zero, List.getElem?_cons_succ, List.cons_append, List.nil_append, List.append_nil, Option.some.injEq, V.int.injEq, V.ref.injEq, V.bl.injEq, V.str.injEq, V.ty.injEq, Bool.not_true, Bool.not_false, HO.lst.injEq, HO.tup.injEq, reduceCtorEq, Int.reduceToNat, Int.reduceLT, Int.reduceLE, Nat.reduceAdd, Int.cast_ofNat_Int, gi_c0, gi_c1, gi_c2, gi_c3, Int.natCast_inj, map_int_inj, map_nil_iff, List.cons.injEq, exists_eq_left, exists_eq_left', exists_eq, exists_eq', exists_and_left, exists_and_right, exists_const, and_assoc, and_true, true_and, and_false, false_and, or_false, false_or, or_true, true_or, ite_true, ite_false, if_true, if_false, Bool.false_eq_true, own_cons, own_nil, le1, le2, le3, le4, me_cons, me_nil, List.length_map, List.length_cons, List.length_nil, ne_eq, not_false_eq_true, not_true_eq_false, decide_eq_true_eq]
      rw [ea]
      refine ⟨by decide, fun p3 n3 => ?_⟩
      have u3 := same_upd (o := HO.lst [V.int ((ky.length - 1 - i : Nat) : Int)]) n3
      refine ⟨ky, u3 _ _ (sm _ _ ht), by omega, by omega, by rw [eg]; omega, by rw [eg]; omega, fun p4 n4 => ?_⟩
      rw [eg]
      have u4 := same_upd (o := LI (List.replicate (ky[ky.length - 1 - i]).toNat ((ky.length - 1 - i : Nat) : Int))) n4
      refine ⟨_, u4 _ _ (u3 _ _ hq), by rw [List.length_map, List.length_replicate]; omega, fun p5 n5 => ⟨sm.trans (u3.trans (u4.trans (same_upd n5))), ?_⟩⟩
      rw [boxPre_succ, eg2, ← List.map_append]
    · obtain ⟨sm, q, y, rfl, hq⟩ := hP
      simp only [ap_seq, ap_next, ap_asg, ap_gName, ap_ret, ap_retN, ap_drop, ap_ifS, ap_break, ap_cont, ap_par, ap_aug, ap_ip, ap_gSub, ap_gTup, ap_gNil, ap_gCons, ap_var, ap_c, ap_op, ap_un, ap_if, ap_test, ap_B, ap_and, ap_or, ap_not, ap_andV, ap_orV, ap_notV, ap_nil, ap_cons, ap_tup, ap_lst, ap_cb, ap_bm, ap_call, ap_chain, ap_rI, ap_rI0, ap_rU, ap_rEq, ap_rNe, ap_revT, ap_sl, ap_part, ap_noPart, ap_ixLI, ap_ixTI, ap_ixLV, ap_ixTV, ap_len, ap_setLI, ap_setLV, ap_appI, ap_appV, ap_tupL, ap_listS, ap_sumLI, ap_sumTI, ap_repLI, ap_intI, ap_intB, ap_eqTI, ap_neTI, ap_eqLI, ap_neLI, ap_isi, ap_for, ap_rng1, ap_rng2, ap_iList, ap_iTup, ap_lc, ap_yes, ap_cut, ap_gTupH, ap_fmt, ap_jsn, ap_jsc, ap_gcd, ap_isqrt, ap_ixL, tyV_l, wipe_nil, wipe_cons, upd_same, ap_iEnT, ap_iEnL, ap_iZipA, ap_all, ap_tupT, ap_attF, ap_makeL, ap_dictKP, ap_neDP, ap_itemsT, ap_zipM, ap_lockE, ap_dget2, ap_dput, ap_dnewT, ap_iValsT, ap_iKeys, ap_sortedDT, ap_dictLT, ap_lenDT, ap_dcT, ap_sortT1, ap_dget, ap_listG, ap_callG, ap_star, ap_extend, ap_max, ap_setOfT, ap_sortedU, ap_sortedTU, ap_repTZ, ap_maxT, ap_revA, ap_att, ap_prop, ap_isO, ap_bin, ap_ne, ap_meth, ap_make, ins_inj, FE_inj, ap_slI, ap_catI, ap_perm, ap_lenO, ap_strO, ap_listO, ap_reprB, ap_iterT, ap_neT, ap_negO, ap_binI, ap_catL, ap_tM1, ap_repTI, ap_popN, ap_par3, ap_catTT, ap_repTA, ap_countT, ap_notInT, ap_repL1, ap_shl, ap_shr, ap_mask, ap_comb, ap_bits, ap_rng3, List.set_cons_zero, List.set_cons_succ, List.getElem?_cons_zero, List.getElem?_cons_succ, List.cons_append, List.nil_append, List.append_nil, Option.some.injEq, V.int.injEq, V.ref.injEq, V.bl.injEq, V.str.injEq, V.ty.injEq, Bool.not_true, Bool.not_false, HO.lst.injEq, HO.tup.injEq, reduceCtorEq, Int.reduceToNat, Int.reduceLT, Int.reduceLE, Nat.reduceAdd, Int.cast_ofNat_Int, gi_c0, gi_c1, gi_c2, gi_c3, Int.natCast_inj, map_int_inj, map_nil_iff, List.cons.injEq, exists_eq_left, exists_eq_left', exists_eq, exists_eq', exists_and_left, exists_and_right, exists_const, and_assoc, and_true, true_and, and_false, false_and, or_false, false_or, or_true, true_or, ite_true, ite_false, if_true, if_false, Bool.false_eq_true, own_cons, own_nil, le1, le2, le3, le4, me_cons, me_nil, List.length_map, List.length_cons, List.length_nil, ne_eq, not_false_eq_true, not_true_eq_false, decide_eq_true_eq]
      exact ⟨_, hq, fun l nl => k _ l (sm.trans (same_upd nl)) upd_same⟩
theorem keyFold_len : ∀ (b r : List Int), (b.foldl keyStep r).length = r.length
  | [], _ => rfl
  | x :: b, r => by
    rw [List.foldl_cons, keyFold_len b]
    exact List.length_set ..
def sp_law_key_of : Sp := fun vs H Q _ => ∃ (t : Addr) (b : List Int) (d s : Nat), vs = [.ref t, .int (d : Nat), .int (s : Nat)] ∧ H t = some (TI b) ∧ d ≤ 8 ∧ s ≤ 12 ∧ b.length ≤ s ∧ (∀ x ∈ b, 1 ≤ x ∧ x ≤ (d : Int)) ∧ ∀ H' r, Same H H' → H' r = some (TI (keyOf b d s)) → Q (.ref r) H'
theorem ok_law_key_of (T : Tx K mg) : FnOk P w K mg base CX0 1 T.f_law_key_of T.d_law_key_of p_law_key_of sp_law_key_of := by
  refine T.F_law_key_of.ok sc_law_key_of (fun vs H Q E h => ?_) (fun cdv A outer s H vs Q E hr h => ?_)
  · obtain ⟨t, b, d, s, rfl, _⟩ := h
    rfl
  · obtain ⟨t, b, dg, sz0, rfl, ht, d8, s12, hb, hx, k⟩ := h
    refine ⟨_, (pss_cons (ps_set (i := 3) sc_law_key_of.nd rfl (Or.inl rfl) (pe_op op_repLI (pe_lst (pa_cons pe_int pa_nil)) (pe_op op_add (pv 1) pe_int)))
      (pss_cons (ps_asg (pe_op op_sub (pv 2) (pe_callB cr_len (by rfl) T.z_len PySem.boot_len (pa_cons (pv 0) pa_nil))) (pg_sub (pv 3) pe_int set_LI))
      (pss_cons (ps_for PassesOwn.never rfl (pi_tup (pv 0)) (pg_name (i := 4) sc_law_key_of.nd rfl (by first | exact .inl rfl | exact .inr rfl))
      (pss_one (ps_asg (pe_op op_add (pe_ix ix_LI (pv 3) (pv 4) (fun _ _ => rfl)) pe_int) (pg_sub (pv 3) (pv 4) set_LI))))
      (pss_one (ps_ret (pe_callTy cr_tupL (by rfl) T.z_tuple (by decide +kernel) (pa_cons (pv 3) pa_nil))))))), ?_⟩
    rw [st_law_key_of]
    simp only [ap_seq, ap_next, ap_asg, ap_gName, ap_ret, ap_retN, ap_drop, ap_ifS, ap_break, ap_cont, ap_par, ap_aug, ap_ip, ap_gSub, ap_gTup, ap_gNil, ap_gCons, ap_var, ap_c, ap_op, ap_un, ap_if, ap_test, ap_B, ap_and, ap_or, ap_not, ap_andV, ap_orV, ap_notV, ap_nil, ap_cons, ap_tup, ap_lst, ap_cb, ap_bm, ap_call, ap_chain, ap_rI, ap_rI0, ap_rU, ap_rEq, ap_rNe, ap_revT, ap_sl, ap_part, ap_noPart, ap_ixLI, ap_ixTI, ap_ixLV, ap_ixTV, ap_len, ap_setLI, ap_setLV, ap_appI, ap_appV, ap_tupL, ap_listS, ap_sumLI, ap_sumTI, ap_repLI, ap_intI, ap_intB, ap_eqTI, ap_neTI, ap_eqLI, ap_neLI, ap_isi, ap_for, ap_rng1, ap_rng2, ap_iList, ap_iTup, ap_lc, ap_yes, ap_cut, ap_gTupH, ap_fmt, ap_jsn, ap_jsc, ap_gcd, ap_isqrt, ap_ixL, tyV_l, wipe_nil, wipe_cons, upd_same, ap_iEnT, ap_iEnL, ap_iZipA, ap_all, ap_tupT, ap_attF, ap_makeL, ap_dictKP, ap_neDP, ap_itemsT, ap_zipM, ap_lockE, ap_dget2, ap_dput, ap_dnewT, ap_iValsT, ap_iKeys, ap_sortedDT, ap_dictLT, ap_lenDT, ap_dcT, ap_sortT1, ap_dget, ap_listG, ap_callG, ap_star, ap_extend, ap_max, ap_setOfT, ap_sortedU, ap_sortedTU, ap_repTZ, ap_maxT, ap_revA, ap_att, ap_prop, ap_isO, ap_bin, ap_ne, ap_meth, ap_make, ins_inj, FE_inj, ap_slI, ap_catI, ap_perm, ap_lenO, ap_strO, ap_listO, ap_reprB, ap_iterT, ap_neT, ap_negO, ap_binI, ap_catL, ap_tM1, ap_repTI, ap_popN, ap_par3, ap_catTT, ap_repTA, ap_countT, ap_notInT, ap_repL1, ap_shl, ap_shr, ap_mask, ap_comb, ap_bits, ap_rng3, List.set_cons_zero, List.set_cons_succ, List.getElem?_cons_zero, List.getElem?_cons_succ, List.cons_append, List.nil_append, List.append_nil, Option.some.injEq, V.int.injEq, V.ref.injEq, V.bl.injEq, V.str.injEq, V.ty.injEq, Bool.not_true, Bool.not_false, HO.lst.injEq, HO.tup.injEq, reduceCtorEq, Int.reduceToNat, Int.reduceLT, Int.reduceLE, Nat.reduceAdd, Int.cast_ofNat_Int, gi_c0, gi_c1, gi_c2, gi_c3, Int.natCast_inj, map_int_inj, map_nil_iff, List.cons.injEq, exists_eq_left, exists_eq_left', exists_eq, exists_eq', exists_and_left, exists_and_right, exists_const, and_assoc, and_true, true_and, and_false, false_and, or_false, false_or, or_true, true_or, ite_true, ite_false, if_true, if_false, Bool.false_eq_true, own_cons, own_nil, le1, le2, le3, le4, me_cons, me_nil, List.length_map, List.length_cons, List.length_nil, ne_eq, not_false_eq_true, not_true_eq_false, decide_eq_true_eq]
    refine ⟨by decide, fun p1 n1 => ⟨by omega, by omega, fun p2 n2 => ?_⟩⟩
    have t1 := same_upd (o := HO.lst [V.int 0]) n1
    have t2 := same_upd (o := LI (List.replicate ((dg : Int) + 1).toNat 0)) n2
    have h2 := t2 _ _ (t1 _ _ ht)
    refine ⟨_, .inr h2, by rw [List.length_replicate]; omega, ?_⟩
    have t3 : Same H (upd (upd (upd H p1 (HO.lst [V.int 0])) p2 (LI (List.replicate ((dg : Int) + 1).toNat 0))) p2 (LI ((List.replicate ((dg : Int) + 1).toNat 0).set 0 ((sz0 : Int) - ((b.map V.int).length : Nat))))) := t1.trans (same_mut t2 n2)
    refine ⟨⟨_, sqT_of (t3 _ _ ht)⟩, ?_⟩
    have e0 : (upd (upd (upd H p1 (HO.lst [V.int 0])) p2 (LI (List.replicate ((dg : Int) + 1).toNat 0))) p2 (LI ((List.replicate ((dg : Int) + 1).toNat 0).set 0 ((sz0 : Int) - ((b.map V.int).length : Nat))))) p2 = some (LI ((List.replicate (dg + 1) (0 : Int)).set 0 ((sz0 : Int) - b.length))) := by
      rw [upd_same, List.length_map, show ((dg : Int) + 1).toNat = dg + 1 by omega]
    have hp2 : H p2 = none := by
      by_cases e : p2 = p1
      · rw [e]; exact n1
      · rw [upd_ne e] at n2
        exact n2
    generalize upd (upd (upd H p1 (HO.lst [V.int 0])) p2 (LI (List.replicate ((dg : Int) + 1).toNat 0))) p2 (LI ((List.replicate ((dg : Int) + 1).toNat 0).set 0 ((sz0 : Int) - ((b.map V.int).length : Nat)))) = H0 at *
    refine loop_gen (gives_tupT (xs := b.map V.int)) (fun i σ' H' => Same H H' ∧ ∃ y : Option V, σ' = [some (V.ref t), some (V.int (dg : Nat)), some (V.int (sz0 : Nat)), some (V.ref p2), y] ∧ H' p2 = some (LI ((b.take i).foldl keyStep ((List.replicate (dg + 1) (0 : Int)).set 0 ((sz0 : Int) - b.length))))) ⟨t3, _, rfl, e0⟩ (fun i σ' H' _ h => sqT_of (h.1 _ _ ht)) (fun i v σ' H1 H' hi hP hY => ?_) (fun σ' H1 hP => ?_)
    · obtain ⟨rfl, y⟩ := hY
      obtain ⟨sm, y4, rfl, e1⟩ := hP
      rw [List.length_map] at hi
      rw [List.getElem?_map, List.getElem?_eq_getElem hi] at y
      obtain rfl := (Option.some.inj y).symm
      obtain ⟨x1, x2⟩ := hx b[i] (List.getElem_mem hi)
      have hlen := keyFold_len (b.take i) ((List.replicate (dg + 1) (0 : Int)).set 0 ((sz0 : Int) - b.length))
      rw [List.length_set, List.length_replicate] at hlen
      simp only [ap_seq, ap_next, ap_asg, ap_gName, ap_ret, ap_retN, ap_drop, ap_ifS, ap_break, ap_cont, ap_par, ap_aug, ap_ip, ap_gSub, ap_gTup, ap_gNil, ap_gCons, ap_var, ap_c, ap_op, ap_un, ap_if, ap_test, ap_B, ap_and, ap_or, ap_not, ap_andV, ap_orV, ap_notV, ap_nil, ap_cons, ap_tup, ap_lst, ap_cb, ap_bm, ap_call, ap_chain, ap_rI, ap_rI0, ap_rU, ap_rEq, ap_rNe, ap_revT, ap_sl, ap_part, ap_noPart, ap_ixLI, ap_ixTI, ap_ixLV, ap_ixTV, ap_len, ap_setLI, ap_setLV, ap_appI, ap_appV, ap_tupL, ap_listS, ap_sumLI, ap_sumTI, ap_repLI, ap_intI, ap_intB, ap_eqTI, ap_neTI, ap_eqLI, ap_neLI, ap_isi, ap_for, ap_rng1, ap_rng2, ap_iList, ap_iTup, ap_lc, ap_yes, ap_cut, ap_gTupH, ap_fmt, ap_jsn, ap_jsc, ap_gcd, ap_isqrt, ap_ixL, tyV_l, wipe_nil, wipe_cons, upd_same, ap_iEnT, ap_iEnL, ap_iZipA, ap_all, ap_tupT, ap_attF, ap_makeL, ap_dictKP, ap_neDP, ap_itemsT, ap_zipM, ap_lockE, ap_dget2, ap_dput, ap_dnewT, ap_iValsT, ap_iKeys, ap_sortedDT, ap_dictLT, ap_lenDT, ap_dcT, ap_sortT1, ap_dget, ap_listG, ap_callG, ap_star, ap_extend, ap_max, ap_setOfT, ap_sortedU, ap_sortedTU, ap_repTZ, ap_maxT, ap_revA, ap_att, ap_prop, ap_isO, ap_bin, ap_ne, ap_meth, ap_make, ins_inj, FE_inj, ap_slI, ap_catI, ap_perm, ap_lenO, ap_strO, ap_listO, ap_reprB, ap_iterT, ap_neT, ap_negO, ap_binI, ap_catL, ap_tM1, ap_repTI, ap_popN, ap_par3, ap_catTT, ap_repTA, ap_countT, ap_notInT, ap_repL1, ap_shl, ap_shr, ap_mask, ap_comb, ap_bits, ap_rng3, List.set_cons_zero, List.set_cons_succ, List.getElem?_cons_zero, List.getElem?_cons_succ, List.cons_append, List.nil_append, List.append_nil, Option.some.injEq, V.int.injEq, V.ref.injEq, V.bl.injEq, V.str.injEq, V.ty.injEq, Bool.not_true, Bool.not_false, HO.lst.injEq, HO.tup.injEq, reduceCtorEq, Int.reduceToNat, Int.reduceLT, Int.reduceLE, Nat.reduceAdd, Int.cast_ofNat_Int, gi_c0, gi_c1, gi_c2, gi_c3, Int.natCast_inj, map_int_inj, map_nil_iff, List.cons.injEq, exists_eq_left, exists_eq_left', exists_eq, exists_eq', exists_and_left, exists_and_right, exists_const, and_assoc, and_true, true_and, and_false, false_and, or_false, false_or, or_true, true_or, ite_true, ite_false, if_true, if_false, Bool.false_eq_true, own_cons, own_nil, le1, le2, le3, le4, me_cons, me_nil, List.length_map, List.length_cons, List.length_nil, ne_eq, not_false_eq_true, not_true_eq_false, decide_eq_true_eq]
      refine ⟨_, e1, by omega, by rw [hlen]; omega, _, e1, by omega, by rw [hlen]; omega, same_mut sm hp2, ?_⟩
      rw [List.take_succ, List.getElem?_eq_getElem hi, List.foldl_append]
      have eg : ∀ r : List Int, gi r b[i] = r.getD (b[i]).toNat 0 := fun r => by
        conv => lhs; rw [show b[i] = (((b[i]).toNat : Nat) : Int) by omega]
        rw [gi_nat]
      rw [eg]
      rfl
    · obtain ⟨sm, y4, rfl, e1⟩ := hP
      rw [List.length_map, List.take_length] at e1
      simp only [ap_seq, ap_next, ap_asg, ap_gName, ap_ret, ap_retN, ap_drop, ap_ifS, ap_break, ap_cont, ap_par, ap_aug, ap_ip, ap_gSub, ap_gTup, ap_gNil, ap_gCons, ap_var, ap_c, ap_op, ap_un, ap_if, ap_test, ap_B, ap_and, ap_or, ap_not, ap_andV, ap_orV, ap_notV, ap_nil, ap_cons, ap_tup, ap_lst, ap_cb, ap_bm, ap_call, ap_chain, ap_rI, ap_rI0, ap_rU, ap_rEq, ap_rNe, ap_revT, ap_sl, ap_part, ap_noPart, ap_ixLI, ap_ixTI, ap_ixLV, ap_ixTV, ap_len, ap_setLI, ap_setLV, ap_appI, ap_appV, ap_tupL, ap_listS, ap_sumLI, ap_sumTI, ap_repLI, ap_intI, ap_intB, ap_eqTI, ap_neTI, ap_eqLI, ap_neLI, ap_isi, ap_for, ap_rng1, ap_rng2, ap_iList, ap_iTup, ap_lc, ap_yes, ap_cut, ap_gTupH, ap_fmt, ap_jsn, ap_jsc, ap_gcd, ap_isqrt, ap_ixL, tyV_l, wipe_nil, wipe_cons, upd_same, ap_iEnT, ap_iEnL, ap_iZipA, ap_all, ap_tupT, ap_attF, ap_makeL, ap_dictKP, ap_neDP, ap_itemsT, ap_zipM, ap_lockE, ap_dget2, ap_dput, ap_dnewT, ap_iValsT, ap_iKeys, ap_sortedDT, ap_dictLT, ap_lenDT, ap_dcT, ap_sortT1, ap_dget, ap_listG, ap_callG, ap_star, ap_extend, ap_max, ap_setOfT, ap_sortedU, ap_sortedTU, ap_repTZ, ap_maxT, ap_revA, ap_att, ap_prop, ap_isO, ap_bin, ap_ne, ap_meth, ap_make, ins_inj, FE_inj, ap_slI, ap_catI, ap_perm, ap_lenO, ap_strO, ap_listO, ap_reprB, ap_iterT, ap_neT, ap_negO, ap_binI, ap_catL, ap_tM1, ap_repTI, ap_popN, ap_par3, ap_catTT, ap_repTA, ap_countT, ap_notInT, ap_repL1, ap_shl, ap_shr, ap_mask, ap_comb, ap_bits, ap_rng3, List.set_cons_zero, List.set_cons_succ, List.getElem?_cons_zero, List.getElem?_cons_succ, List.cons_append, List.nil_append, List.append_nil, Option.some.injEq, V.int.injEq, V.ref.injEq, V.bl.injEq, V.str.injEq, V.ty.injEq, Bool.not_true, Bool.not_false, HO.lst.injEq, HO.tup.injEq, reduceCtorEq, Int.reduceToNat, Int.reduceLT, Int.reduceLE, Nat.reduceAdd, Int.cast_ofNat_Int, gi_c0, gi_c1, gi_c2, gi_c3, Int.natCast_inj, map_int_inj, map_nil_iff, List.cons.injEq, exists_eq_left, exists_eq_left', exists_eq, exists_eq', exists_and_left, exists_and_right, exists_const, and_assoc, and_true, true_and, and_false, false_and, or_false, false_or, or_true, true_or, ite_true, ite_false, if_true, if_false, Bool.false_eq_true, own_cons, own_nil, le1, le2, le3, le4, me_cons, me_nil, List.length_map, List.length_cons, List.length_nil, ne_eq, not_false_eq_true, not_true_eq_false, decide_eq_true_eq]
      exact ⟨_, e1, fun l nl => k _ l (sm.trans (same_upd nl)) upd_same⟩
end
end My

namespace My
open PySem PySem.Spec PyProof.Rows L2 Pr M26
section
variable {P : Program} {w : World} {K : PySem.W.Frag} {mg : Str → Option Value} {base : Heap}
/-- a comprehension over a list of rows that makes rows -/
theorem lc_rowsF29 {σ : L2.St} {H : Hp} {j : Nat} {te : TE} {vs : List Nat} {Q : VK} {ka : Addr} {rs : List Addr} {rows : List (List Int)} (f : List Int → List Int) (hR : RowsAt H rs rows) (e0 : H ka = some (.lst (rs.map V.ref))) (hn : rows.length < 1000000) (hw : ∀ x, wipe ((wipe σ vs).set j (some x)) vs = wipe σ vs)
    (he : ∀ r ns H', H' r = some (TI ns) → ns ∈ rows → Same H H' → ∀ Q' : VK, (∀ H'' q, Same H' H'' → H'' q = some (TI (f ns)) → Q' (.ref q) H'') → te ((wipe σ vs).set j (some (.ref r))) H' Q')
    (hq : ∀ p H' ts, H p = none → Same H H' → H' p = some (.lst (ts.map V.ref)) → RowsAt H' ts (rows.map f) → Q (.ref p) H') :
    tLcIn (gName j) tYes te vs σ Q (Itl K ka) H := by
  refine lc_gen (g := gName j) (gives_list (xs := rs.map V.ref)) (fun A i H' => Same H H' ∧ ∃ ts, H' A = some (.lst (ts.map V.ref)) ∧ RowsAt H' ts ((rows.take i).map f)) (fun A hA => ⟨same_upd hA, [], upd_same, .nil⟩) (fun A i H' _ h => h.1 _ _ e0) (fun A i v H1 H2 hA hi hP hY => ?_) (fun A H1 hA hP => ?_)
  · obtain ⟨rfl, y⟩ := hY
    obtain ⟨sa, ts, eA, hT⟩ := hP
    rw [List.length_map] at hi
    have hi2 : i < rows.length := hR.1 ▸ hi
    rw [List.getElem?_map, List.getElem?_eq_getElem hi] at y
    obtain rfl := Option.some.inj y
    have hv := sa _ _ (hR.2 i _ _ (List.getElem?_eq_getElem hi) (List.getElem?_eq_getElem hi2))
    refine ⟨hw _, ?_⟩
    show te _ _ _
    refine he _ _ _ hv (List.getElem_mem hi2) sa _ fun H3 q s3 e3 => ⟨_, s3 _ _ eA, ?_, same_mut (sa.trans s3) hA, ts ++ [q], by rw [upd_same, List.map_append]; rfl, ?_⟩
    · rw [List.length_map, hT.1, List.length_map, List.length_take]
      exact sz (by omega)
    · have h3 : RowsAt H3 (ts ++ [q]) ((rows.take (i + 1)).map f) := by
        rw [List.take_succ, List.getElem?_eq_getElem hi2, List.map_append]
        exact (hT.same s3).append (.cons e3 .nil)
      refine ⟨h3.1, fun k r' ns e1 e2 => ?_⟩
      have h4 := h3.2 k r' ns e1 e2
      rw [upd_ne fun e => ?_]
      · exact h4
      · rw [e, s3 _ _ eA] at h4
        exact absurd (Option.some.inj h4) (fun h => by cases h)
  · obtain ⟨sa, ts, eA, hT⟩ := hP
    rw [List.length_map, hR.1, List.take_length] at hT
    exact hq A H1 ts hA sa eA hT
theorem zip_rows {H : Hp} {rs : List Addr} {rows : List (List Int)} (hR : RowsAt H rs rows) : ∃ ks : List (Addr × List Int), ks.map (·.2) = rows ∧ (∀ q ∈ ks, H q.1 = some (TI q.2)) ∧ ks.map (fun q => V.ref q.1) = rs.map V.ref ∧ ks.length = rows.length := by
  have hl := hR.1
  have k1 : (rs.zip rows).map (·.1) = rs := List.map_fst_zip (Nat.le_of_eq hl)
  have k2 : (rs.zip rows).map (·.2) = rows := List.map_snd_zip (Nat.le_of_eq hl.symm)
  refine ⟨rs.zip rows, k2, fun q hq => ?_, ?_, by rw [List.length_zip, hl, Nat.min_self]⟩
  · obtain ⟨i, hi, rfl⟩ := List.mem_iff_getElem.mp hq
    have hi' := hi
    rw [List.length_zip] at hi'
    rw [List.getElem_zip]
    exact hR.2 i _ _ (List.getElem?_eq_getElem (by omega)) (List.getElem?_eq_getElem (by omega))
  · rw [show (fun q : Addr × List Int => V.ref q.1) = V.ref ∘ (·.1) from rfl, ← List.map_map, k1]
theorem ref_rows (L : List (Addr × List Int)) : (L.map fun q => V.ref q.1) = (L.map (·.1)).map V.ref := by
  rw [List.map_map]
  rfl
theorem box_small29 {wt p m : Nat} (hw : wt < 38) (hp : p < 7) (hm : m < 7) : ∀ b ∈ boxL wt p m, b.length ≤ p ∧ ∀ x ∈ b, 1 ≤ x ∧ x ≤ 6 := fun b hb => by
  by_cases c : p * m < wt
  · unfold boxL at hb
    rw [if_pos c] at hb
    exact absurd hb List.not_mem_nil
  · have e : boxL wt p m = boxGo p 64 (some (filL wt m)) := if_neg c
    rw [e] at hb
    have h := go_small p 64 _ (chk_at hw hp hm c).1 b hb
    unfold smallB at h
    obtain ⟨h1, h2⟩ := Bool.and_eq_true_iff.mp h
    exact ⟨by simpa using h1, fun x hx => by have := List.all_eq_true.mp h2 x hx; simp only [Bool.and_eq_true, decide_eq_true_eq] at this; exact this⟩
theorem neD_same29 {x y : V} {H : Hp} {Q : VK} {d : PyData} (hs : SeqAt.shaped d = true) (h1 : Dp K H x d) (h2 : Dp K H y d) (k : Q (.bl false) H) : rNeD K x y H Q := by
  refine ⟨d, d, h1, h2, hs, hs, ?_⟩
  rw [SeqAt.eqv_refl _ (SeqAt.canLay_of_shaped hs)]
  exact k
theorem boxOf_mem {k : List Int} : ∀ x ∈ boxOf k, 1 ≤ x ∧ x ≤ (k.length : Int) - 1 := fun x hx => by
  obtain ⟨i, hi, hx⟩ := List.mem_flatMap.mp hx
  have hi := List.mem_range.mp hi
  have := List.eq_of_mem_replicate hx
  omega
/-- the boxes of the keys' degree -/
theorem box_deg {dg s wt : Nat} (kf : KeyFacts dg s wt) : ∀ b ∈ boxL wt s dg, ∀ x ∈ b, 1 ≤ x ∧ x ≤ (dg : Int) := fun b hb x hx => by
  obtain ⟨k, hk, rfl⟩ := List.mem_map.mp (kf.boxes.mem_iff.mpr hb)
  have h1 := (kf.ok k hk).1
  have := boxOf_mem x hx
  omega
/-- rows sorted by the rule for unlike lengths, that are the boxes -/
theorem sortU_boxes {H : Hp} {wt s dg : Nat} {L : List (Addr × List Int)} (st : (boxL wt s dg).Pairwise (fun a b => Pr.padC 8 6 b < Pr.padC 8 6 a)) (hL : ∀ q ∈ L, H q.1 = some (TI q.2)) (pm : (L.map (·.2)).Perm (boxL wt s dg)) (pw : L.Pairwise (fun q r => padC 8 6 q.2 ≤ padC 8 6 r.2)) : RowsAt H (L.map (·.1)) (boxL wt s dg).reverse := by
  have e : L.map (·.2) = (boxL wt s dg).reverse := sorted_is st pm (List.pairwise_map.mpr pw)
  rw [← e]
  exact rowsOf hL
theorem unOk_boxes {wt s dg : Nat} (hw : wt < 38) (hs : s < 7) (hd : dg < 7) {ks : List (Addr × List Int)} (pm : (ks.map (·.2)).Perm (boxL wt s dg)) : UnOk 8 6 ks := by
  obtain ⟨_, _, sne⟩ := chk2_at hw hs hd
  have hl : ks.length = (boxL wt s dg).length := by
    have := pm.length_eq
    rwa [List.length_map] at this
  have few := box_few29 hw hs hd
  refine ⟨by omega, fun q hq => ?_⟩
  have hm : q.2 ∈ boxL wt s dg := pm.mem_iff.mp (List.mem_map_of_mem hq)
  have hb := box_small29 hw hs hd _ hm
  exact ⟨by have := hb.1; omega, fun x hx => by have := hb.2 x hx; omega, fun h2 => sne (by omega) _ hm⟩
theorem ap_slL29 {x : V} {lo hi : Option Int} {H : Hp} {Q : VK} : rSlL K x lo hi H Q = ∃ a xs, x = .ref a ∧ SqL K H a xs ∧ ∀ p, H p = none → Q (.ref p) (upd H p (.lst (cutV xs lo hi))) := rfl
theorem cutV_take (xs : List V) (k : Nat) : cutV xs none (some (k : Int)) = xs.take k := by
  unfold cutV
  rw [HT.sIx_none, HT.sIx_nat, List.drop_zero, Nat.sub_zero]
  by_cases h : k ≤ xs.length
  · rw [Nat.min_eq_left h]
  · rw [Nat.min_eq_right (by omega), List.take_of_length_le (Nat.le_refl _), List.take_of_length_le (by omega)]
theorem RowsAt.take {H : Hp} {rs : List Addr} {rows : List (List Int)} (h : RowsAt H rs rows) (k : Nat) : RowsAt H (rs.take k) (rows.take k) := by
  refine ⟨by rw [List.length_take, List.length_take, h.1], fun i r ns e1 e2 => ?_⟩
  rw [List.getElem?_take] at e1 e2
  split at e1
  · rename_i c
    rw [if_pos c] at e2
    exact h.2 i r ns e1 e2
  · cases e1
def lK (dg s wt n : Nat) : List (List Int × Int) := (List.range n).map fun i => ((keyL dg s wt).getD i [], 1 + (i : Int))
theorem lK_keys (dg s wt : Nat) : (lK dg s wt (keyL dg s wt).length).map (·.1) = keyL dg s wt := by
  unfold lK
  rw [List.map_map]
  apply List.ext_getElem
  · rw [List.length_map, List.length_range]
  · intro i h1 h2
    rw [List.getElem_map, List.getElem_range]
    show (keyL dg s wt).getD i [] = _
    rw [List.getD_eq_getElem?_getD, List.getElem?_eq_getElem h2]
    rfl
theorem lK_terms {dg s wt : Nat} (d6 : dg ≤ 6) (s5 : s ≤ 5) (kf : KeyFacts dg s wt) (few : (keyL dg s wt).length < 64) : Terms dg s wt (lK dg s wt (keyL dg s wt).length) := by
  refine ⟨?_, ?_, fun q hq => ?_, fun q hq => ?_⟩
  · unfold lK
    rw [List.length_map, List.length_range]
    omega
  · rw [lK_keys]
    exact nodupU kf.up
  · have hm : q.1 ∈ keyL dg s wt := by
      rw [← lK_keys]
      exact List.mem_map_of_mem (f := (·.1)) hq
    obtain ⟨h1, h2, h3, h4⟩ := kf.ok q.1 hm
    exact ⟨⟨h1, fun x hx => by have := h2 x hx; omega, by omega⟩, h3, h4⟩
  · obtain ⟨i, hi, rfl⟩ := List.mem_map.mp hq
    have hi := List.mem_range.mp hi
    show 1 + (i : Int) ≠ 0 ∧ -1000000 < 1 + (i : Int) ∧ 1 + (i : Int) < 1000000
    omega
/-- a new sum -/
theorem newS_ok {H1 : Hp} {p C : Addr} {n s w : Nat} {l : List (List Int × Int)} {Q : VK} (h : H1 p = some (.dT (dtOf l))) (n1 : 1 ≤ n) (n8 : n ≤ 8) (few : l.length < 64) (hT : Terms n s w l)
    (k : ∀ a H' l', Same H1 H' → H1 a = none → SumAt C H' a n l' → l'.Perm l → l'.Pairwise (fun q r => TS.code 16 q.1 ≤ TS.code 16 r.1) → Q (.ref a) H') : NewV C (sp_Sum___init__ C) [] E0 [.int (n : Nat), .ref p] H1 Q := fun x dx nx ndx ne => by
  have ntx : p ≠ x := ne_of_none h nx
  have ntd : p ≠ dx := ne_of_none h ndx
  refine ⟨x, dx, p, n, s, w, l, rfl, upd_same, by rw [upd_ne ntx, upd_ne ntd]; exact h, n1, n8, few, hT, fun H' t l' sm hx ht pm pw => ⟨rfl, k x H' l' (fun b o e => ?_) nx ⟨dx, t, hx, ht⟩ pm pw⟩⟩
  have nbx : b ≠ x := ne_of_none e nx
  have nbd : b ≠ dx := ne_of_none e ndx
  exact sm _ _ nbx (by rw [upd_ne nbx, upd_ne nbd]; exact e)
/-- a list of pairs: a tuple of ints, an int; told place by place -/
def PP (H : Hp) (rs : List Addr) (l : List (List Int × Int)) : Prop := rs.length = l.length ∧ ∀ (i : Nat) (r : Addr) (q : List Int × Int), rs[i]? = some r → l[i]? = some q → ∃ k, H r = some (.tup [.ref k, .int q.2]) ∧ H k = some (TI q.1)
theorem PP.same {H H' : Hp} {rs : List Addr} {l : List (List Int × Int)} (h : PP H rs l) (s : Same H H') : PP H' rs l := ⟨h.1, fun i r q e1 e2 => by
  obtain ⟨k, h1, h2⟩ := h.2 i r q e1 e2
  exact ⟨k, s _ _ h1, s _ _ h2⟩⟩
theorem PP.snoc {H : Hp} {rs : List Addr} {l : List (List Int × Int)} (h : PP H rs l) {r k : Addr} {q : List Int × Int} (h1 : H r = some (.tup [.ref k, .int q.2])) (h2 : H k = some (TI q.1)) : PP H (rs ++ [r]) (l ++ [q]) := by
  have hl := h.1
  refine ⟨by rw [List.length_append, List.length_append, h.1]; rfl, fun i r' q' e1 e2 => ?_⟩
  by_cases c : i < rs.length
  · rw [List.getElem?_append_left c] at e1
    rw [List.getElem?_append_left (by omega)] at e2
    exact h.2 i r' q' e1 e2
  · rw [List.getElem?_append_right (by omega)] at e1
    rw [List.getElem?_append_right (by omega)] at e2
    have hi := (List.getElem?_eq_some_iff.mp e1).1
    have : i - rs.length = 0 := by simpa using hi
    have e0 : i - l.length = 0 := by omega
    rw [this] at e1
    rw [e0] at e2
    cases e1
    cases e2
    exact ⟨k, h1, h2⟩
theorem PP.upd {H : Hp} {A : Addr} {xs : List V} {o : HO} (hl : H A = some (.lst xs)) {rs : List Addr} {l : List (List Int × Int)} (h : PP H rs l) : PP (upd H A o) rs l := ⟨h.1, fun i r q e1 e2 => by
  obtain ⟨k, h1, h2⟩ := h.2 i r q e1 e2
  refine ⟨k, ?_, ?_⟩
  · rw [upd_ne fun e => ?_]
    · exact h1
    · rw [e, hl] at h1
      cases h1
  · rw [upd_ne fun e => ?_]
    · exact h2
    · rw [e, hl] at h2
      cases h2⟩
end
end My

namespace My
open PySem PySem.Spec PyProof.Rows L2 Pr M26
section
variable {P : Program} {w : World} {K : PySem.W.Frag} {mg : Str → Option Value} {base : Heap}
/-- the state of _law_right: the drawn numbers, the keys, the boxes -/
structure RSt (d : Addr) (H : Hp) (dg s wt : Nat) (ka ta : Addr) (rs ts : List Addr) (H' : Hp) : Prop where
  ex : Exc d H H'
  dc : Dc H' d
  d1 : 1 ≤ dg
  d6 : dg ≤ 6
  s1 : 1 ≤ s
  s5 : s ≤ 5
  hw : wt ≤ dg * s
  ka : H' ka = some (.lst (rs.map V.ref))
  rs : RowsAt H' rs (keyL dg s wt)
  ta : H' ta = some (.lst (ts.map V.ref))
  ts : RowsAt H' ts (boxL wt s dg)
theorem RSt.same {d : Addr} {H : Hp} {dg s wt : Nat} {ka ta : Addr} {rs ts : List Addr} {H1 H2 : Hp} (h : RSt d H dg s wt ka ta rs ts H1) (sm : Same H1 H2) : RSt d H dg s wt ka ta rs ts H2 :=
  ⟨h.ex.trans (.same sm), h.dc.same sm, h.d1, h.d6, h.s1, h.s5, h.hw, sm _ _ h.ka, h.rs.same sm, sm _ _ h.ta, h.ts.same sm⟩
theorem RSt.w38 {d : Addr} {H : Hp} {dg s wt : Nat} {ka ta : Addr} {rs ts : List Addr} {H1 : Hp} (h : RSt d H dg s wt ka ta rs ts H1) : dg * s ≤ 30 ∧ wt ≤ 30 ∧ s * dg = dg * s := by
  have h1 : dg * s ≤ 6 * 5 := Nat.mul_le_mul h.d6 h.s5
  have h2 := h.hw
  exact ⟨by omega, by omega, Nat.mul_comm _ _⟩
abbrev rsg (d : Addr) (dg s wt : Nat) (ka ta : Addr) (y6 y7 y8 y9 y10 y11 : Option V) : L2.St := [some (V.ref d), some (V.int (dg : Nat)), some (V.int (s : Nat)), some (V.int (wt : Nat)), some (V.ref ka), some (V.ref ta), y6, y7, y8, y9, y10, y11]
def RMid (d : Addr) (H : Hp) (σ' : L2.St) (H' : Hp) : Prop := ∃ (dg s wt : Nat) (ka ta : Addr) (rs ts : List Addr) (y6 y7 y8 y9 y10 y11 : Option V), σ' = rsg d dg s wt ka ta y6 y7 y8 y9 y10 y11 ∧ RSt d H dg s wt ka ta rs ts H'
/-- the sum made of the keys -/
def RMade (C : Addr) (H' : Hp) (dg s wt : Nat) (n : Nat) (m : Addr) (l : List (List Int × Int)) : Prop := SumAt C H' m dg l ∧ l.length = n ∧ ∀ q ∈ l, q.1.length = dg + 1 ∧ q.1.sum = s ∧ weiL q.1 = wt
def RMadeM (C d : Addr) (H : Hp) (σ' : L2.St) (H' : Hp) : Prop := ∃ (dg s wt : Nat) (ka ta : Addr) (rs ts : List Addr) (m : Addr) (l : List (List Int × Int)) (y7 y8 y9 y10 y11 : Option V), σ' = rsg d dg s wt ka ta (some (.ref m)) y7 y8 y9 y10 y11 ∧ RSt d H dg s wt ka ta rs ts H' ∧ RMade C H' dg s wt (keyL dg s wt).length m l
def sp_law_right : Sp := fun vs H Q _ => ∃ (d : Addr), vs = [.ref d] ∧ Dc H d ∧ ∀ H', Exc d H H' → Dc H' d → Q (.bl true) H'
theorem ok_law_right (T : Tx K mg) : FnOk P w K mg base CX0 14 T.f_law_right T.d_law_right p_law_right sp_law_right := by
  refine T.F_law_right.ok sc_law_right (fun vs H Q E h => ?_) (fun cdv A outer s H vs Q E hr h => ?_)
  · obtain ⟨d, rfl, _⟩ := h
    rfl
  · obtain ⟨d, rfl, D0, k⟩ := h
    refine ⟨_, (Evl.pss_cut (ps_asg (pe_tup (pa_cons (pe_op op_add pe_int (pe_call (ok_law_roll T) (hr.mono (by decide)) (by rfl) T.m_law_roll T.F_law_roll.kp T.b_law_roll .nil pass0 (pa_cons (pv 0) (pa_cons pe_int pa_nil)))) (pa_cons (pe_op op_add pe_int (pe_call (ok_law_roll T) (hr.mono (by decide)) (by rfl) T.m_law_roll T.F_law_roll.kp T.b_law_roll .nil pass0 (pa_cons (pv 0) (pa_cons pe_int pa_nil)))) pa_nil))) (pg_tupH (n := 2) (by rfl) (pgs_cons (pg_name (i := 1) sc_law_right.nd rfl (by first | exact .inl rfl | exact .inr rfl)) (pgs_cons (pg_name (i := 2) sc_law_right.nd rfl (by first | exact .inl rfl | exact .inr rfl)) pgs_nil))))
      (Evl.pss_cut (ps_set (i := 3) sc_law_right.nd rfl (Or.inl rfl) (pe_call (ok_law_roll T) (hr.mono (by decide)) (by rfl) T.m_law_roll T.F_law_roll.kp T.b_law_roll .nil pass0 (pa_cons (pv 0) (pa_cons (pe_op op_add (pe_op op_mul (pv 1) (pv 2)) pe_int) pa_nil))))
      (Evl.pss_cut (ps_par (i := 4) (j := 5) (by rfl) sc_law_right.nd rfl rfl (by decide) rfl rfl (pa_cons (pe_call (ok_law_keys T) (hr.mono (by decide)) (by rfl) T.m_law_keys T.F_law_keys.kp T.b_law_keys .nil pass0 (pa_cons (pv 1) (pa_cons (pv 2) (pa_cons (pv 3) pa_nil)))) (pa_cons (pe_listG (pgen_call (ok_boxes T) (hr.mono (by decide)) (by rfl) T.m_boxes T.F_boxes.kp T.b_boxes .nil (pa_cons (pv 3) (pa_cons (pv 2) (pa_cons (pv 1) pa_nil)))) passE0 noStop0 (hr.mono (by decide)) (by rfl) T.z_list (by decide +kernel)) pa_nil)) (by rfl))
      (Evl.pss_cut (ps_if (PW.pt (pw_or (pt_cmpR op_ne (pe_callB cr_len (by rfl) T.z_len PySem.boot_len (pa_cons (pv 4) pa_nil)) (pe_call (ok_box_count T) (hr.mono (by decide)) (by rfl) T.m_box_count T.F_box_count.kp T.b_box_count .nil pass0 (pa_cons (pv 3) (pa_cons (pv 2) (pa_cons (pv 1) pa_nil)))) (nomark _)) (pw_or1 (pt_cmpR (op_neD hr.units) (pe_callB (cr_sortedU (d := 6) (B := 8) (by decide)) (by rfl) T.z_sorted (by decide +kernel) (pa_cons (pe_lc (own := [("_law_key", 10)]) (g := gName 10) (tt := tYes) rfl sc_law_right.nd (pi_list (pv 4)) (blkOk_by (N := n_law_right) (sc := defScope s_law_right) (by decide +kernel)) (fun _ _ _ _ _ => (pg_name (i := 10) sc_law_right.nd rfl (by first | exact .inl rfl | exact .inr rfl))) (fun _ _ _ _ _ => pts_nil) (fun _ _ _ _ _ => (pe_call (ok_law_box_of T) (hr.mono (by decide)) (by rfl) T.m_law_box_of T.F_law_box_of.kp T.b_law_box_of .nil pass0 (pa_cons (pv 10) pa_nil)))) pa_nil)) (pe_callB (cr_sortedU (d := 6) (B := 8) (by decide)) (by rfl) T.z_sorted (by decide +kernel) (pa_cons (pv 5) pa_nil)) (nomark _))))) (pss_one (ps_ret pe_bl)) pss_nil)
      (Evl.pss_cut (ps_if (pt_cmpR (op_neD hr.units) (pe_callB cr_sortE (by rfl) T.z_sorted (by decide +kernel) (pa_cons (pe_lc (own := [("_law_box", 7)]) (g := gName 7) (tt := tYes) rfl sc_law_right.nd (pi_list (pv 5)) (blkOk_by (N := n_law_right) (sc := defScope s_law_right) (by decide +kernel)) (fun _ _ _ _ _ => (pg_name (i := 7) sc_law_right.nd rfl (by first | exact .inl rfl | exact .inr rfl))) (fun _ _ _ _ _ => pts_nil) (fun _ _ _ _ _ => (pe_call (ok_law_key_of T) (hr.mono (by decide)) (by rfl) T.m_law_key_of T.F_law_key_of.kp T.b_law_key_of .nil pass0 (pa_cons (pv 7) (pa_cons (pv 1) (pa_cons (pv 2) pa_nil)))))) pa_nil)) (pv 4) (nomark _)) (pss_one (ps_ret pe_bl)) pss_nil)
      (Evl.pss_cut (ps_set (i := 6) sc_law_right.nd rfl (Or.inl rfl) (pe_make T.mk_Sum (ok_Sum___init__ T) (hr.mono (by decide)) (by rfl) T.mg_Sum T.b_Sum___init__ .nil pass0 (pa_cons (pv 1) (pa_cons (pe_callTy (cr_dictLT rfl hr.units) (by rfl) T.z_dict (by decide +kernel) (pa_cons (pe_lc (own := [("_law_at", 11), ("_law_key", 10)]) (tt := tYes) rfl sc_law_right.nd (pi_enum (by rfl) T.z_enumerate (pa_cons (pv 4) pa_nil)) (blkOk_by (N := n_law_right) (sc := defScope s_law_right) (by decide +kernel)) (fun _ _ _ _ _ => (pg_tupH (n := 2) (by rfl) (pgs_cons (pg_name (i := 11) sc_law_right.nd rfl (by first | exact .inl rfl | exact .inr rfl)) (pgs_cons (pg_name (i := 10) sc_law_right.nd rfl (by first | exact .inl rfl | exact .inr rfl)) pgs_nil)))) (fun _ _ _ _ _ => pts_nil) (fun _ _ _ _ _ => (pe_tup (pa_cons (pv 10) (pa_cons (pe_op op_add pe_int (pv 11)) pa_nil))))) pa_nil)) pa_nil))))
      (Evl.pss_cut (ps_if (pt_cmpR (op_neTI hr.units) (pe_tup (pa_cons (pe_prop (pv 6) T.cl_Sum T.pr_Sum_size (ok_Sum_size T) (hr.mono (by decide)) T.b_Sum_size .nil pass0 (by rfl)) (pa_cons (pe_prop (pv 6) T.cl_Sum T.pr_Sum_weight (ok_Sum_weight T) (hr.mono (by decide)) T.b_Sum_weight .nil pass0 (by rfl)) (pa_cons (pe_prop (pv 6) T.cl_Sum T.pr_Sum_order (ok_Sum_order T) (hr.mono (by decide)) T.b_Sum_order .nil pass0 (by rfl)) (pa_cons (pe_callB (cr_lenO T.me_Sum___len__.at_ T.me_Sum___len__.fn (ok_Sum___len__ T) (hr.mono (by decide)) T.b_Sum___len__ pass0) (by rfl) T.z_len PySem.boot_len (pa_cons (pv 6) pa_nil)) pa_nil))))) (pe_tup (pa_cons (pv 2) (pa_cons (pv 3) (pa_cons (pe_op op_sub (pe_op op_mul (pv 1) (pv 2)) (pe_op op_mul pe_int (pv 3))) (pa_cons (pe_callB cr_len (by rfl) T.z_len PySem.boot_len (pa_cons (pv 4) pa_nil)) pa_nil))))) (nomark _)) (pss_one (ps_ret pe_bl)) pss_nil)
      (Evl.pss_cut (ps_for PassesOwn.never rfl (pi_list (pe_slice sl_list (pv 5) po_none (po_some pe_int))) (pg_name (i := 7) sc_law_right.nd rfl (by first | exact .inl rfl | exact .inr rfl))
      (pss_cons (ps_par (i := 8) (j := 9) (by rfl) sc_law_right.nd rfl rfl (by decide) rfl rfl (pa_cons (pe_call (ok_turned_box T) (hr.mono (by decide)) (by rfl) T.m_turned_box T.F_turned_box.kp T.b_turned_box .nil pass0 (pa_cons (pv 7) pa_nil)) (pa_cons (pe_call (ok_left_box T) (hr.mono (by decide)) (by rfl) T.m_left_box T.F_left_box.kp T.b_left_box .nil pass0 (pa_cons (pv 7) (pa_cons (pv 2) (pa_cons (pv 1) pa_nil)))) pa_nil)) (by rfl))
      (pss_cons (ps_if (PW.pt (pw_and (pt_cmpR (op_notInT hr.units65) (pv 8) (pe_slice sl_list (pe_listG (pgen_call (ok_boxes T) (hr.mono (by decide)) (by rfl) T.m_boxes T.F_boxes.kp T.b_boxes .nil (pa_cons (pv 3) (pa_cons (pv 1) (pa_cons (pv 2) pa_nil)))) passE0 noStop0 (hr.mono (by decide)) (by rfl) T.z_list (by decide +kernel)) po_none (po_some pe_int)) (by rfl)) (pw_and1 (pt_cmpR op_le (pe_callB cr_len (by rfl) T.z_len PySem.boot_len (pa_cons (pv 5) pa_nil)) pe_int (nomark _))))) (pss_one (ps_ret pe_bl)) pss_nil)
      (pss_one (ps_if (pt_cmpR (op_neTI hr.units) (pe_call (ok_law_key_of T) (hr.mono (by decide)) (by rfl) T.m_law_key_of T.F_law_key_of.kp T.b_law_key_of .nil pass0 (pa_cons (pv 9) (pa_cons (pv 1) (pa_cons (pv 2) pa_nil)))) (pe_revT (pe_call (ok_law_key_of T) (hr.mono (by decide)) (by rfl) T.m_law_key_of T.F_law_key_of.kp T.b_law_key_of .nil pass0 (pa_cons (pv 7) (pa_cons (pv 1) (pa_cons (pv 2) pa_nil))))) (nomark _)) (pss_one (ps_ret pe_bl)) pss_nil)))))
      (pss_one (ps_ret pe_bl)))))))))), ?_⟩
    rw [st_law_right]
    rw [ap_cut]
    refine ⟨fun σ' H' => Exc d H H' ∧ Dc H' d ∧ ∃ dg s : Nat, (1 ≤ dg ∧ dg ≤ 6 ∧ 1 ≤ s ∧ s ≤ 5) ∧ σ' = [some (V.ref d), some (V.int (dg : Nat)), some (V.int (s : Nat)), none, none, none, none, none, none, none, none, none], ?_, fun σ' H1 hP => ?_⟩
    · simp only [ap_seq, ap_next, ap_asg, ap_gName, ap_ret, ap_retN, ap_drop, ap_ifS, ap_break, ap_cont, ap_par, ap_aug, ap_ip, ap_gSub, ap_gTup, ap_gNil, ap_gCons, ap_var, ap_c, ap_op, ap_un, ap_if, ap_test, ap_B, ap_and, ap_or, ap_not, ap_andV, ap_orV, ap_notV, ap_nil, ap_cons, ap_tup, ap_lst, ap_cb, ap_bm, ap_call, ap_chain, ap_rI, ap_rI0, ap_rU, ap_rEq, ap_rNe, ap_revT, ap_sl, ap_part, ap_noPart, ap_ixLI, ap_ixTI, ap_ixLV, ap_ixTV, ap_len, ap_setLI, ap_setLV, ap_appI, ap_appV, ap_tupL, ap_listS, ap_sumLI, ap_sumTI, ap_repLI, ap_intI, ap_intB, ap_eqTI, ap_neTI, ap_eqLI, ap_neLI, ap_isi, ap_for, ap_rng1, ap_rng2, ap_iList, ap_iTup, ap_lc, ap_yes, ap_cut, ap_gTupH, ap_fmt, ap_jsn, ap_jsc, ap_gcd, ap_isqrt, ap_ixL, tyV_l, wipe_nil, wipe_cons, upd_same, ap_iEnT, ap_iEnL, ap_iZipA, ap_all, ap_tupT, ap_attF, ap_makeL, ap_dictKP, ap_neDP, ap_itemsT, ap_zipM, ap_lockE, ap_dget2, ap_dput, ap_dnewT, ap_iValsT, ap_iKeys, ap_sortedDT, ap_dictLT, ap_lenDT, ap_dcT, ap_sortT1, ap_dget, ap_listG, ap_callG, ap_star, ap_extend, ap_max, ap_setOfT, ap_sortedU, ap_sortedTU, ap_repTZ, ap_maxT, ap_revA, ap_att, ap_prop, ap_isO, ap_bin, ap_ne, ap_meth, ap_make, ins_inj, FE_inj, ap_slI, ap_catI, ap_perm, ap_lenO, ap_strO, ap_listO, ap_reprB, ap_iterT, ap_neT, ap_negO, ap_binI, ap_catL, ap_tM1, ap_repTI, ap_popN, ap_par3, ap_catTT, ap_repTA, ap_countT, ap_notInT, ap_repL1, ap_shl, ap_shr, ap_mask, ap_comb, ap_bits, ap_rng3, List.set_cons_zero, List.set_cons_succ, List.getElem?_cons_zero, List.getElem?_cons_succ, List.cons_append, List.nil_append, List.append_nil, Option.some.injEq, V.int.injEq, V.ref.injEq, V.bl.injEq, V.str.injEq, V.ty.injEq, Bool.not_true, Bool.not_false, HO.lst.injEq, HO.tup.injEq, reduceCtorEq, Int.reduceToNat, Int.reduceLT, Int.reduceLE, Nat.reduceAdd, Int.cast_ofNat_Int, gi_c0, gi_c1, gi_c2, gi_c3, Int.natCast_inj, map_int_inj, map_nil_iff, List.cons.injEq, exists_eq_left, exists_eq_left', exists_eq, exists_eq', exists_and_left, exists_and_right, exists_const, and_assoc, and_true, true_and, and_false, false_and, or_false, false_or, or_true, true_or, ite_true, ite_false, if_true, if_false, Bool.false_eq_true, own_cons, own_nil, le1, le2, le3, le4, me_cons, me_nil, List.length_map, List.length_cons, List.length_nil, ne_eq, not_false_eq_true, not_true_eq_false, decide_eq_true_eq, sp_law_roll]
      refine ⟨D0, fun H1 r1 x1 D1 a0 a1 => ⟨D1, fun H2 r2 x2 D2 b0 b1 => ⟨by decide, fun p1 n1 => ?_⟩⟩⟩
      obtain ⟨m1, rfl⟩ : ∃ k : Nat, r1 = (k : Int) := ⟨r1.toNat, by omega⟩
      obtain ⟨m2, rfl⟩ : ∃ k : Nat, r2 = (k : Int) := ⟨r2.toNat, by omega⟩
      have t := same_upd (o := HO.tup [V.int (1 + (m1 : Int)), V.int (1 + (m2 : Int))]) n1
      exact ⟨(x1.trans x2).trans (.same t), D2.same t, m1 + 1, by omega, by omega, m2 + 1, by omega, by omega, by omega, by omega⟩
    obtain ⟨x1, D1, dg, s, ⟨d1, d6, s1, s5⟩, rfl⟩ := hP
    have hds : dg * s ≤ 6 * 5 := Nat.mul_le_mul d6 s5
    have ec : ((dg : Int) * (s : Int)) = ((dg * s : Nat) : Int) := (Int.natCast_mul dg s).symm
    rw [ap_cut]
    refine ⟨fun σ' H' => Exc d H H' ∧ Dc H' d ∧ ∃ wt : Nat, wt ≤ dg * s ∧ σ' = [some (V.ref d), some (V.int (dg : Nat)), some (V.int (s : Nat)), some (V.int (wt : Nat)), none, none, none, none, none, none, none, none], ?_, fun σ' H2 hP => ?_⟩
    · simp only [ap_seq, ap_next, ap_asg, ap_gName, ap_ret, ap_retN, ap_drop, ap_ifS, ap_break, ap_cont, ap_par, ap_aug, ap_ip, ap_gSub, ap_gTup, ap_gNil, ap_gCons, ap_var, ap_c, ap_op, ap_un, ap_if, ap_test, ap_B, ap_and, ap_or, ap_not, ap_andV, ap_orV, ap_notV, ap_nil, ap_cons, ap_tup, ap_lst, ap_cb, ap_bm, ap_call, ap_chain, ap_rI, ap_rI0, ap_rU, ap_rEq, ap_rNe, ap_revT, ap_sl, ap_part, ap_noPart, ap_ixLI, ap_ixTI, ap_ixLV, ap_ixTV, ap_len, ap_setLI, ap_setLV, ap_appI, ap_appV, ap_tupL, ap_listS, ap_sumLI, ap_sumTI, ap_repLI, ap_intI, ap_intB, ap_eqTI, ap_neTI, ap_eqLI, ap_neLI, ap_isi, ap_for, ap_rng1, ap_rng2, ap_iList, ap_iTup, ap_lc, ap_yes, ap_cut, ap_gTupH, ap_fmt, ap_jsn, ap_jsc, ap_gcd, ap_isqrt, ap_ixL, tyV_l, wipe_nil, wipe_cons, upd_same, ap_iEnT, ap_iEnL, ap_iZipA, ap_all, ap_tupT, ap_attF, ap_makeL, ap_dictKP, ap_neDP, ap_itemsT, ap_zipM, ap_lockE, ap_dget2, ap_dput, ap_dnewT, ap_iValsT, ap_iKeys, ap_sortedDT, ap_dictLT, ap_lenDT, ap_dcT, ap_sortT1, ap_dget, ap_listG, ap_callG, ap_star, ap_extend, ap_max, ap_setOfT, ap_sortedU, ap_sortedTU, ap_repTZ, ap_maxT, ap_revA, ap_att, ap_prop, ap_isO, ap_bin, ap_ne, ap_meth, ap_make, ins_inj, FE_inj, ap_slI, ap_catI, ap_perm, ap_lenO, ap_strO, ap_listO, ap_reprB, ap_iterT, ap_neT, ap_negO, ap_binI, ap_catL, ap_tM1, ap_repTI, ap_popN, ap_par3, ap_catTT, ap_repTA, ap_countT, ap_notInT, ap_repL1, ap_shl, ap_shr, ap_mask, ap_comb, ap_bits, ap_rng3, List.set_cons_zero, List.set_cons_succ, List.getElem?_cons_zero, List.getElem?_cons_succ, List.cons_append, List.nil_append, List.append_nil, Option.some.injEq, V.int.injEq, V.ref.injEq, V.bl.injEq, V.str.injEq, V.ty.injEq, Bool.not_true, Bool.not_false, HO.lst.injEq, HO.tup.injEq, reduceCtorEq, Int.reduceToNat, Int.reduceLT, Int.reduceLE, Nat.reduceAdd, Int.cast_ofNat_Int, gi_c0, gi_c1, gi_c2, gi_c3, Int.natCast_inj, map_int_inj, map_nil_iff, List.cons.injEq, exists_eq_left, exists_eq_left', exists_eq, exists_eq', exists_and_left, exists_and_right, exists_const, and_assoc, and_true, true_and, and_false, false_and, or_false, false_or, or_true, true_or, ite_true, ite_false, if_true, if_false, Bool.false_eq_true, own_cons, own_nil, le1, le2, le3, le4, me_cons, me_nil, List.length_map, List.length_cons, List.length_nil, ne_eq, not_false_eq_true, not_true_eq_false, decide_eq_true_eq, sp_law_roll]
      refine ⟨.inl ⟨by omega, by omega⟩, D1, by rw [ec]; omega, by rw [ec]; omega, fun H2 r x D r0 r1 => ⟨x1.trans x, D, r.toNat, by rw [ec] at r1; omega, by omega⟩⟩
    obtain ⟨x2, D2, wt, hw, rfl⟩ := hP
    have kf := keyFacts d1 d6 s1 s5 hw
    rw [ap_cut]
    refine ⟨RMid d H, ?_, fun σ' H3 hP => ?_⟩
    · simp only [ap_seq, ap_next, ap_asg, ap_gName, ap_ret, ap_retN, ap_drop, ap_ifS, ap_break, ap_cont, ap_par, ap_aug, ap_ip, ap_gSub, ap_gTup, ap_gNil, ap_gCons, ap_var, ap_c, ap_op, ap_un, ap_if, ap_test, ap_B, ap_and, ap_or, ap_not, ap_andV, ap_orV, ap_notV, ap_nil, ap_cons, ap_tup, ap_lst, ap_cb, ap_bm, ap_call, ap_chain, ap_rI, ap_rI0, ap_rU, ap_rEq, ap_rNe, ap_revT, ap_sl, ap_part, ap_noPart, ap_ixLI, ap_ixTI, ap_ixLV, ap_ixTV, ap_len, ap_setLI, ap_setLV, ap_appI, ap_appV, ap_tupL, ap_listS, ap_sumLI, ap_sumTI, ap_repLI, ap_intI, ap_intB, ap_eqTI, ap_neTI, ap_eqLI, ap_neLI, ap_isi, ap_for, ap_rng1, ap_rng2, ap_iList, ap_iTup, ap_lc, ap_yes, ap_cut, ap_gTupH, ap_fmt, ap_jsn, ap_jsc, ap_gcd, ap_isqrt, ap_ixL, tyV_l, wipe_nil, wipe_cons, upd_same, ap_iEnT, ap_iEnL, ap_iZipA, ap_all, ap_tupT, ap_attF, ap_makeL, ap_dictKP, ap_neDP, ap_itemsT, ap_zipM, ap_lockE, ap_dget2, ap_dput, ap_dnewT, ap_iValsT, ap_iKeys, ap_sortedDT, ap_dictLT, ap_lenDT, ap_dcT, ap_sortT1, ap_dget, ap_listG, ap_callG, ap_star, ap_extend, ap_max, ap_setOfT, ap_sortedU, ap_sortedTU, ap_repTZ, ap_maxT, ap_revA, ap_att, ap_prop, ap_isO, ap_bin, ap_ne, ap_meth, ap_make, ins_inj, FE_inj, ap_slI, ap_catI, ap_perm, ap_lenO, ap_strO, ap_listO, ap_reprB, ap_iterT, ap_neT, ap_negO, ap_binI, ap_catL, ap_tM1, ap_repTI, ap_popN, ap_par3, ap_catTT, ap_repTA, ap_countT, ap_notInT, ap_repL1, ap_shl, ap_shr, ap_mask, ap_comb, ap_bits, ap_rng3, List.set_cons_zero, List.set_cons_succ, List.getElem?_cons_zero, List.getElem?_cons_succ, List.cons_append, List.nil_append, List.append_nil, Option.some.injEq, V.int.injEq, V.ref.injEq, V.bl.injEq, V.str.injEq, V.ty.injEq, Bool.not_true, Bool.not_false, HO.lst.injEq, HO.tup.injEq, reduceCtorEq, Int.reduceToNat, Int.reduceLT, Int.reduceLE, Nat.reduceAdd, Int.cast_ofNat_Int, gi_c0, gi_c1, gi_c2, gi_c3, Int.natCast_inj, map_int_inj, map_nil_iff, List.cons.injEq, exists_eq_left, exists_eq_left', exists_eq, exists_eq', exists_and_left, exists_and_right, exists_const, and_assoc, and_true, true_and, and_false, false_and, or_false, false_or, or_true, true_or, ite_true, ite_false, if_true, if_false, Bool.false_eq_true, own_cons, own_nil, le1, le2, le3, le4, me_cons, me_nil, List.length_map, List.length_cons, List.length_nil, ne_eq, not_false_eq_true, not_true_eq_false, decide_eq_true_eq, ap_listG, ap_callG]
      refine ⟨dg, s, wt, rfl, d1, d6, s1, s5, hw, fun H3 ka rs s3 e3 hR => ?_⟩
      refine ⟨wt, s, dg, rfl, by omega, by omega, by omega, fun H4 ts s4 hT p np => ?_⟩
      have t := same_upd (o := HO.lst (ts.map V.ref)) np
      have u := s3.trans (s4.trans t)
      exact ⟨dg, s, wt, ka, p, rs, ts, none, none, none, none, none, none, rfl, x2.trans (.same u), D2.same u, d1, d6, s1, s5, hw, t _ _ (s4 _ _ e3), hR.same (s4.trans t), upd_same, hT.same t⟩
    clear kf ec hds
    obtain ⟨dg, s, wt, ka, ta, rs, ts, y6, y7, y8, y9, y10, y11, rfl, R⟩ := hP
    rw [ap_cut]
    refine ⟨RMid d H, ?_, fun σ' H4 hP => ?_⟩
    · obtain ⟨w1, w2, w3⟩ := R.w38
      have kf := keyFacts R.d1 R.d6 R.s1 R.s5 R.hw
      have b1 := R.d6
      have b2 := R.s5
      have b3 := R.hw
      have b4 := R.d1
      obtain ⟨st, _, _⟩ := chk2_at (wt := wt) (p := s) (m := dg) (by omega) (by omega) (by omega)
      have few := box_few29 (wt := wt) (p := s) (m := dg) (by omega) (by omega) (by omega)
      have kl : (keyL dg s wt).length = (boxL wt s dg).length := by
        have := kf.boxes.length_eq
        rwa [List.length_map] at this
      simp only [ap_seq, ap_next, ap_asg, ap_gName, ap_ret, ap_retN, ap_drop, ap_ifS, ap_break, ap_cont, ap_par, ap_aug, ap_ip, ap_gSub, ap_gTup, ap_gNil, ap_gCons, ap_var, ap_c, ap_op, ap_un, ap_if, ap_test, ap_B, ap_and, ap_or, ap_not, ap_andV, ap_orV, ap_notV, ap_nil, ap_cons, ap_tup, ap_lst, ap_cb, ap_bm, ap_call, ap_chain, ap_rI, ap_rI0, ap_rU, ap_rEq, ap_rNe, ap_revT, ap_sl, ap_part, ap_noPart, ap_ixLI, ap_ixTI, ap_ixLV, ap_ixTV, ap_len, ap_setLI, ap_setLV, ap_appI, ap_appV, ap_tupL, ap_listS, ap_sumLI, ap_sumTI, ap_repLI, ap_intI, ap_intB, ap_eqTI, ap_neTI, ap_eqLI, ap_neLI, ap_isi, ap_for, ap_rng1, ap_rng2, ap_iList, ap_iTup, ap_lc, ap_yes, ap_cut, ap_gTupH, ap_fmt, ap_jsn, ap_jsc, ap_gcd, ap_isqrt, ap_ixL, tyV_l, wipe_nil, wipe_cons, upd_same, ap_iEnT, ap_iEnL, ap_iZipA, ap_all, ap_tupT, ap_attF, ap_makeL, ap_dictKP, ap_neDP, ap_itemsT, ap_zipM, ap_lockE, ap_dget2, ap_dput, ap_dnewT, ap_iValsT, ap_iKeys, ap_sortedDT, ap_dictLT, ap_lenDT, ap_dcT, ap_sortT1, ap_dget, ap_listG, ap_callG, ap_star, ap_extend, ap_max, ap_setOfT, ap_sortedU, ap_sortedTU, ap_repTZ, ap_maxT, ap_revA, ap_att, ap_prop, ap_isO, ap_bin, ap_ne, ap_meth, ap_make, ins_inj, FE_inj, ap_slI, ap_catI, ap_perm, ap_lenO, ap_strO, ap_listO, ap_reprB, ap_iterT, ap_neT, ap_negO, ap_binI, ap_catL, ap_tM1, ap_repTI, ap_popN, ap_par3, ap_catTT, ap_repTA, ap_countT, ap_notInT, ap_repL1, ap_shl, ap_shr, ap_mask, ap_comb, ap_bits, ap_rng3, List.set_cons_zero, List.set_cons_succ, List.getElem?_cons_zero, List.getElem?_cons_succ, List.cons_append, List.nil_append, List.append_nil, Option.some.injEq, V.int.injEq, V.ref.injEq, V.bl.injEq, V.str.injEq, V.ty.injEq, Bool.not_true, Bool.not_false, HO.lst.injEq, HO.tup.injEq, reduceCtorEq, Int.reduceToNat, Int.reduceLT, Int.reduceLE, Nat.reduceAdd, Int.cast_ofNat_Int, gi_c0, gi_c1, gi_c2, gi_c3, Int.natCast_inj, map_int_inj, map_nil_iff, List.cons.injEq, exists_eq_left, exists_eq_left', exists_eq, exists_eq', exists_and_left, exists_and_right, exists_const, and_assoc, and_true, true_and, and_false, false_and, or_false, false_or, or_true, true_or, ite_true, ite_false, if_true, if_false, Bool.false_eq_true, own_cons, own_nil, le1, le2, le3, le4, me_cons, me_nil, List.length_map, List.length_cons, List.length_nil, ne_eq, not_false_eq_true, not_true_eq_false, decide_eq_true_eq]
      refine ⟨_, .inl R.ka, wt, s, dg, rfl, by omega, by omega, by omega, by omega, fun H8 s8 => ⟨rfl, ?_⟩⟩
      have ecn : (((rs.map V.ref).length : Nat) : Int) = cnt s dg wt := by
        rw [List.length_map, R.rs.1, kl]
        exact (chk_at (wt := wt) (p := s) (m := dg) (by omega) (by omega) (by omega) (by omega)).2.2.2.1.symm
      rw [ecn, if_neg (by simp)]
      have R8 := R.same s8
      refine ⟨⟨_, sqL_of R8.ka⟩, ?_⟩
      refine lc_rowsF29 boxOf R8.rs R8.ka (by omega) (fun x => rfl) (fun r ns H' er hm sm Q' q' => ?_) (fun p H9 bs np s9 ep hB => ?_)
      · simp only [ap_seq, ap_next, ap_asg, ap_gName, ap_ret, ap_retN, ap_drop, ap_ifS, ap_break, ap_cont, ap_par, ap_aug, ap_ip, ap_gSub, ap_gTup, ap_gNil, ap_gCons, ap_var, ap_c, ap_op, ap_un, ap_if, ap_test, ap_B, ap_and, ap_or, ap_not, ap_andV, ap_orV, ap_notV, ap_nil, ap_cons, ap_tup, ap_lst, ap_cb, ap_bm, ap_call, ap_chain, ap_rI, ap_rI0, ap_rU, ap_rEq, ap_rNe, ap_revT, ap_sl, ap_part, ap_noPart, ap_ixLI, ap_ixTI, ap_ixLV, ap_ixTV, ap_len, ap_setLI, ap_setLV, ap_appI, ap_appV, ap_tupL, ap_listS, ap_sumLI, ap_sumTI, ap_repLI, ap_intI, ap_intB, ap_eqTI, ap_neTI, ap_eqLI, ap_neLI, ap_isi, ap_for, ap_rng1, ap_rng2, ap_iList, ap_iTup, ap_lc, ap_yes, ap_cut, ap_gTupH, ap_fmt, ap_jsn, ap_jsc, ap_gcd, ap_isqrt, ap_ixL, tyV_l, wipe_nil, wipe_cons, upd_same, ap_iEnT, ap_iEnL, ap_iZipA, ap_all, ap_tupT, ap_attF, ap_makeL, ap_dictKP, ap_neDP, ap_itemsT, ap_zipM, ap_lockE, ap_dget2, ap_dput, ap_dnewT, ap_iValsT, ap_iKeys, ap_sortedDT, ap_dictLT, ap_lenDT, ap_dcT, ap_sortT1, ap_dget, ap_listG, ap_callG, ap_star, ap_extend, ap_max, ap_setOfT, ap_sortedU, ap_sortedTU, ap_repTZ, ap_maxT, ap_revA, ap_att, ap_prop, ap_isO, ap_bin, ap_ne, ap_meth, ap_make, ins_inj, FE_inj, ap_slI, ap_catI, ap_perm, ap_lenO, ap_strO, ap_listO, ap_reprB, ap_iterT, ap_neT, ap_negO, ap_binI, ap_catL, ap_tM1, ap_repTI, ap_popN, ap_par3, ap_catTT, ap_repTA, ap_countT, ap_notInT, ap_repL1, ap_shl, ap_shr, ap_mask, ap_comb, ap_bits, ap_rng3, List.set_cons_zero, List.set_cons_succ, List.getElem?_cons_zero, List.getElem?_cons_succ, List.cons_append, List.nil_append, List.append_nil, Option.some.injEq, V.int.injEq, V.ref.injEq, V.bl.injEq, V.str.injEq, V.ty.injEq, Bool.not_true, Bool.not_false, HO.lst.injEq, HO.tup.injEq, reduceCtorEq, Int.reduceToNat, Int.reduceLT, Int.reduceLE, Nat.reduceAdd, Int.cast_ofNat_Int, gi_c0, gi_c1, gi_c2, gi_c3, Int.natCast_inj, map_int_inj, map_nil_iff, List.cons.injEq, exists_eq_left, exists_eq_left', exists_eq, exists_eq', exists_and_left, exists_and_right, exists_const, and_assoc, and_true, true_and, and_false, false_and, or_false, false_or, or_true, true_or, ite_true, ite_false, if_true, if_false, Bool.false_eq_true, own_cons, own_nil, le1, le2, le3, le4, me_cons, me_nil, List.length_map, List.length_cons, List.length_nil, ne_eq, not_false_eq_true, not_true_eq_false, decide_eq_true_eq, sp_law_box_of]
        obtain ⟨h1, h2, _⟩ := kf.ok ns hm
        exact ⟨ns, er, by omega, by omega, fun x hx => by have := h2 x hx; omega, q'⟩
      · obtain ⟨ks, k2, kAt, kr, kn⟩ := zip_rows hB
        refine ⟨p, rfl, ks, by rw [kr]; exact sqL_of ep, fun q hq => sqT_of (kAt q hq), unOk_boxes (wt := wt) (s := s) (dg := dg) (by omega) (by omega) (by omega) (by rw [k2]; exact kf.boxes), fun L p1 pm hs pw np1 => ?_⟩
        have t1 := same_upd (o := HO.lst (L.map fun q => V.ref q.1)) np1
        have R9 := R8.same (s9.trans t1)
        obtain ⟨ks2, k22, kAt2, kr2, kn2⟩ := zip_rows R9.ts
        refine ⟨ks2, by rw [kr2]; exact sqL_of R9.ta, fun q hq => sqT_of (kAt2 q hq), unOk_boxes (wt := wt) (s := s) (dg := dg) (by omega) (by omega) (by omega) (by rw [k22]), fun L2 p2 pm2 hs2 pw2 np2 => ?_⟩
        have t2 := same_upd (o := HO.lst (L2.map fun q => V.ref q.1)) np2
        have hL1 := (sortU_boxes st (fun q hq => t1 _ _ (kAt q (hs q hq))) (pm.trans (by rw [k2]; exact kf.boxes)) pw).same t2
        have hL2 := (sortU_boxes st (fun q hq => kAt2 q (hs2 q hq)) (pm2.trans (by rw [k22])) pw2).same t2
        refine neD_same29 (d := .list ((boxL wt s dg).reverse.map fun ns => PyData.tuple (ns.map .int))) (shaped_rows _) (.lst (sqL_of (t2 _ _ (upd_same.trans (by rw [ref_rows])))) (dpAll_rows hL1)) (.lst (sqL_of (upd_same.trans (by rw [ref_rows]))) (dpAll_rows hL2)) ⟨false, rfl, ?_⟩
        rw [if_neg (by decide)]
        exact ⟨dg, s, wt, ka, ta, rs, ts, y6, y7, y8, y9, y10, y11, rfl, R9.same t2⟩
    clear R
    obtain ⟨dg, s, wt, ka, ta, rs, ts, y6, y7, y8, y9, y10, y11, rfl, R⟩ := hP
    rw [ap_cut]
    refine ⟨RMid d H, ?_, fun σ' H5 hP => ?_⟩
    · obtain ⟨w1, w2, w3⟩ := R.w38
      have kf := keyFacts R.d1 R.d6 R.s1 R.s5 R.hw
      have b1 := R.d6
      have b2 := R.s5
      have b3 := R.hw
      have b4 := R.d1
      have few := box_few29 (wt := wt) (p := s) (m := dg) (by omega) (by omega) (by omega)
      have bs := box_small29 (wt := wt) (p := s) (m := dg) (by omega) (by omega) (by omega)
      have bd := box_deg kf
      simp only [ap_seq, ap_next, ap_asg, ap_gName, ap_ret, ap_retN, ap_drop, ap_ifS, ap_break, ap_cont, ap_par, ap_aug, ap_ip, ap_gSub, ap_gTup, ap_gNil, ap_gCons, ap_var, ap_c, ap_op, ap_un, ap_if, ap_test, ap_B, ap_and, ap_or, ap_not, ap_andV, ap_orV, ap_notV, ap_nil, ap_cons, ap_tup, ap_lst, ap_cb, ap_bm, ap_call, ap_chain, ap_rI, ap_rI0, ap_rU, ap_rEq, ap_rNe, ap_revT, ap_sl, ap_part, ap_noPart, ap_ixLI, ap_ixTI, ap_ixLV, ap_ixTV, ap_len, ap_setLI, ap_setLV, ap_appI, ap_appV, ap_tupL, ap_listS, ap_sumLI, ap_sumTI, ap_repLI, ap_intI, ap_intB, ap_eqTI, ap_neTI, ap_eqLI, ap_neLI, ap_isi, ap_for, ap_rng1, ap_rng2, ap_iList, ap_iTup, ap_lc, ap_yes, ap_cut, ap_gTupH, ap_fmt, ap_jsn, ap_jsc, ap_gcd, ap_isqrt, ap_ixL, tyV_l, wipe_nil, wipe_cons, upd_same, ap_iEnT, ap_iEnL, ap_iZipA, ap_all, ap_tupT, ap_attF, ap_makeL, ap_dictKP, ap_neDP, ap_itemsT, ap_zipM, ap_lockE, ap_dget2, ap_dput, ap_dnewT, ap_iValsT, ap_iKeys, ap_sortedDT, ap_dictLT, ap_lenDT, ap_dcT, ap_sortT1, ap_dget, ap_listG, ap_callG, ap_star, ap_extend, ap_max, ap_setOfT, ap_sortedU, ap_sortedTU, ap_repTZ, ap_maxT, ap_revA, ap_att, ap_prop, ap_isO, ap_bin, ap_ne, ap_meth, ap_make, ins_inj, FE_inj, ap_slI, ap_catI, ap_perm, ap_lenO, ap_strO, ap_listO, ap_reprB, ap_iterT, ap_neT, ap_negO, ap_binI, ap_catL, ap_tM1, ap_repTI, ap_popN, ap_par3, ap_catTT, ap_repTA, ap_countT, ap_notInT, ap_repL1, ap_shl, ap_shr, ap_mask, ap_comb, ap_bits, ap_rng3, List.set_cons_zero, List.set_cons_succ, List.getElem?_cons_zero, List.getElem?_cons_succ, List.cons_append, List.nil_append, List.append_nil, Option.some.injEq, V.int.injEq, V.ref.injEq, V.bl.injEq, V.str.injEq, V.ty.injEq, Bool.not_true, Bool.not_false, HO.lst.injEq, HO.tup.injEq, reduceCtorEq, Int.reduceToNat, Int.reduceLT, Int.reduceLE, Nat.reduceAdd, Int.cast_ofNat_Int, gi_c0, gi_c1, gi_c2, gi_c3, Int.natCast_inj, map_int_inj, map_nil_iff, List.cons.injEq, exists_eq_left, exists_eq_left', exists_eq, exists_eq', exists_and_left, exists_and_right, exists_const, and_assoc, and_true, true_and, and_false, false_and, or_false, false_or, or_true, true_or, ite_true, ite_false, if_true, if_false, Bool.false_eq_true, own_cons, own_nil, le1, le2, le3, le4, me_cons, me_nil, List.length_map, List.length_cons, List.length_nil, ne_eq, not_false_eq_true, not_true_eq_false, decide_eq_true_eq, ap_sortE]
      refine ⟨⟨_, sqL_of R.ta⟩, ?_⟩
      refine lc_rowsF29 (fun b => keyOf b dg s) R.ts R.ta (by omega) (fun x => rfl) (fun r ns H' er hm sm Q' q' => ?_) (fun p H9 qs np s9 ep hB => ?_)
      · simp only [ap_seq, ap_next, ap_asg, ap_gName, ap_ret, ap_retN, ap_drop, ap_ifS, ap_break, ap_cont, ap_par, ap_aug, ap_ip, ap_gSub, ap_gTup, ap_gNil, ap_gCons, ap_var, ap_c, ap_op, ap_un, ap_if, ap_test, ap_B, ap_and, ap_or, ap_not, ap_andV, ap_orV, ap_notV, ap_nil, ap_cons, ap_tup, ap_lst, ap_cb, ap_bm, ap_call, ap_chain, ap_rI, ap_rI0, ap_rU, ap_rEq, ap_rNe, ap_revT, ap_sl, ap_part, ap_noPart, ap_ixLI, ap_ixTI, ap_ixLV, ap_ixTV, ap_len, ap_setLI, ap_setLV, ap_appI, ap_appV, ap_tupL, ap_listS, ap_sumLI, ap_sumTI, ap_repLI, ap_intI, ap_intB, ap_eqTI, ap_neTI, ap_eqLI, ap_neLI, ap_isi, ap_for, ap_rng1, ap_rng2, ap_iList, ap_iTup, ap_lc, ap_yes, ap_cut, ap_gTupH, ap_fmt, ap_jsn, ap_jsc, ap_gcd, ap_isqrt, ap_ixL, tyV_l, wipe_nil, wipe_cons, upd_same, ap_iEnT, ap_iEnL, ap_iZipA, ap_all, ap_tupT, ap_attF, ap_makeL, ap_dictKP, ap_neDP, ap_itemsT, ap_zipM, ap_lockE, ap_dget2, ap_dput, ap_dnewT, ap_iValsT, ap_iKeys, ap_sortedDT, ap_dictLT, ap_lenDT, ap_dcT, ap_sortT1, ap_dget, ap_listG, ap_callG, ap_star, ap_extend, ap_max, ap_setOfT, ap_sortedU, ap_sortedTU, ap_repTZ, ap_maxT, ap_revA, ap_att, ap_prop, ap_isO, ap_bin, ap_ne, ap_meth, ap_make, ins_inj, FE_inj, ap_slI, ap_catI, ap_perm, ap_lenO, ap_strO, ap_listO, ap_reprB, ap_iterT, ap_neT, ap_negO, ap_binI, ap_catL, ap_tM1, ap_repTI, ap_popN, ap_par3, ap_catTT, ap_repTA, ap_countT, ap_notInT, ap_repL1, ap_shl, ap_shr, ap_mask, ap_comb, ap_bits, ap_rng3, List.set_cons_zero, List.set_cons_succ, List.getElem?_cons_zero, List.getElem?_cons_succ, List.cons_append, List.nil_append, List.append_nil, Option.some.injEq, V.int.injEq, V.ref.injEq, V.bl.injEq, V.str.injEq, V.ty.injEq, Bool.not_true, Bool.not_false, HO.lst.injEq, HO.tup.injEq, reduceCtorEq, Int.reduceToNat, Int.reduceLT, Int.reduceLE, Nat.reduceAdd, Int.cast_ofNat_Int, gi_c0, gi_c1, gi_c2, gi_c3, Int.natCast_inj, map_int_inj, map_nil_iff, List.cons.injEq, exists_eq_left, exists_eq_left', exists_eq, exists_eq', exists_and_left, exists_and_right, exists_const, and_assoc, and_true, true_and, and_false, false_and, or_false, false_or, or_true, true_or, ite_true, ite_false, if_true, if_false, Bool.false_eq_true, own_cons, own_nil, le1, le2, le3, le4, me_cons, me_nil, List.length_map, List.length_cons, List.length_nil, ne_eq, not_false_eq_true, not_true_eq_false, decide_eq_true_eq, sp_law_key_of]
        exact ⟨ns, er, by omega, by omega, (bs ns hm).1, bd ns hm, q'⟩
      · have kr := hB.1
        rw [List.length_map] at kr
        refine ⟨dg + 1, by omega, 8, p, rfl, _, sqL_of ep, by rw [List.length_map]; omega, fun x hx => ?_, fun ys p1 py pw np1 => ?_⟩
        · obtain ⟨r, hr, rfl⟩ := List.mem_map.mp hx
          obtain ⟨i, hi, rfl⟩ := List.mem_iff_getElem.mp hr
          obtain ⟨ns, e1, e2⟩ := hB.mem hi
          have hm : ns ∈ keyL dg s wt := kf.keys.mem_iff.mp (List.mem_of_getElem? e1)
          obtain ⟨x1, x2, _⟩ := kf.ok ns hm
          exact ⟨ns, ⟨_, rfl, sqT_of e2⟩, x1, fun m hm => by have := x2 m hm; omega⟩
        · obtain ⟨rs', rfl, hR'⟩ := sortT_rows hB kf.keys kf.up py pw
          have t1 := same_upd (o := HO.lst (rs'.map V.ref)) np1
          have R9 := R.same (s9.trans t1)
          refine neD_same29 (d := .list ((keyL dg s wt).map fun ns => PyData.tuple (ns.map .int))) (shaped_rows _) (.lst (sqL_of upd_same) (dpAll_rows (hR'.same t1))) (.lst (sqL_of R9.ka) (dpAll_rows R9.rs)) ⟨false, rfl, ?_⟩
          rw [if_neg (by decide)]
          exact ⟨dg, s, wt, ka, ta, rs, ts, y6, y7, y8, y9, y10, y11, rfl, R9⟩
    clear R
    obtain ⟨dg, s, wt, ka, ta, rs, ts, y6, y7, y8, y9, y10, y11, rfl, R⟩ := hP
    rw [ap_cut]
    refine ⟨RMadeM T.C_Sum d H, ?_, fun σ' H6 hP => ?_⟩
    · obtain ⟨w1, w2, w3⟩ := R.w38
      have kf := keyFacts R.d1 R.d6 R.s1 R.s5 R.hw
      have b1 := R.d6
      have b2 := R.s5
      have b3 := R.hw
      have b4 := R.d1
      have few := box_few29 (wt := wt) (p := s) (m := dg) (by omega) (by omega) (by omega)
      have kl : (keyL dg s wt).length = (boxL wt s dg).length := by
        have := kf.boxes.length_eq
        rwa [List.length_map] at this
      have lr := R.rs.1
      simp only [ap_seq, ap_next, ap_asg, ap_gName, ap_ret, ap_retN, ap_drop, ap_ifS, ap_break, ap_cont, ap_par, ap_aug, ap_ip, ap_gSub, ap_gTup, ap_gNil, ap_gCons, ap_var, ap_c, ap_op, ap_un, ap_if, ap_test, ap_B, ap_and, ap_or, ap_not, ap_andV, ap_orV, ap_notV, ap_nil, ap_cons, ap_tup, ap_lst, ap_cb, ap_bm, ap_call, ap_chain, ap_rI, ap_rI0, ap_rU, ap_rEq, ap_rNe, ap_revT, ap_sl, ap_part, ap_noPart, ap_ixLI, ap_ixTI, ap_ixLV, ap_ixTV, ap_len, ap_setLI, ap_setLV, ap_appI, ap_appV, ap_tupL, ap_listS, ap_sumLI, ap_sumTI, ap_repLI, ap_intI, ap_intB, ap_eqTI, ap_neTI, ap_eqLI, ap_neLI, ap_isi, ap_for, ap_rng1, ap_rng2, ap_iList, ap_iTup, ap_lc, ap_yes, ap_cut, ap_gTupH, ap_fmt, ap_jsn, ap_jsc, ap_gcd, ap_isqrt, ap_ixL, tyV_l, wipe_nil, wipe_cons, upd_same, ap_iEnT, ap_iEnL, ap_iZipA, ap_all, ap_tupT, ap_attF, ap_makeL, ap_dictKP, ap_neDP, ap_itemsT, ap_zipM, ap_lockE, ap_dget2, ap_dput, ap_dnewT, ap_iValsT, ap_iKeys, ap_sortedDT, ap_dictLT, ap_lenDT, ap_dcT, ap_sortT1, ap_dget, ap_listG, ap_callG, ap_star, ap_extend, ap_max, ap_setOfT, ap_sortedU, ap_sortedTU, ap_repTZ, ap_maxT, ap_revA, ap_att, ap_prop, ap_isO, ap_bin, ap_ne, ap_meth, ap_make, ins_inj, FE_inj, ap_slI, ap_catI, ap_perm, ap_lenO, ap_strO, ap_listO, ap_reprB, ap_iterT, ap_neT, ap_negO, ap_binI, ap_catL, ap_tM1, ap_repTI, ap_popN, ap_par3, ap_catTT, ap_repTA, ap_countT, ap_notInT, ap_repL1, ap_shl, ap_shr, ap_mask, ap_comb, ap_bits, ap_rng3, List.set_cons_zero, List.set_cons_succ, List.getElem?_cons_zero, List.getElem?_cons_succ, List.cons_append, List.nil_append, List.append_nil, Option.some.injEq, V.int.injEq, V.ref.injEq, V.bl.injEq, V.str.injEq, V.ty.injEq, Bool.not_true, Bool.not_false, HO.lst.injEq, HO.tup.injEq, reduceCtorEq, Int.reduceToNat, Int.reduceLT, Int.reduceLE, Nat.reduceAdd, Int.cast_ofNat_Int, gi_c0, gi_c1, gi_c2, gi_c3, Int.natCast_inj, map_int_inj, map_nil_iff, List.cons.injEq, exists_eq_left, exists_eq_left', exists_eq, exists_eq', exists_and_left, exists_and_right, exists_const, and_assoc, and_true, true_and, and_false, false_and, or_false, false_or, or_true, true_or, ite_true, ite_false, if_true, if_false, Bool.false_eq_true, own_cons, own_nil, le1, le2, le3, le4, me_cons, me_nil, List.length_map, List.length_cons, List.length_nil, ne_eq, not_false_eq_true, not_true_eq_false, decide_eq_true_eq]
      refine ⟨⟨_, sqL_of R.ka⟩, ?_⟩
      refine lc_gen (gives_enL (xs := rs.map V.ref)) (fun A i H' => Same H5 H' ∧ ∃ ps, H' A = some (.lst (ps.map V.ref)) ∧ PP H' ps (lK dg s wt i)) (fun A hA => ⟨same_upd hA, [], upd_same, rfl, fun i r q e => by simp at e⟩) (fun A i H' _ h => h.1 _ _ R.ka) (fun A i v H1 H2 hA hi hP hY => ?_) (fun A H1 hA hP => ?_)
      · obtain ⟨sa, ps, eA, hPP⟩ := hP
        obtain ⟨t, x, y, rfl, nt, rfl, rfl, ey⟩ := hY
        rw [List.length_map] at hi
        have hi2 : i < (keyL dg s wt).length := lr ▸ hi
        rw [List.getElem?_map, List.getElem?_eq_getElem hi] at ey
        obtain rfl := Option.some.inj ey
        have ut := same_upd (o := HO.tup [V.int (i : Nat), V.ref rs[i]]) nt
        have hk := ut _ _ (sa _ _ (R.rs.2 i _ _ (List.getElem?_eq_getElem hi) (List.getElem?_eq_getElem hi2)))
        refine ⟨t, rfl, [V.int (i : Nat), V.ref rs[i]], upd_same, rfl, _, _, rfl, _, [], rfl, rfl, rfl, ?_⟩
        simp only [ap_seq, ap_next, ap_asg, ap_gName, ap_ret, ap_retN, ap_drop, ap_ifS, ap_break, ap_cont, ap_par, ap_aug, ap_ip, ap_gSub, ap_gTup, ap_gNil, ap_gCons, ap_var, ap_c, ap_op, ap_un, ap_if, ap_test, ap_B, ap_and, ap_or, ap_not, ap_andV, ap_orV, ap_notV, ap_nil, ap_cons, ap_tup, ap_lst, ap_cb, ap_bm, ap_call, ap_chain, ap_rI, ap_rI0, ap_rU, ap_rEq, ap_rNe, ap_revT, ap_sl, ap_part, ap_noPart, ap_ixLI, ap_ixTI, ap_ixLV, ap_ixTV, ap_len, ap_setLI, ap_setLV, ap_appI, ap_appV, ap_tupL, ap_listS, ap_sumLI, ap_sumTI, ap_repLI, ap_intI, ap_intB, ap_eqTI, ap_neTI, ap_eqLI, ap_neLI, ap_isi, ap_for, ap_rng1, ap_rng2, ap_iList, ap_iTup, ap_lc, ap_yes, ap_cut, ap_gTupH, ap_fmt, ap_jsn, ap_jsc, ap_gcd, ap_isqrt, ap_ixL, tyV_l, wipe_nil, wipe_cons, upd_same, ap_iEnT, ap_iEnL, ap_iZipA, ap_all, ap_tupT, ap_attF, ap_makeL, ap_dictKP, ap_neDP, ap_itemsT, ap_zipM, ap_lockE, ap_dget2, ap_dput, ap_dnewT, ap_iValsT, ap_iKeys, ap_sortedDT, ap_dictLT, ap_lenDT, ap_dcT, ap_sortT1, ap_dget, ap_listG, ap_callG, ap_star, ap_extend, ap_max, ap_setOfT, ap_sortedU, ap_sortedTU, ap_repTZ, ap_maxT, ap_revA, ap_att, ap_prop, ap_isO, ap_bin, ap_ne, ap_meth, ap_make, ins_inj, FE_inj, ap_slI, ap_catI, ap_perm, ap_lenO, ap_strO, ap_listO, ap_reprB, ap_iterT, ap_neT, ap_negO, ap_binI, ap_catL, ap_tM1, ap_repTI, ap_popN, ap_par3, ap_catTT, ap_repTA, ap_countT, ap_notInT, ap_repL1, ap_shl, ap_shr, ap_mask, ap_comb, ap_bits, ap_rng3, List.set_cons_zero, List.set_cons_succ, List.getElem?_cons_zero, List.getElem?_cons_succ, List.cons_append, List.nil_append, List.append_nil, Option.some.injEq, V.int.injEq, V.ref.injEq, V.bl.injEq, V.str.injEq, V.ty.injEq, Bool.not_true, Bool.not_false, HO.lst.injEq, HO.tup.injEq, reduceCtorEq, Int.reduceToNat, Int.reduceLT, Int.reduceLE, Nat.reduceAdd, Int.cast_ofNat_Int, gi_c0, gi_c1, gi_c2, gi_c3, Int.natCast_inj, map_int_inj, map_nil_iff, List.cons.injEq, exists_eq_left, exists_eq_left', exists_eq, exists_eq', exists_and_left, exists_and_right, exists_const, and_assoc, and_true, true_and, and_false, false_and, or_false, false_or, or_true, true_or, ite_true, ite_false, if_true, if_false, Bool.false_eq_true, own_cons, own_nil, le1, le2, le3, le4, me_cons, me_nil, List.length_map, List.length_cons, List.length_nil, ne_eq, not_false_eq_true, not_true_eq_false, decide_eq_true_eq]
        refine ⟨by decide, fun p np => ?_⟩
        have up := same_upd (o := HO.tup [V.ref rs[i], V.int (1 + (i : Int))]) np
        have hlk : lK dg s wt (i + 1) = lK dg s wt i ++ [((keyL dg s wt)[i], 1 + (i : Int))] := by
          unfold lK
          rw [List.range_succ, List.map_append]
          congr 1
          show [((keyL dg s wt).getD i [], 1 + (i : Int))] = _
          rw [List.getD_eq_getElem?_getD, List.getElem?_eq_getElem hi2]
          rfl
        refine ⟨_, up _ _ (ut _ _ eA), ?_, same_mut (sa.trans (ut.trans up)) hA, ps ++ [p], by rw [List.map_append]; rfl, ?_⟩
        · rw [List.length_map, hPP.1]
          unfold lK
          rw [List.length_map, List.length_range]
          exact sz (by omega)
        · rw [hlk]
          exact PP.upd (up _ _ (ut _ _ eA)) (PP.snoc (hPP.same (ut.trans up)) upd_same (up _ _ hk))
      · obtain ⟨sa, ps, eA, hPP⟩ := hP
        rw [List.length_map, lr] at hPP
        have hT := lK_terms b1 b2 kf (by omega)
        have ln : (lK dg s wt (keyL dg s wt).length).length = (keyL dg s wt).length := by
          unfold lK
          rw [List.length_map, List.length_range]
        refine ⟨A, rfl, ps, sqL_of eA, _, hPP.1, fun i r q e1 e2 => ?_, hT.nd, hT.few, fun p np => ?_⟩
        · obtain ⟨k, h1, h2⟩ := hPP.2 i r q e1 e2
          exact ⟨k, sqT_of h1, h2⟩
        · have up := same_upd (o := HO.dT (dtOf (lK dg s wt (keyL dg s wt).length))) np
          refine newS_ok upd_same b4 (by omega) (by omega) hT fun m H' l' sm nm hS pm pw => ?_
          refine ⟨dg, s, wt, ka, ta, rs, ts, m, l', y7, y8, y9, y10, y11, rfl, R.same (sa.trans (up.trans sm)), hS, pm.length_eq.trans ln, fun q hq => ?_⟩
          obtain ⟨h1, h2, h3⟩ := hT.ex q (pm.mem_iff.mp hq)
          exact ⟨h1.1, h2, h3⟩
    clear R
    obtain ⟨dg, s, wt, ka, ta, rs, ts, m, l, y7, y8, y9, y10, y11, rfl, R, hM, hn, hq⟩ := hP
    rw [ap_cut]
    refine ⟨RMid d H, ?_, fun σ' H7 hP => ?_⟩
    · obtain ⟨w1, w2, w3⟩ := R.w38
      have kf := keyFacts R.d1 R.d6 R.s1 R.s5 R.hw
      have b1 := R.d6
      have b2 := R.s5
      have b3 := R.hw
      have b4 := R.d1
      have lr := R.rs.1
      have few := box_few29 (wt := wt) (p := s) (m := dg) (by omega) (by omega) (by omega)
      have kl : (keyL dg s wt).length = (boxL wt s dg).length := by
        have := kf.boxes.length_eq
        rwa [List.length_map] at this
      have pos := kf.pos
      have ec : ((dg : Int) * (s : Int)) = ((dg * s : Nat) : Int) := (Int.natCast_mul dg s).symm
      obtain ⟨q0, l0, rfl⟩ : ∃ q l', l = q :: l' := by
        cases l with
        | nil => simp at hn; omega
        | cons q l' => exact ⟨q, l', rfl⟩
      obtain ⟨h1, h2, h3⟩ := hq q0 List.mem_cons_self
      obtain ⟨dx, t, ha, ht⟩ := id hM
      simp only [ap_seq, ap_next, ap_asg, ap_gName, ap_ret, ap_retN, ap_drop, ap_ifS, ap_break, ap_cont, ap_par, ap_aug, ap_ip, ap_gSub, ap_gTup, ap_gNil, ap_gCons, ap_var, ap_c, ap_op, ap_un, ap_if, ap_test, ap_B, ap_and, ap_or, ap_not, ap_andV, ap_orV, ap_notV, ap_nil, ap_cons, ap_tup, ap_lst, ap_cb, ap_bm, ap_call, ap_chain, ap_rI, ap_rI0, ap_rU, ap_rEq, ap_rNe, ap_revT, ap_sl, ap_part, ap_noPart, ap_ixLI, ap_ixTI, ap_ixLV, ap_ixTV, ap_len, ap_setLI, ap_setLV, ap_appI, ap_appV, ap_tupL, ap_listS, ap_sumLI, ap_sumTI, ap_repLI, ap_intI, ap_intB, ap_eqTI, ap_neTI, ap_eqLI, ap_neLI, ap_isi, ap_for, ap_rng1, ap_rng2, ap_iList, ap_iTup, ap_lc, ap_yes, ap_cut, ap_gTupH, ap_fmt, ap_jsn, ap_jsc, ap_gcd, ap_isqrt, ap_ixL, tyV_l, wipe_nil, wipe_cons, upd_same, ap_iEnT, ap_iEnL, ap_iZipA, ap_all, ap_tupT, ap_attF, ap_makeL, ap_dictKP, ap_neDP, ap_itemsT, ap_zipM, ap_lockE, ap_dget2, ap_dput, ap_dnewT, ap_iValsT, ap_iKeys, ap_sortedDT, ap_dictLT, ap_lenDT, ap_dcT, ap_sortT1, ap_dget, ap_listG, ap_callG, ap_star, ap_extend, ap_max, ap_setOfT, ap_sortedU, ap_sortedTU, ap_repTZ, ap_maxT, ap_revA, ap_att, ap_prop, ap_isO, ap_bin, ap_ne, ap_meth, ap_make, ins_inj, FE_inj, ap_slI, ap_catI, ap_perm, ap_lenO, ap_strO, ap_listO, ap_reprB, ap_iterT, ap_neT, ap_negO, ap_binI, ap_catL, ap_tM1, ap_repTI, ap_popN, ap_par3, ap_catTT, ap_repTA, ap_countT, ap_notInT, ap_repL1, ap_shl, ap_shr, ap_mask, ap_comb, ap_bits, ap_rng3, List.set_cons_zero, List.set_cons_succ, List.getElem?_cons_zero, List.getElem?_cons_succ, List.cons_append, List.nil_append, List.append_nil, Option.some.injEq, V.int.injEq, V.ref.injEq, V.bl.injEq, V.str.injEq, V.ty.injEq, Bool.not_true, Bool.not_false, HO.lst.injEq, HO.tup.injEq, reduceCtorEq, Int.reduceToNat, Int.reduceLT, Int.reduceLE, Nat.reduceAdd, Int.cast_ofNat_Int, gi_c0, gi_c1, gi_c2, gi_c3, Int.natCast_inj, map_int_inj, map_nil_iff, List.cons.injEq, exists_eq_left, exists_eq_left', exists_eq, exists_eq', exists_and_left, exists_and_right, exists_const, and_assoc, and_true, true_and, and_false, false_and, or_false, false_or, or_true, true_or, ite_true, ite_false, if_true, if_false, Bool.false_eq_true, own_cons, own_nil, le1, le2, le3, le4, me_cons, me_nil, List.length_map, List.length_cons, List.length_nil, ne_eq, not_false_eq_true, not_true_eq_false, decide_eq_true_eq]
      refine ⟨⟨_, _, ha⟩, m, dg, q0 :: l0, rfl, hM, (fun e => by cases e), fun q l' e => ?_⟩
      cases e
      refine ⟨⟨_, _, ha⟩, m, dg, q0 :: l0, rfl, hM, fun q hm => by have := (hq q hm).1; omega, (fun e => by cases e), fun q l' H8 e s8 => ?_⟩
      cases e
      refine ⟨⟨_, _, s8 _ _ ha⟩, m, dg, q0 :: l0, rfl, hM.same s8, by omega, fun q hm => by obtain ⟨g1, g2, g3⟩ := hq q hm; omega, (fun e => by cases e), fun q l' H9 e s9 => ?_⟩
      cases e
      refine ⟨⟨_, _, s9 _ _ (s8 _ _ ha)⟩, m, dg, q0 :: l0, rfl, (hM.same s8).same s9, ?_⟩
      rw [hn, h2, h3]
      have R9 := R.same (s8.trans s9)
      refine ⟨_, rfl, by omega, by decide, fun p np => ?_⟩
      have tp := same_upd (o := HO.tup [V.int (s : Nat), V.int (wt : Nat), V.int ((dg : Int) * (s : Int) - 2 * (wt : Int)), V.int ((keyL dg s wt).length : Nat)]) np
      refine ⟨.inl ⟨by omega, by omega⟩, .inl ⟨by omega, by omega⟩, _, .inl (tp _ _ R9.ka), by decide, fun p1 np1 => ?_⟩
      rw [List.length_map, lr]
      have tp1 := same_upd (o := HO.tup [V.int (s : Nat), V.int (wt : Nat), V.int ((dg : Int) * (s : Int) - 2 * (wt : Int)), V.int ((keyL dg s wt).length : Nat)]) np1
      refine ⟨[(s : Int), (wt : Int), (dg : Int) * (s : Int) - 2 * (wt : Int), ((keyL dg s wt).length : Int)], tp1 _ _ upd_same, ?_⟩
      rw [if_neg (by simp)]
      exact ⟨dg, s, wt, ka, ta, rs, ts, _, _, _, _, _, _, rfl, R9.same (tp.trans tp1)⟩
    clear R
    obtain ⟨dg, s, wt, ka, ta, rs, ts, y6, y7, y8, y9, y10, y11, rfl, R⟩ := hP
    rw [ap_cut]
    refine ⟨RMid d H, ?_, fun σ' H8 hP => ?_⟩
    · obtain ⟨w1, w2, w3⟩ := R.w38
      have kf := keyFacts R.d1 R.d6 R.s1 R.s5 R.hw
      have b1 := R.d6
      have b2 := R.s5
      have b3 := R.hw
      have b4 := R.d1
      have few := box_few29 (wt := wt) (p := s) (m := dg) (by omega) (by omega) (by omega)
      have bs := box_small29 (wt := wt) (p := s) (m := dg) (by omega) (by omega) (by omega)
      have bf := fall_at (wt := wt) (p := s) (m := dg) (by omega) (by omega) (by omega)
      obtain ⟨_, tpm, _⟩ := chk2_at (wt := wt) (p := s) (m := dg) (by omega) (by omega) (by omega)
      have bd := box_deg kf
      simp only [ap_seq, ap_next, ap_asg, ap_gName, ap_ret, ap_retN, ap_drop, ap_ifS, ap_break, ap_cont, ap_par, ap_aug, ap_ip, ap_gSub, ap_gTup, ap_gNil, ap_gCons, ap_var, ap_c, ap_op, ap_un, ap_if, ap_test, ap_B, ap_and, ap_or, ap_not, ap_andV, ap_orV, ap_notV, ap_nil, ap_cons, ap_tup, ap_lst, ap_cb, ap_bm, ap_call, ap_chain, ap_rI, ap_rI0, ap_rU, ap_rEq, ap_rNe, ap_revT, ap_sl, ap_part, ap_noPart, ap_ixLI, ap_ixTI, ap_ixLV, ap_ixTV, ap_len, ap_setLI, ap_setLV, ap_appI, ap_appV, ap_tupL, ap_listS, ap_sumLI, ap_sumTI, ap_repLI, ap_intI, ap_intB, ap_eqTI, ap_neTI, ap_eqLI, ap_neLI, ap_isi, ap_for, ap_rng1, ap_rng2, ap_iList, ap_iTup, ap_lc, ap_yes, ap_cut, ap_gTupH, ap_fmt, ap_jsn, ap_jsc, ap_gcd, ap_isqrt, ap_ixL, tyV_l, wipe_nil, wipe_cons, upd_same, ap_iEnT, ap_iEnL, ap_iZipA, ap_all, ap_tupT, ap_attF, ap_makeL, ap_dictKP, ap_neDP, ap_itemsT, ap_zipM, ap_lockE, ap_dget2, ap_dput, ap_dnewT, ap_iValsT, ap_iKeys, ap_sortedDT, ap_dictLT, ap_lenDT, ap_dcT, ap_sortT1, ap_dget, ap_listG, ap_callG, ap_star, ap_extend, ap_max, ap_setOfT, ap_sortedU, ap_sortedTU, ap_repTZ, ap_maxT, ap_revA, ap_att, ap_prop, ap_isO, ap_bin, ap_ne, ap_meth, ap_make, ins_inj, FE_inj, ap_slI, ap_catI, ap_perm, ap_lenO, ap_strO, ap_listO, ap_reprB, ap_iterT, ap_neT, ap_negO, ap_binI, ap_catL, ap_tM1, ap_repTI, ap_popN, ap_par3, ap_catTT, ap_repTA, ap_countT, ap_notInT, ap_repL1, ap_shl, ap_shr, ap_mask, ap_comb, ap_bits, ap_rng3, List.set_cons_zero, List.set_cons_succ, List.getElem?_cons_zero, List.getElem?_cons_succ, List.cons_append, List.nil_append, List.append_nil, Option.some.injEq, V.int.injEq, V.ref.injEq, V.bl.injEq, V.str.injEq, V.ty.injEq, Bool.not_true, Bool.not_false, HO.lst.injEq, HO.tup.injEq, reduceCtorEq, Int.reduceToNat, Int.reduceLT, Int.reduceLE, Nat.reduceAdd, Int.cast_ofNat_Int, gi_c0, gi_c1, gi_c2, gi_c3, Int.natCast_inj, map_int_inj, map_nil_iff, List.cons.injEq, exists_eq_left, exists_eq_left', exists_eq, exists_eq', exists_and_left, exists_and_right, exists_const, and_assoc, and_true, true_and, and_false, false_and, or_false, false_or, or_true, true_or, ite_true, ite_false, if_true, if_false, Bool.false_eq_true, own_cons, own_nil, le1, le2, le3, le4, me_cons, me_nil, List.length_map, List.length_cons, List.length_nil, ne_eq, not_false_eq_true, not_true_eq_false, decide_eq_true_eq, ap_slL29]
      refine ⟨_, sqL_of R.ta, fun a na => ⟨⟨_, sqL_of upd_same⟩, ?_⟩⟩
      have e20 : cutV (ts.map V.ref) none (some 20) = (ts.take 20).map V.ref := by
        rw [show (some 20 : Option Int) = some ((20 : Nat) : Int) from rfl, cutV_take, List.map_take]
      rw [e20]
      have ta0 := same_upd (o := HO.lst ((ts.take 20).map V.ref)) na
      have R0 := R.same ta0
      have ea : upd H7 a (HO.lst ((ts.take 20).map V.ref)) a = some (HO.lst ((ts.take 20).map V.ref)) := upd_same
      have hT := RowsAt.take R0.ts 20
      generalize upd H7 a (HO.lst ((ts.take 20).map V.ref)) = Ha at *
      refine loop_gen (gives_list (xs := (ts.take 20).map V.ref)) (fun i σ' H' => Same Ha H' ∧ ∃ y7 y8 y9 : Option V, σ' = rsg d dg s wt ka ta y6 y7 y8 y9 y10 y11) ⟨Same.refl _, _, _, _, rfl⟩ (fun i σ' H' _ h => h.1 _ _ ea) (fun i v σ' H1 H2 hi hP hY => ?_) (fun σ' H1 hP => ?_)
      · obtain ⟨rfl, y⟩ := hY
        obtain ⟨sa, y7, y8, y9, rfl⟩ := hP
        rw [List.length_map] at hi
        have hi2 : i < ((boxL wt s dg).take 20).length := hT.1 ▸ hi
        rw [List.getElem?_map, List.getElem?_eq_getElem hi] at y
        obtain rfl := Option.some.inj y
        have hv := sa _ _ (hT.2 i _ _ (List.getElem?_eq_getElem hi) (List.getElem?_eq_getElem hi2))
        have hm : ((boxL wt s dg).take 20)[i] ∈ boxL wt s dg := List.mem_of_mem_take (List.getElem_mem hi2)
        generalize ((boxL wt s dg).take 20)[i] = b at *
        generalize (ts.take 20)[i] = tb at *
        have hb := bs b hm
        have hbd := bd b hm
        have hx : Bx b := ⟨by omega, fun x hx => by have := hb.2 x hx; omega, bf b hm⟩
        obtain ⟨lx, ll, lm⟩ := left_bx (p := s) (m := dg) hx hb.1 (by omega) (by omega) fun x hx => (hbd x hx).2
        have htm : turnL b ∈ boxL wt dg s := tpm.mem_iff.mp (List.mem_map_of_mem hm)
        have few2 := box_few29 (wt := wt) (p := dg) (m := s) (by omega) (by omega) (by omega)
        have hle : keyOf (leftL b s dg) dg s = (keyOf b dg s).reverse := kf.left b hm
        simp only [ap_seq, ap_next, ap_asg, ap_gName, ap_ret, ap_retN, ap_drop, ap_ifS, ap_break, ap_cont, ap_par, ap_aug, ap_ip, ap_gSub, ap_gTup, ap_gNil, ap_gCons, ap_var, ap_c, ap_op, ap_un, ap_if, ap_test, ap_B, ap_and, ap_or, ap_not, ap_andV, ap_orV, ap_notV, ap_nil, ap_cons, ap_tup, ap_lst, ap_cb, ap_bm, ap_call, ap_chain, ap_rI, ap_rI0, ap_rU, ap_rEq, ap_rNe, ap_revT, ap_sl, ap_part, ap_noPart, ap_ixLI, ap_ixTI, ap_ixLV, ap_ixTV, ap_len, ap_setLI, ap_setLV, ap_appI, ap_appV, ap_tupL, ap_listS, ap_sumLI, ap_sumTI, ap_repLI, ap_intI, ap_intB, ap_eqTI, ap_neTI, ap_eqLI, ap_neLI, ap_isi, ap_for, ap_rng1, ap_rng2, ap_iList, ap_iTup, ap_lc, ap_yes, ap_cut, ap_gTupH, ap_fmt, ap_jsn, ap_jsc, ap_gcd, ap_isqrt, ap_ixL, tyV_l, wipe_nil, wipe_cons, upd_same, ap_iEnT, ap_iEnL, ap_iZipA, ap_all, ap_tupT, ap_attF, ap_makeL, ap_dictKP, ap_neDP, ap_itemsT, ap_zipM, ap_lockE, ap_dget2, ap_dput, ap_dnewT, ap_iValsT, ap_iKeys, ap_sortedDT, ap_dictLT, ap_lenDT, ap_dcT, ap_sortT1, ap_dget, ap_listG, ap_callG, ap_star, ap_extend, ap_max, ap_setOfT, ap_sortedU, ap_sortedTU, ap_repTZ, ap_maxT, ap_revA, ap_att, ap_prop, ap_isO, ap_bin, ap_ne, ap_meth, ap_make, ins_inj, FE_inj, ap_slI, ap_catI, ap_perm, ap_lenO, ap_strO, ap_listO, ap_reprB, ap_iterT, ap_neT, ap_negO, ap_binI, ap_catL, ap_tM1, ap_repTI, ap_popN, ap_par3, ap_catTT, ap_repTA, ap_countT, ap_notInT, ap_repL1, ap_shl, ap_shr, ap_mask, ap_comb, ap_bits, ap_rng3, List.set_cons_zero, List.set_cons_succ, List.getElem?_cons_zero, List.getElem?_cons_succ, List.cons_append, List.nil_append, List.append_nil, Option.some.injEq, V.int.injEq, V.ref.injEq, V.bl.injEq, V.str.injEq, V.ty.injEq, Bool.not_true, Bool.not_false, HO.lst.injEq, HO.tup.injEq, reduceCtorEq, Int.reduceToNat, Int.reduceLT, Int.reduceLE, Nat.reduceAdd, Int.cast_ofNat_Int, gi_c0, gi_c1, gi_c2, gi_c3, Int.natCast_inj, map_int_inj, map_nil_iff, List.cons.injEq, exists_eq_left, exists_eq_left', exists_eq, exists_eq', exists_and_left, exists_and_right, exists_const, and_assoc, and_true, true_and, and_false, false_and, or_false, false_or, or_true, true_or, ite_true, ite_false, if_true, if_false, Bool.false_eq_true, own_cons, own_nil, le1, le2, le3, le4, me_cons, me_nil, List.length_map, List.length_cons, List.length_nil, ne_eq, not_false_eq_true, not_true_eq_false, decide_eq_true_eq, ap_slL29, ap_listG, ap_callG, sp_turned_box, sp_left_box, sp_law_key_of]
        refine ⟨b, hv, of_bx hx, fun H8 tt s8 e8 => ⟨b, s8 _ _ hv, of_bx hx, by omega, by omega, hb.1, fun x hx => (hbd x hx).2, fun H9 tl s9 e9 => ?_⟩⟩
        refine ⟨wt, dg, s, rfl, by omega, by omega, by omega, fun H10 ts2 s10 hT2 p np => ?_⟩
        have tp := same_upd (o := HO.lst (ts2.map V.ref)) np
        refine ⟨_, sqL_of upd_same, fun p2 np2 => ?_⟩
        have e200 : cutV (ts2.map V.ref) none (some 200) = (ts2.take 200).map V.ref := by
          rw [show (some 200 : Option Int) = some ((200 : Nat) : Int) from rfl, cutV_take, List.map_take]
        rw [e200]
        have tp2 := same_upd (o := HO.lst ((ts2.take 200).map V.ref)) np2
        have hT3 := RowsAt.take (hT2.same (tp.trans tp2)) 200
        rw [List.take_of_length_le (show (boxL wt dg s).length ≤ 200 by omega)] at hT3
        refine ⟨_, rfl, _, hT3, _, tp2 _ _ (tp _ _ (s10 _ _ (s9 _ _ e8))), ?_⟩
        rw [if_neg (by simpa using htm)]
        have lb : ∀ x ∈ leftL b s dg, 1 ≤ x ∧ x ≤ (dg : Int) := fun x hx => ⟨(lx.mem x hx).1, lm x hx⟩
        refine ⟨_, tp2 _ _ (tp _ _ (s10 _ _ e9)), by omega, by omega, ll, lb, fun H11 k1 s11 e11 => ⟨b, s11 _ _ (tp2 _ _ (tp _ _ (s10 _ _ (s9 _ _ (s8 _ _ hv))))), by omega, by omega, hb.1, hbd, fun H12 k2 s12 e12 => ⟨_, e12, fun p3 np3 => ?_⟩⟩⟩
        have t3 := same_upd (o := HO.tup ((keyOf b dg s).map V.int).reverse) np3
        refine ⟨_, t3 _ _ (s12 _ _ e11), (keyOf b dg s).reverse, (List.map_reverse ..).symm, ?_⟩
        rw [hle, if_neg (by simp)]
        exact sa.trans (s8.trans (s9.trans (s10.trans (tp.trans (tp2.trans (s11.trans (s12.trans t3)))))))
      · obtain ⟨sa, y7, y8, y9, rfl⟩ := hP
        exact ⟨dg, s, wt, ka, ta, rs, ts, _, _, _, _, _, _, rfl, R0.same sa⟩
    clear R
    obtain ⟨dg, s, wt, ka, ta, rs, ts, y6, y7, y8, y9, y10, y11, rfl, R⟩ := hP
    simp only [ap_seq, ap_next, ap_asg, ap_gName, ap_ret, ap_retN, ap_drop, ap_ifS, ap_break, ap_cont, ap_par, ap_aug, ap_ip, ap_gSub, ap_gTup, ap_gNil, ap_gCons, ap_var, ap_c, ap_op, ap_un, ap_if, ap_test, ap_B, ap_and, ap_or, ap_not, ap_andV, ap_orV, ap_notV, ap_nil, ap_cons, ap_tup, ap_lst, ap_cb, ap_bm, ap_call, ap_chain, ap_rI, ap_rI0, ap_rU, ap_rEq, ap_rNe, ap_revT, ap_sl, ap_part, ap_noPart, ap_ixLI, ap_ixTI, ap_ixLV, ap_ixTV, ap_len, ap_setLI, ap_setLV, ap_appI, ap_appV, ap_tupL, ap_listS, ap_sumLI, ap_sumTI, ap_repLI, ap_intI, ap_intB, ap_eqTI, ap_neTI, ap_eqLI, ap_neLI, ap_isi, ap_for, ap_rng1, ap_rng2, ap_iList, ap_iTup, ap_lc, ap_yes, ap_cut, ap_gTupH, ap_fmt, ap_jsn, ap_jsc, ap_gcd, ap_isqrt, ap_ixL, tyV_l, wipe_nil, wipe_cons, upd_same, ap_iEnT, ap_iEnL, ap_iZipA, ap_all, ap_tupT, ap_attF, ap_makeL, ap_dictKP, ap_neDP, ap_itemsT, ap_zipM, ap_lockE, ap_dget2, ap_dput, ap_dnewT, ap_iValsT, ap_iKeys, ap_sortedDT, ap_dictLT, ap_lenDT, ap_dcT, ap_sortT1, ap_dget, ap_listG, ap_callG, ap_star, ap_extend, ap_max, ap_setOfT, ap_sortedU, ap_sortedTU, ap_repTZ, ap_maxT, ap_revA, ap_att, ap_prop, ap_isO, ap_bin, ap_ne, ap_meth, ap_make, ins_inj, FE_inj, ap_slI, ap_catI, ap_perm, ap_lenO, ap_strO, ap_listO, ap_reprB, ap_iterT, ap_neT, ap_negO, ap_binI, ap_catL, ap_tM1, ap_repTI, ap_popN, ap_par3, ap_catTT, ap_repTA, ap_countT, ap_notInT, ap_repL1, ap_shl, ap_shr, ap_mask, ap_comb, ap_bits, ap_rng3, List.set_cons_zero, List.set_cons_succ, List.getElem?_cons_zero, List.getElem?_cons_succ, List.cons_append, List.nil_append, List.append_nil, Option.some.injEq, V.int.injEq, V.ref.injEq, V.bl.injEq, V.str.injEq, V.ty.injEq, Bool.not_true, Bool.not_false, HO.lst.injEq, HO.tup.injEq, reduceCtorEq, Int.reduceToNat, Int.reduceLT, Int.reduceLE, Nat.reduceAdd, Int.cast_ofNat_Int, gi_c0, gi_c1, gi_c2, gi_c3, Int.natCast_inj, map_int_inj, map_nil_iff, List.cons.injEq, exists_eq_left, exists_eq_left', exists_eq, exists_eq', exists_and_left, exists_and_right, exists_const, and_assoc, and_true, true_and, and_false, false_and, or_false, false_or, or_true, true_or, ite_true, ite_false, if_true, if_false, Bool.false_eq_true, own_cons, own_nil, le1, le2, le3, le4, me_cons, me_nil, List.length_map, List.length_cons, List.length_nil, ne_eq, not_false_eq_true, not_true_eq_false, decide_eq_true_eq]
    exact k _ R.ex R.dc
end
end My

namespace My
open PySem PySem.Spec PyProof.Rows L2 Pr M26
section
variable {P : Program} {w : World} {K : PySem.W.Frag} {mg : Str → Option Value} {base : Heap}
theorem bo2013 : boxOf [2, 0, 1, 3] = [3, 3, 3, 2] := by decide +kernel
theorem b1163 : (boxL 11 6 3)[0]? = some [3, 3, 3, 2] := by decide +kernel
def sp_law (K : PySem.W.Frag) : Sp := fun vs H Q _ => ∃ (a : Addr) (ns : List Int), vs = [.ref a] ∧ SqL K H a (ns.map V.int) ∧ ns.length ≤ 63 ∧ ∀ H', Q (.bl true) H'
theorem ok_law (T : Tx K mg) : FnOk P w K mg base CX0 18 T.f_law T.d_law p_law (sp_law K) := by
  refine T.F_law.ok sc_law (fun vs H Q E h => ?_) (fun cdv A outer s H vs Q E hr h => ?_)
  · obtain ⟨a, ns, rfl, _⟩ := h
    rfl
  · obtain ⟨a, ns, rfl, hS, hl, q⟩ := h
    refine ⟨_, (pss_cons (ps_for PassesOwn.never rfl (pi_range1 (by rfl) T.z_range (pa_cons (pe_callB (call_max2 rfl) (by rfl) T.z_max (by decide +kernel) (pa_cons pe_int (pa_cons (pe_callB (call_min2 rfl) (by rfl) T.z_min (by decide +kernel) (pa_cons pe_int (pa_cons (pe_callB call_len_seq (by rfl) T.z_len PySem.boot_len (pa_cons (pv 0) pa_nil)) pa_nil))) pa_nil))) pa_nil)) (pg_name (i := 1) sc_law.nd rfl (by first | exact .inl rfl | exact .inr rfl))
      (pss_cons (ps_set (i := 2) sc_law.nd rfl (Or.inl rfl) (pe_call (ok_law_dice T) (hr.mono (by decide)) (by rfl) T.m_law_dice T.F_law_dice.kp T.b_law_dice .nil pass0 (pa_cons (pv 0) (pa_cons (pv 1) pa_nil))))
      (pss_one (ps_if (PW.pt (pw_or (pt_not (pt_val (pe_call (ok_law_right T) (hr.mono (by decide)) (by rfl) T.m_law_right T.F_law_right.kp T.b_law_right .nil pass0 (pa_cons (pv 2) pa_nil)))) (pw_or1 (pt_not (pt_val (pe_call (ok_law_right T) (hr.mono (by decide)) (by rfl) T.m_law_right T.F_law_right.kp T.b_law_right .nil pass0 (pa_cons (pv 2) pa_nil))))))) (pss_one (ps_ret pe_bl)) pss_nil))))
      (pss_one (ps_ret (pe_and (pe_cmpR (op_eqTI hr.units) (pe_call (ok_law_box_of T) (hr.mono (by decide)) (by rfl) T.m_law_box_of T.F_law_box_of.kp T.b_law_box_of .nil pass0 (pa_cons (pe_tup (pa_cons pe_int (pa_cons pe_int (pa_cons pe_int (pa_cons pe_int pa_nil))))) pa_nil)) (pe_tup (pa_cons pe_int (pa_cons pe_int (pa_cons pe_int (pa_cons pe_int pa_nil))))) (nomark _)) (pe_one (pe_cmpR (op_eqTI hr.units) (pe_ix ix_LV (pe_listG (pgen_call (ok_boxes T) (hr.mono (by decide)) (by rfl) T.m_boxes T.F_boxes.kp T.b_boxes .nil (pa_cons pe_int (pa_cons pe_int (pa_cons pe_int pa_nil)))) passE0 noStop0 (hr.mono (by decide)) (by rfl) T.z_list (by decide +kernel)) pe_int (fun _ _ => rfl)) (pe_tup (pa_cons pe_int (pa_cons pe_int (pa_cons pe_int (pa_cons pe_int pa_nil))))) (nomark _))))))), ?_⟩
    rw [st_law]
    simp only [ap_seq, ap_next, ap_asg, ap_gName, ap_ret, ap_retN, ap_drop, ap_ifS, ap_break, ap_cont, ap_par, ap_aug, ap_ip, ap_gSub, ap_gTup, ap_gNil, ap_gCons, ap_var, ap_c, ap_op, ap_un, ap_if, ap_test, ap_B, ap_and, ap_or, ap_not, ap_andV, ap_orV, ap_notV, ap_nil, ap_cons, ap_tup, ap_lst, ap_cb, ap_bm, ap_call, ap_chain, ap_rI, ap_rI0, ap_rU, ap_rEq, ap_rNe, ap_revT, ap_sl, ap_part, ap_noPart, ap_ixLI, ap_ixTI, ap_ixLV, ap_ixTV, ap_len, ap_setLI, ap_setLV, ap_appI, ap_appV, ap_tupL, ap_listS, ap_sumLI, ap_sumTI, ap_repLI, ap_intI, ap_intB, ap_eqTI, ap_neTI, ap_eqLI, ap_neLI, ap_isi, ap_for, ap_rng1, ap_rng2, ap_iList, ap_iTup, ap_lc, ap_yes, ap_cut, ap_gTupH, ap_fmt, ap_jsn, ap_jsc, ap_gcd, ap_isqrt, ap_ixL, tyV_l, wipe_nil, wipe_cons, upd_same, ap_iEnT, ap_iEnL, ap_iZipA, ap_all, ap_tupT, ap_attF, ap_makeL, ap_dictKP, ap_neDP, ap_itemsT, ap_zipM, ap_lockE, ap_dget2, ap_dput, ap_dnewT, ap_iValsT, ap_iKeys, ap_sortedDT, ap_dictLT, ap_lenDT, ap_dcT, ap_sortT1, ap_dget, ap_listG, ap_callG, ap_star, ap_extend, ap_max, ap_setOfT, ap_sortedU, ap_sortedTU, ap_repTZ, ap_maxT, ap_revA, ap_att, ap_prop, ap_isO, ap_bin, ap_ne, ap_meth, ap_make, ins_inj, FE_inj, ap_slI, ap_catI, ap_perm, ap_lenO, ap_strO, ap_listO, ap_reprB, ap_iterT, ap_neT, ap_negO, ap_binI, ap_catL, ap_tM1, ap_repTI, ap_popN, ap_par3, ap_catTT, ap_repTA, ap_countT, ap_notInT, ap_repL1, ap_shl, ap_shr, ap_mask, ap_comb, ap_bits, ap_rng3, List.set_cons_zero, List.set_cons_succ, List.getElem?_cons_zero, List.getElem?_cons_succ, List.cons_append, List.nil_append, List.append_nil, Option.some.injEq, V.int.injEq, V.ref.injEq, V.bl.injEq, V.str.injEq, V.ty.injEq, Bool.not_true, Bool.not_false, HO.lst.injEq, HO.tup.injEq, reduceCtorEq, Int.reduceToNat, Int.reduceLT, Int.reduceLE, Nat.reduceAdd, Int.cast_ofNat_Int, gi_c0, gi_c1, gi_c2, gi_c3, Int.natCast_inj, map_int_inj, map_nil_iff, List.cons.injEq, exists_eq_left, exists_eq_left', exists_eq, exists_eq', exists_and_left, exists_and_right, exists_const, and_assoc, and_true, true_and, and_false, false_and, or_false, false_or, or_true, true_or, ite_true, ite_false, if_true, if_false, Bool.false_eq_true, own_cons, own_nil, le1, le2, le3, le4, me_cons, me_nil, List.length_map, List.length_cons, List.length_nil, ne_eq, not_false_eq_true, not_true_eq_false, decide_eq_true_eq]
    refine ⟨_, .inl hS, ?_⟩
    have ln : (ns.map V.int).length = ns.length := List.length_map ..
    rw [ln]
    obtain ⟨n, hn, n1, n4⟩ : ∃ n : Int, (if (if (ns.length : Int) < 3 then (ns.length : Int) else 3) > 1 then if (ns.length : Int) < 3 then (ns.length : Int) else 3 else 1) = n ∧ 1 ≤ n ∧ n ≤ 3 :=
      ⟨_, rfl, by split <;> split <;> omega, by split <;> split <;> omega⟩
    simp only [hn]
    refine ⟨by omega, by omega, ?_⟩
    refine loop_range (fun i σ' H' => Same H H' ∧ ∃ y1 y2, σ' = [some (.ref a), y1, y2]) ⟨Same.refl H, _, _, rfl⟩ (fun i σ' H1 hi hP => ?_) (fun σ' H1 hP => ?_)
    · obtain ⟨sm, y1, y2, rfl⟩ := hP
      simp only [ap_seq, ap_next, ap_asg, ap_gName, ap_ret, ap_retN, ap_drop, ap_ifS, ap_break, ap_cont, ap_par, ap_aug, ap_ip, ap_gSub, ap_gTup, ap_gNil, ap_gCons, ap_var, ap_c, ap_op, ap_un, ap_if, ap_test, ap_B, ap_and, ap_or, ap_not, ap_andV, ap_orV, ap_notV, ap_nil, ap_cons, ap_tup, ap_lst, ap_cb, ap_bm, ap_call, ap_chain, ap_rI, ap_rI0, ap_rU, ap_rEq, ap_rNe, ap_revT, ap_sl, ap_part, ap_noPart, ap_ixLI, ap_ixTI, ap_ixLV, ap_ixTV, ap_len, ap_setLI, ap_setLV, ap_appI, ap_appV, ap_tupL, ap_listS, ap_sumLI, ap_sumTI, ap_repLI, ap_intI, ap_intB, ap_eqTI, ap_neTI, ap_eqLI, ap_neLI, ap_isi, ap_for, ap_rng1, ap_rng2, ap_iList, ap_iTup, ap_lc, ap_yes, ap_cut, ap_gTupH, ap_fmt, ap_jsn, ap_jsc, ap_gcd, ap_isqrt, ap_ixL, tyV_l, wipe_nil, wipe_cons, upd_same, ap_iEnT, ap_iEnL, ap_iZipA, ap_all, ap_tupT, ap_attF, ap_makeL, ap_dictKP, ap_neDP, ap_itemsT, ap_zipM, ap_lockE, ap_dget2, ap_dput, ap_dnewT, ap_iValsT, ap_iKeys, ap_sortedDT, ap_dictLT, ap_lenDT, ap_dcT, ap_sortT1, ap_dget, ap_listG, ap_callG, ap_star, ap_extend, ap_max, ap_setOfT, ap_sortedU, ap_sortedTU, ap_repTZ, ap_maxT, ap_revA, ap_att, ap_prop, ap_isO, ap_bin, ap_ne, ap_meth, ap_make, ins_inj, FE_inj, ap_slI, ap_catI, ap_perm, ap_lenO, ap_strO, ap_listO, ap_reprB, ap_iterT, ap_neT, ap_negO, ap_binI, ap_catL, ap_tM1, ap_repTI, ap_popN, ap_par3, ap_catTT, ap_repTA, ap_countT, ap_notInT, ap_repL1, ap_shl, ap_shr, ap_mask, ap_comb, ap_bits, ap_rng3, List.set_cons_zero, List.set_cons_succ, List.getElem?_cons_zero, List.getElem?_cons_succ, List.cons_append, List.nil_append, List.append_nil, Option.some.injEq, V.int.injEq, V.ref.injEq, V.bl.injEq, V.str.injEq, V.ty.injEq, Bool.not_true, Bool.not_false, HO.lst.injEq, HO.tup.injEq, reduceCtorEq, Int.reduceToNat, Int.reduceLT, Int.reduceLE, Nat.reduceAdd, Int.cast_ofNat_Int, gi_c0, gi_c1, gi_c2, gi_c3, Int.natCast_inj, map_int_inj, map_nil_iff, List.cons.injEq, exists_eq_left, exists_eq_left', exists_eq, exists_eq', exists_and_left, exists_and_right, exists_const, and_assoc, and_true, true_and, and_false, false_and, or_false, false_or, or_true, true_or, ite_true, ite_false, if_true, if_false, Bool.false_eq_true, own_cons, own_nil, le1, le2, le3, le4, me_cons, me_nil, List.length_map, List.length_cons, List.length_nil, ne_eq, not_false_eq_true, not_true_eq_false, decide_eq_true_eq]
      refine ⟨a, ns, i, by rw [Int.zero_add], sm.seq hS, by omega, fun H2 d s2 nd D2 => ?_⟩
      have sx : ∀ H3, Exc d H2 H3 → Same H H3 := fun H3 x b o e => by
        have e1 := sm _ _ e
        exact x b o (fun h => by rw [h, nd] at e1; cases e1) (s2 _ _ e1)
      refine ⟨d, rfl, D2, fun H3 x3 D3 => ⟨true, rfl, ?_⟩⟩
      rw [if_neg (by decide)]
      refine ⟨d, rfl, D3, fun H4 x4 D4 => ⟨true, rfl, ?_⟩⟩
      rw [if_neg (by decide)]
      exact sx H4 (x3.trans x4)
    · obtain ⟨sm, y1, y2, rfl⟩ := hP
      simp only [ap_seq, ap_next, ap_asg, ap_gName, ap_ret, ap_retN, ap_drop, ap_ifS, ap_break, ap_cont, ap_par, ap_aug, ap_ip, ap_gSub, ap_gTup, ap_gNil, ap_gCons, ap_var, ap_c, ap_op, ap_un, ap_if, ap_test, ap_B, ap_and, ap_or, ap_not, ap_andV, ap_orV, ap_notV, ap_nil, ap_cons, ap_tup, ap_lst, ap_cb, ap_bm, ap_call, ap_chain, ap_rI, ap_rI0, ap_rU, ap_rEq, ap_rNe, ap_revT, ap_sl, ap_part, ap_noPart, ap_ixLI, ap_ixTI, ap_ixLV, ap_ixTV, ap_len, ap_setLI, ap_setLV, ap_appI, ap_appV, ap_tupL, ap_listS, ap_sumLI, ap_sumTI, ap_repLI, ap_intI, ap_intB, ap_eqTI, ap_neTI, ap_eqLI, ap_neLI, ap_isi, ap_for, ap_rng1, ap_rng2, ap_iList, ap_iTup, ap_lc, ap_yes, ap_cut, ap_gTupH, ap_fmt, ap_jsn, ap_jsc, ap_gcd, ap_isqrt, ap_ixL, tyV_l, wipe_nil, wipe_cons, upd_same, ap_iEnT, ap_iEnL, ap_iZipA, ap_all, ap_tupT, ap_attF, ap_makeL, ap_dictKP, ap_neDP, ap_itemsT, ap_zipM, ap_lockE, ap_dget2, ap_dput, ap_dnewT, ap_iValsT, ap_iKeys, ap_sortedDT, ap_dictLT, ap_lenDT, ap_dcT, ap_sortT1, ap_dget, ap_listG, ap_callG, ap_star, ap_extend, ap_max, ap_setOfT, ap_sortedU, ap_sortedTU, ap_repTZ, ap_maxT, ap_revA, ap_att, ap_prop, ap_isO, ap_bin, ap_ne, ap_meth, ap_make, ins_inj, FE_inj, ap_slI, ap_catI, ap_perm, ap_lenO, ap_strO, ap_listO, ap_reprB, ap_iterT, ap_neT, ap_negO, ap_binI, ap_catL, ap_tM1, ap_repTI, ap_popN, ap_par3, ap_catTT, ap_repTA, ap_countT, ap_notInT, ap_repL1, ap_shl, ap_shr, ap_mask, ap_comb, ap_bits, ap_rng3, List.set_cons_zero, List.set_cons_succ, List.getElem?_cons_zero, List.getElem?_cons_succ, List.cons_append, List.nil_append, List.append_nil, Option.some.injEq, V.int.injEq, V.ref.injEq, V.bl.injEq, V.str.injEq, V.ty.injEq, Bool.not_true, Bool.not_false, HO.lst.injEq, HO.tup.injEq, reduceCtorEq, Int.reduceToNat, Int.reduceLT, Int.reduceLE, Nat.reduceAdd, Int.cast_ofNat_Int, gi_c0, gi_c1, gi_c2, gi_c3, Int.natCast_inj, map_int_inj, map_nil_iff, List.cons.injEq, exists_eq_left, exists_eq_left', exists_eq, exists_eq', exists_and_left, exists_and_right, exists_const, and_assoc, and_true, true_and, and_false, false_and, or_false, false_or, or_true, true_or, ite_true, ite_false, if_true, if_false, Bool.false_eq_true, own_cons, own_nil, le1, le2, le3, le4, me_cons, me_nil, List.length_map, List.length_cons, List.length_nil, ne_eq, not_false_eq_true, not_true_eq_false, decide_eq_true_eq, ap_listG, ap_callG, sp_law_box_of]
      refine ⟨by decide, fun p1 n1 => ⟨by decide, by decide, by decide, fun H2 r s2 er => ⟨by decide, fun p2 n2 => ?_⟩⟩⟩
      have t2 := same_upd (o := HO.tup [V.int 3, V.int 3, V.int 3, V.int 2]) n2
      rw [bo2013] at er
      refine ⟨_, t2 _ _ er, ?_⟩
      rw [if_pos rfl]
      refine ⟨11, 6, 3, rfl, by decide, by decide, by decide, fun H3 rs s3 hR p3 n3 => ?_⟩
      have t3 := same_upd (o := HO.lst (rs.map V.ref)) n3
      obtain ⟨r0, e0⟩ : ∃ r0, rs[0]? = some r0 := by
        have hl := hR.1
        have h1 := (List.getElem?_eq_some_iff.mp b1163).1
        exact ⟨_, List.getElem?_eq_getElem (by omega)⟩
      have h0 := hR.2 0 r0 _ e0 b1163
      refine ⟨.ref r0, ?_, by decide, fun p4 n4 => ⟨r0, rfl, _, ((same_upd n4) _ _ (t3 _ _ h0)), ?_⟩⟩
      · exact atI_nat (j := 0) (by rw [List.getElem?_map, e0]; rfl)
      · exact q _
end
end My

namespace My
open PySem PySem.Spec PyProof.Rows L2 Pr
section
open PySem.W
local macro_rules | `(tactic| o_headL $H) => `(tactic| (have _h := $H; exact False.elim ‹False›))
set_option maxHeartbeats 0 in
theorem keepK (no : False) : PySem.Challenge.rw_sourceforms_k29_whole_terms_and_boxes.Holds := by
  w_on; o_law; k_headL
end
section
open PySem.W PySem.Calls
abbrev R0 : OpenRow := OpenLaw.row PySem.Challenge.rw_sourceforms_k29_whole_terms_and_boxes
abbrev qv : Program := view R0.prog [0, 67]
def nm0 : List PySem.Str := ["_wall", "LetterError", "InvalidForm", "InvalidSum", "InvalidPoint", "InvalidOperation", "InvalidNumber", "TooMany", "TOO_LONG", "is_integer", "is_within", "need_number", "is_row", "is_pair", "lead_of", "powers_of", "MAX_PARTS", "MAX_WEIGHT", "packed_counts", "lowest_bits"]
def nm1 : List PySem.Str := ["box_count", "filled", "box_behind", "boxes", "is_box", "need_box", "turned_box", "left_box", "MAX_DEGREE", "product_row", "sum_row", "multiple_row", "power_row", "row_value", "made_form", "Form", "need_one_degree", "MAX_SUMMED", "MAX_SIZE", "MAX_TERMS"]
def nm2 : List PySem.Str := ["weight_of", "first_of", "are_exponents", "are_terms", "tidy", "added_terms", "packed", "unpacked", "product_terms", "made_sum", "Sum", "need_like", "need_product", "_law_dice", "_law_roll", "_law_keys", "_law_box_of", "_law_key_of", "_law_right"]
def nms : List PySem.Str := nm0 ++ nm1 ++ nm2
noncomputable def as0 : List Nat := (keepK.heap_39 { strHash := fun _ => 0, shareClass := fun _ => 0, mergeTok := id, idOf := fun _ => 0, idOfShared := fun _ _ => 0, followText := fun _ => true, idOfImm := fun _ => 0 }).map (·.1)
theorem as0_eq (P : Params) : as0 = (keepK.heap_39 P).map (·.1) := by kernel_rfl
noncomputable abbrev hk0 : Hook := kHook keepK.heap_39 as0 as0_eq
noncomputable def ob0 (s : SharedT) : hk0.α := as0.map (HandSHeadRun.getT s)
theorem ob0_eq (s : SharedT) : ob0 s = hk0.obs s.abs := List.map_congr_left fun a _ => HandSHeadRun.getT_eq s a
theorem trip {α β γ δ : Type} {o : Option α} {f : α → β} {g : α → γ} {h : α → δ} {a : β} {b : γ} {c : δ} (h1 : o.map f = some a) (h2 : o.map g = some b) (h3 : o.map h = some c) : o.map (fun x => (f x, g x, h x)) = some (a, b, c) := by
  obtain ⟨x, rfl, e1⟩ := Option.map_eq_some_iff.mp h1
  have e2 := Option.some.inj h2
  have e3 := Option.some.inj h3
  subst e1 e2 e3
  rfl
theorem runA (w : World) : (HandSHeadRun.wholeF (fun p => HandSHeadRun.stepQ (HandSHeadRun.denQ HandSHeadRun.tabQ) p w) HandSHeadRun.fenceQ 20000 R0.prog).map (fun x => HandSHeadRun.looksF R0.prog x.1.heap x.2.abs) = some true := by kernel_rfl
theorem runB (w : World) : (HandSHeadRun.wholeF (fun p => HandSHeadRun.stepQ (HandSHeadRun.denQ HandSHeadRun.tabQ) p w) HandSHeadRun.fenceQ 20000 R0.prog).map (fun x => HandSHeadRun.seenQ qv nms (importedModules R0.prog.main.body) (fun s => xlAt qv [] s && recOk R0.toRowW.records s) x.2.abs) = some (openGood qv nms) := by kernel_rfl
theorem runC (w : World) : (HandSHeadRun.wholeF (fun p => HandSHeadRun.stepQ (HandSHeadRun.denQ HandSHeadRun.tabQ) p w) HandSHeadRun.fenceQ 20000 R0.prog).map (fun x => ob0 x.2) = some (hk0.val w) := by kernel_rfl
theorem run0 (w : World) : HandSHeadRun.RunEqI R0 qv hk0 ob0 20000 nms w := trip (runA w) (runB w) (runC w)
end
theorem us0 {α : Type} {us : List α} (hl : us.length = 0) : us = [] := by
  match us, hl with
  | [], _ => exact rfl
theorem us1 {α : Type} {us : List α} (hl : us.length = 1) : ∃ a0, us = [a0] := by
  match us, hl with
  | [a0], _ => exact ⟨a0, rfl⟩
theorem us2 {α : Type} {us : List α} (hl : us.length = 2) : ∃ a0 a1, us = [a0, a1] := by
  match us, hl with
  | [a0, a1], _ => exact ⟨a0, a1, rfl⟩
theorem us3 {α : Type} {us : List α} (hl : us.length = 3) : ∃ a0 a1 a2, us = [a0, a1, a2] := by
  match us, hl with
  | [a0, a1, a2], _ => exact ⟨a0, a1, a2, rfl⟩
theorem us4 {α : Type} {us : List α} (hl : us.length = 4) : ∃ a0 a1 a2 a3, us = [a0, a1, a2, a3] := by
  match us, hl with
  | [a0, a1, a2, a3], _ => exact ⟨a0, a1, a2, a3, rfl⟩
theorem us5 {α : Type} {us : List α} (hl : us.length = 5) : ∃ a0 a1 a2 a3 a4, us = [a0, a1, a2, a3, a4] := by
  match us, hl with
  | [a0, a1, a2, a3, a4], _ => exact ⟨a0, a1, a2, a3, a4, rfl⟩
theorem us6 {α : Type} {us : List α} (hl : us.length = 6) : ∃ a0 a1 a2 a3 a4 a5, us = [a0, a1, a2, a3, a4, a5] := by
  match us, hl with
  | [a0, a1, a2, a3, a4, a5], _ => exact ⟨a0, a1, a2, a3, a4, a5, rfl⟩
theorem us7 {α : Type} {us : List α} (hl : us.length = 7) : ∃ a0 a1 a2 a3 a4 a5 a6, us = [a0, a1, a2, a3, a4, a5, a6] := by
  match us, hl with
  | [a0, a1, a2, a3, a4, a5, a6], _ => exact ⟨a0, a1, a2, a3, a4, a5, a6, rfl⟩
theorem all_mk {l : PySem.W.OpenLaw} {w : World} {K : PySem.W.Frag} {h : Heap} {mg : Str → Option Value} {fa : Addr} (X : K.In h) (G : h.Ns mainGlobals mg) (hfa : mg "law" = some (.ref fa))
    {C_Sum : Addr}
    {f0 : Addr} {od0 an0 : Option Addr} {sl0 : Array (Option Value)} {oc0 kV0 dc0 pm0 cd0 ct0 : Value}
    (a0 : PySem.W.nsIn K mainGlobals "_wall" = some (some (.ref f0)))
    (l0 : K.lookup f0 = some ⟨oc0, od0, .func (PySem.W.fnOf "_wall" "_wall" (defArgs s_wall) (defBody s_wall) (defScope s_wall) .none kV0 dc0 pm0 an0 cd0 ct0), sl0⟩) (c0 : PySem.W.codeIn K cd0 "_wall" = true) (k0 : PySem.W.keepIn K (.ref f0) = true)
    {f1 : Addr} {od1 an1 : Option Addr} {sl1 : Array (Option Value)} {oc1 kV1 dc1 pm1 cd1 ct1 : Value}
    (a1 : PySem.W.nsIn K mainGlobals "is_integer" = some (some (.ref f1)))
    (l1 : K.lookup f1 = some ⟨oc1, od1, .func (PySem.W.fnOf "is_integer" "is_integer" (defArgs s_is_integer) (defBody s_is_integer) (defScope s_is_integer) .none kV1 dc1 pm1 an1 cd1 ct1), sl1⟩) (c1 : PySem.W.codeIn K cd1 "is_integer" = true) (k1 : PySem.W.keepIn K (.ref f1) = true)
    {f2 : Addr} {od2 an2 : Option Addr} {sl2 : Array (Option Value)} {oc2 kV2 dc2 pm2 cd2 ct2 : Value}
    (a2 : PySem.W.nsIn K mainGlobals "is_within" = some (some (.ref f2)))
    (l2 : K.lookup f2 = some ⟨oc2, od2, .func (PySem.W.fnOf "is_within" "is_within" (defArgs s_is_within) (defBody s_is_within) (defScope s_is_within) .none kV2 dc2 pm2 an2 cd2 ct2), sl2⟩) (c2 : PySem.W.codeIn K cd2 "is_within" = true) (k2 : PySem.W.keepIn K (.ref f2) = true)
    {f3 : Addr} {od3 an3 : Option Addr} {sl3 : Array (Option Value)} {oc3 kV3 dc3 pm3 cd3 ct3 : Value}
    (a3 : PySem.W.nsIn K mainGlobals "need_number" = some (some (.ref f3)))
    (l3 : K.lookup f3 = some ⟨oc3, od3, .func (PySem.W.fnOf "need_number" "need_number" (defArgs s_need_number) (defBody s_need_number) (defScope s_need_number) .none kV3 dc3 pm3 an3 cd3 ct3), sl3⟩) (c3 : PySem.W.codeIn K cd3 "need_number" = true) (k3 : PySem.W.keepIn K (.ref f3) = true)
    {f4 : Addr} {od4 an4 : Option Addr} {sl4 : Array (Option Value)} {oc4 kV4 dc4 pm4 cd4 ct4 : Value}
    (a4 : PySem.W.nsIn K mainGlobals "is_row" = some (some (.ref f4)))
    (l4 : K.lookup f4 = some ⟨oc4, od4, .func (PySem.W.fnOf "is_row" "is_row" (defArgs s_is_row) (defBody s_is_row) (defScope s_is_row) .none kV4 dc4 pm4 an4 cd4 ct4), sl4⟩) (c4 : PySem.W.codeIn K cd4 "is_row" = true) (k4 : PySem.W.keepIn K (.ref f4) = true)
    {f5 : Addr} {od5 an5 : Option Addr} {sl5 : Array (Option Value)} {oc5 kV5 dc5 pm5 cd5 ct5 : Value}
    (a5 : PySem.W.nsIn K mainGlobals "is_pair" = some (some (.ref f5)))
    (l5 : K.lookup f5 = some ⟨oc5, od5, .func (PySem.W.fnOf "is_pair" "is_pair" (defArgs s_is_pair) (defBody s_is_pair) (defScope s_is_pair) .none kV5 dc5 pm5 an5 cd5 ct5), sl5⟩) (c5 : PySem.W.codeIn K cd5 "is_pair" = true) (k5 : PySem.W.keepIn K (.ref f5) = true)
    {f6 : Addr} {od6 an6 : Option Addr} {sl6 : Array (Option Value)} {oc6 kV6 dc6 pm6 cd6 ct6 : Value}
    (a6 : PySem.W.nsIn K mainGlobals "lead_of" = some (some (.ref f6)))
    (l6 : K.lookup f6 = some ⟨oc6, od6, .func (PySem.W.fnOf "lead_of" "lead_of" (defArgs s_lead_of) (defBody s_lead_of) (defScope s_lead_of) .none kV6 dc6 pm6 an6 cd6 ct6), sl6⟩) (c6 : PySem.W.codeIn K cd6 "lead_of" = true) (k6 : PySem.W.keepIn K (.ref f6) = true)
    {f7 : Addr} {od7 an7 : Option Addr} {sl7 : Array (Option Value)} {oc7 kV7 dc7 pm7 cd7 ct7 : Value}
    (a7 : PySem.W.nsIn K mainGlobals "powers_of" = some (some (.ref f7)))
    (l7 : K.lookup f7 = some ⟨oc7, od7, .func (PySem.W.fnOf "powers_of" "powers_of" (defArgs s_powers_of) (defBody s_powers_of) (defScope s_powers_of) .none kV7 dc7 pm7 an7 cd7 ct7), sl7⟩) (c7 : PySem.W.codeIn K cd7 "powers_of" = true) (k7 : PySem.W.keepIn K (.ref f7) = true)
    {f8 : Addr} {od8 an8 : Option Addr} {sl8 : Array (Option Value)} {oc8 kV8 dc8 pm8 cd8 ct8 : Value}
    (a8 : PySem.W.nsIn K mainGlobals "packed_counts" = some (some (.ref f8)))
    (l8 : K.lookup f8 = some ⟨oc8, od8, .func (PySem.W.fnOf "packed_counts" "packed_counts" (defArgs s_packed_counts) (defBody s_packed_counts) (defScope s_packed_counts) .none kV8 dc8 pm8 an8 cd8 ct8), sl8⟩) (c8 : PySem.W.codeIn K cd8 "packed_counts" = true) (k8 : PySem.W.keepIn K (.ref f8) = true)
    {f9 : Addr} {od9 an9 : Option Addr} {sl9 : Array (Option Value)} {oc9 kV9 dc9 pm9 cd9 ct9 : Value}
    (a9 : PySem.W.nsIn K mainGlobals "lowest_bits" = some (some (.ref f9)))
    (l9 : K.lookup f9 = some ⟨oc9, od9, .func (PySem.W.fnOf "lowest_bits" "lowest_bits" (defArgs s_lowest_bits) (defBody s_lowest_bits) (defScope s_lowest_bits) .none kV9 dc9 pm9 an9 cd9 ct9), sl9⟩) (c9 : PySem.W.codeIn K cd9 "lowest_bits" = true) (k9 : PySem.W.keepIn K (.ref f9) = true)
    {f10 : Addr} {od10 an10 : Option Addr} {sl10 : Array (Option Value)} {oc10 kV10 dc10 pm10 cd10 ct10 : Value}
    (a10 : PySem.W.nsIn K mainGlobals "box_count" = some (some (.ref f10)))
    (l10 : K.lookup f10 = some ⟨oc10, od10, .func (PySem.W.fnOf "box_count" "box_count" (defArgs s_box_count) (defBody s_box_count) (defScope s_box_count) .none kV10 dc10 pm10 an10 cd10 ct10), sl10⟩) (c10 : PySem.W.codeIn K cd10 "box_count" = true) (k10 : PySem.W.keepIn K (.ref f10) = true)
    {f11 : Addr} {od11 an11 : Option Addr} {sl11 : Array (Option Value)} {oc11 kV11 dc11 pm11 cd11 ct11 : Value}
    (a11 : PySem.W.nsIn K mainGlobals "filled" = some (some (.ref f11)))
    (l11 : K.lookup f11 = some ⟨oc11, od11, .func (PySem.W.fnOf "filled" "filled" (defArgs s_filled) (defBody s_filled) (defScope s_filled) .none kV11 dc11 pm11 an11 cd11 ct11), sl11⟩) (c11 : PySem.W.codeIn K cd11 "filled" = true) (k11 : PySem.W.keepIn K (.ref f11) = true)
    {f12 : Addr} {od12 an12 : Option Addr} {sl12 : Array (Option Value)} {oc12 kV12 dc12 pm12 cd12 ct12 : Value}
    (a12 : PySem.W.nsIn K mainGlobals "box_behind" = some (some (.ref f12)))
    (l12 : K.lookup f12 = some ⟨oc12, od12, .func (PySem.W.fnOf "box_behind" "box_behind" (defArgs s_box_behind) (defBody s_box_behind) (defScope s_box_behind) .none kV12 dc12 pm12 an12 cd12 ct12), sl12⟩) (c12 : PySem.W.codeIn K cd12 "box_behind" = true) (k12 : PySem.W.keepIn K (.ref f12) = true)
    {f13 : Addr} {od13 an13 : Option Addr} {sl13 : Array (Option Value)} {oc13 kV13 dc13 pm13 cd13 ct13 : Value}
    (a13 : PySem.W.nsIn K mainGlobals "boxes" = some (some (.ref f13)))
    (l13 : K.lookup f13 = some ⟨oc13, od13, .func (PySem.W.fnOf "boxes" "boxes" (defArgs s_boxes) (defBody s_boxes) (defScope s_boxes) .none kV13 dc13 pm13 an13 cd13 ct13), sl13⟩) (c13 : PySem.W.codeIn K cd13 "boxes" = true) (k13 : PySem.W.keepIn K (.ref f13) = true)
    {f14 : Addr} {od14 an14 : Option Addr} {sl14 : Array (Option Value)} {oc14 kV14 dc14 pm14 cd14 ct14 : Value}
    (a14 : PySem.W.nsIn K mainGlobals "is_box" = some (some (.ref f14)))
    (l14 : K.lookup f14 = some ⟨oc14, od14, .func (PySem.W.fnOf "is_box" "is_box" (defArgs s_is_box) (defBody s_is_box) (defScope s_is_box) .none kV14 dc14 pm14 an14 cd14 ct14), sl14⟩) (c14 : PySem.W.codeIn K cd14 "is_box" = true) (k14 : PySem.W.keepIn K (.ref f14) = true)
    {f15 : Addr} {od15 an15 : Option Addr} {sl15 : Array (Option Value)} {oc15 kV15 dc15 pm15 cd15 ct15 : Value}
    (a15 : PySem.W.nsIn K mainGlobals "need_box" = some (some (.ref f15)))
    (l15 : K.lookup f15 = some ⟨oc15, od15, .func (PySem.W.fnOf "need_box" "need_box" (defArgs s_need_box) (defBody s_need_box) (defScope s_need_box) .none kV15 dc15 pm15 an15 cd15 ct15), sl15⟩) (c15 : PySem.W.codeIn K cd15 "need_box" = true) (k15 : PySem.W.keepIn K (.ref f15) = true)
    {f16 : Addr} {od16 an16 : Option Addr} {sl16 : Array (Option Value)} {oc16 kV16 dc16 pm16 cd16 ct16 : Value}
    (a16 : PySem.W.nsIn K mainGlobals "turned_box" = some (some (.ref f16)))
    (l16 : K.lookup f16 = some ⟨oc16, od16, .func (PySem.W.fnOf "turned_box" "turned_box" (defArgs s_turned_box) (defBody s_turned_box) (defScope s_turned_box) .none kV16 dc16 pm16 an16 cd16 ct16), sl16⟩) (c16 : PySem.W.codeIn K cd16 "turned_box" = true) (k16 : PySem.W.keepIn K (.ref f16) = true)
    {f17 : Addr} {od17 an17 : Option Addr} {sl17 : Array (Option Value)} {oc17 kV17 dc17 pm17 cd17 ct17 : Value}
    (a17 : PySem.W.nsIn K mainGlobals "left_box" = some (some (.ref f17)))
    (l17 : K.lookup f17 = some ⟨oc17, od17, .func (PySem.W.fnOf "left_box" "left_box" (defArgs s_left_box) (defBody s_left_box) (defScope s_left_box) .none kV17 dc17 pm17 an17 cd17 ct17), sl17⟩) (c17 : PySem.W.codeIn K cd17 "left_box" = true) (k17 : PySem.W.keepIn K (.ref f17) = true)
    {f18 : Addr} {od18 an18 : Option Addr} {sl18 : Array (Option Value)} {oc18 kV18 dc18 pm18 cd18 ct18 : Value}
    (a18 : PySem.W.nsIn K mainGlobals "product_row" = some (some (.ref f18)))
    (l18 : K.lookup f18 = some ⟨oc18, od18, .func (PySem.W.fnOf "product_row" "product_row" (defArgs s_product_row) (defBody s_product_row) (defScope s_product_row) .none kV18 dc18 pm18 an18 cd18 ct18), sl18⟩) (c18 : PySem.W.codeIn K cd18 "product_row" = true) (k18 : PySem.W.keepIn K (.ref f18) = true)
    {f19 : Addr} {od19 an19 : Option Addr} {sl19 : Array (Option Value)} {oc19 kV19 dc19 pm19 cd19 ct19 : Value}
    (a19 : PySem.W.nsIn K mainGlobals "sum_row" = some (some (.ref f19)))
    (l19 : K.lookup f19 = some ⟨oc19, od19, .func (PySem.W.fnOf "sum_row" "sum_row" (defArgs s_sum_row) (defBody s_sum_row) (defScope s_sum_row) .none kV19 dc19 pm19 an19 cd19 ct19), sl19⟩) (c19 : PySem.W.codeIn K cd19 "sum_row" = true) (k19 : PySem.W.keepIn K (.ref f19) = true)
    {f20 : Addr} {od20 an20 : Option Addr} {sl20 : Array (Option Value)} {oc20 kV20 dc20 pm20 cd20 ct20 : Value}
    (a20 : PySem.W.nsIn K mainGlobals "multiple_row" = some (some (.ref f20)))
    (l20 : K.lookup f20 = some ⟨oc20, od20, .func (PySem.W.fnOf "multiple_row" "multiple_row" (defArgs s_multiple_row) (defBody s_multiple_row) (defScope s_multiple_row) .none kV20 dc20 pm20 an20 cd20 ct20), sl20⟩) (c20 : PySem.W.codeIn K cd20 "multiple_row" = true) (k20 : PySem.W.keepIn K (.ref f20) = true)
    {f21 : Addr} {od21 an21 : Option Addr} {sl21 : Array (Option Value)} {oc21 kV21 dc21 pm21 cd21 ct21 : Value}
    (a21 : PySem.W.nsIn K mainGlobals "power_row" = some (some (.ref f21)))
    (l21 : K.lookup f21 = some ⟨oc21, od21, .func (PySem.W.fnOf "power_row" "power_row" (defArgs s_power_row) (defBody s_power_row) (defScope s_power_row) .none kV21 dc21 pm21 an21 cd21 ct21), sl21⟩) (c21 : PySem.W.codeIn K cd21 "power_row" = true) (k21 : PySem.W.keepIn K (.ref f21) = true)
    {f22 : Addr} {od22 an22 : Option Addr} {sl22 : Array (Option Value)} {oc22 kV22 dc22 pm22 cd22 ct22 : Value}
    (a22 : PySem.W.nsIn K mainGlobals "row_value" = some (some (.ref f22)))
    (l22 : K.lookup f22 = some ⟨oc22, od22, .func (PySem.W.fnOf "row_value" "row_value" (defArgs s_row_value) (defBody s_row_value) (defScope s_row_value) .none kV22 dc22 pm22 an22 cd22 ct22), sl22⟩) (c22 : PySem.W.codeIn K cd22 "row_value" = true) (k22 : PySem.W.keepIn K (.ref f22) = true)
    {f23 : Addr} {od23 an23 : Option Addr} {sl23 : Array (Option Value)} {oc23 kV23 dc23 pm23 cd23 ct23 : Value}
    (a23 : PySem.W.nsIn K mainGlobals "made_form" = some (some (.ref f23)))
    (l23 : K.lookup f23 = some ⟨oc23, od23, .func (PySem.W.fnOf "made_form" "made_form" (defArgs s_made_form) (defBody s_made_form) (defScope s_made_form) .none kV23 dc23 pm23 an23 cd23 ct23), sl23⟩) (c23 : PySem.W.codeIn K cd23 "made_form" = true) (k23 : PySem.W.keepIn K (.ref f23) = true)
    {f24 : Addr} {od24 an24 : Option Addr} {sl24 : Array (Option Value)} {oc24 kV24 dc24 pm24 cd24 ct24 : Value}
    (a24 : PySem.W.nsIn K mainGlobals "need_one_degree" = some (some (.ref f24)))
    (l24 : K.lookup f24 = some ⟨oc24, od24, .func (PySem.W.fnOf "need_one_degree" "need_one_degree" (defArgs s_need_one_degree) (defBody s_need_one_degree) (defScope s_need_one_degree) .none kV24 dc24 pm24 an24 cd24 ct24), sl24⟩) (c24 : PySem.W.codeIn K cd24 "need_one_degree" = true) (k24 : PySem.W.keepIn K (.ref f24) = true)
    {f25 : Addr} {od25 an25 : Option Addr} {sl25 : Array (Option Value)} {oc25 kV25 dc25 pm25 cd25 ct25 : Value}
    (a25 : PySem.W.nsIn K mainGlobals "weight_of" = some (some (.ref f25)))
    (l25 : K.lookup f25 = some ⟨oc25, od25, .func (PySem.W.fnOf "weight_of" "weight_of" (defArgs s_weight_of) (defBody s_weight_of) (defScope s_weight_of) .none kV25 dc25 pm25 an25 cd25 ct25), sl25⟩) (c25 : PySem.W.codeIn K cd25 "weight_of" = true) (k25 : PySem.W.keepIn K (.ref f25) = true)
    {f26 : Addr} {od26 an26 : Option Addr} {sl26 : Array (Option Value)} {oc26 kV26 dc26 pm26 cd26 ct26 : Value}
    (a26 : PySem.W.nsIn K mainGlobals "first_of" = some (some (.ref f26)))
    (l26 : K.lookup f26 = some ⟨oc26, od26, .func (PySem.W.fnOf "first_of" "first_of" (defArgs s_first_of) (defBody s_first_of) (defScope s_first_of) .none kV26 dc26 pm26 an26 cd26 ct26), sl26⟩) (c26 : PySem.W.codeIn K cd26 "first_of" = true) (k26 : PySem.W.keepIn K (.ref f26) = true)
    {f27 : Addr} {od27 an27 : Option Addr} {sl27 : Array (Option Value)} {oc27 kV27 dc27 pm27 cd27 ct27 : Value}
    (a27 : PySem.W.nsIn K mainGlobals "are_exponents" = some (some (.ref f27)))
    (l27 : K.lookup f27 = some ⟨oc27, od27, .func (PySem.W.fnOf "are_exponents" "are_exponents" (defArgs s_are_exponents) (defBody s_are_exponents) (defScope s_are_exponents) .none kV27 dc27 pm27 an27 cd27 ct27), sl27⟩) (c27 : PySem.W.codeIn K cd27 "are_exponents" = true) (k27 : PySem.W.keepIn K (.ref f27) = true)
    {f28 : Addr} {od28 an28 : Option Addr} {sl28 : Array (Option Value)} {oc28 kV28 dc28 pm28 cd28 ct28 : Value}
    (a28 : PySem.W.nsIn K mainGlobals "are_terms" = some (some (.ref f28)))
    (l28 : K.lookup f28 = some ⟨oc28, od28, .func (PySem.W.fnOf "are_terms" "are_terms" (defArgs s_are_terms) (defBody s_are_terms) (defScope s_are_terms) .none kV28 dc28 pm28 an28 cd28 ct28), sl28⟩) (c28 : PySem.W.codeIn K cd28 "are_terms" = true) (k28 : PySem.W.keepIn K (.ref f28) = true)
    {f29 : Addr} {od29 an29 : Option Addr} {sl29 : Array (Option Value)} {oc29 kV29 dc29 pm29 cd29 ct29 : Value}
    (a29 : PySem.W.nsIn K mainGlobals "tidy" = some (some (.ref f29)))
    (l29 : K.lookup f29 = some ⟨oc29, od29, .func (PySem.W.fnOf "tidy" "tidy" (defArgs s_tidy) (defBody s_tidy) (defScope s_tidy) .none kV29 dc29 pm29 an29 cd29 ct29), sl29⟩) (c29 : PySem.W.codeIn K cd29 "tidy" = true) (k29 : PySem.W.keepIn K (.ref f29) = true)
    {f30 : Addr} {od30 an30 : Option Addr} {sl30 : Array (Option Value)} {oc30 kV30 dc30 pm30 cd30 ct30 : Value}
    (a30 : PySem.W.nsIn K mainGlobals "added_terms" = some (some (.ref f30)))
    (l30 : K.lookup f30 = some ⟨oc30, od30, .func (PySem.W.fnOf "added_terms" "added_terms" (defArgs s_added_terms) (defBody s_added_terms) (defScope s_added_terms) .none kV30 dc30 pm30 an30 cd30 ct30), sl30⟩) (c30 : PySem.W.codeIn K cd30 "added_terms" = true) (k30 : PySem.W.keepIn K (.ref f30) = true)
    {f31 : Addr} {od31 an31 : Option Addr} {sl31 : Array (Option Value)} {oc31 kV31 dc31 pm31 cd31 ct31 : Value}
    (a31 : PySem.W.nsIn K mainGlobals "packed" = some (some (.ref f31)))
    (l31 : K.lookup f31 = some ⟨oc31, od31, .func (PySem.W.fnOf "packed" "packed" (defArgs s_packed) (defBody s_packed) (defScope s_packed) .none kV31 dc31 pm31 an31 cd31 ct31), sl31⟩) (c31 : PySem.W.codeIn K cd31 "packed" = true) (k31 : PySem.W.keepIn K (.ref f31) = true)
    {f32 : Addr} {od32 an32 : Option Addr} {sl32 : Array (Option Value)} {oc32 kV32 dc32 pm32 cd32 ct32 : Value}
    (a32 : PySem.W.nsIn K mainGlobals "unpacked" = some (some (.ref f32)))
    (l32 : K.lookup f32 = some ⟨oc32, od32, .func (PySem.W.fnOf "unpacked" "unpacked" (defArgs s_unpacked) (defBody s_unpacked) (defScope s_unpacked) .none kV32 dc32 pm32 an32 cd32 ct32), sl32⟩) (c32 : PySem.W.codeIn K cd32 "unpacked" = true) (k32 : PySem.W.keepIn K (.ref f32) = true)
    {f33 : Addr} {od33 an33 : Option Addr} {sl33 : Array (Option Value)} {oc33 kV33 dc33 pm33 cd33 ct33 : Value}
    (a33 : PySem.W.nsIn K mainGlobals "product_terms" = some (some (.ref f33)))
    (l33 : K.lookup f33 = some ⟨oc33, od33, .func (PySem.W.fnOf "product_terms" "product_terms" (defArgs s_product_terms) (defBody s_product_terms) (defScope s_product_terms) .none kV33 dc33 pm33 an33 cd33 ct33), sl33⟩) (c33 : PySem.W.codeIn K cd33 "product_terms" = true) (k33 : PySem.W.keepIn K (.ref f33) = true)
    {f34 : Addr} {od34 an34 : Option Addr} {sl34 : Array (Option Value)} {oc34 kV34 dc34 pm34 cd34 ct34 : Value}
    (a34 : PySem.W.nsIn K mainGlobals "made_sum" = some (some (.ref f34)))
    (l34 : K.lookup f34 = some ⟨oc34, od34, .func (PySem.W.fnOf "made_sum" "made_sum" (defArgs s_made_sum) (defBody s_made_sum) (defScope s_made_sum) .none kV34 dc34 pm34 an34 cd34 ct34), sl34⟩) (c34 : PySem.W.codeIn K cd34 "made_sum" = true) (k34 : PySem.W.keepIn K (.ref f34) = true)
    {f35 : Addr} {od35 an35 : Option Addr} {sl35 : Array (Option Value)} {oc35 kV35 dc35 pm35 cd35 ct35 : Value}
    (a35 : PySem.W.nsIn K mainGlobals "need_like" = some (some (.ref f35)))
    (l35 : K.lookup f35 = some ⟨oc35, od35, .func (PySem.W.fnOf "need_like" "need_like" (defArgs s_need_like) (defBody s_need_like) (defScope s_need_like) .none kV35 dc35 pm35 an35 cd35 ct35), sl35⟩) (c35 : PySem.W.codeIn K cd35 "need_like" = true) (k35 : PySem.W.keepIn K (.ref f35) = true)
    {f36 : Addr} {od36 an36 : Option Addr} {sl36 : Array (Option Value)} {oc36 kV36 dc36 pm36 cd36 ct36 : Value}
    (a36 : PySem.W.nsIn K mainGlobals "need_product" = some (some (.ref f36)))
    (l36 : K.lookup f36 = some ⟨oc36, od36, .func (PySem.W.fnOf "need_product" "need_product" (defArgs s_need_product) (defBody s_need_product) (defScope s_need_product) .none kV36 dc36 pm36 an36 cd36 ct36), sl36⟩) (c36 : PySem.W.codeIn K cd36 "need_product" = true) (k36 : PySem.W.keepIn K (.ref f36) = true)
    {f37 : Addr} {od37 an37 : Option Addr} {sl37 : Array (Option Value)} {oc37 kV37 dc37 pm37 cd37 ct37 : Value}
    (a37 : PySem.W.nsIn K mainGlobals "_law_dice" = some (some (.ref f37)))
    (l37 : K.lookup f37 = some ⟨oc37, od37, .func (PySem.W.fnOf "_law_dice" "_law_dice" (defArgs s_law_dice) (defBody s_law_dice) (defScope s_law_dice) .none kV37 dc37 pm37 an37 cd37 ct37), sl37⟩) (c37 : PySem.W.codeIn K cd37 "_law_dice" = true) (k37 : PySem.W.keepIn K (.ref f37) = true)
    {f38 : Addr} {od38 an38 : Option Addr} {sl38 : Array (Option Value)} {oc38 kV38 dc38 pm38 cd38 ct38 : Value}
    (a38 : PySem.W.nsIn K mainGlobals "_law_roll" = some (some (.ref f38)))
    (l38 : K.lookup f38 = some ⟨oc38, od38, .func (PySem.W.fnOf "_law_roll" "_law_roll" (defArgs s_law_roll) (defBody s_law_roll) (defScope s_law_roll) .none kV38 dc38 pm38 an38 cd38 ct38), sl38⟩) (c38 : PySem.W.codeIn K cd38 "_law_roll" = true) (k38 : PySem.W.keepIn K (.ref f38) = true)
    {f39 : Addr} {od39 an39 : Option Addr} {sl39 : Array (Option Value)} {oc39 kV39 dc39 pm39 cd39 ct39 : Value}
    (a39 : PySem.W.nsIn K mainGlobals "_law_keys" = some (some (.ref f39)))
    (l39 : K.lookup f39 = some ⟨oc39, od39, .func (PySem.W.fnOf "_law_keys" "_law_keys" (defArgs s_law_keys) (defBody s_law_keys) (defScope s_law_keys) .none kV39 dc39 pm39 an39 cd39 ct39), sl39⟩) (c39 : PySem.W.codeIn K cd39 "_law_keys" = true) (k39 : PySem.W.keepIn K (.ref f39) = true)
    {f40 : Addr} {od40 an40 : Option Addr} {sl40 : Array (Option Value)} {oc40 kV40 dc40 pm40 cd40 ct40 : Value}
    (a40 : PySem.W.nsIn K mainGlobals "_law_box_of" = some (some (.ref f40)))
    (l40 : K.lookup f40 = some ⟨oc40, od40, .func (PySem.W.fnOf "_law_box_of" "_law_box_of" (defArgs s_law_box_of) (defBody s_law_box_of) (defScope s_law_box_of) .none kV40 dc40 pm40 an40 cd40 ct40), sl40⟩) (c40 : PySem.W.codeIn K cd40 "_law_box_of" = true) (k40 : PySem.W.keepIn K (.ref f40) = true)
    {f41 : Addr} {od41 an41 : Option Addr} {sl41 : Array (Option Value)} {oc41 kV41 dc41 pm41 cd41 ct41 : Value}
    (a41 : PySem.W.nsIn K mainGlobals "_law_key_of" = some (some (.ref f41)))
    (l41 : K.lookup f41 = some ⟨oc41, od41, .func (PySem.W.fnOf "_law_key_of" "_law_key_of" (defArgs s_law_key_of) (defBody s_law_key_of) (defScope s_law_key_of) .none kV41 dc41 pm41 an41 cd41 ct41), sl41⟩) (c41 : PySem.W.codeIn K cd41 "_law_key_of" = true) (k41 : PySem.W.keepIn K (.ref f41) = true)
    {f42 : Addr} {od42 an42 : Option Addr} {sl42 : Array (Option Value)} {oc42 kV42 dc42 pm42 cd42 ct42 : Value}
    (a42 : PySem.W.nsIn K mainGlobals "_law_right" = some (some (.ref f42)))
    (l42 : K.lookup f42 = some ⟨oc42, od42, .func (PySem.W.fnOf "_law_right" "_law_right" (defArgs s_law_right) (defBody s_law_right) (defScope s_law_right) .none kV42 dc42 pm42 an42 cd42 ct42), sl42⟩) (c42 : PySem.W.codeIn K cd42 "_law_right" = true) (k42 : PySem.W.keepIn K (.ref f42) = true)
    {f43 : Addr} {od43 an43 : Option Addr} {sl43 : Array (Option Value)} {oc43 kV43 dc43 pm43 cd43 ct43 : Value}
    (a43 : PySem.W.nsIn K mainGlobals "law" = some (some (.ref f43)))
    (l43 : K.lookup f43 = some ⟨oc43, od43, .func (PySem.W.fnOf "law" "law" (defArgs s_law) (defBody s_law) (defScope s_law) .none kV43 dc43 pm43 an43 cd43 ct43), sl43⟩) (c43 : PySem.W.codeIn K cd43 "law" = true) (k43 : PySem.W.keepIn K (.ref f43) = true)
    {f44 : Addr} {od44 an44 : Option Addr} {sl44 : Array (Option Value)} {oc44 kV44 dc44 pm44 cd44 ct44 : Value}
    (a44 : PySem.W.findIn K (.ref C_Sum) "__init__" = some (some (.ref f44))) (j44 : PySem.W.isFn K (.ref f44) = true)
    (l44 : K.lookup f44 = some ⟨oc44, od44, .func (PySem.W.fnOf "__init__" "Sum.__init__" (defArgs s_Sum___init__) (defBody s_Sum___init__) (defScope s_Sum___init__) .none kV44 dc44 pm44 an44 cd44 ct44), sl44⟩) (c44 : PySem.W.codeIn K cd44 "Sum.__init__" = true) (k44 : PySem.W.keepIn K (.ref f44) = true)
    {pa45 : Addr} {rest45 : List Value}
    {f45 : Addr} {od45 an45 : Option Addr} {sl45 : Array (Option Value)} {oc45 kV45 dc45 pm45 cd45 ct45 : Value}
    (a45 : PySem.W.findIn K (.ref C_Sum) "size" = some (some (.ref pa45))) (g45 : PySem.W.specialIn K (.ref pa45) "__get__" = some (some (.builtin "property.__get__"))) (t45 : PySem.W.takesIn K (.ref pa45) = some true) (r45 : PySem.W.recIn K pa45 "property" = some (.ref f45 :: rest45))
    (l45 : K.lookup f45 = some ⟨oc45, od45, .func (PySem.W.fnOf "size" "Sum.size" (defArgs s_Sum_size) (defBody s_Sum_size) (defScope s_Sum_size) .none kV45 dc45 pm45 an45 cd45 ct45), sl45⟩) (c45 : PySem.W.codeIn K cd45 "Sum.size" = true) (k45 : PySem.W.keepIn K (.ref f45) = true)
    {pa46 : Addr} {rest46 : List Value}
    {f46 : Addr} {od46 an46 : Option Addr} {sl46 : Array (Option Value)} {oc46 kV46 dc46 pm46 cd46 ct46 : Value}
    (a46 : PySem.W.findIn K (.ref C_Sum) "weight" = some (some (.ref pa46))) (g46 : PySem.W.specialIn K (.ref pa46) "__get__" = some (some (.builtin "property.__get__"))) (t46 : PySem.W.takesIn K (.ref pa46) = some true) (r46 : PySem.W.recIn K pa46 "property" = some (.ref f46 :: rest46))
    (l46 : K.lookup f46 = some ⟨oc46, od46, .func (PySem.W.fnOf "weight" "Sum.weight" (defArgs s_Sum_weight) (defBody s_Sum_weight) (defScope s_Sum_weight) .none kV46 dc46 pm46 an46 cd46 ct46), sl46⟩) (c46 : PySem.W.codeIn K cd46 "Sum.weight" = true) (k46 : PySem.W.keepIn K (.ref f46) = true)
    {pa47 : Addr} {rest47 : List Value}
    {f47 : Addr} {od47 an47 : Option Addr} {sl47 : Array (Option Value)} {oc47 kV47 dc47 pm47 cd47 ct47 : Value}
    (a47 : PySem.W.findIn K (.ref C_Sum) "order" = some (some (.ref pa47))) (g47 : PySem.W.specialIn K (.ref pa47) "__get__" = some (some (.builtin "property.__get__"))) (t47 : PySem.W.takesIn K (.ref pa47) = some true) (r47 : PySem.W.recIn K pa47 "property" = some (.ref f47 :: rest47))
    (l47 : K.lookup f47 = some ⟨oc47, od47, .func (PySem.W.fnOf "order" "Sum.order" (defArgs s_Sum_order) (defBody s_Sum_order) (defScope s_Sum_order) .none kV47 dc47 pm47 an47 cd47 ct47), sl47⟩) (c47 : PySem.W.codeIn K cd47 "Sum.order" = true) (k47 : PySem.W.keepIn K (.ref f47) = true)
    {f48 : Addr} {od48 an48 : Option Addr} {sl48 : Array (Option Value)} {oc48 kV48 dc48 pm48 cd48 ct48 : Value}
    (a48 : PySem.W.findIn K (.ref C_Sum) "__len__" = some (some (.ref f48))) (j48 : PySem.W.isFn K (.ref f48) = true)
    (l48 : K.lookup f48 = some ⟨oc48, od48, .func (PySem.W.fnOf "__len__" "Sum.__len__" (defArgs s_Sum___len__) (defBody s_Sum___len__) (defScope s_Sum___len__) .none kV48 dc48 pm48 an48 cd48 ct48), sl48⟩) (c48 : PySem.W.codeIn K cd48 "Sum.__len__" = true) (k48 : PySem.W.keepIn K (.ref f48) = true)
    (aC_Sum : PySem.W.nsIn K mainGlobals "Sum" = some (some (.ref C_Sum))) (pg_Sum : PySem.W.plainGet K C_Sum Str.empty = true) (hd_Sum : PySem.W.hasDictIn K C_Sum = true) (po_Sum : PySem.W.plainOver K C_Sum = true) (sa_Sum : PySem.W.findIn K (.ref C_Sum) "__setattr__" = some (some (.builtin "object.__setattr__")))
    (mk_Sum : PySem.W.makesIn K C_Sum = true) (kc_Sum : PySem.W.keepIn K (.ref C_Sum) = true) (sf_Sum : PySem.W.selfFirst K C_Sum = true) (nf_Sum : PySem.W.notFirst K C_Sum (.ref C_Sum) = true)
    (no_Sum_degree : PySem.W.findIn K (.ref C_Sum) "_degree" = some none)
    (no_Sum_terms : PySem.W.findIn K (.ref C_Sum) "_terms" = some none)
    (z0 : PySem.W.nsIn K mainGlobals "abs" = some none)
    (z1 : PySem.W.nsIn K mainGlobals "all" = some none)
    (z2 : PySem.W.nsIn K mainGlobals "bool" = some none)
    (z3 : PySem.W.nsIn K mainGlobals "dict" = some none)
    (z4 : PySem.W.nsIn K mainGlobals "enumerate" = some none)
    (z5 : PySem.W.nsIn K mainGlobals "int" = some none)
    (z6 : PySem.W.nsIn K mainGlobals "isinstance" = some none)
    (z7 : PySem.W.nsIn K mainGlobals "len" = some none)
    (z8 : PySem.W.nsIn K mainGlobals "list" = some none)
    (z9 : PySem.W.nsIn K mainGlobals "max" = some none)
    (z10 : PySem.W.nsIn K mainGlobals "min" = some none)
    (z11 : PySem.W.nsIn K mainGlobals "property" = some none)
    (z12 : PySem.W.nsIn K mainGlobals "range" = some none)
    (z13 : PySem.W.nsIn K mainGlobals "reversed" = some none)
    (z14 : PySem.W.nsIn K mainGlobals "sorted" = some none)
    (z15 : PySem.W.nsIn K mainGlobals "sum" = some none)
    (z16 : PySem.W.nsIn K mainGlobals "tuple" = some none)
    (z17 : PySem.W.nsIn K mainGlobals "zip" = some none)
    (i0 : PySem.W.nsIn K mainGlobals "comb" = some (some (.builtin "math.comb")))
    {t0 : Tok} (q0 : PySem.W.nsIn K mainGlobals "TOO_LONG" = some (some (.int 1000000000000000000000000000000000000000000000000000000000000 t0)))
    {t1 : Tok} (q1 : PySem.W.nsIn K mainGlobals "MAX_PARTS" = some (some (.int 40 t1)))
    {t2 : Tok} (q2 : PySem.W.nsIn K mainGlobals "MAX_WEIGHT" = some (some (.int 1600 t2)))
    {t3 : Tok} (q3 : PySem.W.nsIn K mainGlobals "MAX_DEGREE" = some (some (.int 40 t3)))
    {t4 : Tok} (q4 : PySem.W.nsIn K mainGlobals "MAX_SUMMED" = some (some (.int 8 t4)))
    {t5 : Tok} (q5 : PySem.W.nsIn K mainGlobals "MAX_SIZE" = some (some (.int 12 t5)))
    {t6 : Tok} (q6 : PySem.W.nsIn K mainGlobals "MAX_TERMS" = some (some (.int 4000 t6)))
    : ∃ fd : FuncData, (∀ (s : Shared) (v : Value), BindsTo s fd ⟨[v], []⟩ [("_law_script", v)]) ∧ ∀ base : Heap, K.In base → base.Ns mainGlobals mg → FnOk l.prog w K mg base CX0 18 fa fd ["_law_script"] (sp_law K) := by
  have e := hfa.symm.trans (PySem.W.mg_of X G a43)
  cases e
  have F0 := fun_mk (st := s_wall) l0 c0 k0
  have b0 := F0.binds (ps := p_wall) fun _ _ _ _ _ _ us hl => by obtain ⟨_, rfl⟩ := us1 hl; rfl
  have F1 := fun_mk (st := s_is_integer) l1 c1 k1
  have b1 := F1.binds (ps := p_is_integer) fun _ _ _ _ _ _ us hl => by obtain ⟨_, rfl⟩ := us1 hl; rfl
  have F2 := fun_mk (st := s_is_within) l2 c2 k2
  have b2 := F2.binds (ps := p_is_within) fun _ _ _ _ _ _ us hl => by obtain ⟨_, _, _, rfl⟩ := us3 hl; rfl
  have F3 := fun_mk (st := s_need_number) l3 c3 k3
  have b3 := F3.binds (ps := p_need_number) fun _ _ _ _ _ _ us hl => by obtain ⟨_, _, _, rfl⟩ := us3 hl; rfl
  have F4 := fun_mk (st := s_is_row) l4 c4 k4
  have b4 := F4.binds (ps := p_is_row) fun _ _ _ _ _ _ us hl => by obtain ⟨_, rfl⟩ := us1 hl; rfl
  have F5 := fun_mk (st := s_is_pair) l5 c5 k5
  have b5 := F5.binds (ps := p_is_pair) fun _ _ _ _ _ _ us hl => by obtain ⟨_, rfl⟩ := us1 hl; rfl
  have F6 := fun_mk (st := s_lead_of) l6 c6 k6
  have b6 := F6.binds (ps := p_lead_of) fun _ _ _ _ _ _ us hl => by obtain ⟨_, rfl⟩ := us1 hl; rfl
  have F7 := fun_mk (st := s_powers_of) l7 c7 k7
  have b7 := F7.binds (ps := p_powers_of) fun _ _ _ _ _ _ us hl => by obtain ⟨_, _, rfl⟩ := us2 hl; rfl
  have F8 := fun_mk (st := s_packed_counts) l8 c8 k8
  have b8 := F8.binds (ps := p_packed_counts) fun _ _ _ _ _ _ us hl => by obtain ⟨_, _, _, rfl⟩ := us3 hl; rfl
  have F9 := fun_mk (st := s_lowest_bits) l9 c9 k9
  have b9 := F9.binds (ps := p_lowest_bits) fun _ _ _ _ _ _ us hl => by obtain ⟨_, _, rfl⟩ := us2 hl; rfl
  have F10 := fun_mk (st := s_box_count) l10 c10 k10
  have b10 := F10.binds (ps := p_box_count) fun _ _ _ _ _ _ us hl => by obtain ⟨_, _, _, rfl⟩ := us3 hl; rfl
  have F11 := fun_mk (st := s_filled) l11 c11 k11
  have b11 := F11.binds (ps := p_filled) fun _ _ _ _ _ _ us hl => by obtain ⟨_, _, rfl⟩ := us2 hl; rfl
  have F12 := fun_mk (st := s_box_behind) l12 c12 k12
  have b12 := F12.binds (ps := p_box_behind) fun _ _ _ _ _ _ us hl => by obtain ⟨_, _, rfl⟩ := us2 hl; rfl
  have F13 := fun_mk (st := s_boxes) l13 c13 k13
  have b13 := F13.binds (ps := p_boxes) fun _ _ _ _ _ _ us hl => by obtain ⟨_, _, _, rfl⟩ := us3 hl; rfl
  have F14 := fun_mk (st := s_is_box) l14 c14 k14
  have b14 := F14.binds (ps := p_is_box) fun _ _ _ _ _ _ us hl => by obtain ⟨_, rfl⟩ := us1 hl; rfl
  have F15 := fun_mk (st := s_need_box) l15 c15 k15
  have b15 := F15.binds (ps := p_need_box) fun _ _ _ _ _ _ us hl => by obtain ⟨_, rfl⟩ := us1 hl; rfl
  have F16 := fun_mk (st := s_turned_box) l16 c16 k16
  have b16 := F16.binds (ps := p_turned_box) fun _ _ _ _ _ _ us hl => by obtain ⟨_, rfl⟩ := us1 hl; rfl
  have F17 := fun_mk (st := s_left_box) l17 c17 k17
  have b17 := F17.binds (ps := p_left_box) fun _ _ _ _ _ _ us hl => by obtain ⟨_, _, _, rfl⟩ := us3 hl; rfl
  have F18 := fun_mk (st := s_product_row) l18 c18 k18
  have b18 := F18.binds (ps := p_product_row) fun _ _ _ _ _ _ us hl => by obtain ⟨_, _, rfl⟩ := us2 hl; rfl
  have F19 := fun_mk (st := s_sum_row) l19 c19 k19
  have b19 := F19.binds (ps := p_sum_row) fun _ _ _ _ _ _ us hl => by obtain ⟨_, _, rfl⟩ := us2 hl; rfl
  have F20 := fun_mk (st := s_multiple_row) l20 c20 k20
  have b20 := F20.binds (ps := p_multiple_row) fun _ _ _ _ _ _ us hl => by obtain ⟨_, _, rfl⟩ := us2 hl; rfl
  have F21 := fun_mk (st := s_power_row) l21 c21 k21
  have b21 := F21.binds (ps := p_power_row) fun _ _ _ _ _ _ us hl => by obtain ⟨_, _, _, rfl⟩ := us3 hl; rfl
  have F22 := fun_mk (st := s_row_value) l22 c22 k22
  have b22 := F22.binds (ps := p_row_value) fun _ _ _ _ _ _ us hl => by obtain ⟨_, _, _, rfl⟩ := us3 hl; rfl
  have F23 := fun_mk (st := s_made_form) l23 c23 k23
  have b23 := F23.binds (ps := p_made_form) fun _ _ _ _ _ _ us hl => by obtain ⟨_, rfl⟩ := us1 hl; rfl
  have F24 := fun_mk (st := s_need_one_degree) l24 c24 k24
  have b24 := F24.binds (ps := p_need_one_degree) fun _ _ _ _ _ _ us hl => by obtain ⟨_, _, rfl⟩ := us2 hl; rfl
  have F25 := fun_mk (st := s_weight_of) l25 c25 k25
  have b25 := F25.binds (ps := p_weight_of) fun _ _ _ _ _ _ us hl => by obtain ⟨_, rfl⟩ := us1 hl; rfl
  have F26 := fun_mk (st := s_first_of) l26 c26 k26
  have b26 := F26.binds (ps := p_first_of) fun _ _ _ _ _ _ us hl => by obtain ⟨_, rfl⟩ := us1 hl; rfl
  have F27 := fun_mk (st := s_are_exponents) l27 c27 k27
  have b27 := F27.binds (ps := p_are_exponents) fun _ _ _ _ _ _ us hl => by obtain ⟨_, _, rfl⟩ := us2 hl; rfl
  have F28 := fun_mk (st := s_are_terms) l28 c28 k28
  have b28 := F28.binds (ps := p_are_terms) fun _ _ _ _ _ _ us hl => by obtain ⟨_, _, rfl⟩ := us2 hl; rfl
  have F29 := fun_mk (st := s_tidy) l29 c29 k29
  have b29 := F29.binds (ps := p_tidy) fun _ _ _ _ _ _ us hl => by obtain ⟨_, rfl⟩ := us1 hl; rfl
  have F30 := fun_mk (st := s_added_terms) l30 c30 k30
  have b30 := F30.binds (ps := p_added_terms) fun _ _ _ _ _ _ us hl => by obtain ⟨_, _, _, rfl⟩ := us3 hl; rfl
  have F31 := fun_mk (st := s_packed) l31 c31 k31
  have b31 := F31.binds (ps := p_packed) fun _ _ _ _ _ _ us hl => by obtain ⟨_, rfl⟩ := us1 hl; rfl
  have F32 := fun_mk (st := s_unpacked) l32 c32 k32
  have b32 := F32.binds (ps := p_unpacked) fun _ _ _ _ _ _ us hl => by obtain ⟨_, _, rfl⟩ := us2 hl; rfl
  have F33 := fun_mk (st := s_product_terms) l33 c33 k33
  have b33 := F33.binds (ps := p_product_terms) fun _ _ _ _ _ _ us hl => by obtain ⟨_, _, rfl⟩ := us2 hl; rfl
  have F34 := fun_mk (st := s_made_sum) l34 c34 k34
  have b34 := F34.binds (ps := p_made_sum) fun _ _ _ _ _ _ us hl => by obtain ⟨_, _, rfl⟩ := us2 hl; rfl
  have F35 := fun_mk (st := s_need_like) l35 c35 k35
  have b35 := F35.binds (ps := p_need_like) fun _ _ _ _ _ _ us hl => by obtain ⟨_, _, rfl⟩ := us2 hl; rfl
  have F36 := fun_mk (st := s_need_product) l36 c36 k36
  have b36 := F36.binds (ps := p_need_product) fun _ _ _ _ _ _ us hl => by obtain ⟨_, _, rfl⟩ := us2 hl; rfl
  have F37 := fun_mk (st := s_law_dice) l37 c37 k37
  have b37 := F37.binds (ps := p_law_dice) fun _ _ _ _ _ _ us hl => by obtain ⟨_, _, rfl⟩ := us2 hl; rfl
  have F38 := fun_mk (st := s_law_roll) l38 c38 k38
  have b38 := F38.binds (ps := p_law_roll) fun _ _ _ _ _ _ us hl => by obtain ⟨_, _, rfl⟩ := us2 hl; rfl
  have F39 := fun_mk (st := s_law_keys) l39 c39 k39
  have b39 := F39.binds (ps := p_law_keys) fun _ _ _ _ _ _ us hl => by obtain ⟨_, _, _, rfl⟩ := us3 hl; rfl
  have F40 := fun_mk (st := s_law_box_of) l40 c40 k40
  have b40 := F40.binds (ps := p_law_box_of) fun _ _ _ _ _ _ us hl => by obtain ⟨_, rfl⟩ := us1 hl; rfl
  have F41 := fun_mk (st := s_law_key_of) l41 c41 k41
  have b41 := F41.binds (ps := p_law_key_of) fun _ _ _ _ _ _ us hl => by obtain ⟨_, _, _, rfl⟩ := us3 hl; rfl
  have F42 := fun_mk (st := s_law_right) l42 c42 k42
  have b42 := F42.binds (ps := p_law_right) fun _ _ _ _ _ _ us hl => by obtain ⟨_, rfl⟩ := us1 hl; rfl
  have F43 := fun_mk (st := s_law) l43 c43 k43
  have b43 := F43.binds (ps := p_law) fun _ _ _ _ _ _ us hl => by obtain ⟨_, rfl⟩ := us1 hl; rfl
  have F44 := fun_mk (st := s_Sum___init__) l44 c44 k44
  have b44 := F44.binds (ps := p_Sum___init__) fun _ _ _ _ _ _ us hl => by obtain ⟨_, _, _, rfl⟩ := us3 hl; rfl
  have F45 := fun_mk (st := s_Sum_size) l45 c45 k45
  have b45 := F45.binds (ps := p_Sum_size) fun _ _ _ _ _ _ us hl => by obtain ⟨_, rfl⟩ := us1 hl; rfl
  have F46 := fun_mk (st := s_Sum_weight) l46 c46 k46
  have b46 := F46.binds (ps := p_Sum_weight) fun _ _ _ _ _ _ us hl => by obtain ⟨_, rfl⟩ := us1 hl; rfl
  have F47 := fun_mk (st := s_Sum_order) l47 c47 k47
  have b47 := F47.binds (ps := p_Sum_order) fun _ _ _ _ _ _ us hl => by obtain ⟨_, rfl⟩ := us1 hl; rfl
  have F48 := fun_mk (st := s_Sum___len__) l48 c48 k48
  have b48 := F48.binds (ps := p_Sum___len__) fun _ _ _ _ _ _ us hl => by obtain ⟨_, rfl⟩ := us1 hl; rfl
  let T : Tx K mg := ⟨_, _, F0, b0, PySem.W.mg_of X G a0, _, _, F1, b1, PySem.W.mg_of X G a1, _, _, F2, b2, PySem.W.mg_of X G a2, _, _, F3, b3, PySem.W.mg_of X G a3, _, _, F4, b4, PySem.W.mg_of X G a4, _, _, F5, b5, PySem.W.mg_of X G a5, _, _, F6, b6, PySem.W.mg_of X G a6, _, _, F7, b7, PySem.W.mg_of X G a7, _, _, F8, b8, PySem.W.mg_of X G a8, _, _, F9, b9, PySem.W.mg_of X G a9, _, _, F10, b10, PySem.W.mg_of X G a10, _, _, F11, b11, PySem.W.mg_of X G a11, _, _, F12, b12, PySem.W.mg_of X G a12, _, _, F13, b13, PySem.W.mg_of X G a13, _, _, F14, b14, PySem.W.mg_of X G a14, _, _, F15, b15, PySem.W.mg_of X G a15, _, _, F16, b16, PySem.W.mg_of X G a16, _, _, F17, b17, PySem.W.mg_of X G a17, _, _, F18, b18, PySem.W.mg_of X G a18, _, _, F19, b19, PySem.W.mg_of X G a19, _, _, F20, b20, PySem.W.mg_of X G a20, _, _, F21, b21, PySem.W.mg_of X G a21, _, _, F22, b22, PySem.W.mg_of X G a22, _, _, F23, b23, PySem.W.mg_of X G a23, _, _, F24, b24, PySem.W.mg_of X G a24, _, _, F25, b25, PySem.W.mg_of X G a25, _, _, F26, b26, PySem.W.mg_of X G a26, _, _, F27, b27, PySem.W.mg_of X G a27, _, _, F28, b28, PySem.W.mg_of X G a28, _, _, F29, b29, PySem.W.mg_of X G a29, _, _, F30, b30, PySem.W.mg_of X G a30, _, _, F31, b31, PySem.W.mg_of X G a31, _, _, F32, b32, PySem.W.mg_of X G a32, _, _, F33, b33, PySem.W.mg_of X G a33, _, _, F34, b34, PySem.W.mg_of X G a34, _, _, F35, b35, PySem.W.mg_of X G a35, _, _, F36, b36, PySem.W.mg_of X G a36, _, _, F37, b37, PySem.W.mg_of X G a37, _, _, F38, b38, PySem.W.mg_of X G a38, _, _, F39, b39, PySem.W.mg_of X G a39, _, _, F40, b40, PySem.W.mg_of X G a40, _, _, F41, b41, PySem.W.mg_of X G a41, _, _, F42, b42, PySem.W.mg_of X G a42, _, _, F43, b43, PySem.W.mg_of X G a43, _, _, F44, b44, _, _, F45, b45, _, _, F46, b46, _, _, F47, b47, _, _, F48, b48, _, PySem.W.mg_of X G aC_Sum, ⟨pg_Sum, hd_Sum, po_Sum, sa_Sum⟩, ⟨mk_Sum, a44, j44, kc_Sum⟩, sf_Sum, nf_Sum, no_Sum_degree, no_Sum_terms, ⟨a44, j44, k44⟩, _, ⟨a45, g45, t45, _, r45⟩, _, ⟨a46, g46, t46, _, r46⟩, _, ⟨a47, g47, t47, _, r47⟩, ⟨a48, j48, k48⟩, PySem.W.mg_none_of X G z0, PySem.W.mg_none_of X G z1, PySem.W.mg_none_of X G z2, PySem.W.mg_none_of X G z3, PySem.W.mg_none_of X G z4, PySem.W.mg_none_of X G z5, PySem.W.mg_none_of X G z6, PySem.W.mg_none_of X G z7, PySem.W.mg_none_of X G z8, PySem.W.mg_none_of X G z9, PySem.W.mg_none_of X G z10, PySem.W.mg_none_of X G z11, PySem.W.mg_none_of X G z12, PySem.W.mg_none_of X G z13, PySem.W.mg_none_of X G z14, PySem.W.mg_none_of X G z15, PySem.W.mg_none_of X G z16, PySem.W.mg_none_of X G z17, PySem.W.mg_of X G i0, _, PySem.W.mg_of X G q0, _, PySem.W.mg_of X G q1, _, PySem.W.mg_of X G q2, _, PySem.W.mg_of X G q3, _, PySem.W.mg_of X G q4, _, PySem.W.mg_of X G q5, _, PySem.W.mg_of X G q6⟩
  exact ⟨_, fun s v => .of_eq rfl, fun base _ _ => ok_law T⟩
end My
open PySem PySem.W PyProof.Rows
set_option maxHeartbeats 0 in
theorem PySem.Challenge.cw_sourceforms_k29_whole_terms_and_boxes_holds : PySem.Challenge.rw_sourceforms_k29_whole_terms_and_boxes.Holds := by
  w_on; o_law
  refine HandSHeadRun.head_imp (r := OpenLaw.row PySem.Challenge.rw_sourceforms_k29_whole_terms_and_boxes) (q := My.qv) (H := My.hk0) (ob := My.ob0) (M := 20000) (loose := My.nms) (kwd := []) My.ob0_eq My.run0 (by rfl) (by rfl) (by rfl) (by rfl) (by first | assumption | decide +kernel) (by decide +kernel) ⟨rfl, rfl, rfl, rfl, rfl, by decide +kernel⟩ ?hw ?hc
  case hw => w_witness2
  k_fill
  refine L2.walk_of (l := PySem.Challenge.rw_sourceforms_k29_whole_terms_and_boxes) (n := 63) (k := 18) (x := "_law_script") (CX := fun _ => L2.CX0) (sp := fun w => My.sp_law _) rfl (by decide) rfl ⟨rfl, by decide, by decide⟩ (fun w h Y => PySem.W.kIn_of Y) ?F (fun _ _ a ns hl _ hS => ⟨a, ns, rfl, hS, hl, fun _ => rfl⟩) (fun _ _ _ _ _ h => h)
  case F =>
    intro w mg fa h KX G hmg
    refine' My.all_mk KX G hmg ?a0 ?l0 ?c0 ?k0 ?a1 ?l1 ?c1 ?k1 ?a2 ?l2 ?c2 ?k2 ?a3 ?l3 ?c3 ?k3 ?a4 ?l4 ?c4 ?k4 ?a5 ?l5 ?c5 ?k5 ?a6 ?l6 ?c6 ?k6 ?a7 ?l7 ?c7 ?k7 ?a8 ?l8 ?c8 ?k8 ?a9 ?l9 ?c9 ?k9 ?a10 ?l10 ?c10 ?k10 ?a11 ?l11 ?c11 ?k11 ?a12 ?l12 ?c12 ?k12 ?a13 ?l13 ?c13 ?k13 ?a14 ?l14 ?c14 ?k14 ?a15 ?l15 ?c15 ?k15 ?a16 ?l16 ?c16 ?k16 ?a17 ?l17 ?c17 ?k17 ?a18 ?l18 ?c18 ?k18 ?a19 ?l19 ?c19 ?k19 ?a20 ?l20 ?c20 ?k20 ?a21 ?l21 ?c21 ?k21 ?a22 ?l22 ?c22 ?k22 ?a23 ?l23 ?c23 ?k23 ?a24 ?l24 ?c24 ?k24 ?a25 ?l25 ?c25 ?k25 ?a26 ?l26 ?c26 ?k26 ?a27 ?l27 ?c27 ?k27 ?a28 ?l28 ?c28 ?k28 ?a29 ?l29 ?c29 ?k29 ?a30 ?l30 ?c30 ?k30 ?a31 ?l31 ?c31 ?k31 ?a32 ?l32 ?c32 ?k32 ?a33 ?l33 ?c33 ?k33 ?a34 ?l34 ?c34 ?k34 ?a35 ?l35 ?c35 ?k35 ?a36 ?l36 ?c36 ?k36 ?a37 ?l37 ?c37 ?k37 ?a38 ?l38 ?c38 ?k38 ?a39 ?l39 ?c39 ?k39 ?a40 ?l40 ?c40 ?k40 ?a41 ?l41 ?c41 ?k41 ?a42 ?l42 ?c42 ?k42 ?a43 ?l43 ?c43 ?k43 ?a44 ?j44 ?l44 ?c44 ?k44 ?a45 ?g45 ?t45 ?r45 ?l45 ?c45 ?k45 ?a46 ?g46 ?t46 ?r46 ?l46 ?c46 ?k46 ?a47 ?g47 ?t47 ?r47 ?l47 ?c47 ?k47 ?a48 ?j48 ?l48 ?c48 ?k48 ?aC_Sum ?pg_Sum ?hd_Sum ?po_Sum ?sa_Sum ?mk_Sum ?kc_Sum ?sf_Sum ?nf_Sum ?no_Sum_degree ?no_Sum_terms ?z0 ?z1 ?z2 ?z3 ?z4 ?z5 ?z6 ?z7 ?z8 ?z9 ?z10 ?z11 ?z12 ?z13 ?z14 ?z15 ?z16 ?z17 ?i0 ?q0 ?q1 ?q2 ?q3 ?q4 ?q5 ?q6
    (case aC_Sum => k_is)
    (case a0 => k_is)
    (case l0 => k_is)
    (case c0 => k_is)
    (case k0 => k_is)
    (case a1 => k_is)
    (case l1 => k_is)
    (case c1 => k_is)
    (case k1 => k_is)
    (case a2 => k_is)
    (case l2 => k_is)
    (case c2 => k_is)
    (case k2 => k_is)
    (case a3 => k_is)
    (case l3 => k_is)
    (case c3 => k_is)
    (case k3 => k_is)
    (case a4 => k_is)
    (case l4 => k_is)
    (case c4 => k_is)
    (case k4 => k_is)
    (case a5 => k_is)
    (case l5 => k_is)
    (case c5 => k_is)
    (case k5 => k_is)
    (case a6 => k_is)
    (case l6 => k_is)
    (case c6 => k_is)
    (case k6 => k_is)
    (case a7 => k_is)
    (case l7 => k_is)
    (case c7 => k_is)
    (case k7 => k_is)
    (case a8 => k_is)
    (case l8 => k_is)
    (case c8 => k_is)
    (case k8 => k_is)
    (case a9 => k_is)
    (case l9 => k_is)
    (case c9 => k_is)
    (case k9 => k_is)
    (case a10 => k_is)
    (case l10 => k_is)
    (case c10 => k_is)
    (case k10 => k_is)
    (case a11 => k_is)
    (case l11 => k_is)
    (case c11 => k_is)
    (case k11 => k_is)
    (case a12 => k_is)
    (case l12 => k_is)
    (case c12 => k_is)
    (case k12 => k_is)
    (case a13 => k_is)
    (case l13 => k_is)
    (case c13 => k_is)
    (case k13 => k_is)
    (case a14 => k_is)
    (case l14 => k_is)
    (case c14 => k_is)
    (case k14 => k_is)
    (case a15 => k_is)
    (case l15 => k_is)
    (case c15 => k_is)
    (case k15 => k_is)
    (case a16 => k_is)
    (case l16 => k_is)
    (case c16 => k_is)
    (case k16 => k_is)
    (case a17 => k_is)
    (case l17 => k_is)
    (case c17 => k_is)
    (case k17 => k_is)
    (case a18 => k_is)
    (case l18 => k_is)
    (case c18 => k_is)
    (case k18 => k_is)
    (case a19 => k_is)
    (case l19 => k_is)
    (case c19 => k_is)
    (case k19 => k_is)
    (case a20 => k_is)
    (case l20 => k_is)
    (case c20 => k_is)
    (case k20 => k_is)
    (case a21 => k_is)
    (case l21 => k_is)
    (case c21 => k_is)
    (case k21 => k_is)
    (case a22 => k_is)
    (case l22 => k_is)
    (case c22 => k_is)
    (case k22 => k_is)
    (case a23 => k_is)
    (case l23 => k_is)
    (case c23 => k_is)
    (case k23 => k_is)
    (case a24 => k_is)
    (case l24 => k_is)
    (case c24 => k_is)
    (case k24 => k_is)
    (case a25 => k_is)
    (case l25 => k_is)
    (case c25 => k_is)
    (case k25 => k_is)
    (case a26 => k_is)
    (case l26 => k_is)
    (case c26 => k_is)
    (case k26 => k_is)
    (case a27 => k_is)
    (case l27 => k_is)
    (case c27 => k_is)
    (case k27 => k_is)
    (case a28 => k_is)
    (case l28 => k_is)
    (case c28 => k_is)
    (case k28 => k_is)
    (case a29 => k_is)
    (case l29 => k_is)
    (case c29 => k_is)
    (case k29 => k_is)
    (case a30 => k_is)
    (case l30 => k_is)
    (case c30 => k_is)
    (case k30 => k_is)
    (case a31 => k_is)
    (case l31 => k_is)
    (case c31 => k_is)
    (case k31 => k_is)
    (case a32 => k_is)
    (case l32 => k_is)
    (case c32 => k_is)
    (case k32 => k_is)
    (case a33 => k_is)
    (case l33 => k_is)
    (case c33 => k_is)
    (case k33 => k_is)
    (case a34 => k_is)
    (case l34 => k_is)
    (case c34 => k_is)
    (case k34 => k_is)
    (case a35 => k_is)
    (case l35 => k_is)
    (case c35 => k_is)
    (case k35 => k_is)
    (case a36 => k_is)
    (case l36 => k_is)
    (case c36 => k_is)
    (case k36 => k_is)
    (case a37 => k_is)
    (case l37 => k_is)
    (case c37 => k_is)
    (case k37 => k_is)
    (case a38 => k_is)
    (case l38 => k_is)
    (case c38 => k_is)
    (case k38 => k_is)
    (case a39 => k_is)
    (case l39 => k_is)
    (case c39 => k_is)
    (case k39 => k_is)
    (case a40 => k_is)
    (case l40 => k_is)
    (case c40 => k_is)
    (case k40 => k_is)
    (case a41 => k_is)
    (case l41 => k_is)
    (case c41 => k_is)
    (case k41 => k_is)
    (case a42 => k_is)
    (case l42 => k_is)
    (case c42 => k_is)
    (case k42 => k_is)
    (case a43 => k_is)
    (case l43 => k_is)
    (case c43 => k_is)
    (case k43 => k_is)
    (case a44 => k_is)
    (case j44 => k_is)
    (case l44 => k_is)
    (case c44 => k_is)
    (case k44 => k_is)
    (case a45 => k_is)
    (case g45 => k_is)
    (case t45 => k_is)
    (case r45 => k_is)
    (case l45 => k_is)
    (case c45 => k_is)
    (case k45 => k_is)
    (case a46 => k_is)
    (case g46 => k_is)
    (case t46 => k_is)
    (case r46 => k_is)
    (case l46 => k_is)
    (case c46 => k_is)
    (case k46 => k_is)
    (case a47 => k_is)
    (case g47 => k_is)
    (case t47 => k_is)
    (case r47 => k_is)
    (case l47 => k_is)
    (case c47 => k_is)
    (case k47 => k_is)
    (case a48 => k_is)
    (case j48 => k_is)
    (case l48 => k_is)
    (case c48 => k_is)
    (case k48 => k_is)
    (case pg_Sum => k_is)
    (case hd_Sum => k_is)
    (case po_Sum => k_is)
    (case sa_Sum => k_is)
    (case mk_Sum => k_is)
    (case kc_Sum => k_is)
    (case sf_Sum => k_is)
    (case nf_Sum => k_is)
    (case no_Sum_degree => k_is)
    (case no_Sum_terms => k_is)
    (case z0 => k_is)
    (case z1 => k_is)
    (case z2 => k_is)
    (case z3 => k_is)
    (case z4 => k_is)
    (case z5 => k_is)
    (case z6 => k_is)
    (case z7 => k_is)
    (case z8 => k_is)
    (case z9 => k_is)
    (case z10 => k_is)
    (case z11 => k_is)
    (case z12 => k_is)
    (case z13 => k_is)
    (case z14 => k_is)
    (case z15 => k_is)
    (case z16 => k_is)
    (case z17 => k_is)
    (case i0 => k_is)
    (case q0 => k_is)
    (case q1 => k_is)
    (case q2 => k_is)
    (case q3 => k_is)
    (case q4 => k_is)
    (case q5 => k_is)
    (case q6 => k_is)

