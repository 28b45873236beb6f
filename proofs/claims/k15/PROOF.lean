import PyProof.Rows.All
import Wide.All
import OpenK.AllK
import Wide.FinOn
import HandS.ForMost
import HandS.Star
import HandS.Wide
import HandS.Flow
import HandS.IsInst
import HandS.Walk
import HandS.NoneIn
import HandS.Zip
import HandS.More
import HandS.Codes
import HandS.ExcOwn
import HandS.ExcInit
import HandS.ExcField
import HandS.Deep
import HandS.OwnEq
import HandS.TupAny
import HandS.WordsExc
import HandS.TryMany
import HandS.DictComp
import HandS.Defaults
import HandS.CallSlots
import HandS.Style
import HandS.Text
import HandS.GenList
import HandS.GenYield
import PyProof.ForAny
import KE.GoesMore
import KE.GoesZip
import KE.GoesEnum
import PyProof.CollectIter
import PyProof.WalksMore
import KE.KUnpack
import PySem.Challenge.RW_penhome_k15_runs_of_plain_bodies
set_option Elab.async false
set_option linter.all false
set_option maxRecDepth 100000
namespace My
open PySem PySem.Spec PyProof.Rows L2
theorem hu64 {A : Around} {k : Nat} (hr : Room k A) : A.units + 64 < cLine := by
  have := hr.un
  omega
section
variable {X : Cx}
theorem call_intI : CallR X (.type "int") (fun xs H Q => ∃ i, xs = [.int i] ∧ Q (.int i) H) := fun pins s σ H xs us Q I r ⟨i, e, q⟩ => call_int1 pins s σ H xs us Q I r (.inl ⟨i, e, q⟩)
theorem call_intB : CallR X (.type "int") (fun xs H Q => ∃ k, xs = [.bl k] ∧ Q (.int (if k then 1 else 0)) H) := fun pins s σ H xs us Q I r ⟨i, e, q⟩ => call_int1 pins s σ H xs us Q I r (.inr ⟨i, e, q⟩)
theorem call_lenA : CallR X (.builtin "len") (fun xs H Q => ∃ p ys, xs = [.ref p] ∧ (SqL X.K H p ys ∨ SqT X.K H p ys) ∧ Q (.int ys.length) H) := call_len_seq
theorem call_listL : CallR X (.type "list") (fun xs H Q => ∃ p ys, xs = [.ref p] ∧ (SqL X.K H p ys ∨ SqT X.K H p ys) ∧ ∀ l, H l = none → Q (.ref l) (upd H l (.lst ys))) := call_list_of
theorem call_tupL : CallR X (.type "tuple") (fun xs H Q => ∃ p ys, xs = [.ref p] ∧ SqL X.K H p ys ∧ ∀ l, H l = none → Q (.ref l) (upd H l (.tup ys))) := fun pins s σ H xs us Q I r ⟨p, ys, e, h, q⟩ => call_tuple_of pins s σ H xs us Q I r ⟨p, ys, e, .inl ⟨h, q⟩⟩
theorem get_lst : PGet X (fun o i H Q => ∃ p xs k v, o = .ref p ∧ i = .int k ∧ 0 ≤ k ∧ SqL X.K H p xs ∧ xs[k.toNat]? = some v ∧ Q v H) := by
  intro pins s σ H o i ov iv Q I r1 r2 h
  obtain ⟨p, xs, k, v, rfl, rfl, h0, hq, he, q⟩ := h
  cases r1
  obtain ⟨t, rfl⟩ := r2
  obtain ⟨its, r, pl, hz⟩ := I.list hq
  obtain ⟨w, ew, rw'⟩ := r.get he
  have hl := r.length
  have hn := line63
  have hlt : k.toNat < xs.length := (List.getElem?_eq_some_iff.mp he).1
  exact wpAny_getItem_list pl.isList h0 (by omega) (by simpa using ew) ⟨v, H, I, rw', q⟩
end
/-! ### lists and tuples of ints compared -/
theorem dpAllInts {K : PySem.W.Frag} {H : Hp} : ∀ ns : List Int, DpAll K H (ns.map V.int) (ns.map PyData.int)
  | [] => .nil
  | n :: r => .cons (.int n) (dpAllInts r)
theorem canAllInts : ∀ ns : List Int, PyData.canLayAll0 (ns.map PyData.int) = true
  | [] => by simp [PyData.canLayAll0]
  | n :: r => by simp [PyData.canLayAll0, PyData.canLay0, canAllInts r]
theorem depthAllInts : ∀ ns : List Int, PyData.depthAll (ns.map PyData.int) = 0
  | [] => by simp [PyData.depthAll]
  | n :: r => by simp [PyData.depthAll, PyData.depth, depthAllInts r]
theorem shList (ns : List Int) : SeqAt.shaped (.list (ns.map PyData.int)) = true := by
  simp [SeqAt.shaped, PyData.canLay0, PyData.depth, canAllInts, depthAllInts]
theorem shTup (ns : List Int) : SeqAt.shaped (.tuple (ns.map PyData.int)) = true := by
  simp [SeqAt.shaped, PyData.canLay0, PyData.depth, canAllInts, depthAllInts]
theorem eqvAllInts : ∀ ns ms : List Int, PyData.eqvAll (ns.map PyData.int) (ms.map PyData.int) = decide (ns = ms)
  | [], [] => by simp [PyData.eqvAll]
  | [], m :: r => by simp [PyData.eqvAll]
  | n :: r, [] => by simp [PyData.eqvAll]
  | n :: r, m :: q => by
    rw [List.map_cons, List.map_cons, PyData.eqvAll, eqvAllInts r q, PyData.eqv]
    by_cases e : n = m
    · subst e; simp
    · simp [e]
section
variable {X : Cx}
def rEqI (K : PySem.W.Frag) : R2 := fun x y H Q => ∃ (a b : Addr) (ns ms : List Int), x = .ref a ∧ y = .ref b ∧ SqL K H a (ns.map V.int) ∧ SqL K H b (ms.map V.int) ∧ Q (.bl (decide (ns = ms))) H
def rNeI (K : PySem.W.Frag) : R2 := fun x y H Q => ∃ (a b : Addr) (ns ms : List Int), x = .ref a ∧ y = .ref b ∧ SqL K H a (ns.map V.int) ∧ SqL K H b (ms.map V.int) ∧ Q (.bl (!decide (ns = ms))) H
def rEqTI (K : PySem.W.Frag) : R2 := fun x y H Q => ∃ (a b : Addr) (ns ms : List Int), x = .ref a ∧ y = .ref b ∧ SqT K H a (ns.map V.int) ∧ SqT K H b (ms.map V.int) ∧ Q (.bl (decide (ns = ms))) H
def rNeTI (K : PySem.W.Frag) : R2 := fun x y H Q => ∃ (a b : Addr) (ns ms : List Int), x = .ref a ∧ y = .ref b ∧ SqT K H a (ns.map V.int) ∧ SqT K H b (ms.map V.int) ∧ Q (.bl (!decide (ns = ms))) H
theorem op_eqI (hu : X.A.units + 64 < cLine) : OpR X (compareOp .Eq) (rEqI X.K) := fun pins s σ H x y v u Q I rx ry ⟨a, b, ns, ms, e1, e2, h1, h2, q⟩ =>
  op_eqD hu pins s σ H x y v u Q I rx ry ⟨_, _, e1 ▸ .lst h1 (dpAllInts ns), e2 ▸ .lst h2 (dpAllInts ms), shList ns, shList ms, by rw [PyData.eqv, eqvAllInts]; exact q⟩
theorem op_neI (hu : X.A.units + 64 < cLine) : OpR X (compareOp .NotEq) (rNeI X.K) := fun pins s σ H x y v u Q I rx ry ⟨a, b, ns, ms, e1, e2, h1, h2, q⟩ =>
  op_neD hu pins s σ H x y v u Q I rx ry ⟨_, _, e1 ▸ .lst h1 (dpAllInts ns), e2 ▸ .lst h2 (dpAllInts ms), shList ns, shList ms, by rw [PyData.eqv, eqvAllInts]; exact q⟩
theorem op_eqTI (hu : X.A.units + 64 < cLine) : OpR X (compareOp .Eq) (rEqTI X.K) := fun pins s σ H x y v u Q I rx ry ⟨a, b, ns, ms, e1, e2, h1, h2, q⟩ =>
  op_eqD hu pins s σ H x y v u Q I rx ry ⟨_, _, e1 ▸ .tup h1 (dpAllInts ns), e2 ▸ .tup h2 (dpAllInts ms), shTup ns, shTup ms, by rw [PyData.eqv, eqvAllInts]; exact q⟩
theorem op_neTI (hu : X.A.units + 64 < cLine) : OpR X (compareOp .NotEq) (rNeTI X.K) := fun pins s σ H x y v u Q I rx ry ⟨a, b, ns, ms, e1, e2, h1, h2, q⟩ =>
  op_neD hu pins s σ H x y v u Q I rx ry ⟨_, _, e1 ▸ .tup h1 (dpAllInts ns), e2 ▸ .tup h2 (dpAllInts ms), shTup ns, shTup ms, by rw [PyData.eqv, eqvAllInts]; exact q⟩
end
/-! ### heaps -/
theorem same_upd {H : Hp} {p : Addr} {o : HO} (h : H p = none) : Same H (upd H p o) := fun b x e => by
  rw [upd_ne (ne_of_none e h)]
  exact e
/-- all that was tracked is as it was, but for what is at p -/
def Kp (p : Addr) (H H' : Hp) : Prop := ∀ b o, b ≠ p → H b = some o → H' b = some o
theorem Kp.refl (p : Addr) (H : Hp) : Kp p H H := fun _ _ _ h => h
theorem Kp.trans {p : Addr} {H H1 H2 : Hp} (a : Kp p H H1) (b : Kp p H1 H2) : Kp p H H2 := fun c o n h => b c o n (a c o n h)
theorem Kp.upd {p : Addr} {H : Hp} {o : HO} : Kp p H (upd H p o) := fun b x n e => by rw [upd_ne n]; exact e
theorem Kp.of {p : Addr} {H H' : Hp} (s : Same H H') : Kp p H H' := fun b o _ e => s b o e
theorem Kp.new {p q : Addr} {H H1 : Hp} {o : HO} (k : Kp p H H1) (n : H q = none) : Kp p H (L2.upd H1 q o) := fun b x nb e => by
  rw [upd_ne (ne_of_none e n)]
  exact k b x nb e
theorem same_new {q : Addr} {H H1 : Hp} {o : HO} (k : Same H H1) (n : H q = none) : Same H (upd H1 q o) := fun b x e => by
  rw [upd_ne (ne_of_none e n)]
  exact k b x e
theorem Kp.none {p q : Addr} {H H' : Hp} (k : Kp p H H') (h : H' q = none) (n : q ≠ p) : H q = none := by
  cases e : H q with
  | none => rfl
  | some o =>
    rw [k q o n e] at h
    cases h
/-- the law's pool: a list of L ints -/
def Pool (H : Hp) (p : Addr) (L : Nat) : Prop := ∃ ns : List Int, H p = some (.lst (ns.map V.int)) ∧ ns.length = L
theorem Pool.ne {H : Hp} {p q : Addr} {L : Nat} (h : Pool H p L) (n : H q = none) : q ≠ p := fun e => by
  obtain ⟨ns, h, _⟩ := h
  rw [← e, n] at h
  cases h
theorem Pool.new {H : Hp} {p q : Addr} {o : HO} {L : Nat} (h : Pool H p L) (n : H q = none) : Pool (upd H q o) p L := by
  have hn := (h.ne n).symm
  obtain ⟨ns, h, e⟩ := h
  exact ⟨ns, by rw [upd_ne hn]; exact h, e⟩
theorem Pool.keep {H : Hp} {p q : Addr} {o : HO} {L : Nat} (h : Pool H p L) (n : q ≠ p) : Pool (upd H q o) p L := by
  obtain ⟨ns, h, e⟩ := h
  exact ⟨ns, by rw [upd_ne n.symm]; exact h, e⟩
theorem get_map {ns : List Int} {i : Nat} {n : Int} (h : ns[i]? = some n) : (ns.map V.int)[i]? = some (.int n) := by
  rw [List.getElem?_map, h]
  rfl
theorem at_map {ns : List Int} {i : Int} (h0 : 0 ≤ i) (h1 : i < ns.length) : ∃ n, ns[i.toNat]? = some n ∧ atI (ns.map V.int) i = some (.int n) := by
  have hi : i.toNat < ns.length := by omega
  refine ⟨ns[i.toNat], List.getElem?_eq_getElem hi, ?_⟩
  refine at_of (j := i.toNat) (by omega) ?_
  exact get_map (List.getElem?_eq_getElem hi)
theorem ixN_in {n : Nat} {i : Int} (h0 : 0 ≤ i) (h1 : i < n) : ixN n i = some i.toNat := by
  unfold ixN
  rw [if_pos h0, if_pos h1]
theorem set_map {ns : List Int} {j : Nat} {z : Int} : (ns.map V.int).set j (.int z) = (ns.set j z).map V.int := by
  rw [List.map_set]
theorem small100 {n : Nat} (h : n ≤ 1000) : n ≤ sizeLine := Nat.le_of_lt (small1000 h)
theorem len_map (ns : List Int) : (ns.map V.int).length = ns.length := List.length_map ..
/-! ### what a for walks: a list or a tuple -/
def iSeq (K : PySem.W.Frag) (tl : TE) : TI := fun σ H R => iList K tl σ H R ∨ iTup K tl σ H R
theorem pi_seq {X : Cx} {tg l : Expr} {tl : TE} (h1 : PI X tg l (iList X.K tl)) (h2 : PI X tg l (iTup X.K tl)) : PI X tg l (iSeq X.K tl) :=
  ⟨fun pins s σ H R I h => h.elim (fun h => h1.run pins s σ H R I h) fun h => h2.run pins s σ H R I h⟩
theorem pi_sq {X : Cx} {tg l : Expr} {tl : TE} (h : PE X l tl) : PI X tg l (iSeq X.K tl) := pi_seq (pi_list h) (pi_tup h)
/-! ### the same rules, the written part by name (within a comprehension's block) -/
section
variable (K : PySem.W.Frag) {X : Cx}
def rLenA (K : PySem.W.Frag) : List V → Hp → VK → Prop := fun xs H Q => ∃ p ys, xs = [V.ref p] ∧ (SqL K H p ys ∨ SqT K H p ys) ∧ Q (.int ys.length) H
def rListL (K : PySem.W.Frag) : List V → Hp → VK → Prop := fun xs H Q => ∃ p ys, xs = [V.ref p] ∧ (SqL K H p ys ∨ SqT K H p ys) ∧ ∀ l, H l = none → Q (.ref l) (upd H l (.lst ys))
def rTupL (K : PySem.W.Frag) : List V → Hp → VK → Prop := fun xs H Q => ∃ p ys, xs = [V.ref p] ∧ SqL K H p ys ∧ ∀ l, H l = none → Q (.ref l) (upd H l (.tup ys))
theorem k_len (hK : X.K = K := by rfl) : CallR X (.builtin "len") (rLenA K) := hK ▸ call_lenA
theorem k_list (hK : X.K = K := by rfl) : CallR X (.type "list") (rListL K) := hK ▸ call_listL
theorem k_tuple (hK : X.K = K := by rfl) : CallR X (.type "tuple") (rTupL K) := hK ▸ call_tupL
theorem k_isi (hK : X.K = K := by rfl) : CallR X (.builtin "isinstance") (rIsi K) := hK ▸ call_isi
theorem k_all (hK : X.K = K := by rfl) (hc : X.calm = true := by rfl) : CallR X (.builtin "all") (rAll K) := hK ▸ cr_all hc
theorem k_sum (hK : X.K = K := by rfl) (hc : X.calm = true := by rfl) : CallR X (.builtin "sum") (rSum K) := hK ▸ cr_sum hc
theorem k_ixL (hK : X.K = K := by rfl) : IxR X (rIxL K) := hK ▸ ix_list
theorem k_ixT (hK : X.K = K := by rfl) : IxR X (rIxT K) := hK ▸ ix_tup
theorem k_slL (hK : X.K = K := by rfl) : SlR X (rSlL K) := hK ▸ sl_list
theorem k_slT (hK : X.K = K := by rfl) : SlR X (rSlT K) := hK ▸ sl_tup
theorem k_piL {tg l : Expr} {tl : TE} (hl : PE X l tl) (hK : X.K = K := by rfl) : PI X tg l (iList K tl) := hK ▸ pi_list hl
theorem k_piT {tg l : Expr} {tl : TE} (hl : PE X l tl) (hK : X.K = K := by rfl) : PI X tg l (iTup K tl) := hK ▸ pi_tup hl
theorem k_piS {tg l : Expr} {tl : TE} (hl : PE X l tl) (hK : X.K = K := by rfl) : PI X tg l (iSeq K tl) := hK ▸ pi_sq hl
theorem k_eqI (hu : X.A.units + 64 < cLine) (hK : X.K = K := by rfl) : OpR X (compareOp .Eq) (rEqI K) := hK ▸ op_eqI hu
theorem k_neI (hu : X.A.units + 64 < cLine) (hK : X.K = K := by rfl) : OpR X (compareOp .NotEq) (rNeI K) := hK ▸ op_neI hu
theorem k_eqTI (hu : X.A.units + 64 < cLine) (hK : X.K = K := by rfl) : OpR X (compareOp .Eq) (rEqTI K) := hK ▸ op_eqTI hu
theorem k_neTI (hu : X.A.units + 64 < cLine) (hK : X.K = K := by rfl) : OpR X (compareOp .NotEq) (rNeTI K) := hK ▸ op_neTI hu
theorem k_getL (hK : X.K = K := by rfl) : PGet X (fun o i H Q => ∃ p xs k v, o = .ref p ∧ i = .int k ∧ 0 ≤ k ∧ SqL K H p xs ∧ xs[k.toNat]? = some v ∧ Q v H) := hK ▸ get_lst
theorem k_star {e : Expr} {es : List Expr} {te : TE} {t : TA} {p : Pos} (he : PE X e te) (hr : PA X es t) (hK : X.K = K := by rfl) (hs : starEach (.Starred e p :: es) X.env = (true, eval e X.env) :: starEach es X.env := by rfl) : PA X (.Starred e p :: es) (StX.tStar K te t) := hK ▸ StX.pa_star he hr hs
end
theorem iteP {c A B : Prop} [Decidable c] (hc : c) (h : A) : if decide c = true then A else B := by
  rw [if_pos (decide_eq_true hc)]
  exact h
section
variable (K : PySem.W.Frag) {X : Cx}
theorem k_listT (hK : X.K = K := by rfl) : CallR X (.type "list") (rListL K) := k_list K hK
end
section
variable (K : PySem.W.Frag) {X : Cx}
theorem k_zipD {ta : TA} {e e2 : Expr} {p pos tpos : Pos} {elts : List Expr} {kk : Nat} (hg : Gl X "zip") (hm : X.mg "zip" = none) (ha : PA X [e, e2] ta) (hK : X.K = K := by rfl)
    (hs : starEach [e, e2] X.env = (false, eval e X.env) :: starEach [e2] X.env := by rfl) (hpl : (backTo pos (starEach [e2] X.env)).any (·.1) = false := by rfl) :
    PI X (.Tuple elts kk tpos) (.Call (.Name "zip" p) [e, e2] [] pos) (iZip K ta) := hK ▸ pi_zip hg hm ha hs hpl
end
section
variable (K : PySem.W.Frag) {X : Cx}
theorem k_isiT (hK : X.K = K := by rfl) : CallR X (.builtin "isinstance") (rIsiT K) := hK ▸ call_isiT
theorem k_ixQ (hK : X.K = K := by rfl) : IxR X (rIx K) := hK ▸ ix_seq
end

/-! ### word, *numbers = t -/
section
variable {prog : Program} {w : World} {A : Around} {E : Value → Shared → Prop} {s : Shared}
theorem tup_walks (hh : A.handled = none) (it t : Addr) (hne : t ≠ it) (items : Array Value) (k : Nat) :
    WalksS prog w A it [it, t] [it] (fun a b => b = a) (items.size - k) (fun i v => items[k + i]? = some v) (fun i s => IsTupIter s.heap it t (k + i) ∧ IsTup s.heap t items) where
  sub := fun b hb => by rw [List.mem_singleton.mp hb]; exact List.mem_cons_self ..
  grefl := fun _ => rfl
  gtrans := fun _ _ _ h1 h2 => h2.trans h1
  frame := fun i s h' tk st _ hk => by
    obtain ⟨⟨o, ho, r⟩, ⟨p, hp, u⟩⟩ := st
    exact ⟨⟨o, hk it (by simp) o ho, r⟩, ⟨p, hk t (by simp) p hp, u⟩⟩
  item := fun i s Q E hi st hQ => by
    have hlt : k + i < items.size := by omega
    refine next_tuple_item st.1 st.2 (x := items[k + i]) (by simp [hlt]) fun h' hit hs => ?_
    refine hQ _ _ (by simp [hlt]) ⟨hit, st.2.extBut hs.extBut hne⟩ ⟨fun b o hb e => hs.extBut b o (fun q => hb (by simp [q])) e, rfl, rfl, rfl, Nat.le_refl _⟩
  done := fun s Q E st hQ => next_tuple_end hh st.1 st.2 (by simp; omega) fun h' he => hQ _ ⟨fun b o hb e => he b o (fun q => hb (by simp [q])) e, rfl, rfl, rfl, Nat.le_refl _⟩
  self := fun i s Q E st hQ => wpAny_pyIter_tupleiter st.1 hQ
theorem unpack_star {t : Addr} {x : Value} {rest : List Value} {Q : List Value → Shared → Prop} (hh : A.handled = none) (ht : IsTup s.heap t (x :: rest).toArray) (hz : (x :: rest).length ≤ sizeLine)
    (hQ : ∀ (h' : Heap) (tk : Nat), (∀ b o, s.heap.get? b = some o → h'.get? b = some o) → Q [x, .ref h'.objs.size] { s with heap := h'.push { cls := .type "list", data := .seq rest.toArray }, toks := tk }) :
    wpAny (model prog w) A (unpackItems (.ref t) 2 (some 1)) Q E s := by
  have hlt : t < s.heap.objs.size := by
    obtain ⟨o, ho, _⟩ := id ht
    exact Heap.lt_size ho
  have hne : t ≠ s.heap.objs.size := Nat.ne_of_lt hlt
  unfold unpackItems
  refine wpAny_bind (show wpAny (model prog w) A (notIterableAtAll (.ref t)) _ E s from ?_)
  unfold notIterableAtAll
  refine wpAny_bind (wpAny_specialOf ht.typeIs slot_tuple_iter.lookup (wpAny_pure ?_))
  simp only [Bool.false_eq_true, if_false]
  refine wpAny_bind (wpAny_holding (iter_tuple ht ?_))
  refine wpAny_bind (wpAny_holding (draw_tuple hne 1 0 _ _ ⟨_, Heap.get?_push_size _ rfl, rfl, rfl⟩ (ht.push _) (by simp) fun h1 hit hs => ?_))
  have e1 : List.take 1 (List.drop 0 (x :: rest).toArray.toList) = [x] := by simp
  rw [e1, if_neg (by simp)]
  have ht1 : IsTup h1 t (x :: rest).toArray := (ht.push _).extBut hs.extBut hne
  have hlen : (x :: rest).toArray.size - 1 = rest.length := by simp
  have hlt1 : ∀ b ∈ [s.heap.objs.size, t], b < h1.objs.size := fun b hb => by
    have e : b = s.heap.objs.size ∨ b = t := by simpa using hb
    rcases e with rfl | rfl
    · obtain ⟨o, ho, _⟩ := id hit
      exact Heap.lt_size ho
    · obtain ⟨o, ho, _⟩ := id ht1
      exact Heap.lt_size ho
  refine wpAny_bind (wpAny_holding (wpAny_collect_iter (.inr (.inr (.inr rfl))) (tup_walks (A := A.in1) (prog := prog) (w := w) hh s.heap.objs.size t hne (x :: rest).toArray 1) (fun i s' st => ?_) ⟨hit, ht1⟩ hlt1 (by simp) (fun s' acc hm ha => ?_) (by rw [hlen]; rw [List.length_cons] at hz; omega)))
  · obtain ⟨o, ho, hc, _⟩ := st.1
    exact ⟨o, ho, hc⟩
  · have hacc : acc.toList = rest := by
      obtain ⟨hsz, hit⟩ := ha
      refine List.ext_getElem (by rw [Array.length_toList, hsz]; exact hlen) fun j h1 h2 => ?_
      have := hit j acc[j] (by simp [Array.length_toList] at h1; simp [h1])
      simp [Nat.add_comm 1 j] at this
      rw [List.getElem?_eq_getElem h2] at this
      simpa using (Option.some.inj this).symm
    rw [hacc]
    rw [if_neg (by omega)]
    simp only [Nat.sub_self, show 2 - 1 - 1 = 0 from rfl, Nat.sub_zero, List.take_length, List.drop_length, List.append_nil]
    obtain ⟨hp, gens, drawn, toks, os⟩ := s'
    obtain ⟨m1, m2, m3, m4, m5⟩ := hm
    cases m2
    cases m3
    cases m4
    refine wpAny_bind (wpAny_newObj_type (wpAny_pure ?_) (by show rest.toArray.size ≤ sizeLine; rw [List.size_toArray]; rw [List.length_cons] at hz; omega))
    refine hQ hp toks fun b o e => ?_
    have hb : b ≠ s.heap.objs.size := Nat.ne_of_lt (Heap.lt_size e)
    exact m1 b o (by simpa using hb) (hs.extBut b o hb (Heap.get?_push_of_some _ e))
end
def gStar (K : PySem.W.Frag) (g1 g2 : TG) : TG := fun v σ H Q => ∃ (a : Addr) (z : V) (xs : List V), v = .ref a ∧ SqT K H a (z :: xs) ∧ ∀ q, H q = none → g1 z σ (upd H q (.lst xs)) fun σ' H' => g2 (.ref q) σ' H' Q
theorem pg_star (K : PySem.W.Frag) {X : Cx} {t1 t2 : Expr} {g1 g2 : TG} {k : Nat} {p pos : Pos} (hc : X.calm = true) (h1 : PG X t1 g1) (h2 : PG X t2 g2) (hK : X.K = K := by rfl)
    (hs : assignEach [t1, .Starred t2 p] X.env = [(false, assign t1 X.env), (true, assign t2 X.env)] := by rfl) : PG X (.Tuple [t1, .Starred t2 p] k pos) (gStar K g1 g2) := by
  subst hK
  refine ⟨fun pins s σ H v u Q I r hw => ?_⟩
  obtain ⟨a, z, xs, rfl, hq, hw⟩ := hw
  cases r
  obtain ⟨its, rv, ht, hz⟩ := I.tuple hq
  cases rv with
  | @cons _ uz _ us rz rs =>
    rw [assign_Tuple, hs]
    refine wpAny_bind (wpAny_standAt ?_)
    unfold unpack
    refine wpAny_bind (wpAny_holding (unpack_star (I.ok.hd hc) ht (by have := rs.length; rw [List.length_cons] at hz ⊢; omega) fun h' tk hk => ?_))
    have I1 : Inv X pins σ H { s with heap := h', toks := tk } := I.kept (t' := tk) hk
    have hf : H h'.objs.size = none := I1.hok.fresh (Nat.le_refl _)
    have I2 : Inv X pins σ (upd H h'.objs.size (.lst xs)) { s with heap := h'.push { cls := .type "list", data := .seq us.toArray }, toks := tk } :=
      I1.laid (t' := tk) (o := .lst xs) (fun b ob q => Heap.get?_push_of_some _ q) (Nat.le_refl _) ⟨by rw [List.length_cons] at hz; omega, us, 0, rs, Heap.get?_push_size _ rfl⟩
    refine assignInOrder_cons (thn (h1.run pins _ σ _ z uz _ I2 rz (hw _ hf)) fun _ s3 ⟨σ3, H3, I3, q3⟩ => ?_)
    exact assignInOrder_cons (thn (h2.run pins s3 σ3 H3 (.ref h'.objs.size) _ _ I3 rfl q3) fun _ s4 h4 => assignInOrder_nil h4)

/-! ### first, *others = a list -/
section
variable {prog : Program} {w : World} {A : Around} {E : Value → Shared → Prop} {s : Shared}
theorem lst_walks (hh : A.handled = none) (it t : Addr) (hne : t ≠ it) (items : Array Value) (k : Nat) :
    WalksS prog w A it [it, t] [it] (fun a b => b = a) (items.size - k) (fun i v => items[k + i]? = some v) (fun i s => s.heap.IsListIter it t (k + i) ∧ s.heap.IsList t items) where
  sub := fun b hb => by rw [List.mem_singleton.mp hb]; exact List.mem_cons_self ..
  grefl := fun _ => rfl
  gtrans := fun _ _ _ h1 h2 => h2.trans h1
  frame := fun i s h' tk st _ hk => by
    obtain ⟨⟨o, ho, r⟩, ⟨p, hp, u⟩⟩ := st
    exact ⟨⟨o, hk it (by simp) o ho, r⟩, ⟨p, hk t (by simp) p hp, u⟩⟩
  item := fun i s Q E hi st hQ => by
    have hlt : k + i < items.size := by omega
    refine wpAny_pyNext_list_item st.1 st.2 (x := items[k + i]) (by simp [hlt]) fun h' hit hs => ?_
    refine hQ _ _ (by simp [hlt]) ⟨hit, st.2.extBut hs.extBut hne⟩ ⟨fun b o hb e => hs.extBut b o (fun q => hb (by simp [q])) e, rfl, rfl, rfl, Nat.le_refl _⟩
  done := fun s Q E st hQ => wpAny_pyNext_list_end hh st.1 st.2 (by simp; omega) fun h' he => hQ _ ⟨fun b o hb e => he b o (fun q => hb (by simp [q])) e, rfl, rfl, rfl, Nat.le_refl _⟩
  self := fun i s Q E st hQ => wpAny_pyIter_listiter st.1 hQ
theorem unpack_starL {t : Addr} {x : Value} {rest : List Value} {Q : List Value → Shared → Prop} (hh : A.handled = none) (ht : s.heap.IsList t (x :: rest).toArray) (hz : (x :: rest).length ≤ sizeLine)
    (hQ : ∀ (h' : Heap) (tk : Nat), (∀ b o, s.heap.get? b = some o → h'.get? b = some o) → Q [x, .ref h'.objs.size] { s with heap := h'.push { cls := .type "list", data := .seq rest.toArray }, toks := tk }) :
    wpAny (model prog w) A (unpackItems (.ref t) 2 (some 1)) Q E s := by
  have hlt : t < s.heap.objs.size := by
    obtain ⟨o, ho, _⟩ := id ht
    exact Heap.lt_size ho
  have hne : t ≠ s.heap.objs.size := Nat.ne_of_lt hlt
  unfold unpackItems
  refine wpAny_bind (show wpAny (model prog w) A (notIterableAtAll (.ref t)) _ E s from ?_)
  unfold notIterableAtAll
  refine wpAny_bind (wpAny_specialOf ht.typeIs slot_list_iter.lookup (wpAny_pure ?_))
  simp only [Bool.false_eq_true, if_false]
  refine wpAny_bind (wpAny_holding (wpAny_pyIter_list ht ?_))
  refine wpAny_bind (wpAny_holding (PySem.W.kun_draw hne 1 0 _ _ ⟨_, Heap.get?_push_size _ rfl, rfl, rfl⟩ (ht.push _) (by simp) fun h1 hit hs => ?_))
  have e1 : List.take 1 (List.drop 0 (x :: rest).toArray.toList) = [x] := by simp
  rw [e1, if_neg (by simp)]
  have ht1 : h1.IsList t (x :: rest).toArray := (ht.push _).extBut hs.extBut hne
  have hlen : (x :: rest).toArray.size - 1 = rest.length := by simp
  have hlt1 : ∀ b ∈ [s.heap.objs.size, t], b < h1.objs.size := fun b hb => by
    have e : b = s.heap.objs.size ∨ b = t := by simpa using hb
    rcases e with rfl | rfl
    · obtain ⟨o, ho, _⟩ := id hit
      exact Heap.lt_size ho
    · obtain ⟨o, ho, _⟩ := id ht1
      exact Heap.lt_size ho
  refine wpAny_bind (wpAny_holding (wpAny_collect_iter (.inr (.inr (.inl rfl))) (lst_walks (A := A.in1) (prog := prog) (w := w) hh s.heap.objs.size t hne (x :: rest).toArray 1) (fun i s' st => ?_) ⟨hit, ht1⟩ hlt1 (by simp) (fun s' acc hm ha => ?_) (by rw [hlen]; rw [List.length_cons] at hz; omega)))
  · obtain ⟨o, ho, hc, _⟩ := st.1
    exact ⟨o, ho, hc⟩
  · have hacc : acc.toList = rest := by
      obtain ⟨hsz, hit⟩ := ha
      refine List.ext_getElem (by rw [Array.length_toList, hsz]; exact hlen) fun j h1 h2 => ?_
      have := hit j acc[j] (by simp [Array.length_toList] at h1; simp [h1])
      simp [Nat.add_comm 1 j] at this
      rw [List.getElem?_eq_getElem h2] at this
      simpa using (Option.some.inj this).symm
    rw [hacc]
    rw [if_neg (by omega)]
    simp only [Nat.sub_self, show 2 - 1 - 1 = 0 from rfl, Nat.sub_zero, List.take_length, List.drop_length, List.append_nil]
    obtain ⟨hp, gens, drawn, toks, os⟩ := s'
    obtain ⟨m1, m2, m3, m4, m5⟩ := hm
    cases m2
    cases m3
    cases m4
    refine wpAny_bind (wpAny_newObj_type (wpAny_pure ?_) (by show rest.toArray.size ≤ sizeLine; rw [List.size_toArray]; rw [List.length_cons] at hz; omega))
    refine hQ hp toks fun b o e => ?_
    have hb : b ≠ s.heap.objs.size := Nat.ne_of_lt (Heap.lt_size e)
    exact m1 b o (by simpa using hb) (hs.extBut b o hb (Heap.get?_push_of_some _ e))
end
def gStarL (K : PySem.W.Frag) (g1 g2 : TG) : TG := fun v σ H Q => ∃ (a : Addr) (z : V) (xs : List V), v = .ref a ∧ SqL K H a (z :: xs) ∧ ∀ q, H q = none → g1 z σ (upd H q (.lst xs)) fun σ' H' => g2 (.ref q) σ' H' Q
theorem pg_starL (K : PySem.W.Frag) {X : Cx} {t1 t2 : Expr} {g1 g2 : TG} {k : Nat} {p pos : Pos} (hc : X.calm = true) (h1 : PG X t1 g1) (h2 : PG X t2 g2) (hK : X.K = K := by rfl)
    (hs : assignEach [t1, .Starred t2 p] X.env = [(false, assign t1 X.env), (true, assign t2 X.env)] := by rfl) : PG X (.Tuple [t1, .Starred t2 p] k pos) (gStarL K g1 g2) := by
  subst hK
  refine ⟨fun pins s σ H v u Q I r hw => ?_⟩
  obtain ⟨a, z, xs, rfl, hq, hw⟩ := hw
  cases r
  obtain ⟨its, rv, ht, hz⟩ := I.list hq
  cases rv with
  | @cons _ uz _ us rz rs =>
    obtain ⟨o, n, ho, hoc, _, hod⟩ := ht
    have ht : s.heap.IsList a (uz :: us).toArray := ⟨o, ho, hoc, n, hod⟩
    rw [assign_Tuple, hs]
    refine wpAny_bind (wpAny_standAt ?_)
    unfold unpack
    refine wpAny_bind (wpAny_holding (unpack_starL (I.ok.hd hc) ht (by have := rs.length; rw [List.length_cons] at hz ⊢; omega) fun h' tk hk => ?_))
    have I1 : Inv X pins σ H { s with heap := h', toks := tk } := I.kept (t' := tk) hk
    have hf : H h'.objs.size = none := I1.hok.fresh (Nat.le_refl _)
    have I2 : Inv X pins σ (upd H h'.objs.size (.lst xs)) { s with heap := h'.push { cls := .type "list", data := .seq us.toArray }, toks := tk } :=
      I1.laid (t' := tk) (o := .lst xs) (fun b ob q => Heap.get?_push_of_some _ q) (Nat.le_refl _) ⟨by rw [List.length_cons] at hz; omega, us, 0, rs, Heap.get?_push_size _ rfl⟩
    refine assignInOrder_cons (thn (h1.run pins _ σ _ z uz _ I2 rz (hw _ hf)) fun _ s3 ⟨σ3, H3, I3, q3⟩ => ?_)
    exact assignInOrder_cons (thn (h2.run pins s3 σ3 H3 (.ref h'.objs.size) _ _ I3 rfl q3) fun _ s4 h4 => assignInOrder_nil h4)
/-- zip of two lists, within a block of a comprehension -/
theorem k_zip (K : PySem.W.Frag) {X : Cx} {e e2 : Expr} {ta : TA} {p pos tpos : Pos} {elts : List Expr} {kk : Nat} (hg : Gl X "zip") (hm : X.mg "zip" = none) (ha : PA X [e, e2] ta) (hK : X.K = K := by rfl)
    (hs : starEach [e, e2] X.env = (false, eval e X.env) :: starEach [e2] X.env := by rfl) (hpl : (backTo pos (starEach [e2] X.env)).any (·.1) = false := by rfl) :
    PI X (.Tuple elts kk tpos) (.Call (.Name "zip" p) [e, e2] [] pos) (iZip K ta) := hK ▸ pi_zip hg hm ha hs hpl

/-! ### zip of a list and a tuple -/
section
variable {prog : Program} {w : World} {A : Around}
theorem draws_tuple (hh : A.handled = none) (it t : Addr) (hne : t ≠ it) (items : Array Value) :
    Draws prog w A it [it, t] items.size (fun i v => items[i]? = some v) (fun i h => h.IsTupleIter it t i ∧ h.IsTuple t items) where
  live := fun _ _ st => by
    obtain ⟨⟨o, ho, _⟩, _⟩ := st
    exact ⟨o, ho⟩
  frame := fun _ _ _ st hk => ⟨st.1.at fun o e => hk it (by simp) o e, st.2.at fun o e => hk t (by simp) o e⟩
  item := fun i s Q E hi st hQ => RZ.nextOf_tuple_item st.1 st.2 (x := items[i]) (by simp [hi]) fun h' hit' hs' => hQ _ h' s.toks (by simp [hi]) ⟨hit', st.2.extBut hs'.extBut hne⟩ hs'
  done := fun s Q E st hE => RZ.nextOf_tuple_end hh st.1 st.2 (by simp) hE
end
def ItzLT (K : PySem.W.Frag) (a b : Addr) : It where
  go := fun i H => ∃ (xs ys : List V) (x y : V), SqL K H a xs ∧ SqT K H b ys ∧ xs[i]? = some x ∧ ys[i]? = some y
  yld := fun i H v H' => ∃ T x y, v = .ref T ∧ H T = none ∧ H' = upd H T (.tup [x, y]) ∧ (∀ xs, SqL K H a xs → xs[i]? = some x) ∧ ∀ ys, SqT K H b ys → ys[i]? = some y
  stop := fun i H => ∃ xs ys : List V, SqL K H a xs ∧ SqT K H b ys ∧ ((i = xs.length ∧ i ≤ ys.length) ∨ (i = ys.length ∧ i ≤ xs.length))
structure Five (z TI TO i1 i2 a b : Addr) : Prop where
  sep : ZipSep2 z TI TO i1 i2 [i1, a] [i2, b]
  ai : a ≠ i1
  bi : b ≠ i2
def StLT (z TI TO i1 i2 a b : Addr) (i : Nat) (h : Heap) : Prop := IsZip h z TI TO .none ∧ IsTupOf2 h TI (.ref i1) (.ref i2) ∧ (∃ x y, IsTupOf2 h TO x y) ∧ h.IsListIter i1 a i ∧ h.IsTupleIter i2 b i
theorem mem5 {c z TI TO i1 i2 : Addr} (h : c ∈ [z, TI, TO, i1, i2]) : c = z ∨ c = TI ∨ c = TO ∨ c = i1 ∨ c = i2 := by simpa using h
theorem StLT.lt {z TI TO i1 i2 a b : Addr} {i : Nat} {h : Heap} (st : StLT z TI TO i1 i2 a b i h) {c : Addr} (hc : c ∈ [z, TI, TO, i1, i2]) : c < h.objs.size := by
  obtain ⟨hz, hTI, ⟨_, _, hTO⟩, ⟨_, e1, _⟩, ⟨_, e2, _⟩⟩ := st
  rcases mem5 hc with rfl | rfl | rfl | rfl | rfl
  · exact Heap.lt_size hz
  · exact Heap.lt_size hTI
  · exact Heap.lt_size hTO
  · exact Heap.lt_size e1
  · exact Heap.lt_size e2
theorem turn_zipLT {P : Program} {w : World} {K : PySem.W.Frag} {elts : List Expr} {kk : Nat} {tpos : Pos} {a b z TI TO i1 i2 : Addr} (D : Five z TI TO i1 i2 a b) :
    Turn P w K (.Tuple elts kk tpos) (ItzLT K a b) [z, TI, TO, i1, i2] z (StLT z TI TO i1 i2 a b) where
  mem := List.mem_cons_self ..
  obj := fun i h st c hc => by
    obtain ⟨hz, hTI, ⟨x, y, hTO⟩, ⟨o1, e1, _, d1⟩, ⟨o2, e2, _, d2⟩⟩ := st
    rcases mem5 hc with rfl | rfl | rfl | rfl | rfl
    · exact ⟨_, hz, fun v q => nomatch q⟩
    · exact ⟨_, hTI, fun v q => nomatch q⟩
    · exact ⟨_, hTO, fun v q => nomatch q⟩
    · exact ⟨o1, e1, fun v q => by rw [d1] at q; cases q⟩
    · exact ⟨o2, e2, fun v q => by rw [d2] at q; cases q⟩
  keep := fun i h h' st k => by
    obtain ⟨hz, hTI, ⟨x, y, hTO⟩, h1, h2⟩ := st
    exact ⟨k _ (by simp) _ hz, k _ (by simp) _ hTI, ⟨x, y, k _ (by simp) _ hTO⟩, h1.at fun o q => k _ (by simp) o q, h2.at fun o q => k _ (by simp) o q⟩
  item := by
    intro X eP eW eK hc i pins s σ H E I hf st hg
    subst eP eW eK
    have st0 := st
    obtain ⟨hz, hTI, ⟨x0, y0, hTO⟩, h1, h2⟩ := st
    obtain ⟨xs, ys, x, y, qx, qy, gx, gy⟩ := hg
    obtain ⟨us, r1, p1, _⟩ := I.list qx
    obtain ⟨ws, r2, p2, _⟩ := I.tuple qy
    obtain ⟨u, hu, ru⟩ := r1.get gx
    obtain ⟨v, hv, rv⟩ := r2.get gy
    have lu := (List.getElem?_eq_some_iff.mp hu).1
    have lv := (List.getElem?_eq_some_iff.mp hv).1
    have hh := I.ok.hd hc
    refine wpAny_pyNext_zipD2_item D.sep (Draws.list (A := X.A.in1) hh i1 a D.ai us.toArray) (draws_tuple (A := X.A.in1) hh i2 b D.bi ws.toArray) hz hTI hTO ⟨h1, p1.isList⟩ ⟨h2, p2⟩ (by simpa using lu) (by simpa using lv) fun x1 x2 h' tk e1 e2 hz' hTO' s1 s2 hT hsz hk => ?_
    have e1 : u = x1 := by
      have : us[i]? = some x1 := by simpa using e1
      rw [hu] at this
      exact Option.some.inj this
    have e2 : v = x2 := by
      have : ws[i]? = some x2 := by simpa using e2
      rw [hv] at this
      exact Option.some.inj this
    subst e1 e2
    refine ⟨_, rfl, wpAny_letOwnedTupleGo_zip (s := { s with heap := h', toks := tk }) hz' fun h2' hz2 sb => ?_⟩
    have zlt : z < s.heap.objs.size := st0.lt (by simp)
    have hT2 : h2'.get? s.heap.objs.size = some { cls := .type "tuple", data := .seq #[u, v] } := (sb.2 _ (Nat.ne_of_gt zlt)).trans hT
    have new : ObjOk X.prog X.w (upd H s.heap.objs.size (.tup [x, y])) h2' s.heap.objs.size (.tup [x, y]) := ⟨small100 (n := 2) (by decide), [u, v], .cons ru (.cons rv .nil), ⟨_, hT2, rfl, _, rfl⟩⟩
    have old : ∀ c o, c ∉ [z, TI, TO, i1, i2] → s.heap.get? c = some o → h2'.get? c = some o := fun c o hb q => by
      simp only [List.mem_cons, List.not_mem_nil, or_false, not_or] at hb
      exact (sb.2 c hb.1).trans (hk c o hb.1 hb.2.2.1 hb.2.2.2.1 hb.2.2.2.2 q)
    have I1 : Inv X pins σ (upd H s.heap.objs.size (.tup [x, y])) { s with heap := h2', toks := tk } := I.turnedNew (t' := tk) (ch := [z, TI, TO, i1, i2]) old hf (Nat.le_refl _) new
    refine ⟨.ref s.heap.objs.size, _, I1, rfl, ⟨_, x, y, rfl, I.hok.fresh (Nat.le_refl _), rfl, fun l hl => ?_, fun l hl => ?_⟩, ⟨hz2, ?_, ⟨u, v, ?_⟩, ?_, ?_⟩, fun c hcm => ?_⟩
    · rw [I.list_inj hl qx]
      exact gx
    · rw [I.tuple_inj hl qy]
      exact gy
    · exact (sb.2 _ D.sep.TIz).trans (hk _ _ D.sep.TIz D.sep.TITO D.sep.TIi1 D.sep.TIi2 hTI)
    · exact (sb.2 _ D.sep.TOz).trans hTO'
    · exact s1.1.at fun o q => (sb.2 _ D.sep.zi1.symm).trans q
    · exact s2.1.at fun o q => (sb.2 _ D.sep.zi2.symm).trans q
    · rw [upd_ne (Nat.ne_of_lt (st0.lt hcm))]
      exact (hf c hcm).1
  done := by
    intro X eP eW eK hc i pins s σ H E I hf st hg
    subst eP eW eK
    obtain ⟨hz, hTI, ⟨x0, y0, hTO⟩, h1, h2⟩ := st
    obtain ⟨xs, ys, qx, qy, hend⟩ := hg
    obtain ⟨us, r1, p1, _⟩ := I.list qx
    obtain ⟨ws, r2, p2, _⟩ := I.tuple qy
    have l1 := r1.length
    have l2 := r2.length
    have hh := I.ok.hd hc
    have e1 : us.toArray.size = us.length := by simp
    have e2 : ws.toArray.size = ws.length := by simp
    refine wpAny_pyNext_zipD2_end D.sep (Draws.list (A := X.A.in1) hh i1 a D.ai us.toArray) (draws_tuple (A := X.A.in1) hh i2 b D.bi ws.toArray) hz hTI hTO ⟨h1, p1.isList⟩ ⟨h2, p2⟩ (by omega) (by omega) (by omega) fun h' tk hk => ⟨rfl, ?_⟩
    refine I.turnedL (t' := tk) (ch := [z, TI, TO, i1, i2]) (fun c o hb q => ?_) hf
    simp only [List.mem_cons, List.not_mem_nil, or_false, not_or] at hb
    exact hk c o hb.1 hb.2.2.1 hb.2.2.2.1 hb.2.2.2.2 q
  self := fun A i s Q E st h => wpAny_pyIter_zip st.1 h
def iZipLT (K : PySem.W.Frag) (ta : TA) : TI := fun σ H R => ta σ H fun vs H1 => ∃ (a b : Addr) (xs ys : List V), vs = [.ref a, .ref b] ∧ SqL K H1 a xs ∧ SqT K H1 b ys ∧ R (ItzLT K a b) H1
theorem pi_zipLT (K : PySem.W.Frag) {X : Cx} {e e2 : Expr} {ta : TA} {p pos tpos : Pos} {elts : List Expr} {kk : Nat} (hg : Gl X "zip") (hm : X.mg "zip" = none) (ha : PA X [e, e2] ta) (hK : X.K = K := by rfl)
    (hs : starEach [e, e2] X.env = (false, eval e X.env) :: starEach [e2] X.env := by rfl) (hpl : (backTo pos (starEach [e2] X.env)).any (·.1) = false := by rfl) :
    PI X (.Tuple elts kk tpos) (.Call (.Name "zip" p) [e, e2] [] pos) (iZipLT K ta) := by
  subst hK
  refine ⟨fun pins s σ H R I h => ?_⟩
  refine Call_ (ld_blt I hg hm PyProof.Rows.boot_zip (PyProof.Rows.callWith_type1 (thn (ha.run pos pins s σ H _ I h) fun us s1 ⟨vs, H1, I1, r1, q1⟩ => ?_) hs hpl))
  obtain ⟨a, b, xs, ys, rfl, qx, qy, q⟩ := q1
  obtain ⟨u1, u2, rfl, ra, rb⟩ := vals2 r1
  cases (show u1 = Value.ref a from ra)
  cases (show u2 = Value.ref b from rb)
  obtain ⟨ws, _, p1, _⟩ := I1.list qx
  obtain ⟨zs, _, p2, _⟩ := I1.tuple qy
  have la : a < s1.heap.objs.size := p1.lt
  have lb : b < s1.heap.objs.size := by
    obtain ⟨o, ho, _⟩ := id p2
    exact Heap.lt_size ho
  refine zip_begins2 (begins_list a ws.toArray) (begins_tuple b zs.toArray) p1.isList p2 fun h' hz hTI hTO g1 g2 hsz hk => wpAny_pyIter_zip hz ?_
  have I2 : Inv X pins σ H1 { s1 with heap := h' } := I1.kept (t' := s1.toks) hk
  have sep : ZipSep2 (s1.heap.objs.size + 4) (s1.heap.objs.size + 2) (s1.heap.objs.size + 3) s1.heap.objs.size (s1.heap.objs.size + 1) [s1.heap.objs.size, a] [s1.heap.objs.size + 1, b] :=
    zip_sep2 (fun c hc => by rw [List.mem_singleton.mp hc]; exact la) fun c hc => by rw [List.mem_singleton.mp hc]; exact lb
  have D : Five (s1.heap.objs.size + 4) (s1.heap.objs.size + 2) (s1.heap.objs.size + 3) s1.heap.objs.size (s1.heap.objs.size + 1) a b := ⟨sep, Nat.ne_of_lt la, Nat.ne_of_lt (Nat.lt_succ_of_lt lb)⟩
  refine ⟨_, [s1.heap.objs.size + 4, s1.heap.objs.size + 2, s1.heap.objs.size + 3, s1.heap.objs.size, s1.heap.objs.size + 1], _, _, H1, rfl, I2, turn_zipLT D, ⟨hz, hTI, ⟨_, _, hTO⟩, ⟨_, g1, rfl, rfl⟩, ⟨_, g2, rfl, rfl⟩⟩, fun c hcm => ?_, q⟩
  have hle : s1.heap.objs.size ≤ c := by rcases mem5 hcm with rfl | rfl | rfl | rfl | rfl <;> omega
  exact I1.fpOk hle (I1.hok.fresh hle)
theorem walk_zipLT {K : PySem.W.Frag} {a b : Addr} {xs ys : List V} {n : Nat} (h1 : xs.length = n) (h2 : ys.length = n) :
    Walk (ItzLT K a b) n (fun H => SqL K H a xs ∧ SqT K H b ys) (YPair (fun i => xs[i]?) (fun i => ys[i]?)) :=
  ⟨fun i H hi q => ⟨xs, ys, xs[i], ys[i], q.1, q.2, by simp, by simp⟩, fun H q => ⟨xs, ys, q.1, q.2, .inl ⟨h1.symm, by omega⟩⟩,
    fun i H v H' _ q y => by
      obtain ⟨T, x, y, e1, e2, e3, e4, e5⟩ := y
      exact ⟨T, x, y, e1, e2, e3, e4 _ q.1, e5 _ q.2⟩⟩

/-! ### the commands -/
inductive Cm where
  | go (k : Int) | turn (n : Int) | mirror | scale (k : Int) | aim (a b : Int) | place (a b : Int) | mark | ret | exch
def Cm.word : Cm → Str
  | .go _ => "go" | .turn _ => "turn" | .mirror => "mirror" | .scale _ => "scale" | .aim _ _ => "aim" | .place _ _ => "place" | .mark => "mark" | .ret => "return" | .exch => "exchange"
def Cm.nums : Cm → List Int
  | .go k => [k] | .turn n => [n] | .scale k => [k] | .aim a b => [a, b] | .place a b => [a, b] | _ => []
def Cm.lims : Cm → List (Int × Int)
  | .go _ => [(-9, 9)] | .turn _ => [(1, 3)] | .scale _ => [(-3, 3)] | .aim _ _ => [(-9, 9), (-9, 9)] | .place _ _ => [(-9, 9), (-9, 9)] | _ => []
def Cm.ok (c : Cm) : Prop := ∀ (i : Nat) (z : Int) (l : Int × Int), c.nums[i]? = some z → c.lims[i]? = some l → l.1 ≤ z ∧ z ≤ l.2
def Cm.vals (c : Cm) : List V := V.str c.word :: c.nums.map V.int
def rot : Nat → Int × Int → Int × Int
  | 0, h => h
  | n + 1, h => (-(rot n h).2, (rot n h).1)
def Cm.mv (c : Cm) : List Int → List Int
  | [x, y, u, v, p, q] => match c with
    | .go k => [x + k * u, y + k * v, u, v, p, q]
    | .turn n => [x, y, (rot n.toNat (u, v)).1, (rot n.toNat (u, v)).2, p, q]
    | .mirror => [x, y, u, -v, p, q]
    | .scale k => [x, y, k * u, k * v, p, q]
    | .aim a b => [x, y, a, b, p, q]
    | .place a b => [a, b, u, v, p, q]
    | .mark => [x, y, u, v, x, y]
    | .ret => [p, q, u, v, p, q]
    | .exch => [p, q, u, v, x, y]
  | ps => ps
/-- the module's table of limits -/
structure Lims (w : World) (K : PySem.W.Frag) (d : Addr) : Prop where
  row : ∀ c : Cm, ∃ (ab : Addr) (ps : List Addr), KDct K w d c.word (.ref ab) ∧ (∀ H, SqT K H ab (ps.map V.ref)) ∧ ps.length = c.nums.length ∧ c.lims.length = c.nums.length ∧
    ∀ (i : Nat) (p : Addr), ps[i]? = some p → ∃ l, c.lims[i]? = some l ∧ ∀ H, SqT K H p [.int l.1, .int l.2]
theorem sqK {K : PySem.W.Frag} {a : Addr} {d : Option Addr} {us : List Value} {n : Nat} {sl : Array (Option Value)} {xs : List V} (h : K.lookup a = some ⟨.type "tuple", d, .seq us.toArray n, sl⟩) (hl : us.length ≤ 1000) (r : Vals xs us) : ∀ H, SqT K H a xs :=
  fun H => .inr ⟨_, us.toArray, n, h, rfl, rfl, by rw [List.size_toArray]; exact small100 hl, r⟩

theorem iteN {c A B : Prop} [Decidable c] (hc : ¬ c) (h : B) : if decide c = true then A else B := by
  rw [if_neg (by rw [decide_eq_false hc]; exact Bool.false_ne_true)]
  exact h
theorem iteNN {c A B : Prop} [Decidable c] (hc : ¬ c) (h : A) : if (!decide c) = true then A else B := by
  rw [if_pos (by rw [decide_eq_false hc]; rfl)]
  exact h


def Row (w : World) (K : PySem.W.Frag) (d : Addr) (wd : Str) (ls : List (Int × Int)) : Prop := ∃ (ab : Addr) (ps : List Addr), KDct K w d wd (.ref ab) ∧ (∀ H, SqT K H ab (ps.map V.ref)) ∧ ps.length = ls.length ∧
  ∀ (i : Nat) (p : Addr), ps[i]? = some p → ∃ l, ls[i]? = some l ∧ ∀ H, SqT K H p [.int l.1, .int l.2]
section
variable {w : World} {K : PySem.W.Frag} {aB : Addr} {eB : Array DictEntry} {nB : Nat} {wd : Str} {b p p' : Addr} {db dp dp' : Option Addr} {nb np np' : Nat} {sb sp sp' : Array (Option Value)} {lo hi lo' hi' : Int} {t u t' u' : Tok}
theorem pairK (h : K.lookup p = some ⟨.type "tuple", dp, .seq ([.int lo t, .int hi u] : List Value).toArray np, sp⟩) : ∀ H, SqT K H p [.int lo, .int hi] := sqK h (by simp) (.cons ⟨t, rfl⟩ (.cons ⟨u, rfl⟩ .nil))
theorem row0 (lB : K.lookup aB = some ⟨.type "dict", none, .dict eB nB, #[]⟩) (iB : PySem.W.KeysLit w.params eB.toList) (n : PySem.W.nsIn K aB wd = some (some (.ref b))) (l : K.lookup b = some ⟨.type "tuple", db, .seq ([] : List Value).toArray nb, sb⟩) : Row w K aB wd [] :=
  ⟨b, [], ⟨eB, nB, _, lB, iB, n, rfl⟩, sqK l (by simp) .nil, rfl, fun i p e => by simp at e⟩
theorem row1 (lB : K.lookup aB = some ⟨.type "dict", none, .dict eB nB, #[]⟩) (iB : PySem.W.KeysLit w.params eB.toList) (n : PySem.W.nsIn K aB wd = some (some (.ref b))) (l : K.lookup b = some ⟨.type "tuple", db, .seq ([.ref p] : List Value).toArray nb, sb⟩)
    (q : K.lookup p = some ⟨.type "tuple", dp, .seq ([.int lo t, .int hi u] : List Value).toArray np, sp⟩) : Row w K aB wd [(lo, hi)] :=
  ⟨b, [p], ⟨eB, nB, _, lB, iB, n, rfl⟩, sqK l (by simp) (.cons rfl .nil), rfl, fun i z e => by
    match i, e with
    | 0, e => cases e; exact ⟨_, rfl, pairK q⟩⟩
theorem row2 (lB : K.lookup aB = some ⟨.type "dict", none, .dict eB nB, #[]⟩) (iB : PySem.W.KeysLit w.params eB.toList) (n : PySem.W.nsIn K aB wd = some (some (.ref b))) (l : K.lookup b = some ⟨.type "tuple", db, .seq ([.ref p, .ref p'] : List Value).toArray nb, sb⟩)
    (q : K.lookup p = some ⟨.type "tuple", dp, .seq ([.int lo t, .int hi u] : List Value).toArray np, sp⟩) (q' : K.lookup p' = some ⟨.type "tuple", dp', .seq ([.int lo' t', .int hi' u'] : List Value).toArray np', sp'⟩) : Row w K aB wd [(lo, hi), (lo', hi')] :=
  ⟨b, [p, p'], ⟨eB, nB, _, lB, iB, n, rfl⟩, sqK l (by simp) (.cons rfl (.cons rfl .nil)), rfl, fun i z e => by
    match i, e with
    | 0, e => cases e; exact ⟨_, rfl, pairK q⟩
    | 1, e => cases e; exact ⟨_, rfl, pairK q'⟩⟩
theorem lims_of (r0 : Row w K aB "go" [(-9, 9)]) (r1 : Row w K aB "turn" [(1, 3)]) (r2 : Row w K aB "mirror" []) (r3 : Row w K aB "scale" [(-3, 3)]) (r4 : Row w K aB "aim" [(-9, 9), (-9, 9)]) (r5 : Row w K aB "place" [(-9, 9), (-9, 9)])
    (r6 : Row w K aB "mark" []) (r7 : Row w K aB "return" []) (r8 : Row w K aB "exchange" []) : Lims w K aB := by
  refine ⟨fun c => ?_⟩
  have fit : ∀ {ls : List (Int × Int)}, Row w K aB c.word ls → c.lims = ls → c.lims.length = c.nums.length → ∃ (ab : Addr) (ps : List Addr), KDct K w aB c.word (.ref ab) ∧ (∀ H, SqT K H ab (ps.map V.ref)) ∧ ps.length = c.nums.length ∧ c.lims.length = c.nums.length ∧ ∀ (i : Nat) (p : Addr), ps[i]? = some p → ∃ l, c.lims[i]? = some l ∧ ∀ H, SqT K H p [.int l.1, .int l.2] := fun {ls} r e1 e2 => by
    obtain ⟨ab, ps, h1, h2, h3, h4⟩ := r
    exact ⟨ab, ps, h1, h2, by rw [h3, ← e1, e2], e2, by rw [e1]; exact h4⟩
  cases c with
  | go k => exact fit r0 rfl rfl
  | turn k => exact fit r1 rfl rfl
  | mirror => exact fit r2 rfl rfl
  | scale k => exact fit r3 rfl rfl
  | aim a b => exact fit r4 rfl rfl
  | place a b => exact fit r5 rfl rfl
  | mark => exact fit r6 rfl rfl
  | ret => exact fit r7 rfl rfl
  | exch => exact fit r8 rfl rfl
end

/-! ### data that stand in the heap, their lists at addresses of a kind -/
section
variable (S : Addr → Prop) (H : Hp)
mutual
def Tr : PyData → V → Prop
  | .none, v => v = .non
  | .bool b, v => v = .bl b
  | .int i, v => v = .int i
  | .str s, v => v = .str s
  | .list ds, v => ∃ a xs, v = .ref a ∧ S a ∧ H a = some (.lst xs) ∧ TrAll ds xs
  | .tuple ds, v => ∃ a xs, v = .ref a ∧ H a = some (.tup xs) ∧ TrAll ds xs
  | .dict ds, v => ∃ a kvs, v = .ref a ∧ H a = some (.dK kvs) ∧ (ds = [] → kvs = [])
def TrAll : List PyData → List V → Prop
  | [], xs => xs = []
  | d :: ds, xs => ∃ x r, xs = x :: r ∧ Tr d x ∧ TrAll ds r
end
end
/-- lists at M may have changed, nothing else that was tracked -/
def KpL (M : Addr → Prop) (H H' : Hp) : Prop := ∀ b o, (M b → ∀ xs, o ≠ .lst xs) → H b = some o → H' b = some o
section
variable {S S' M M' : Addr → Prop} {H H' H'' : Hp}
theorem KpL.refl : KpL M H H := fun _ _ _ h => h
theorem KpL.trans (a : KpL M H H') (b : KpL M H' H'') : KpL M H H'' := fun c o n h => b c o n (a c o n h)
theorem KpL.of (s : Same H H') : KpL M H H' := fun b o _ h => s b o h
theorem KpL.mono (k : KpL M H H') (h : ∀ a, M a → M' a) : KpL M' H H' := fun b o n e => k b o (fun m => n (h b m)) e
theorem KpL.at_ (k : KpL M H H') {b : Addr} {o : HO} (e : H b = some o) (n : ¬ M b) : H' b = some o := k b o (fun m => absurd m n) e
theorem KpL.tup (k : KpL M H H') {b : Addr} {xs : List V} (e : H b = some (.tup xs)) : H' b = some (.tup xs) := k b _ (fun _ _ z => nomatch z) e
theorem KpL.ins (k : KpL M H H') {b C dx : Addr} {xs : List (Str × V)} (e : H b = some (.ins C dx xs)) : H' b = some (.ins C dx xs) := k b _ (fun _ _ z => nomatch z) e
theorem KpL.put (k : KpL M H H') {p : Addr} {xs : List V} (hp : M p) (h : ∃ ys, H p = some (.lst ys)) : KpL M H (upd H' p (.lst xs)) := fun b o n e => by
  by_cases hb : b = p
  · subst hb
    obtain ⟨ys, h⟩ := h
    rw [h] at e
    cases e
    exact absurd rfl (n hp ys)
  · rw [upd_ne hb]
    exact k b o n e
theorem KpL.new {q : Addr} {o : HO} (k : KpL M H H') (n : H q = none) : KpL M H (upd H' q o) := fun b x m e => by
  rw [upd_ne (ne_of_none e n)]
  exact k b x m e
theorem KpL.kp {p : Addr} (k : Kp p H H') (hp : M p) (h : ∃ ys, H p = some (.lst ys)) : KpL M H H' := fun b o n e => by
  by_cases hb : b = p
  · subst hb
    obtain ⟨ys, h⟩ := h
    rw [h] at e
    cases e
    exact absurd rfl (n hp ys)
  · exact k b o hb e
/-- what is tracked stays tracked -/
theorem KpL.free {q : Addr} (k : KpL M H H') (hM : ∀ a, M a → ∃ ys, H' a = some (.lst ys)) (e : H' q = none) : H q = none := by
  cases h : H q with
  | none => rfl
  | some o =>
    by_cases m : M q
    · obtain ⟨ys, hy⟩ := hM q m
      rw [hy] at e
      cases e
    · rw [k.at_ h m] at e
      cases e
theorem KpL.same (k : KpL M H H') (hM : ∀ a, M a → H a = none) : Same H H' := fun b o e => k b o (fun m => by rw [hM b m] at e; cases e) e
mutual
theorem Tr.mono (h : ∀ a, S a → S' a) : ∀ (d : PyData) (v : V), Tr S H d v → Tr S' H d v
  | .none, v, e => e
  | .bool b, v, e => e
  | .int i, v, e => e
  | .str s, v, e => e
  | .list ds, v, ⟨a, xs, e, s, l, t⟩ => ⟨a, xs, e, h a s, l, TrAll.mono h ds xs t⟩
  | .tuple ds, v, ⟨a, xs, e, l, t⟩ => ⟨a, xs, e, l, TrAll.mono h ds xs t⟩
  | .dict _, v, e => e
theorem TrAll.mono (h : ∀ a, S a → S' a) : ∀ (ds : List PyData) (xs : List V), TrAll S H ds xs → TrAll S' H ds xs
  | [], xs, e => e
  | d :: ds, xs, ⟨x, r, e, t, q⟩ => ⟨x, r, e, Tr.mono h d x t, TrAll.mono h ds r q⟩
end
mutual
theorem Tr.kpl (k : KpL M H H') (h : ∀ a, S a → ¬ M a) : ∀ (d : PyData) (v : V), Tr S H d v → Tr S H' d v
  | .none, v, e => e
  | .bool b, v, e => e
  | .int i, v, e => e
  | .str s, v, e => e
  | .list ds, v, ⟨a, xs, e, s, l, t⟩ => ⟨a, xs, e, s, k.at_ l (h a s), TrAll.kpl k h ds xs t⟩
  | .tuple ds, v, ⟨a, xs, e, l, t⟩ => ⟨a, xs, e, k.tup l, TrAll.kpl k h ds xs t⟩
  | .dict _, v, ⟨a, kvs, e, l, z⟩ => ⟨a, kvs, e, k a _ (fun _ _ z => nomatch z) l, z⟩
theorem TrAll.kpl (k : KpL M H H') (h : ∀ a, S a → ¬ M a) : ∀ (ds : List PyData) (xs : List V), TrAll S H ds xs → TrAll S H' ds xs
  | [], xs, e => e
  | d :: ds, xs, ⟨x, r, e, t, q⟩ => ⟨x, r, e, Tr.kpl k h d x t, TrAll.kpl k h ds r q⟩
end
theorem Tr.same (s : Same H H') {d : PyData} {v : V} (t : Tr S H d v) : Tr S H' d v := Tr.kpl (M := fun _ => False) (KpL.of s) (fun _ _ h => h) d v t
theorem TrAll.same (s : Same H H') {ds : List PyData} {xs : List V} (t : TrAll S H ds xs) : TrAll S H' ds xs := TrAll.kpl (M := fun _ => False) (KpL.of s) (fun _ _ h => h) ds xs t
theorem TrAll.len : ∀ {ds : List PyData} {xs : List V}, TrAll S H ds xs → xs.length = ds.length
  | [], xs, e => by cases e; rfl
  | d :: ds, xs, ⟨x, r, e, _, q⟩ => by rw [e, List.length_cons, List.length_cons, q.len]
theorem TrAll.get : ∀ {ds : List PyData} {xs : List V} {i : Nat} {x : V}, TrAll S H ds xs → xs[i]? = some x → ∃ d, ds[i]? = some d ∧ Tr S H d x
  | [], xs, i, x, e, h => by cases e; simp at h
  | d :: ds, xs, 0, x, ⟨y, r, e, t, q⟩, h => by subst e; cases h; exact ⟨d, rfl, t⟩
  | d :: ds, xs, i + 1, x, ⟨y, r, e, t, q⟩, h => by subst e; exact q.get (i := i) h
theorem TrAll.get' : ∀ {ds : List PyData} {xs : List V} {i : Nat} {d : PyData}, TrAll S H ds xs → ds[i]? = some d → ∃ x, xs[i]? = some x ∧ Tr S H d x
  | [], xs, i, x, e, h => by simp at h
  | d :: ds, xs, 0, x, ⟨y, r, e, t, q⟩, h => by subst e; cases h; exact ⟨y, rfl, t⟩
  | d :: ds, xs, i + 1, x, ⟨y, r, e, t, q⟩, h => by subst e; exact q.get' (i := i) h
theorem TrAll.append : ∀ {ds es : List PyData} {xs ys : List V}, TrAll S H ds xs → TrAll S H es ys → TrAll S H (ds ++ es) (xs ++ ys)
  | [], es, xs, ys, e, t => by cases e; exact t
  | d :: ds, es, xs, ys, ⟨x, r, e, q, t⟩, u => by subst e; exact ⟨x, r ++ ys, rfl, q, TrAll.append t u⟩
theorem TrAll.nil : TrAll S H [] [] := rfl
theorem TrAll.one {d : PyData} {x : V} (t : Tr S H d x) : TrAll S H [d] [x] := ⟨x, [], rfl, t, rfl⟩
theorem TrAll.cons {d : PyData} {ds : List PyData} {x : V} {xs : List V} (t : Tr S H d x) (q : TrAll S H ds xs) : TrAll S H (d :: ds) (x :: xs) := ⟨x, xs, rfl, t, q⟩
theorem TrAll.snoc {ds : List PyData} {xs : List V} {d : PyData} {x : V} (q : TrAll S H ds xs) (t : Tr S H d x) : TrAll S H (ds ++ [d]) (xs ++ [x]) := q.append (TrAll.one t)
theorem TrAll.take : ∀ {ds : List PyData} {xs : List V} (n : Nat), TrAll S H ds xs → TrAll S H (ds.take n) (xs.take n)
  | [], xs, n, e => by cases e; simp [TrAll]
  | d :: ds, xs, 0, _ => by simp [TrAll]
  | d :: ds, xs, n + 1, ⟨x, r, e, t, q⟩ => by subst e; exact ⟨x, r.take n, rfl, t, q.take n⟩
theorem TrAll.drop : ∀ {ds : List PyData} {xs : List V} (n : Nat), TrAll S H ds xs → TrAll S H (ds.drop n) (xs.drop n)
  | [], xs, n, e => by cases e; simp [TrAll]
  | d :: ds, xs, 0, t => t
  | d :: ds, xs, n + 1, ⟨x, r, e, t, q⟩ => by subst e; exact q.drop n
theorem TrAll.ints : ∀ {ns : List Int} {us : List V}, TrAll S H (ns.map PyData.int) us → us = ns.map V.int
  | [], us, h => h
  | n :: r, us, ⟨x, q, e, t, h⟩ => by
    cases t
    rw [e, h.ints]
    rfl
theorem TrAll.ofInts : ∀ (ns : List Int), TrAll S H (ns.map PyData.int) (ns.map V.int)
  | [] => rfl
  | n :: r => ⟨_, _, rfl, rfl, TrAll.ofInts r⟩
mutual
theorem Tr.dp {K : PySem.W.Frag} : ∀ (d : PyData) (v : V), PyData.canLay0 d = true → Tr S H d v → Dp K H v d
  | .none, v, _, e => by cases e; exact .non
  | .bool b, v, _, e => by cases e; exact .bl b
  | .int i, v, _, e => by cases e; exact .int i
  | .str s, v, _, e => by cases e; exact .str s
  | .list ds, v, c, ⟨a, xs, e, s, l, t⟩ => by subst e; exact .lst (SqL.of l) (TrAll.dp ds xs (by simpa [PyData.canLay0] using c) t)
  | .tuple ds, v, c, ⟨a, xs, e, l, t⟩ => by subst e; exact .tup (SqT.of l) (TrAll.dp ds xs (by simpa [PyData.canLay0] using c) t)
  | .dict _, v, c, _ => by simp [PyData.canLay0] at c
theorem TrAll.dp {K : PySem.W.Frag} : ∀ (ds : List PyData) (xs : List V), PyData.canLayAll0 ds = true → TrAll S H ds xs → DpAll K H xs ds
  | [], xs, _, e => by cases e; exact .nil
  | d :: ds, xs, c, ⟨x, r, e, t, q⟩ => by
    have c : d.canLay0 = true ∧ PyData.canLayAll0 ds = true := by simpa [PyData.canLayAll0] using c
    subst e
    exact .cons (Tr.dp d x c.1 t) (TrAll.dp ds r c.2 q)
end
end
/-- new since H -/
abbrev New (H : Hp) : Addr → Prop := fun a => H a = none
/-! ### a new list of new data under construction -/
def Bld (H1 : Hp) (D : Addr) (ds : List PyData) (H' : Hp) : Prop := Same H1 H' ∧ ∃ zs, H' D = some (.lst zs) ∧ TrAll (fun a => H1 a = none ∧ a ≠ D) H' ds zs
section
variable {H1 H' H2 : Hp} {D : Addr} {ds : List PyData}
theorem Bld.nil (h : H1 D = none) : Bld H1 D [] (upd H1 D (.lst [])) := ⟨same_upd h, [], upd_same, TrAll.nil⟩
theorem Bld.push {d : PyData} {r : V} (m : Bld H1 D ds H') (nD : H1 D = none) (s : Same H' H2) (t : Tr (New H') H2 d r) : ∃ zs, H2 D = some (.lst zs) ∧ zs.length = ds.length ∧ Bld H1 D (ds ++ [d]) (upd H2 D (.lst (zs ++ [r]))) := by
  obtain ⟨sm, zs, hD, tz⟩ := m
  have k2 : KpL (fun a => a = D) H2 (upd H2 D (.lst (zs ++ [r]))) := KpL.refl.put rfl ⟨zs, s _ _ hD⟩
  refine ⟨zs, s _ _ hD, tz.len, same_new (sm.trans s) nD, zs ++ [r], upd_same, TrAll.snoc ?_ ?_⟩
  · exact TrAll.kpl k2 (fun a na e => na.2 e) _ _ (tz.same s)
  · refine Tr.kpl k2 (fun a na e => na.2 e) _ _ (Tr.mono (fun a na => ⟨sm.free na, fun e => ?_⟩) _ _ t)
    have na : H' a = none := na
    rw [e, hD] at na
    cases na
theorem Bld.done (m : Bld H1 D ds H') (nD : H1 D = none) : Tr (New H1) H' (.list ds) (.ref D) := by
  obtain ⟨sm, zs, hD, tz⟩ := m
  exact ⟨D, zs, rfl, nD, hD, TrAll.mono (fun a na => na.1) _ _ tz⟩
theorem Bld.len (m : Bld H1 D ds H') : ∃ zs, H' D = some (.lst zs) ∧ zs.length = ds.length := ⟨_, m.2.choose_spec.1, m.2.choose_spec.2.len⟩
end
theorem Tr.newer {H0 H1 H2 : Hp} {d : PyData} {v : V} (s : Same H0 H1) (t : Tr (New H1) H2 d v) : Tr (New H0) H2 d v := Tr.mono (fun _ n => s.free n) _ _ t
theorem TrAll.newer {H0 H1 H2 : Hp} {d : List PyData} {v : List V} (s : Same H0 H1) (t : TrAll (New H1) H2 d v) : TrAll (New H0) H2 d v := TrAll.mono (fun _ n => s.free n) _ _ t
section
variable {S : Addr → Prop} {H H' : Hp}
mutual
theorem Tr.keep (k : ∀ b o, ((∃ xs, o = .lst xs) ∧ S b ∨ (∃ xs, o = .tup xs) ∨ ∃ xs, o = .dK xs) → H b = some o → H' b = some o) : ∀ (d : PyData) (v : V), Tr S H d v → Tr S H' d v
  | .none, v, e => e
  | .bool b, v, e => e
  | .int i, v, e => e
  | .str s, v, e => e
  | .list ds, v, ⟨a, xs, e, s, l, t⟩ => ⟨a, xs, e, s, k a _ (.inl ⟨⟨_, rfl⟩, s⟩) l, TrAll.keep k ds xs t⟩
  | .tuple ds, v, ⟨a, xs, e, l, t⟩ => ⟨a, xs, e, k a _ (.inr (.inl ⟨_, rfl⟩)) l, TrAll.keep k ds xs t⟩
  | .dict _, v, ⟨a, kvs, e, l, z⟩ => ⟨a, kvs, e, k a _ (.inr (.inr ⟨_, rfl⟩)) l, z⟩
theorem TrAll.keep (k : ∀ b o, ((∃ xs, o = .lst xs) ∧ S b ∨ (∃ xs, o = .tup xs) ∨ ∃ xs, o = .dK xs) → H b = some o → H' b = some o) : ∀ (ds : List PyData) (xs : List V), TrAll S H ds xs → TrAll S H' ds xs
  | [], xs, e => e
  | d :: ds, xs, ⟨x, r, e, t, q⟩ => ⟨x, r, e, Tr.keep k d x t, TrAll.keep k ds r q⟩
end
/-- an object's attributes are stored to -/
theorem Tr.put {p C dx : Addr} {fs gs : List (Str × V)} {d : PyData} {v : V} (h : H p = some (.ins C dx fs)) (t : Tr S H d v) : Tr S (upd H p (.ins C dx gs)) d v :=
  Tr.keep (fun b o n e => by
    by_cases hb : b = p
    · subst hb
      rw [h] at e
      cases e
      rcases n with ⟨⟨_, n⟩, _⟩ | ⟨_, n⟩ | ⟨_, n⟩ <;> cases n
    · rw [upd_ne hb]
      exact e) d v t
end
theorem Tr.lst {S : Addr → Prop} {H : Hp} {ds : List PyData} {a : Addr} (t : Tr S H (.list ds) (.ref a)) : ∃ xs, S a ∧ H a = some (.lst xs) ∧ TrAll S H ds xs := by
  obtain ⟨b, xs, e, h⟩ := t
  cases e
  exact ⟨xs, h⟩
theorem Tr.tup {S : Addr → Prop} {H : Hp} {ds : List PyData} {a : Addr} (t : Tr S H (.tuple ds) (.ref a)) : ∃ xs, H a = some (.tup xs) ∧ TrAll S H ds xs := by
  obtain ⟨b, xs, e, h⟩ := t
  cases e
  exact ⟨xs, h⟩
section
variable {S : Addr → Prop} {H : Hp}
mutual
theorem Tr.tracked : ∀ (d : PyData) (v : V), Tr S H d v → Tr (fun a => S a ∧ H a ≠ none) H d v
  | .none, v, e => e
  | .bool b, v, e => e
  | .int i, v, e => e
  | .str s, v, e => e
  | .list ds, v, ⟨a, xs, e, s, l, t⟩ => ⟨a, xs, e, ⟨s, by rw [l]; exact fun z => nomatch z⟩, l, TrAll.tracked ds xs t⟩
  | .tuple ds, v, ⟨a, xs, e, l, t⟩ => ⟨a, xs, e, l, TrAll.tracked ds xs t⟩
  | .dict _, v, e => e
theorem TrAll.tracked : ∀ (ds : List PyData) (xs : List V), TrAll S H ds xs → TrAll (fun a => S a ∧ H a ≠ none) H ds xs
  | [], xs, e => e
  | d :: ds, xs, ⟨x, r, e, t, q⟩ => ⟨x, r, e, Tr.tracked d x t, TrAll.tracked ds r q⟩
end
end

/-! ### statements -/
inductive Stm where
  | cmd (c : Cm)
  | fin (way : Bool)
  | keep (b : List Stm)
  | again (b : List Stm)
  | either (a b : List Stm)
  | call (p : Nat) (saved : Bool) (a b : List Stm)
def Cm.d (c : Cm) : PyData := .tuple (.str c.word :: c.nums.map .int)
mutual
def Stm.d : Stm → PyData
  | .cmd c => c.d
  | .fin w => .tuple [.str "end", .int (if w then 1 else 0)]
  | .keep b => .tuple [.str "keep", .list (blkD b)]
  | .again b => .tuple [.str "again", .list (blkD b)]
  | .either a b => .tuple [.str "either", .list (blkD a), .list (blkD b)]
  | .call p s a b => .tuple [.str "call", .int p, .bool s, .list [.list (blkD a), .list (blkD b)]]
def blkD : List Stm → List PyData
  | [] => []
  | s :: r => s.d :: blkD r
end
mutual
/-- how many statements, all levels -/
def Stm.cnt : Stm → Nat
  | .keep b => 1 + cntB b
  | .again b => 1 + cntB b
  | .either a b => 1 + (cntB a + cntB b)
  | .call _ _ a b => 1 + (cntB a + cntB b)
  | _ => 1
def cntB : List Stm → Nat
  | [] => 0
  | s :: r => s.cnt + cntB r
end
mutual
/-- a statement of a list at level l of a book of many procedures -/
def Stm.ok (many : Nat) : Stm → Nat → Prop
  | .cmd c, _ => c.ok
  | .fin _, _ => True
  | .keep b, l => l < 3 ∧ b.length ≤ 8 ∧ okB many b (l + 1)
  | .again b, l => l < 3 ∧ b.length ≤ 8 ∧ okB many b (l + 1)
  | .either a b, l => l < 3 ∧ (a.length ≤ 8 ∧ okB many a (l + 1)) ∧ b.length ≤ 8 ∧ okB many b (l + 1)
  | .call p _ a b, l => l < 3 ∧ p < many ∧ (a.length ≤ 8 ∧ okB many a (l + 1)) ∧ b.length ≤ 8 ∧ okB many b (l + 1)
def okB (many : Nat) : List Stm → Nat → Prop
  | [], _ => True
  | s :: r, l => s.ok many l ∧ okB many r l
end
def Stm.blocks : Stm → List (List Stm)
  | .keep b => [b]
  | .again b => [b]
  | .either a b => [a, b]
  | .call _ _ a b => [a, b]
  | _ => []
theorem blkD_map : ∀ b : List Stm, blkD b = b.map Stm.d
  | [] => rfl
  | s :: r => by rw [blkD, blkD_map r]; rfl
theorem blkD_append (a b : List Stm) : blkD (a ++ b) = blkD a ++ blkD b := by rw [blkD_map, blkD_map, blkD_map, List.map_append]
theorem blkD_len (b : List Stm) : (blkD b).length = b.length := by rw [blkD_map, List.length_map]
theorem blkD_get {b : List Stm} {i : Nat} {d : PyData} (h : (blkD b)[i]? = some d) : ∃ s, b[i]? = some s ∧ d = s.d := by
  rw [blkD_map, List.getElem?_map] at h
  cases e : b[i]? with
  | none => rw [e] at h; cases h
  | some s => rw [e] at h; cases h; exact ⟨s, rfl, rfl⟩
theorem cntB_append : ∀ a b : List Stm, cntB (a ++ b) = cntB a + cntB b
  | [], b => by simp [cntB]
  | s :: r, b => by rw [List.cons_append, cntB, cntB_append r b, cntB]; omega
theorem Stm.cnt_pos : ∀ s : Stm, 1 ≤ s.cnt
  | .cmd _ => Nat.le_refl _
  | .fin _ => Nat.le_refl _
  | .keep b => by simp [Stm.cnt]
  | .again b => by simp [Stm.cnt]
  | .either a b => by simp [Stm.cnt]
  | .call _ _ a b => by simp [Stm.cnt]
theorem len_cntB : ∀ b : List Stm, b.length ≤ cntB b
  | [] => Nat.le_refl _
  | s :: r => by
    have := len_cntB r
    have := s.cnt_pos
    rw [List.length_cons, cntB]
    omega
theorem okB_append {many : Nat} : ∀ {a b : List Stm} {l : Nat}, okB many a l → okB many b l → okB many (a ++ b) l
  | [], b, l, _, h => h
  | s :: r, b, l, h1, h2 => ⟨h1.1, okB_append h1.2 h2⟩
theorem okB_get {many : Nat} : ∀ {b : List Stm} {l i : Nat} {s : Stm}, okB many b l → b[i]? = some s → s.ok many l
  | [], l, i, s, _, e => by simp at e
  | s :: r, l, 0, _, h, e => by cases e; exact h.1
  | s :: r, l, i + 1, _, h, e => okB_get (i := i) h.2 e
/-! ### what the program says of any value -/
def isI : PyData → Bool
  | .int _ => true
  | _ => false
def inD (d : PyData) (l : Int × Int) : Bool := match d with
  | .int z => decide (l.1 ≤ z) && decide (z ≤ l.2)
  | _ => false
def isLs : PyData → Bool
  | .list _ => true
  | _ => false
def isTp : PyData → Bool
  | .tuple _ => true
  | _ => false
def isBl : PyData → Bool
  | .bool _ => true
  | _ => false

def boundsOf (s : Str) : Option (List (Int × Int)) :=
  if s = "go" then some [(-9, 9)] else if s = "turn" then some [(1, 3)] else if s = "mirror" then some [] else if s = "scale" then some [(-3, 3)] else if s = "aim" then some [(-9, 9), (-9, 9)] else
  if s = "place" then some [(-9, 9), (-9, 9)] else if s = "mark" then some [] else if s = "return" then some [] else if s = "exchange" then some [] else none
def cmdOk : PyData → Bool
  | .tuple (.str s :: ns) => match boundsOf s with
    | some ls => decide (ns.length = ls.length) && (List.zipWith inD ns ls).all id
    | none => false
  | _ => false
def areBl (n : Nat) : PyData → Bool
  | .list bs => decide (bs.length = n) && bs.all isLs
  | _ => false
def areBlT (n : Nat) (bs : List PyData) : Bool := decide (bs.length = n) && bs.all isLs
def callOk (many : Int) : List PyData → Bool
  | [_, p, s, b] => inD p (0, many - 1) && isBl s && areBl 2 b
  | _ => false
def endOk : List PyData → Bool
  | [y] => inD y (0, 1)
  | _ => false
def stRest (level many : Int) : PyData → Bool
  | .tuple (x :: r) =>
    if PyData.eqv x (.str "end") then endOk r
    else if level = 3 then false
    else if PyData.eqv x (.str "call") then callOk many (x :: r)
    else if PyData.eqv x (.str "either") then areBlT 2 r
    else (PyData.eqv x (.str "keep") || PyData.eqv x (.str "again")) && areBlT 1 r
  | _ => false
def stOk (level many : Int) (d : PyData) : Bool := cmdOk d || stRest level many d
def oddWords : List Str := ["keep", "again", "either", "call", "end", "Mark", "bad"]
def WordOk : PyData → Prop
  | .tuple (.str s :: _) => s ∈ oddWords ∨ ∃ c : Cm, c.word = s
  | _ => True
theorem bounds_cm (c : Cm) : boundsOf c.word = some c.lims := by cases c <;> (simp only [Cm.word, Cm.lims]; decide +kernel)
theorem bounds_odd {s : Str} (h : s ∈ oddWords) : boundsOf s = none := by
  simp only [oddWords, List.mem_cons, List.not_mem_nil, or_false] at h
  rcases h with rfl | rfl | rfl | rfl | rfl | rfl | rfl <;> decide +kernel
theorem zip_ok : ∀ (ns : List Int) (ls : List (Int × Int)), (∀ (i : Nat) (z : Int) (l : Int × Int), ns[i]? = some z → ls[i]? = some l → l.1 ≤ z ∧ z ≤ l.2) → (List.zipWith inD (ns.map PyData.int) ls).all id = true
  | [], ls, _ => by cases ls <;> rfl
  | n :: r, [], _ => rfl
  | n :: r, l :: q, h => by
    have h0 := h 0 n l rfl rfl
    have hr := zip_ok r q fun i z k e1 e2 => h (i + 1) z k e1 e2
    show (inD (.int n) l && (List.zipWith inD (r.map PyData.int) q).all id) = true
    rw [hr]
    simp [inD, h0.1, h0.2]
theorem cmdOk_ok {c : Cm} (h : c.ok) : cmdOk c.d = true := by
  have hl : c.nums.length = c.lims.length := by cases c <;> rfl
  unfold Cm.d cmdOk
  dsimp only
  rw [bounds_cm]
  dsimp only
  rw [zip_ok _ _ h, List.length_map, hl]
  simp
theorem wordOk_d (s : Stm) : WordOk s.d := by
  cases s with
  | cmd c => exact .inr ⟨c, rfl⟩
  | _ => exact .inl (by simp [oddWords])
theorem stOk_ok {many : Nat} {s : Stm} {l : Nat} (h : s.ok many l) : stOk l many s.d = true := by
  have e3 : l < 3 → ((l : Int) = 3) = False := fun h => by simp; omega
  cases s with
  | cmd c =>
    show (cmdOk c.d || _) = true
    rw [cmdOk_ok h]
    rfl
  | fin w => cases w <;> simp [stOk, stRest, endOk, Stm.d, PyData.eqv, inD]
  | keep b =>
    have n1 : ¬ (("keep" : Str) = "end") := by decide +kernel
    have n2 : ¬ (("keep" : Str) = "call") := by decide +kernel
    have n3 : ¬ (("keep" : Str) = "either") := by decide +kernel
    simp [stOk, stRest, endOk, Stm.d, PyData.eqv, e3 h.1, n1, n2, n3, areBlT, isLs]
  | again b =>
    have n1 : ¬ (("again" : Str) = "end") := by decide +kernel
    have n2 : ¬ (("again" : Str) = "call") := by decide +kernel
    have n3 : ¬ (("again" : Str) = "either") := by decide +kernel
    simp [stOk, stRest, endOk, Stm.d, PyData.eqv, e3 h.1, n1, n2, n3, areBlT, isLs]
  | either a b =>
    have n1 : ¬ (("either" : Str) = "end") := by decide +kernel
    have n2 : ¬ (("either" : Str) = "call") := by decide +kernel
    simp [stOk, stRest, endOk, Stm.d, PyData.eqv, e3 h.1, n1, n2, areBlT, isLs]
  | call p s a b =>
    have n1 : ¬ (("call" : Str) = "end") := by decide +kernel
    have h2 := h.2.1
    have i1 : (0 : Int) ≤ (p : Int) := by omega
    have i2 : (p : Int) ≤ (many : Int) - 1 := by omega
    simp [stOk, stRest, endOk, Stm.d, PyData.eqv, e3 h.1, n1, callOk, areBl, isLs, isBl, inD, i2]
abbrev bD (b : List Stm) : PyData := .list (blkD b)
def isBlk (w : Str) : Bool := inV (.str w) [.str "keep", .str "either", .str "again"]
def callBl : List PyData → List PyData
  | [_, _, .list bs] => bs
  | _ => []
def blocksR (w : Str) (r : List PyData) : List PyData :=
  if w = "call" then callBl r else if isBlk w = true then r else []
theorem isBlk_cm (c : Cm) : isBlk c.word = false := by cases c <;> (simp only [Cm.word]; decide +kernel)
theorem cm_call (c : Cm) : ¬ c.word = "call" := by cases c <;> (simp only [Cm.word]; decide +kernel)
/-- the word and what stands behind it -/
def Stm.word : Stm → Str
  | .cmd c => c.word
  | .fin _ => "end"
  | .keep _ => "keep"
  | .again _ => "again"
  | .either _ _ => "either"
  | .call _ _ _ _ => "call"
def Stm.rest : Stm → List PyData
  | .cmd c => c.nums.map .int
  | .fin w => [.int (if w then 1 else 0)]
  | .keep b => [bD b]
  | .again b => [bD b]
  | .either a b => [bD a, bD b]
  | .call p s a b => [.int p, .bool s, .list [bD a, bD b]]
theorem Stm.d_eq (s : Stm) : s.d = .tuple (.str s.word :: s.rest) := by cases s <;> simp only [Stm.d, Stm.word, Stm.rest, Cm.d]
theorem blocksR_d (s : Stm) : blocksR s.word s.rest = s.blocks.map bD := by
  unfold blocksR
  cases s with
  | cmd c => simp only [Stm.word, if_neg (cm_call c), isBlk_cm, Bool.false_eq_true, if_false, Stm.blocks, List.map_nil]
  | fin w => simp only [Stm.word, if_neg (show ¬ ("end" : Str) = "call" by decide +kernel), show isBlk "end" = false by decide +kernel, Bool.false_eq_true, if_false, Stm.blocks, List.map_nil]
  | keep b => simp only [Stm.word, if_neg (show ¬ ("keep" : Str) = "call" by decide +kernel), show isBlk "keep" = true by decide +kernel, if_true, Stm.blocks, Stm.rest, List.map_nil, List.map_cons]
  | again b => simp only [Stm.word, if_neg (show ¬ ("again" : Str) = "call" by decide +kernel), show isBlk "again" = true by decide +kernel, if_true, Stm.blocks, Stm.rest, List.map_nil, List.map_cons]
  | either a b => simp only [Stm.word, if_neg (show ¬ ("either" : Str) = "call" by decide +kernel), show isBlk "either" = true by decide +kernel, if_true, Stm.blocks, Stm.rest, List.map_nil, List.map_cons]
  | call p s a b => simp only [Stm.word, if_true, callBl, Stm.blocks, Stm.rest, List.map_nil, List.map_cons]
theorem Stm.rest_len (s : Stm) : s.rest.length ≤ 3 := by
  cases s with
  | cmd c => cases c <;> simp [Stm.rest, Cm.nums]
  | _ => simp [Stm.rest]
theorem Stm.rest_call {s : Stm} (h : s.word = "call") : ∃ p q bs, s.rest = [p, q, .list bs] := by
  cases s with
  | call p s a b => exact ⟨_, _, _, rfl⟩
  | cmd c => exact absurd h (cm_call c)
  | fin w => exact absurd h (show ¬ ("end" : Str) = "call" by decide +kernel)
  | keep w => exact absurd h (show ¬ ("keep" : Str) = "call" by decide +kernel)
  | again w => exact absurd h (show ¬ ("again" : Str) = "call" by decide +kernel)
  | either w z => exact absurd h (show ¬ ("either" : Str) = "call" by decide +kernel)
def cntBs : List (List Stm) → Nat
  | [] => 0
  | b :: r => cntB b + cntBs r
theorem cnt_blocks (z : Stm) : z.cnt = 1 + cntBs z.blocks := by cases z <;> simp [Stm.cnt, Stm.blocks, cntBs]
theorem cntB_take : ∀ {b : List Stm} {i : Nat} {z : Stm}, b[i]? = some z → cntB (b.take (i + 1)) = cntB (b.take i) + z.cnt
  | [], i, z, e => by simp at e
  | s :: r, 0, z, e => by cases e; simp [cntB]
  | s :: r, i + 1, z, e => by
    have := cntB_take (b := r) (i := i) e
    rw [List.take_succ_cons, List.take_succ_cons, cntB, cntB, this]
    omega
theorem cntB_le : ∀ {b : List Stm} {i : Nat} {z : Stm}, b[i]? = some z → cntB (b.take i) + z.cnt ≤ cntB b
  | [], i, z, e => by simp at e
  | s :: r, 0, z, e => by cases e; simp [cntB]
  | s :: r, i + 1, z, e => by
    have := cntB_le (b := r) (i := i) e
    rw [List.take_succ_cons, cntB, cntB]
    omega
theorem cntBs_take : ∀ {b : List (List Stm)} {i : Nat} {z : List Stm}, b[i]? = some z → cntBs (b.take (i + 1)) = cntBs (b.take i) + cntB z
  | [], i, z, e => by simp at e
  | s :: r, 0, z, e => by cases e; simp [cntBs]
  | s :: r, i + 1, z, e => by
    have := cntBs_take (b := r) (i := i) e
    rw [List.take_succ_cons, List.take_succ_cons, cntBs, cntBs, this]
    omega
theorem cntBs_le : ∀ {b : List (List Stm)} {i : Nat} {z : List Stm}, b[i]? = some z → cntBs (b.take i) + cntB z ≤ cntBs b
  | [], i, z, e => by simp at e
  | s :: r, 0, z, e => by cases e; simp [cntBs]
  | s :: r, i + 1, z, e => by
    have := cntBs_le (b := r) (i := i) e
    rw [List.take_succ_cons, cntBs, cntBs]
    omega
theorem word_ok (z : Stm) : PyData.strOk z.word = true := by
  cases z with
  | cmd c => cases c <;> (simp only [Stm.word, Cm.word]; decide +kernel)
  | _ => simp only [Stm.word]; decide +kernel
abbrev bookD (bs : List (List Stm)) : PyData := .list (bs.map bD)
structure OkBook (bs : List (List Stm)) : Prop where
  lo : 1 ≤ bs.length
  hi : bs.length ≤ 3
  each : ∀ b ∈ bs, b.length ≤ 8 ∧ cntB b ≤ 12 ∧ okB bs.length b 0
theorem get_bodies {bs : List (List Stm)} {i : Nat} {d : PyData} (h : (bs.map bD)[i]? = some d) : ∃ b, bs[i]? = some b ∧ b ∈ bs ∧ d = bD b := by
  rw [List.getElem?_map] at h
  cases e : bs[i]? with
  | none => rw [e] at h; cases h
  | some b => rw [e] at h; cases h; exact ⟨b, rfl, List.mem_of_getElem? e, rfl⟩

/-! ### of what class a value is -/
def clsN : PyData → String
  | .none => "NoneType" | .bool _ => "bool" | .int _ => "int" | .str _ => "str" | .list _ => "list" | .tuple _ => "tuple" | .dict _ => "dict"
section
variable {S : Addr → Prop} {H : Hp} {d : PyData} {v : V} {Q : VK}
theorem tr_ty (K : PySem.W.Frag) : ∀ {d : PyData} {v : V}, Tr S H d v → TyX K H v (.type (clsN d))
  | .none, v, e => by cases e; exact .base .non
  | .bool b, v, e => by cases e; exact .base (.bl b)
  | .int b, v, e => by cases e; exact .base (.int b)
  | .str b, v, e => by cases e; exact .base (.str b)
  | .list _, v, ⟨a, xs, e, _, l, _⟩ => by cases e; exact .base (.lst l)
  | .tuple _, v, ⟨a, xs, e, l, _⟩ => by cases e; exact .base (.tup l)
  | .dict _, v, ⟨a, xs, e, l, _⟩ => by cases e; exact .base (.dK l)
def isNum : PyData → Bool
  | .int _ => true
  | .bool _ => true
  | _ => false
def isStr : PyData → Bool
  | .str _ => true
  | _ => false
variable (K : PySem.W.Frag)
theorem ki_int (d : PyData) : PySem.W.kitOne K (.type (clsN d)) (.type "int") = some (isNum d) := by cases d <;> (simp only [clsN, isNum, isBl, isStr, isLs, isTp]; exact kit_ty (by decide +kernel))
theorem ki_bool (d : PyData) : PySem.W.kitOne K (.type (clsN d)) (.type "bool") = some (isBl d) := by cases d <;> (simp only [clsN, isNum, isBl, isStr, isLs, isTp]; exact kit_ty (by decide +kernel))
theorem ki_str (d : PyData) : PySem.W.kitOne K (.type (clsN d)) (.type "str") = some (isStr d) := by cases d <;> (simp only [clsN, isNum, isBl, isStr, isLs, isTp]; exact kit_ty (by decide +kernel))
theorem ki_list (d : PyData) : PySem.W.kitOne K (.type (clsN d)) (.type "list") = some (isLs d) := by cases d <;> (simp only [clsN, isNum, isBl, isStr, isLs, isTp]; exact kit_ty (by decide +kernel))
theorem ki_tuple (d : PyData) : PySem.W.kitOne K (.type (clsN d)) (.type "tuple") = some (isTp d) := by cases d <;> (simp only [clsN, isNum, isBl, isStr, isLs, isTp]; exact kit_ty (by decide +kernel))
end
theorem ifTrue {A B : Prop} {b : Bool} (h : b = true) (q : A) : if b = true then A else B := by rw [if_pos h]; exact q
theorem ifFalse {A B : Prop} {b : Bool} (h : b = false) (q : B) : if b = true then A else B := by rw [if_neg (by rw [h]; exact Bool.false_ne_true)]; exact q
theorem ifB {A B : Prop} {b : Bool} (h1 : b = true → A) (h2 : b = false → B) : if b = true then A else B := by
  cases b
  · exact ifFalse rfl (h2 rfl)
  · exact ifTrue rfl (h1 rfl)

/-! ### signs of an own class: len(o), x in o, a == b, a + b -/
section
variable {X : Cx} {CX : CXT} {k : Nat} {f C : Addr} {fd : FuncData} {ps : List Str} {sp : Sp} {E : XK}
theorem run_sub {A : Around} {pins : List (Addr × Obj)} {σ : L2.St} {H : Hp} {s : Shared} {Q : VK} {us : List Value} {vs : List V} (hA : A.frames = X.A.frames) (hr : Room k A) (F : FnOk X.prog X.w X.K X.mg X.base CX k f fd ps sp) (hb : Binds X.K fd ps []) (hx : Passes CX X E) (I : Inv X pins σ H s) (r : Vals vs us) (h : sp vs H Q E) :
    wpAny (model X.prog X.w) A (call (.ref f) us) (EP X pins σ Q) X.xe s := by
  have e0 : Env0 X.prog X.w X.K X.mg X.base A X.stack s H := by
    have e := I.env0
    exact ⟨by rw [hA]; exact e.frames, e.mod, e.bs, e.bsz, e.funs, e.frf, e.hok, e.bare⟩
  have hl := F.len _ _ _ _ h
  have hl2 : us.length = ps.length := by rw [← r.length]; exact hl
  refine wpAny_call (codeAny_mono (F.run A X.stack s H ⟨us, []⟩ us vs Q E hr e0 (by
    have := hb s us I.kIn (by simpa using hl2)
    simpa using this) r h) fun r s' hq => ?_)
  cases r with
  | error e => exact hx pins σ H s e s' I hq
  | ok fl =>
    cases fl with
    | ret w => exact I.after hq
    | next => exact False.elim hq
    | brk => exact False.elim hq
    | cont => exact False.elim hq
def rLenO (C : Addr) (sp : Sp) (E : XK) : List V → Hp → VK → Prop := fun xs H Q => ∃ a dx fs, xs = [V.ref a] ∧ H a = some (.ins C dx fs) ∧ sp [.ref a] H (fun v H' => ∃ n : Int, v = .int n ∧ (0 ≤ n ∧ n < 2 ^ 63) ∧ Q (.int n) H') E
theorem call_lenO (F : FnOk X.prog X.w X.K X.mg X.base CX k f fd ps sp) (hm : Meth X.K C "__len__" f) (hr : Room (k + 1) X.A) (hb : Binds X.K fd ps []) (hx : Passes CX X E) : CallR X (.builtin "len") (rLenO C sp E) := by
  intro pins s σ H xs us Q I r h
  obtain ⟨a, dx, fs, rfl, ha, q⟩ := h
  cases r with
  | cons r1 r2 =>
    cases r2
    cases r1
    obtain ⟨mA, J, _⟩ := ins_get I.hok ha
    obtain ⟨od, J, _⟩ := J.look
    obtain ⟨m, hF⟩ := I.fr
    refine PySem.W.len_K hF I.ok.mod.kin J hm.at_ hm.fn ?_
    refine wpAny_mono (run_sub (A := X.A.in1) rfl hr.in1 F (us := [.ref a]) (vs := [.ref a]) hb hx I (.cons rfl .nil) q) (fun u s' z => ?_) fun _ _ z => z
    obtain ⟨v, H', I', rv, n, rfl, b, q'⟩ := z
    obtain ⟨t, rfl⟩ := rv
    exact ⟨b, .int n, H', I'.tok _, ⟨_, rfl⟩, q'⟩
def rInO (C : Addr) (sp : Sp) (E : XK) : R2 := fun x y H Q => ∃ a dx fs, y = V.ref a ∧ H a = some (.ins C dx fs) ∧ sp [.ref a, x] H (fun v H' => ∃ b : Bool, v = .bl b ∧ Q (.bl b) H') E
theorem op_inO (F : FnOk X.prog X.w X.K X.mg X.base CX k f fd ps sp) (hm : Meth X.K C "__contains__" f) (hr : Room k X.A) (hb : Binds X.K fd ps []) (hx : Passes CX X E) : OpR X (compareOp .In) (rInO C sp E) := by
  intro pins s σ H x y v u Q I rx ry h
  obtain ⟨a, dx, fs, rfl, ha, q⟩ := h
  cases ry
  obtain ⟨mA, J, _⟩ := ins_get I.hok ha
  obtain ⟨od, J, _⟩ := J.look
  obtain ⟨m, hF⟩ := I.fr
  refine PySem.W.in_K hF I.ok.mod.kin J hm.at_ hm.fn ?_
  refine wpAny_mono (run_sub (A := X.A) rfl hr F (us := [.ref a, v]) (vs := [.ref a, x]) hb hx I (.cons rfl (.cons rx .nil)) q) (fun u s' z => ?_) fun _ _ z => z
  obtain ⟨v, H', I', rv, b, rfl, q'⟩ := z
  cases rv
  exact wpAny_truthy_bool ⟨.bl b, H', I', rfl, q'⟩
def rNotInO (C : Addr) (sp : Sp) (E : XK) : R2 := fun x y H Q => ∃ a dx fs, y = V.ref a ∧ H a = some (.ins C dx fs) ∧ sp [.ref a, x] H (fun v H' => ∃ b : Bool, v = .bl b ∧ Q (.bl (!b)) H') E
theorem op_notInO (F : FnOk X.prog X.w X.K X.mg X.base CX k f fd ps sp) (hm : Meth X.K C "__contains__" f) (hr : Room k X.A) (hb : Binds X.K fd ps []) (hx : Passes CX X E) : OpR X (compareOp .NotIn) (rNotInO C sp E) := by
  intro pins s σ H x y v u Q I rx ry h
  obtain ⟨a, dx, fs, rfl, ha, q⟩ := h
  cases ry
  obtain ⟨mA, J, _⟩ := ins_get I.hok ha
  obtain ⟨od, J, _⟩ := J.look
  obtain ⟨m, hF⟩ := I.fr
  refine PySem.W.notIn_K hF I.ok.mod.kin J hm.at_ hm.fn ?_
  refine wpAny_mono (run_sub (A := X.A) rfl hr F (us := [.ref a, v]) (vs := [.ref a, x]) hb hx I (.cons rfl (.cons rx .nil)) q) (fun u s' z => ?_) fun _ _ z => z
  obtain ⟨v, H', I', rv, b, rfl, q'⟩ := z
  cases rv
  exact wpAny_truthy_bool ⟨.bl (!b), H', I', rfl, q'⟩
/-- a == b, two of one own class -/
def rEqO (C : Addr) (sp : Sp) (E : XK) : R2 := fun x y H Q => ∃ a b dx dy fs gs, x = V.ref a ∧ y = V.ref b ∧ H a = some (.ins C dx fs) ∧ H b = some (.ins C dy gs) ∧ sp [.ref a, .ref b] H (fun v H' => ∃ b : Bool, v = .bl b ∧ Q (.bl b) H') E
theorem op_eqO (F : FnOk X.prog X.w X.K X.mg X.base CX k f fd ps sp) (hm : Meth X.K C "__eq__" f) (hr : Room k X.A) (hb : Binds X.K fd ps []) (hx : Passes CX X E) : OpR X (compareOp .Eq) (rEqO C sp E) := by
  intro pins s σ H x y v u Q I rx ry h
  obtain ⟨a, b, dx, dy, fs, gs, rfl, rfl, ha, hb', q⟩ := h
  cases rx
  cases ry
  obtain ⟨mA, J, _⟩ := ins_get I.hok ha
  obtain ⟨mB, J', _⟩ := ins_get I.hok hb'
  obtain ⟨od, J, _⟩ := J.look
  obtain ⟨od', J', _⟩ := J'.look
  obtain ⟨m, hF⟩ := I.fr
  show wpAny (model X.prog X.w) X.A (richCompare .Eq _ _) (EP X pins σ Q) X.xe s
  refine PySem.W.cmp_K (op := .Eq) (tb := .ref C) hr.units0 hF I.ok.mod.kin J J'.type (by simp [PySem.W.notFirst]) hm.at_ hm.fn ?_
  refine wpAny_mono (run_sub (A := X.A) rfl hr F (us := [.ref a, .ref b]) (vs := [.ref a, .ref b]) hb hx I (.cons rfl (.cons rfl .nil)) q) (fun u s' z => ?_) fun _ _ z => z
  obtain ⟨v, H', I', rv, b, rfl, q'⟩ := z
  cases rv
  exact ⟨.bl b, H', I', rfl, q'⟩
/-- a + b, a * b, two of one own class -/
def rBinO (C : Addr) (sp : Sp) (E : XK) : R2 := fun x y H Q => ∃ a b dx dy fs gs, x = V.ref a ∧ y = V.ref b ∧ H a = some (.ins C dx fs) ∧ H b = some (.ins C dy gs) ∧ sp [.ref a, .ref b] H (fun v H' => (∃ p, v = .ref p) ∧ Q v H') E
theorem op_binO {op : Operator} (F : FnOk X.prog X.w X.K X.mg X.base CX k f fd ps sp) (hc : PySem.W.selfFirst X.K C = true) (hm : Meth X.K C (PySem.dunder op.info.2) f) (hr : Room k X.A) (hb : Binds X.K fd ps []) (hx : Passes CX X E) : OpR X (binaryOp op) (rBinO C sp E) := by
  intro pins s σ H x y v u Q I rx ry h
  obtain ⟨a, b, dx, dy, fs, gs, rfl, rfl, ha, hb', q⟩ := h
  cases rx
  cases ry
  obtain ⟨mA, J, _⟩ := ins_get I.hok ha
  obtain ⟨mB, J', _⟩ := ins_get I.hok hb'
  obtain ⟨od, J, _⟩ := J.look
  obtain ⟨od', J', _⟩ := J'.look
  obtain ⟨m, hF⟩ := I.fr
  refine PySem.W.binop_K hF I.ok.mod.kin J J'.type hc hm.at_ hm.fn ?_
  refine wpAny_mono (run_sub (A := X.A) rfl hr F (us := [.ref a, .ref b]) (vs := [.ref a, .ref b]) hb hx I (.cons rfl (.cons rfl .nil)) q) (fun u s' z => ?_) fun _ _ z => z
  obtain ⟨v, H', I', rv, ⟨p, rfl⟩, q'⟩ := z
  cases rv
  exact ⟨.ref p, H', I', rfl, q'⟩
end
theorem kit_self {K : PySem.W.Frag} {C : Addr} : PySem.W.kitOne K (.ref C) (.ref C) = some true := by
  unfold PySem.W.kitOne
  simp
/-! ### o[i], o of an own class -/
def rGetO (C : Addr) (sp : Sp) (E : XK) : R2 := fun x y H Q => ∃ a dx fs, x = V.ref a ∧ H a = some (.ins C dx fs) ∧ sp [.ref a, y] H Q E
theorem pe_getO {X : Cx} {CX : CXT} {k : Nat} {f C : Addr} {fd : FuncData} {ps : List Str} {sp : Sp} {E : XK} {a b : Expr} {ta tb : TE} {pos : Pos} (F : FnOk X.prog X.w X.K X.mg X.base CX k f fd ps sp) (hm : Meth X.K C "__getitem__" f) (hf : PySem.W.fnIn X.K f = true) (hr : Room (k + 1) X.A) (hb : Binds X.K fd ps []) (hx : Passes CX X E) (ha : PE X a ta) (hbx : PE X b tb)
    (hsl : ∀ (x : Addr) (i : Value), subscripted b true (.ref x) i = runValue (.builtin "lifetime.subscript" ⟨[.ref x, i], []⟩) := by intro x i; with_unfolding_all rfl) : PE X (.Subscript a b pos) (tOp (rGetO C sp E) ta tb) := by
  refine ⟨fun pins s σ H Q I h => ?_⟩
  refine Subscript_ (binT ha hbx I h fun v u s2 x y H2 I2 rx ry q => ?_)
  obtain ⟨o, dx, fs, rfl, ho, q⟩ := q
  cases rx
  obtain ⟨mA, J, _⟩ := ins_get I2.hok ho
  obtain ⟨od, J, _⟩ := J.look
  obtain ⟨m, hF⟩ := I2.fr
  refine PySem.W.sub_K hF I2.ok.mod.kin J hm.at_ hf hm.fn ?_ (hsl _ _)
  exact run_sub (A := X.A.in1) rfl hr.in1 F (us := [.ref o, u]) (vs := [.ref o, y]) hb hx I2 (.cons rfl (.cons ry .nil)) q

/-! ### what the law's draws of statements go by: the pool at p, the room at r, the calls at c -/
structure Drw (H : Hp) (p r c : Addr) (L : Nat) (m k : Int) (many : Nat) : Prop where
  pl : Pool H p L
  r : H r = some (.lst [.int m])
  c : H c = some (.lst [.int k, .int many])
structure Sep (p r c : Addr) : Prop where
  pr : p ≠ r
  pc : p ≠ c
  rc : r ≠ c
abbrev MM (p r c : Addr) : Addr → Prop := fun a => a = p ∨ a = r ∨ a = c
section
variable {H H' : Hp} {p r c : Addr} {L many : Nat} {m k : Int}
theorem Drw.lst (d : Drw H p r c L m k many) : ∀ a, MM p r c a → ∃ ys, H a = some (.lst ys) := fun a h => by
  obtain ⟨ns, hp, _⟩ := d.pl
  rcases h with rfl | rfl | rfl
  · exact ⟨_, hp⟩
  · exact ⟨_, d.r⟩
  · exact ⟨_, d.c⟩
theorem Drw.ne (d : Drw H p r c L m k many) {a : Addr} (h : H a = none) : ¬ MM p r c a := fun e => by
  obtain ⟨ys, hy⟩ := d.lst a e
  rw [hy] at h
  cases h
theorem Drw.kp (d : Drw H p r c L m k many) (s : Sep p r c) (e : Kp p H H') (pl : Pool H' p L) : Drw H' p r c L m k many := ⟨pl, e _ _ s.pr.symm d.r, e _ _ s.pc.symm d.c⟩
theorem Drw.gone (d : Drw H p r c L m k many) (s : Sep p r c) (e : Kp p H H') : KpL (MM p r c) H H' := KpL.kp e (.inl rfl) (d.lst p (.inl rfl))
theorem Drw.same (d : Drw H p r c L m k many) (e : Same H H') : Drw H' p r c L m k many := by
  obtain ⟨⟨ns, hp, hl⟩, h1, h2⟩ := d
  exact ⟨⟨ns, e _ _ hp, hl⟩, e _ _ h1, e _ _ h2⟩
theorem Drw.new (d : Drw H p r c L m k many) {q : Addr} {o : HO} (n : H q = none) : Drw (upd H q o) p r c L m k many := d.same (same_upd n)
theorem Drw.room (d : Drw H p r c L m k many) (s : Sep p r c) (z : Int) : Drw (upd H r (.lst [.int z])) p r c L z k many := by
  obtain ⟨⟨ns, hp, hl⟩, h1, h2⟩ := d
  exact ⟨⟨ns, by rw [upd_ne s.pr]; exact hp, hl⟩, upd_same, by rw [upd_ne s.rc.symm]; exact h2⟩
theorem Drw.calls (d : Drw H p r c L m k many) (s : Sep p r c) (z : Int) : Drw (upd H c (.lst [.int z, .int many])) p r c L m z many := by
  obtain ⟨⟨ns, hp, hl⟩, h1, h2⟩ := d
  exact ⟨⟨ns, by rw [upd_ne s.pc]; exact hp, hl⟩, by rw [upd_ne s.rc]; exact h1, upd_same⟩
theorem New.kpl {H0 : Hp} (d : Drw H0 p r c L m k many) {ds : PyData} {v : V} (e : KpL (MM p r c) H H') (t : Tr (New H0) H ds v) : Tr (New H0) H' ds v := Tr.kpl e (fun a n => d.ne n) _ _ t
theorem New.kplA {H0 : Hp} (d : Drw H0 p r c L m k many) {ds : List PyData} {v : List V} (e : KpL (MM p r c) H H') (t : TrAll (New H0) H ds v) : TrAll (New H0) H' ds v := TrAll.kpl e (fun a n => d.ne n) _ _ t
/-- new since a later heap is new since an earlier one -/
theorem New.old {H0 : Hp} {m' k' : Int} (e : KpL (MM p r c) H0 H) (d : Drw H p r c L m' k' many) {ds : PyData} {v : V} (t : Tr (New H) H' ds v) : Tr (New H0) H' ds v := Tr.mono (fun _ n => e.free d.lst n) _ _ t
end
/-- a list of statements is drawn: m statements may still be made, at least lo; n: how deep -/
def spD (lo : Int) (n : Nat) : Sp := fun vs H Q _ => ∃ (p r c : Addr) (L l many : Nat) (mood m k low : Int), vs = [.ref p, .int mood, .int l, .ref r, .ref c, .int low] ∧ Sep p r c ∧ Drw H p r c L m k many ∧
  (2 ≤ L ∧ L ≤ 64 ∧ 0 ≤ mood ∧ mood < 8 ∧ l ≤ 3 ∧ 0 ≤ low ∧ lo ≤ m ∧ m ≤ 8 ∧ m ≤ n ∧ many ≤ 3) ∧
  ∀ (q : Addr) (ss : List Stm) (H' : Hp) (m' k' : Int), KpL (MM p r c) H H' → Drw H' p r c L m' k' many → 0 ≤ m' → m' + cntB ss = m → okB many ss l → Tr (New H) H' (bD ss) (.ref q) → Q (.ref q) H'

/-! ### the law's own comparison -/
mutual
def sameD : PyData → PyData → Bool
  | .list xs, .list ys => sameAll xs ys
  | .tuple xs, .tuple ys => sameAll xs ys
  | .bool a, .bool b => a == b
  | .int a, .int b => a == b
  | .str a, .str b => a == b
  | .none, .none => true
  | _, _ => false
def sameAll : List PyData → List PyData → Bool
  | [], [] => true
  | x :: xs, y :: ys => sameD x y && sameAll xs ys
  | _, _ => false
end
mutual
/-- nested below n, lists of at most a hundred -/
def Fit : PyData → Nat → Prop
  | _, 0 => False
  | .list ds, n + 1 => ds.length ≤ 100 ∧ FitAll ds n
  | .tuple ds, n + 1 => ds.length ≤ 100 ∧ FitAll ds n
  | .str s, _ + 1 => PyData.strOk s = true
  | .dict _, _ + 1 => False
  | _, _ + 1 => True
def FitAll : List PyData → Nat → Prop
  | [], _ => True
  | d :: r, n => Fit d n ∧ FitAll r n
end
theorem FitAll.get : ∀ {ds : List PyData} {n i : Nat} {d : PyData}, FitAll ds n → ds[i]? = some d → Fit d n
  | [], n, i, d, _, e => by simp at e
  | x :: r, n, 0, d, h, e => by cases e; exact h.1
  | x :: r, n, i + 1, d, h, e => FitAll.get (i := i) h.2 e
theorem FitAll.of : ∀ {ds : List PyData} {n : Nat}, (∀ d ∈ ds, Fit d n) → FitAll ds n
  | [], _, _ => True.intro
  | d :: r, n, h => ⟨h d List.mem_cons_self, FitAll.of fun x hx => h x (List.mem_cons_of_mem _ hx)⟩
mutual
theorem Fit.lay : ∀ (d : PyData) (n : Nat), Fit d n → d.canLay0 = true ∧ d.depth ≤ n
  | .none, n + 1, _ => by simp [PyData.canLay0, PyData.depth]
  | .bool b, n + 1, _ => by simp [PyData.canLay0, PyData.depth]
  | .int b, n + 1, _ => by simp [PyData.canLay0, PyData.depth]
  | .str s, n + 1, h => by
    have h : PyData.strOk s = true := h
    simp [PyData.canLay0, PyData.depth, h]
  | .list ds, n + 1, ⟨_, h⟩ => by
    have := FitAll.lay ds n h
    simp only [PyData.canLay0, PyData.depth]
    exact ⟨this.1, by have := this.2; omega⟩
  | .tuple ds, n + 1, ⟨_, h⟩ => by
    have := FitAll.lay ds n h
    simp only [PyData.canLay0, PyData.depth]
    exact ⟨this.1, by have := this.2; omega⟩
  | .dict _, n + 1, h => h.elim
  | .none, 0, h => h.elim
  | .bool _, 0, h => h.elim
  | .int _, 0, h => h.elim
  | .str _, 0, h => h.elim
  | .list _, 0, h => h.elim
  | .tuple _, 0, h => h.elim
  | .dict _, 0, h => h.elim
theorem FitAll.lay : ∀ (ds : List PyData) (n : Nat), FitAll ds n → PyData.canLayAll0 ds = true ∧ PyData.depthAll ds ≤ n
  | [], n, _ => by simp [PyData.canLayAll0, PyData.depthAll]
  | d :: r, n, h => by
    have h1 := Fit.lay d n h.1
    have h2 := FitAll.lay r n h.2
    simp only [PyData.canLayAll0, PyData.depthAll, h1.1, h2.1]
    refine ⟨rfl, ?_⟩
    omega
end
theorem Fit.shaped {d : PyData} {n : Nat} (h : Fit d n) (hn : n ≤ 64) : SeqAt.shaped d = true := by
  have := Fit.lay d n h
  simp only [SeqAt.shaped, this.1, Bool.true_and, decide_eq_true_eq]
  omega
theorem sameAll_zip : ∀ (xs ys : List PyData), xs.length = ys.length → sameAll xs ys = (List.zipWith sameD xs ys).all id
  | [], [], _ => by simp [sameAll]
  | x :: r, y :: q, h => by
    rw [sameAll, sameAll_zip r q (by simpa using h), List.zipWith_cons_cons, List.all_cons]
    rfl
theorem sameAll_len : ∀ (xs ys : List PyData), xs.length ≠ ys.length → sameAll xs ys = false
  | [], [], h => absurd rfl h
  | [], y :: q, _ => by simp [sameAll]
  | x :: r, [], _ => by simp [sameAll]
  | x :: r, y :: q, h => by
    rw [sameAll, sameAll_len r q (fun e => h (by simp [e])), Bool.and_false]
mutual
theorem same_refl : ∀ (d : PyData) (n : Nat), Fit d n → sameD d d = true
  | .none, _, _ => by simp [sameD]
  | .bool b, _, _ => by simp [sameD]
  | .int b, _, _ => by simp [sameD]
  | .str s, _, _ => by simp [sameD]
  | .list ds, n + 1, ⟨_, h⟩ => by simp only [sameD]; exact sameAll_refl ds n h
  | .tuple ds, n + 1, ⟨_, h⟩ => by simp only [sameD]; exact sameAll_refl ds n h
  | .dict _, n + 1, h => h.elim
  | .list _, 0, h => h.elim
  | .tuple _, 0, h => h.elim
  | .dict _, 0, h => h.elim
theorem sameAll_refl : ∀ (ds : List PyData) (n : Nat), FitAll ds n → sameAll ds ds = true
  | [], _, _ => by simp [sameAll]
  | d :: r, n, h => by
    simp only [sameAll, same_refl d n h.1, sameAll_refl r n h.2, Bool.and_self]
end

mutual
/-- the data of a statement of a list at level l -/
theorem fit_stm {many : Nat} : ∀ (z : Stm) (l n : Nat), z.ok many l → 3 * (4 - l) ≤ n → Fit z.d (n + 2)
  | .cmd c, l, n, _, _ => by
    refine ⟨?_, word_ok (.cmd c), ?_⟩
    · rw [List.length_cons, List.length_map]
      cases c <;> simp [Cm.nums]
    · refine FitAll.of fun d hd => ?_
      obtain ⟨z, _, rfl⟩ := List.mem_map.mp hd
      exact True.intro
  | .fin w, l, n, _, _ => ⟨by simp, (show PyData.strOk "end" = true by decide +kernel), True.intro, True.intro⟩
  | .keep b, l, n, h, hn => ⟨by simp, (show PyData.strOk "keep" = true by decide +kernel), fit_blk b (l + 1) n h.2.1 h.2.2 (by have := h.1; omega) (by have := h.1; omega), True.intro⟩
  | .again b, l, n, h, hn => ⟨by simp, (show PyData.strOk "again" = true by decide +kernel), fit_blk b (l + 1) n h.2.1 h.2.2 (by have := h.1; omega) (by have := h.1; omega), True.intro⟩
  | .either a b, l, n, h, hn => ⟨by simp, (show PyData.strOk "either" = true by decide +kernel), fit_blk a (l + 1) n h.2.1.1 h.2.1.2 (by have := h.1; omega) (by have := h.1; omega), fit_blk b (l + 1) n h.2.2.1 h.2.2.2 (by have := h.1; omega) (by have := h.1; omega), True.intro⟩
  | .call p s a b, l, n, h, hn => by
    obtain ⟨n', rfl⟩ : ∃ n', n = n' + 1 := ⟨n - 1, by have := h.1; omega⟩
    exact ⟨by simp, (show PyData.strOk "call" = true by decide +kernel), True.intro, True.intro, ⟨by simp, fit_blk a (l + 1) n' h.2.2.1.1 h.2.2.1.2 (by have := h.1; omega) (by have := h.1; omega), fit_blk b (l + 1) n' h.2.2.2.1 h.2.2.2.2 (by have := h.1; omega) (by have := h.1; omega), True.intro⟩, True.intro⟩
theorem fit_blk {many : Nat} : ∀ (b : List Stm) (l n : Nat), b.length ≤ 8 → okB many b l → l ≤ 3 → 3 * (4 - l) + 2 ≤ n → Fit (bD b) (n + 1)
  | b, l, n, h8, h, hl, hn => by
    refine ⟨by rw [blkD_len]; omega, ?_⟩
    obtain ⟨n', rfl⟩ : ∃ n', n = n' + 2 := ⟨n - 2, by omega⟩
    exact fit_all b l n' h (by omega)
theorem fit_all {many : Nat} : ∀ (b : List Stm) (l n : Nat), okB many b l → 3 * (4 - l) ≤ n → FitAll (blkD b) (n + 2)
  | [], _, _, _, _ => True.intro
  | z :: r, l, n, h, hn => ⟨fit_stm z l n h.1 hn, fit_all r l n h.2 hn⟩
end
theorem fit_book {bs : List (List Stm)} (h : OkBook bs) : Fit (bookD bs) 16 := by
  refine ⟨by rw [List.length_map]; have := h.hi; omega, FitAll.of fun d hd => ?_⟩
  obtain ⟨b, mb, rfl⟩ := List.mem_map.mp hd
  obtain ⟨o1, o2, o3⟩ := h.each b mb
  exact fit_blk b 0 14 o1 o3 (by decide) (by decide)

/-! ### the places of statements -/
mutual
def Stm.places : Stm → List Nat → List (List Nat × Stm)
  | .keep b, p => placesB b (p ++ [0]) 0
  | .again b, p => placesB b (p ++ [0]) 0
  | .either a b, p => placesB a (p ++ [0]) 0 ++ placesB b (p ++ [1]) 0
  | .call _ _ a b, p => placesB a (p ++ [0]) 0 ++ placesB b (p ++ [1]) 0
  | _, _ => []
def placesB : List Stm → List Nat → Nat → List (List Nat × Stm)
  | [], _, _ => []
  | s :: r, p, i => (p ++ [i], s) :: (s.places (p ++ [i]) ++ placesB r p (i + 1))
end
def placesBs : List (List Stm) → List Nat → Nat → List (List Nat × Stm)
  | [], _, _ => []
  | b :: r, p, j => placesB b (p ++ [j]) 0 ++ placesBs r p (j + 1)
theorem places_blocks (z : Stm) (p : List Nat) : z.places p = placesBs z.blocks p 0 := by
  cases z <;> simp [Stm.places, Stm.blocks, placesBs]
mutual
theorem len_places : ∀ (z : Stm) (p : List Nat), (z.places p).length + 1 = z.cnt
  | .cmd _, p => rfl
  | .fin _, p => rfl
  | .keep b, p => by rw [Stm.places, Stm.cnt, len_placesB b]; omega
  | .again b, p => by rw [Stm.places, Stm.cnt, len_placesB b]; omega
  | .either a b, p => by rw [Stm.places, Stm.cnt, List.length_append, len_placesB a, len_placesB b]; omega
  | .call _ _ a b, p => by rw [Stm.places, Stm.cnt, List.length_append, len_placesB a, len_placesB b]; omega
theorem len_placesB : ∀ (b : List Stm) (p : List Nat) (i : Nat), (placesB b p i).length = cntB b
  | [], _, _ => rfl
  | s :: r, p, i => by
    have h1 := len_places s (p ++ [i])
    have h2 := len_placesB r p (i + 1)
    rw [placesB, List.length_cons, List.length_append, h2, cntB]
    omega
end
theorem len_placesBs : ∀ (bs : List (List Stm)) (p : List Nat) (i : Nat), (placesBs bs p i).length = cntBs bs
  | [], _, _ => rfl
  | b :: r, p, i => by rw [placesBs, List.length_append, len_placesB, len_placesBs r, cntBs]
theorem placesB_take : ∀ {b : List Stm} {i : Nat} {z : Stm} (p : List Nat) (k : Nat), b[i]? = some z → placesB (b.take (i + 1)) p k = placesB (b.take i) p k ++ ((p ++ [k + i], z) :: z.places (p ++ [k + i]))
  | [], i, z, p, k, e => by simp at e
  | s :: r, 0, z, p, k, e => by cases e; simp [placesB]
  | s :: r, i + 1, z, p, k, e => by
    have := placesB_take (b := r) (i := i) p (k + 1) e
    rw [List.take_succ_cons, List.take_succ_cons, placesB, placesB, this, show k + 1 + i = k + (i + 1) by omega]
    simp
theorem placesBs_take : ∀ {b : List (List Stm)} {i : Nat} {z : List Stm} (p : List Nat) (k : Nat), b[i]? = some z → placesBs (b.take (i + 1)) p k = placesBs (b.take i) p k ++ placesB z (p ++ [k + i]) 0
  | [], i, z, p, k, e => by simp at e
  | s :: r, 0, z, p, k, e => by cases e; simp [placesBs]
  | s :: r, i + 1, z, p, k, e => by
    have := placesBs_take (b := r) (i := i) p (k + 1) e
    rw [List.take_succ_cons, List.take_succ_cons, placesBs, placesBs, this, show k + 1 + i = k + (i + 1) by omega]
    simp
abbrev natD : Nat → PyData := fun n => .int n
abbrev natV : Nat → V := fun n => .int n
def pathD (p : List Nat) : PyData := .tuple (p.map natD)
def placeD (x : List Nat × Stm) : PyData := .tuple [pathD x.1, x.2.d]
theorem TrAll.ofNats {S : Addr → Prop} {H : Hp} : ∀ (ns : List Nat), TrAll S H (ns.map natD) (ns.map natV)
  | [] => rfl
  | n :: r => ⟨_, _, rfl, rfl, TrAll.ofNats r⟩
mutual
theorem mem_places {many : Nat} : ∀ (z : Stm) (p : List Nat) (l : Nat), z.ok many l → ∀ x ∈ z.places p, ∃ l', x.2.ok many l'
  | .cmd _, p, l, h, x, m => nomatch m
  | .fin _, p, l, h, x, m => nomatch m
  | .keep b, p, l, h, x, m => mem_placesB b _ _ _ h.2.2 x m
  | .again b, p, l, h, x, m => mem_placesB b _ _ _ h.2.2 x m
  | .either a b, p, l, h, x, m => (List.mem_append.mp m).elim (fun m => mem_placesB a _ _ _ h.2.1.2 x m) fun m => mem_placesB b _ _ _ h.2.2.2 x m
  | .call _ _ a b, p, l, h, x, m => (List.mem_append.mp m).elim (fun m => mem_placesB a _ _ _ h.2.2.1.2 x m) fun m => mem_placesB b _ _ _ h.2.2.2.2 x m
theorem mem_placesB {many : Nat} : ∀ (b : List Stm) (p : List Nat) (i l : Nat), okB many b l → ∀ x ∈ placesB b p i, ∃ l', x.2.ok many l'
  | [], _, _, _, _, x, m => nomatch m
  | s :: r, p, i, l, h, x, m => by
    rcases List.mem_cons.mp m with rfl | m
    · exact ⟨l, h.1⟩
    · rcases List.mem_append.mp m with m | m
      · exact mem_places s _ l h.1 x m
      · exact mem_placesB r _ _ l h.2 x m
end

theorem oddw {K : PySem.W.Frag} {aB : Addr} (w0 : PySem.W.nsIn K aB "keep" = some none) (w1 : PySem.W.nsIn K aB "again" = some none) (w2 : PySem.W.nsIn K aB "either" = some none) (w3 : PySem.W.nsIn K aB "call" = some none) (w4 : PySem.W.nsIn K aB "end" = some none) (w5 : PySem.W.nsIn K aB "Mark" = some none) (w6 : PySem.W.nsIn K aB "bad" = some none) :
    ∀ s ∈ oddWords, PySem.W.nsIn K aB s = some none := fun s hs => by
  simp only [oddWords, List.mem_cons, List.not_mem_nil, or_false] at hs
  rcases hs with rfl | rfl | rfl | rfl | rfl | rfl | rfl
  · exact w0
  · exact w1
  · exact w2
  · exact w3
  · exact w4
  · exact w5
  · exact w6

/-! ### x in (a, b, ..), data of any depth; slices of tuples -/
theorem hu65 {A : Around} {k : Nat} (hr : Room k A) : A.units + 65 < cLine := by
  have := hr.un
  omega
def rInDT (K : PySem.W.Frag) : R2 := fun x y H Q => ∃ d ds, Dp K H x d ∧ Dp K H y (.tuple ds) ∧ SeqAt.shaped d = true ∧ SeqAt.shaped (.tuple ds) = true ∧ Q (.bl (ds.any fun z => PyData.eqv z d)) H
theorem op_inDT {X : Cx} (hu : X.A.units + 65 < cLine) : OpR X (compareOp .In) (rInDT X.K) := by
  intro pins s σ H x y v u Q I rx ry h
  obtain ⟨d, ds, hd, he, sd, se, q⟩ := h
  obtain ⟨as, r1⟩ := Dp.reads I d x v hd rx
  obtain ⟨bs, r2⟩ := Dp.reads I (.tuple ds) y u he ry
  exact SeqAt.in_tuple_reads r2 r1 (SeqAt.canLay_of_shaped se) (SeqAt.canLay_of_shaped sd) (room_in_shaped sd hu) ⟨.bl _, H, I, rfl, q⟩
section
variable (K : PySem.W.Frag) {X : Cx}
theorem k_inDT (hu : X.A.units + 65 < cLine) (hK : X.K = K := by rfl) : OpR X (compareOp .In) (rInDT K) := hK ▸ op_inDT hu
theorem k_inD (hu : X.A.units + 65 < cLine) (hK : X.K = K := by rfl) : OpR X (compareOp .In) (rInD K) := hK ▸ op_inD hu
theorem k_eqD (hu : X.A.units + 64 < cLine) (hK : X.K = K := by rfl) : OpR X (compareOp .Eq) (rEqD K) := hK ▸ op_eqD hu
theorem k_neD (hu : X.A.units + 64 < cLine) (hK : X.K = K := by rfl) : OpR X (compareOp .NotEq) (rNeD K) := hK ▸ op_neD hu
theorem k_catT (hK : X.K = K := by rfl) : OpR X (binaryOp .Add) (rCatT K) := hK ▸ op_catT
end
theorem cut_from1 {x : V} {xs : List V} : cutV (x :: xs) (some 1) none = xs := by
  unfold cutV
  rw [HT.sIx_none, show HT.sIx (x :: xs).length 0 (some 1) = min 1 (x :: xs).length from HT.sIx_nat _ _ 1, List.length_cons, show min 1 (xs.length + 1) = 1 by omega, List.drop_one, List.tail_cons, Nat.add_sub_cancel, List.take_length]
theorem cut_ne1 {x : V} {xs : List V} : ¬ (HT.sIx (x :: xs).length 0 (some 1) = 0 ∧ HT.sIx (x :: xs).length (x :: xs).length none = (x :: xs).length) := by
  rw [show HT.sIx (x :: xs).length 0 (some 1) = min 1 (x :: xs).length from HT.sIx_nat _ _ 1, List.length_cons]
  omega
theorem cut_to {xs : List V} {n : Nat} : cutV xs none (some (n : Int)) = xs.take n := by
  unfold cutV
  rw [HT.sIx_none, HT.sIx_nat, List.drop_zero, Nat.sub_zero, ← List.take_take]
  rw [List.take_length]
theorem cut_ne {xs : List V} {n : Nat} (h : n < xs.length) : ¬ (HT.sIx xs.length 0 none = 0 ∧ HT.sIx xs.length xs.length (some (n : Int)) = xs.length) := by
  rw [HT.sIx_nat]
  omega
theorem cut_from {xs : List V} {n : Nat} : cutV xs (some (n : Int)) none = xs.drop n := by
  unfold cutV
  rw [HT.sIx_none, HT.sIx_nat]
  by_cases h : n ≤ xs.length
  · rw [show min n xs.length = n by omega]
    exact List.take_of_length_le (by rw [List.length_drop]; exact Nat.le_refl _)
  · rw [show min n xs.length = xs.length by omega, List.drop_of_length_le (Nat.le_refl _), List.drop_of_length_le (by omega), List.take_nil]
theorem canOf {d : PyData} (h : SeqAt.shaped d = true) : d.canLay0 = true := SeqAt.canLay_of_shaped h
theorem sh_str {s : Str} (h : PyData.strOk s = true) : SeqAt.shaped (.str s) = true := by simp [SeqAt.shaped, PyData.canLay0, PyData.depth, h]
theorem sh_strs {ss : List Str} (h : ∀ s ∈ ss, PyData.strOk s = true) : SeqAt.shaped (.tuple (ss.map PyData.str)) = true := by
  have hb : ∀ ss : List Str, (∀ s ∈ ss, PyData.strOk s = true) → PyData.canLayAll0 (ss.map PyData.str) = true ∧ PyData.depthAll (ss.map PyData.str) = 0 := by
    intro ss
    induction ss with
    | nil => intro _; simp [PyData.canLayAll0, PyData.depthAll]
    | cons s r ih =>
      intro h
      have ih := ih fun x hx => h x (List.mem_cons_of_mem _ hx)
      simp [PyData.canLayAll0, PyData.canLay0, PyData.depthAll, PyData.depth, ih.1, ih.2, h s List.mem_cons_self]
  simp [SeqAt.shaped, PyData.canLay0, PyData.depth, (hb ss h).1, (hb ss h).2]
theorem dp_strs {K : PySem.W.Frag} {H : Hp} : ∀ ss : List Str, DpAll K H (ss.map V.str) (ss.map PyData.str)
  | [] => .nil
  | s :: r => .cons (.str s) (dp_strs r)

theorem dec_int {a b : Int} (h : ¬ decide (V.int a = V.int b) = true) : a ≠ b := fun e => h (by rw [e]; exact decide_eq_true rfl)
theorem dec_int' {a b : Int} (h : decide (V.int a = V.int b) = true) : a = b := V.int.inj (of_decide_eq_true h)
theorem eqv_strC (s : Str) (x : PyData) : PyData.eqv (.str s) x = PyData.eqv x (.str s) := by
  cases x with
  | str t =>
    rw [PyData.eqv, PyData.eqv]
    by_cases h : s = t
    · subst h
      rfl
    · have h2 : ¬ t = s := fun e => h e.symm
      exact Eq.trans (beq_eq_false_iff_ne.mpr h) (beq_eq_false_iff_ne.mpr h2).symm
  | _ => simp [PyData.eqv]

/-- an own error's class, without __init__ of its own, over ValueError -/
structure ExcT (K : PySem.W.Frag) (mg : Str → Option Value) (x : Str) (C : Addr) : Prop where
  g : mg x = some (.ref C)
  q : PySem.W.excIn K C [.type "ValueError", .type "Exception", .type "BaseException", .type "object"] "ValueError.__new__" = true
  k : PySem.W.keepIn K (.ref C) = true
  b : PySem.W.subIn K (.ref C) (.type "BaseException") = some true
  t : PySem.W.typeIn K (.ref C) = some (.type "type")
  e : PySem.W.exmOne K (.ref C) (.ref C) = some true
section
variable {X : Cx} {C : Addr} {x : Str} {p pos pos' : Pos} {W : WX}
/-- X() -/
theorem pmk_own0 (T : ExcT X.K X.mg x C) (hg : Gl X x) (hdb : (x == ("__debug__" : Str)) = false := by decide) : PMk X (.Call (.Name x p) [] [] pos) (fun _ H Q => Q (.ref C) none H) := by
  intro pins s σ H Q I h
  refine wpAny_Call_Name_kw (ld_glob I hg T.g ?_ hdb)
  refine PySem.W.callWith_K0 I.kIn T.k ?_
  show wpAny _ _ (call (.ref C) []) _ _ _
  obtain ⟨bm, N, nm, qn, bs, hdct, sn, sub, ab, col, dd, k0, k1, k2, k3, k5, mN, hC, hN, hni, TT⟩ := exc_obj I.kIn T.q
  refine wpAny_call_exc_subT F.excBase_ValueError TT hC hN hni (fun h' e hm => ?_) (Nat.zero_le _)
  exact mk_of I hm (raises_own T.b T.t) h (I.hok.gone hm.new)
/-- raise X() -/
theorem ps_own0 (hc : X.calm = true) (tk : Takes X W) (T : ExcT X.K X.mg x C) (hg : Gl X x) (hdb : (x == ("__debug__" : Str)) = false := by decide) :
    PS X (.Raise (some (.Call (.Name x p) [] [] pos)) none pos') (fun _ σ H => W (.ref C) none σ H) := ps_raise hc tk (pmk_own0 T hg hdb)
end
/-- a thing of any kind that the law draws, no list of them being the pool at p; its answer: is it an integer -/
inductive Any (H : Hp) (p : Addr) : V → Bool → Prop
  | int (z : Int) : Any H p (.int z) true
  | bl (k : Bool) : Any H p (.bl k) false
  | non : Any H p .non false
  | str (s : Str) : Any H p (.str s) false
  | tup {a : Addr} {xs : List V} (h : H a = some (.tup xs)) (n : a ≠ p) : Any H p (.ref a) false
  | lst {a : Addr} {xs : List V} (h : H a = some (.lst xs)) (n : a ≠ p) : Any H p (.ref a) false
  | dct {a : Addr} {xs : List (Key × V)} (h : H a = some (.dK xs)) (n : a ≠ p) : Any H p (.ref a) false
theorem Any.kp {H J : Hp} {p : Addr} {v : V} {k : Bool} (h : Any H p v k) (s : Kp p H J) : Any J p v k := by
  cases h with
  | int z => exact .int z
  | bl k => exact .bl k
  | non => exact .non
  | str s => exact .str s
  | tup h n => exact .tup (s _ _ n h) n
  | lst h n => exact .lst (s _ _ n h) n
  | dct h n => exact .dct (s _ _ n h) n
/-- is it a pen -/
inductive PenV (H : Hp) (p : Addr) : V → Bool → Prop
  | lst {a : Addr} {xs : List V} (h : H a = some (.lst xs)) (n : a ≠ p) : PenV H p (.ref a) false
  | len {a : Addr} {xs : List V} (h : H a = some (.tup xs)) (n : a ≠ p) (l : xs.length ≠ 6) (b : xs.length ≤ 100) : PenV H p (.ref a) false
  | tup {a : Addr} {xs : List V} {bs : List Bool} (h : H a = some (.tup xs)) (n : a ≠ p) (l : xs.length = 6) (lb : bs.length = 6) (m : ∀ (i : Nat) (x : V), xs[i]? = some x → ∃ k, bs[i]? = some k ∧ Any H p x k) : PenV H p (.ref a) (bs.all id)
theorem PenV.kp {H J : Hp} {p : Addr} {v : V} {k : Bool} (h : PenV H p v k) (s : Kp p H J) : PenV J p v k := by
  cases h with
  | lst h n => exact .lst (s _ _ n h) n
  | len h n l b => exact .len (s _ _ n h) n l b
  | tup h n l lb m =>
    refine .tup (s _ _ n h) n l lb fun i x e => ?_
    obtain ⟨k, h1, h2⟩ := m i x e
    exact ⟨k, h1, h2.kp s⟩
/-- within a range -/
def inl : V → Int × Int → Bool
  | .int z, l => decide (l.1 ≤ z) && decide (z ≤ l.2)
  | _, _ => true
def badWords : List Str := ["1", "", "keep", "end", "Mark", "marks"]
/-- is it a command -/
inductive CmdV (H : Hp) (p : Addr) : V → Bool → Prop
  | oth {v : V} {k : Bool} (h : Any H p v k) (n : ∀ (a : Addr) (xs : List V), v = .ref a → H a = some (.tup xs) → False) : CmdV H p v false
  | nil {a : Addr} (h : H a = some (.tup [])) (n : a ≠ p) : CmdV H p (.ref a) false
  | odd {a : Addr} {x : V} {xs : List V} {k : Bool} (h : H a = some (.tup (x :: xs))) (n : a ≠ p) (hx : Any H p x k) (ns : ∀ s, x ≠ .str s) : CmdV H p (.ref a) false
  | word {a : Addr} {s : Str} {xs : List V} (h : H a = some (.tup (.str s :: xs))) (n : a ≠ p) (hs : s ∈ badWords) : CmdV H p (.ref a) false
  | len {a : Addr} {c : Cm} {xs : List V} (h : H a = some (.tup (.str c.word :: xs))) (n : a ≠ p) (l : xs.length ≠ c.nums.length) : CmdV H p (.ref a) false
  | num {a : Addr} {c : Cm} {xs : List V} {bs : List Bool} (h : H a = some (.tup (.str c.word :: xs))) (n : a ≠ p) (l : xs.length = c.nums.length) (lb : bs.length = xs.length)
      (m : ∀ (i : Nat) (x : V) (b : Int × Int), xs[i]? = some x → c.lims[i]? = some b → ∃ k, Any H p x k ∧ bs[i]? = some (k && inl x b)) : CmdV H p (.ref a) (bs.all id)
theorem CmdV.kp {H J : Hp} {p : Addr} {v : V} {k : Bool} (h : CmdV H p v k) (s : Kp p H J) : CmdV J p v k := by
  cases h with
  | oth h n =>
    refine .oth (h.kp s) fun a xs e e2 => ?_
    subst e
    cases h with
    | tup h nn => exact n _ _ rfl h
    | lst h nn => exact nomatch (Option.some.inj ((s _ _ nn h).symm.trans e2))
    | dct h nn => exact nomatch (Option.some.inj ((s _ _ nn h).symm.trans e2))
  | nil h n => exact .nil (s _ _ n h) n
  | odd h n hx ns => exact .odd (s _ _ n h) n (hx.kp s) ns
  | word h n hs => exact .word (s _ _ n h) n hs
  | len h n l => exact .len (s _ _ n h) n l
  | num h n l lb m =>
    refine .num (s _ _ n h) n l lb fun i x b e1 e2 => ?_
    obtain ⟨k, h1, h2⟩ := m i x b e1 e2
    exact ⟨k, h1.kp s, h2⟩

theorem exm_of' {K : PySem.W.Frag} {R S : Addr} {b : Bool} (h0 : PySem.W.subIn K (.ref R) (.type "BaseException") = some true) (h1 : PySem.W.subIn K (.ref S) (.type "BaseException") = some true) (h2 : PySem.W.isClsIn K S = true) (h3 : PySem.W.typeIn K (.ref S) = some (.type "type")) (h4 : PySem.W.subIn K (.ref R) (.ref S) = some b) : PySem.W.exmOne K (.ref R) (.ref S) = some b := by
  have e1 : (PySem.W.subIn K (.ref S) (.type "BaseException") == some true) = true := by rw [h1] <;> rfl
  have e2 : ((PySem.W.clsIn K S).isSome && PySem.W.typeIn K (.ref S) == some (.type "type")) = true := by
    rw [show (PySem.W.clsIn K S).isSome = true from h2, h3] <;> rfl
  show (if (PySem.W.subIn K (.ref S) (.type "BaseException") == some true) = true then (if ((PySem.W.clsIn K S).isSome && PySem.W.typeIn K (.ref S) == some (.type "type")) = true then PySem.W.subIn K (.ref R) (.ref S) else none) else none) = some b
  rw [if_pos e1, if_pos e2]
  exact h4
theorem exm_of {K : PySem.W.Frag} {S : Addr} {b : Bool} (h1 : PySem.W.subIn K (.ref S) (.type "BaseException") = some true) (h2 : PySem.W.isClsIn K S = true) (h3 : PySem.W.typeIn K (.ref S) = some (.type "type")) (h4 : PySem.W.subIn K (.ref S) (.ref S) = some b) : PySem.W.exmOne K (.ref S) (.ref S) = some b := exm_of' h1 h1 h2 h3 h4

/-! ### own errors with fields of their own (NoBook: procedure, path) -/
theorem oex_cls {K : PySem.W.Frag} {C HE : Addr}
    (h : ∃ nm q N bs sn sub ab col dd k0 k1 k2 k3 k5, K.lookup C = some (excClassObj nm q C N bs [.ref HE, .type "ValueError", .type "Exception", .type "BaseException", .type "object"] true sn sub ab col dd k0 k1 k2 k3 k5 "ValueError.__new__")) :
    ∃ nm q N bs bm sn sub ab col dd k0 k1 k2 k3 k5, K.lookup C = some (excClassObj nm q C N bs bm true sn sub ab col dd k0 k1 k2 k3 k5 "ValueError.__new__") ∧ PySem.HandSPX.refsVE bm = true := by
  obtain ⟨nm, q, N, bs, sn, sub, ab, col, dd, k0, k1, k2, k3, k5, h⟩ := h
  exact ⟨nm, q, N, bs, _, sn, sub, ab, col, dd, k0, k1, k2, k3, k5, h, rfl⟩

/-- what a class with an own __init__ makes: its fields nm, the last one first in its dict -/
def Makes (C : Addr) (sp : Sp) (nm : List Str) : Prop := ∀ (vs : List V) (H1 : Hp) (W : XK), vs.length = nm.length →
  (∀ (d : Addr) (fs : List (Str × V)) (H' : Hp), Same H1 H' → H1 d = none → H' d = some (.xd fs) → fs = (nm.zip vs).reverse → W (.ref C) (some d) H') →
  ∀ a, H1 a = none → sp (.ref a :: (vs ++ [])) (upd H1 a (exo a C none)) (fun v H2 => v = .non ∧ ∃ (d : Addr) (fs : List (Str × V)), H2 a = some (exo a C (some d)) ∧ H2 d = some (exd d fs) ∧ H1 d = none ∧ W (.ref C) (some d) (upd (del H2 a) d (.xd fs))) (fun _ _ _ => False)

/-- f(e, .., k = v, ..) with all keyword-only values given -/
theorem kb_all {K : PySem.W.Frag} {x qual : Str} {st : Stmt} {f : Addr} {fd : FuncData} {ps ks : List Str} {n : Nat} (F : Fun K x qual st f fd)
    (h : ∀ (kV doc pm : Value) (an : Option Addr) (cdv ct : Value) (us ws : List Value), us.length = n → ws.length = ks.length → bindArgs (PySem.W.fnOf x qual (defArgs st) (defBody st) (defScope st) .none kV doc pm an cdv ct) ⟨us, ks.zip ws⟩ = pure (ps.zip (us ++ ws))) : KBn K fd ps n ks (fun us ws => us ++ ws) (fun us ws => us ++ ws) := by
  obtain ⟨oc, od, kV, doc, pm, an, cdv, ct, osl, rfl, lk, hcd⟩ := F.ex
  exact ⟨fun s us ws _ l1 l2 => .of_eq (h kV doc pm an cdv ct us ws l1 l2), fun r1 r2 => r1.append r2⟩
/-! ### f(e, .., k = v, ..) of a def that raises, the wish at the caller's slots -/
section
variable {X : Cx} {CX : CXT} {lv n : Nat} {f : Addr} {fd : FuncData} {ps ks : List Str} {sp : Sp} {x : Str} {p pos : Pos} {e : Expr} {es : List Expr} {kws : List Keyword} {ta tb : TA} {g : List Value → List Value → List Value} {gV : List V → List V → List V} {W : L2.St → XK}
def tCallNS (n m : Nat) (sp : Sp) (gV : List V → List V → List V) (W : L2.St → XK) (ta tb : TA) : TE := fun σ H Q => ta σ H fun vs H1 => tb σ H1 fun zs H2 => vs.length = n ∧ zs.length = m ∧ sp (gV vs zs) H2 Q (W σ)
theorem pe_callNS (F : FnOk X.prog X.w X.K X.mg X.base CX lv f fd ps sp) (hr : Room lv X.A) (hg : Gl X x) (hm : X.mg x = some (.ref f)) (hk : PySem.W.keepIn X.K (.ref f) = true) (hb : KBn X.K fd ps n ks g gV)
    (hx : ∀ σ, PassesAt CX X σ (W σ)) (ha : PA X (e :: es) ta) (hc : PK X kws tb)
    (hall : (backToKw pos (keywordEach kws X.env)).all (·.1.isSome) = true := by rfl)
    (hks : (backToKw pos (keywordEach kws X.env)).filterMap (·.1) = ks := by rfl) (hdb : (x == ("__debug__" : Str)) = false := by decide)
    (he : starEach (e :: es) X.env = (false, eval e X.env) :: starEach es X.env := by rfl)
    (hpl : ((backTo pos (starEach (e :: es) X.env)).any (·.1) || (backToKw pos (keywordEach kws X.env)).any (·.1.isNone)) = false := by rfl) :
    PE X (.Call (.Name x p) (e :: es) kws pos) (tCallNS n ks.length sp gV W ta tb) :=
  ⟨fun pins s σ H Q I h => wpAny_Call_Name_kw (ld_glob I hg hm (PySem.W.callWith_KW (h₀ := X.base) I.ok.mod.kin hk hall (thn (ha.run pos pins s σ H _ I h) fun us s1 ⟨vs, H1, I1, r1, q⟩ => thn (hc.run pos pins s1 σ H1 _ I1 q) fun ws s2 ⟨zs, H2, J, r2, l1, l2, q2⟩ => ⟨J.kIn, by
    rw [hks]
    refine wpAny_call (codeAny_mono (F.run X.A X.stack s2 H2 ⟨us, ks.zip ws⟩ (g us ws) (gV vs zs) Q (W σ) hr J.env0 (hb.to s2 us ws J.kIn (by rw [← r1.length, l1]) (by rw [← r2.length, l2])) (hb.rel r1 r2) q2) fun res t hq => ?_)
    match res, hq with
    | .error e, hq => exact hx σ pins H2 s2 e t J hq
    | .ok (.ret u), hq => exact J.after hq
    | .ok .next, hq => exact False.elim hq
    | .ok .brk, hq => exact False.elim hq
    | .ok .cont, hq => exact False.elim hq⟩) hpl he) hdb)⟩
end

/-! ### own errors with one field -/
def sp1 (C : Addr) (f : Str) : Sp := fun vs H Q _ => ∃ (a : Addr) (x : V), vs = [.ref a, x] ∧ H a = some (exo a C none) ∧
  ∀ dx, H dx = none → dx ≠ a → Q .non (upd (upd H dx (exd dx [(f, x)])) a (exo a C (some dx)))
theorem mk1 {C : Addr} {f : Str} : Makes C (sp1 C f) [f] := fun vs H1 W l q a na => by
  match vs, l with
  | [x], _ =>
    refine ⟨a, x, rfl, upd_same, fun dx nd ne => ⟨rfl, dx, [(f, x)], upd_same, ?_, ?_, q dx _ _ (fun b o e => ?_) ?_ upd_same rfl⟩⟩
    · rw [upd_ne ne, upd_same]
    · rw [upd_ne ne] at nd
      exact nd
    · have hb : b ≠ a := ne_of_none e na
      have hd : b ≠ dx := fun z => by
        rw [upd_ne ne] at nd
        rw [z, nd] at e
        cases e
      rw [upd_ne hd, del_ne hb, upd_ne hb, upd_ne hd, upd_ne hb]
      exact e
    · rw [upd_ne ne] at nd
      exact nd

/-! ### a method that may raise -/
def tMethR (C : Addr) (m : Str) (sp : Sp) (E : L2.St → XK) (ta : TE) (t : TA) : TE := fun σ H Q => ta σ H fun x H1 => ∃ a dx fs, x = V.ref a ∧ H1 a = some (HO.ins C dx fs) ∧ List.lookup m fs = none ∧ t σ H1 fun vs H2 => sp (x :: vs) H2 Q (E σ)
section
variable {X : Cx} {CX : CXT} {k : Nat} {f C : Addr} {fd : FuncData} {ps : List Str} {sp : Sp} {E : L2.St → XK} {m : Str} {pos apos : Pos} {e o : Expr} {es : List Expr} {ta : TE} {t : TA}
theorem pe_methR {pl : Sem Bool} (he : PE X o ta) (c : Cls X.K C) (hm : Meth X.K C m f) (F : FnOk X.prog X.w X.K X.mg X.base CX k f fd ps sp) (hr : Room k X.A) (hb : Binds X.K fd ps []) (hx : ∀ σ, PassesAt CX X σ (E σ)) (ha : PA X (e :: es) t)
    (hst : starEach (e :: es) X.env = (false, eval e X.env) :: starEach es X.env := by rfl) (hpl : (backTo pos (starEach es X.env)).any (·.1) = false := by rfl)
    (ht : eval (.Call (.Attribute o m apos) (e :: es) [] pos) X.env = (do
      let ov ← eval o X.env
      standAt apos.atName
      let (f, first) ← holding [ov] (getMethod ov m pl)
      callWith pos f first (backTo pos (starEach (e :: es) X.env)) (backToKw pos (keywordEach [] X.env))) := by rfl) :
    PE X (.Call (.Attribute o m apos) (e :: es) [] pos) (tMethR C m sp E ta t) := by
  refine ⟨fun pins s σ H Q I h => ?_⟩
  refine PySem.W.methodCall_KW (pl := pl) (thn (he.run pins s σ H _ I h) fun u s1 ⟨x, H1, I1, rx, a, dx, fs, ex, ea, l, q⟩ => ?_) ht
  subst ex
  obtain rfl : u = Value.ref a := rx
  refine getmeth_ok I1 ea c hm l ?_
  refine PySem.W.callWith_K (first := [.ref a]) (h₀ := X.base) I.ok.mod.kin hm.kp (thn (ha.run pos pins s1 σ H1 _ I1 q) fun us s2 ⟨vs, H2, I2, r, q2⟩ => ⟨I2.kIn, ?_⟩) hst hpl
  exact run_fnS (us := .ref a :: us) (vs := .ref a :: vs) F hr hb (hx σ) I2 (.cons rfl r) q2
theorem pe_methR0 {pl : Sem Bool} (he : PE X o ta) (c : Cls X.K C) (hm : Meth X.K C m f) (F : FnOk X.prog X.w X.K X.mg X.base CX k f fd ps sp) (hr : Room k X.A) (hb : Binds X.K fd ps []) (hx : ∀ σ, PassesAt CX X σ (E σ))
    (ht : eval (.Call (.Attribute o m apos) [] [] pos) X.env = (do
      let ov ← eval o X.env
      standAt apos.atName
      let (f, first) ← holding [ov] (getMethod ov m pl)
      callWith pos f first (backTo pos (starEach [] X.env)) (backToKw pos (keywordEach [] X.env))) := by rfl) :
    PE X (.Call (.Attribute o m apos) [] [] pos) (tMethR C m sp E ta tNil) := by
  refine ⟨fun pins s σ H Q I h => ?_⟩
  refine PySem.W.methodCall_KW (pl := pl) (thn (he.run pins s σ H _ I h) fun u s1 ⟨x, H1, I1, rx, a, dx, fs, ex, ea, l, q⟩ => ?_) ht
  subst ex
  obtain rfl : u = Value.ref a := rx
  refine getmeth_ok I1 ea c hm l ?_
  exact PySem.W.callWith_K0 (first := [.ref a]) I1.kIn hm.kp (run_fnS (us := [.ref a]) (vs := [.ref a]) F hr hb (hx σ) I1 (.cons rfl .nil) q)
end

/-! ### an execution as data -/
inductive Th where
  | st (z : Stm)
  | beh (p : Nat) (s : Bool) (a b : List Stm)
  | back
inductive Dd where
  | cmd (c : Cm)
  | hold
  | back
/-- left, begun: the next, the newest first -/
structure ESt where
  taken : Nat
  left : List Th
  begun : List (List Nat)
  deeds : List Dd
  way : Int
inductive Out where
  | go (s : ESt)
  | no (i : Int)
  | bad
def wayN (w : Bool) : Int := if w then 1 else 0
def enterE (b : List Stm) (s : ESt) : ESt := { s with left := b.map Th.st ++ s.left }
def takeE (bits : List Bool) (s : ESt) (f : Bool → ESt → Out) : Out := match bits[s.taken]? with
  | none => .no s.taken
  | some b => f b { s with taken := s.taken + 1 }
def leaveE (p : Nat) (sv : Bool) (a b : List Stm) (w : Bool) (s : ESt) : Out := match s.begun[p]? with
  | some (_ :: r) => .go { s with begun := s.begun.set p r, deeds := s.deeds ++ (if sv then [.back] else []), left := (if w then b else a).map Th.st ++ s.left, way := wayN w }
  | _ => .bad
def beginE (bs : List (List Stm)) (p : Nat) (sv : Bool) (a b : List Stm) (s : ESt) : Out := match s.begun[p]?, bs[p]? with
  | some ns, some body => if ns.head? = some s.taken then .no (-2) else .go { s with begun := s.begun.set p (s.taken :: ns), deeds := s.deeds ++ (if sv then [.hold] else []), left := body.map Th.st ++ .beh p sv a b :: s.left }
  | _, _ => .bad
def unwL : List Th → List Dd → Option ((Nat × Bool × List Stm × List Stm) × List Th × List Dd)
  | [], _ => none
  | .beh p sv a b :: r, ds => some ((p, sv, a, b), r, ds)
  | .back :: r, ds => unwL r (ds ++ [.back])
  | .st _ :: r, ds => unwL r ds
def unwindE (w : Bool) (s : ESt) : Out := match unwL s.left s.deeds with
  | some ((p, sv, a, b), l, ds) => leaveE p sv a b w { s with left := l, deeds := ds }
  | none => .bad
def stepE (bs : List (List Stm)) (bits : List Bool) : Th → ESt → Out
  | .st (.cmd c), s => .go { s with deeds := s.deeds ++ [.cmd c] }
  | .st (.fin w), s => unwindE w s
  | .st (.keep b), s => .go (enterE b { s with deeds := s.deeds ++ [.hold], left := .back :: s.left })
  | .st (.again b), s => takeE bits s fun w s => .go (if w then enterE b { s with left := .st (.again b) :: s.left } else s)
  | .st (.either a b), s => takeE bits s fun w s => .go (enterE (if w then b else a) s)
  | .st (.call p sv a b), s => beginE bs p sv a b s
  | .beh p sv a b, s => leaveE p sv a b false s
  | .back, s => .go { s with deeds := s.deeds ++ [.back] }
def runE (bs : List (List Stm)) (bits : List Bool) : Nat → ESt → Out
  | 0, s => if s.left.isEmpty then .go s else .bad
  | n + 1, s => match s.left with
    | [] => .go s
    | x :: r => match stepE bs bits x { s with left := r } with
      | .go s' => runE bs bits n s'
      | o => o
def Th.ok : Th → Prop
  | .st z => ∃ many l, z.ok many l ∧ l ≤ 3
  | .beh _ _ a b => (a.length ≤ 8 ∧ ∃ many l, okB many a l ∧ l ≤ 3) ∧ b.length ≤ 8 ∧ ∃ many l, okB many b l ∧ l ≤ 3
  | .back => True
/-- the sizes -/
def Szd (B : Nat) (s : ESt) : Prop := s.left.length + s.deeds.length ≤ B ∧ ∀ ns ∈ s.begun, ns.length ≤ B
def BodiesOk (bs : List (List Stm)) : Prop := ∀ b ∈ bs, b.length ≤ 8 ∧ ∃ many, okB many b 0
theorem th_oks {b : List Stm} {many l : Nat} (h : okB many b l) (hl : l ≤ 3) : ∀ x ∈ b.map Th.st, x.ok := fun x hx => by
  obtain ⟨z, hz, rfl⟩ := List.mem_map.mp hx
  obtain ⟨i, hi⟩ := List.getElem?_of_mem hz
  exact ⟨many, l, okB_get h hi, hl⟩
theorem all_app {P : Th → Prop} {xs ys : List Th} (h : ∀ x ∈ xs, P x) (h2 : ∀ x ∈ ys, P x) : ∀ x ∈ xs ++ ys, P x := fun x hx => (List.mem_append.mp hx).elim (h x) (h2 x)
theorem leave_ok {p : Nat} {sv w : Bool} {a b : List Stm} {s s' : ESt} (h : leaveE p sv a b w s = .go s') {B : Nat} (o : (Th.beh p sv a b).ok) (hl : ∀ x ∈ s.left, x.ok) (z : Szd B s) : (∀ x ∈ s'.left, x.ok) ∧ Szd (B + 10) s' := by
  unfold leaveE at h
  split at h
  · rename_i n r e
    cases h
    obtain ⟨⟨a8, m1, l1, oa, la⟩, b8, m2, l2, ob, lb⟩ := o
    obtain ⟨z1, z2⟩ := z
    refine ⟨all_app ?_ hl, ?_, fun ns hns => ?_⟩
    · cases w
      · exact th_oks oa la
      · exact th_oks ob lb
    · have : (if sv = true then [Dd.back] else []).length ≤ 1 := by split <;> simp
      have : (if w = true then b else a).length ≤ 8 := by split <;> assumption
      show List.length (_ ++ _) + List.length (_ ++ _) ≤ _
      rw [List.length_append, List.length_append, List.length_map]
      omega
    · rcases List.mem_or_eq_of_mem_set hns with h | h
      · have := z2 ns h
        omega
      · have := z2 _ (List.mem_of_getElem? e)
        rw [List.length_cons] at this
        rw [h]
        omega
  · cases h
theorem unw_ok : ∀ {l : List Th} {ds : List Dd} {p : Nat} {sv : Bool} {a b : List Stm} {l' : List Th} {ds' : List Dd}, unwL l ds = some ((p, sv, a, b), l', ds') → (∀ x ∈ l, x.ok) → (Th.beh p sv a b).ok ∧ (∀ x ∈ l', x.ok) ∧ l'.length + ds'.length + 1 ≤ l.length + ds.length
  | [], _, _, _, _, _, _, _, e, _ => by cases e
  | .beh _ _ _ _ :: r, ds, _, _, _, _, _, _, e, h => by
    cases e
    exact ⟨h _ List.mem_cons_self, fun x hx => h x (List.mem_cons_of_mem _ hx), by simp; omega⟩
  | .back :: r, ds, _, _, _, _, _, _, e, h => by
    obtain ⟨h1, h2, h3⟩ := unw_ok (l := r) e fun x hx => h x (List.mem_cons_of_mem _ hx)
    refine ⟨h1, h2, ?_⟩
    simp at h3 ⊢
    omega
  | .st _ :: r, ds, _, _, _, _, _, _, e, h => by
    obtain ⟨h1, h2, h3⟩ := unw_ok (l := r) e fun x hx => h x (List.mem_cons_of_mem _ hx)
    refine ⟨h1, h2, ?_⟩
    simp at h3 ⊢
    omega
theorem step_ok {bs : List (List Stm)} {bits : List Bool} (hb : BodiesOk bs) {B : Nat} : ∀ {x : Th} {s s' : ESt}, stepE bs bits x s = .go s' → x.ok → (∀ x ∈ s.left, x.ok) → Szd B s → (∀ x ∈ s'.left, x.ok) ∧ Szd (B + 12) s'
  | .st (.cmd c), s, s', e, o, hl, z => by
    cases e
    refine ⟨hl, ?_, fun ns hns => Nat.le_trans (z.2 ns hns) (by omega)⟩
    have := z.1
    simp
    omega
  | .st (.fin w), s, s', e, o, hl, z => by
    simp only [stepE, unwindE] at e
    split at e
    · rename_i p sv a b l ds e2
      obtain ⟨h1, h2, h3⟩ := unw_ok e2 hl
      obtain ⟨h4, h5, h6⟩ := leave_ok e (B := B) h1 h2 ⟨Nat.le_trans (by show l.length + ds.length ≤ s.left.length + s.deeds.length; omega) z.1, z.2⟩
      exact ⟨h4, by omega, fun ns hns => by have := h6 ns hns; omega⟩
    · cases e
  | .st (.keep b), s, s', e, ⟨many, l, o, hl3⟩, hl, z => by
    cases e
    refine ⟨all_app (th_oks o.2.2 (by have := o.1; omega)) (fun x hx => ?_), ?_, fun ns hns => Nat.le_trans (z.2 ns hns) (by omega)⟩
    · rcases List.mem_cons.mp hx with rfl | hx
      · trivial
      · exact hl x hx
    · have := z.1
      have := o.2.1
      simp [enterE]
      omega
  | .st (.again b), s, s', e, ⟨many, l, o, hl3⟩, hl, z => by
    simp only [stepE, takeE] at e
    split at e
    · cases e
    · rename_i w e2
      cases e
      have := z.1
      have := o.2.1
      cases w
      · exact ⟨hl, by show s.left.length + s.deeds.length ≤ _; omega, fun ns hns => Nat.le_trans (z.2 ns hns) (by omega)⟩
      · refine ⟨all_app (th_oks o.2.2 (by have := o.1; omega)) (fun x hx => ?_), ?_, fun ns hns => Nat.le_trans (z.2 ns hns) (by omega)⟩
        · rcases List.mem_cons.mp hx with rfl | hx
          · exact ⟨many, l, o, hl3⟩
          · exact hl x hx
        · simp [enterE]
          omega
  | .st (.either a b), s, s', e, ⟨many, l, o, hl3⟩, hl, z => by
    simp only [stepE, takeE] at e
    split at e
    · cases e
    · rename_i w e2
      cases e
      have := z.1
      obtain ⟨o1, ⟨o2, o3⟩, o4, o5⟩ := o
      refine ⟨all_app ?_ hl, ?_, fun ns hns => Nat.le_trans (z.2 ns hns) (by omega)⟩
      · cases w
        · exact th_oks o3 (by omega)
        · exact th_oks o5 (by omega)
      · have : (if w = true then b else a).length ≤ 8 := by split <;> assumption
        simp only [enterE, List.length_append, List.length_map]
        omega
  | .st (.call p sv a b), s, s', e, ⟨many, l, o, hl3⟩, hl, z => by
    simp only [stepE, beginE] at e
    split at e
    · rename_i ns body e1 e2
      split at e
      · cases e
      · cases e
        obtain ⟨o1, o2, ⟨o3, o4⟩, o5, o6⟩ := o
        obtain ⟨h8, m, hm⟩ := hb body (List.mem_of_getElem? e2)
        have := z.1
        refine ⟨all_app (th_oks hm (by decide)) (fun x hx => ?_), ?_, fun ns' hns => ?_⟩
        · rcases List.mem_cons.mp hx with rfl | hx
          · exact ⟨⟨o3, many, _, o4, by omega⟩, o5, many, _, o6, by omega⟩
          · exact hl x hx
        · have : (if sv = true then [Dd.hold] else []).length ≤ 1 := by split <;> simp
          show List.length (_ ++ _ :: _) + List.length (_ ++ _) ≤ _
          rw [List.length_append, List.length_append, List.length_map, List.length_cons]
          omega
        · rcases List.mem_or_eq_of_mem_set hns with h | h
          · have := z.2 ns' h
            omega
          · have := z.2 _ (List.mem_of_getElem? e1)
            rw [h, List.length_cons]
            omega
    · cases e
  | .beh p sv a b, s, s', e, o, hl, z => by
    obtain ⟨h4, h5, h6⟩ := leave_ok (s := s) e o hl z
    exact ⟨h4, by omega, fun ns hns => by have := h6 ns hns; omega⟩
  | .back, s, s', e, o, hl, z => by
    cases e
    refine ⟨hl, ?_, fun ns hns => Nat.le_trans (z.2 ns hns) (by omega)⟩
    have := z.1
    simp
    omega

/-! ### an execution in the heap -/
/-- what a thing that is left is -/
def ThV (S : Addr → Prop) (aB : Addr) (H : Hp) : Th → V → Prop
  | .st z, v => Tr S H z.d v
  | .beh p s a b, v => Tr S H (.tuple [.str "behind", .int p, .bool s, .list [bD a, bD b]]) v
  | .back, v => v = .ref aB
def DdV (aH aB : Addr) (H : Hp) : Dd → V → Prop
  | .cmd c, v => Tr (fun _ => False) H c.d v
  | .hold, v => v = .ref aH
  | .back, v => v = .ref aB
def AllR {α : Type} (R : α → V → Prop) : List α → List V → Prop
  | [], vs => vs = []
  | a :: r, vs => ∃ v us, vs = v :: us ∧ R a v ∧ AllR R r us
def bitV (b : Bool) : V := .int (if b then 1 else 0)
def exFs (aP aT aL aG aD : Addr) (t : Nat) (w : Int) : List (Str × V) := [("procedures", .ref aP), ("bits", .ref aT), ("taken", natV t), ("left", .ref aL), ("begun", .ref aG), ("deeds", .ref aD), ("way", .int w)]
/-- where an execution stands, and of what -/
structure ExA where
  e : Addr
  aP : Addr
  aT : Addr
  aL : Addr
  aG : Addr
  aD : Addr
  gs : List Addr
  S : Addr → Prop
  bs : List (List Stm)
  bits : List Bool
abbrev ExA.fs (A : ExA) (t : Nat) (w : Int) : List (Str × V) := exFs A.aP A.aT A.aL A.aG A.aD t w
/-- what an execution changes -/
def ExA.M (A : ExA) : Addr → Prop := fun a => a = A.e ∨ a = A.aL ∨ a = A.aD ∨ a ∈ A.gs
structure ExV (C aH aB : Addr) (A : ExA) (s : ESt) (H : Hp) : Prop where
  ins : ∃ dx, H A.e = some (.ins C dx (A.fs s.taken s.way))
  procs : ∃ ps, H A.aP = some (.lst ps) ∧ TrAll A.S H (A.bs.map bD) ps
  bts : H A.aT = some (.lst (A.bits.map bitV))
  lft : ∃ ls, H A.aL = some (.lst ls) ∧ AllR (ThV A.S aB H) s.left.reverse ls
  beg : H A.aG = some (.lst (A.gs.map V.ref)) ∧ A.gs.length = s.begun.length ∧ ∀ (i : Nat) (g : Addr) (ns : List Nat), A.gs[i]? = some g → s.begun[i]? = some ns → H g = some (.lst (ns.reverse.map natV))
  dds : ∃ ds, H A.aD = some (.lst ds) ∧ AllR (DdV aH aB H) s.deeds ds
  sep : (A.e :: A.aP :: A.aT :: A.aL :: A.aG :: A.aD :: A.gs).Nodup ∧ ∀ a ∈ (A.e :: A.aL :: A.aD :: A.gs), ¬ A.S a
  tk : s.taken ≤ A.bits.length
section
variable {S : Addr → Prop} {H H' : Hp}
mutual
theorem Tr.hold (k : ∀ b o, ((∃ xs, o = HO.lst xs) ∧ S b) ∨ (∃ xs, o = HO.tup xs) ∨ (∃ kvs, o = HO.dK kvs) → H b = some o → H' b = some o) : ∀ (d : PyData) (v : V), Tr S H d v → Tr S H' d v
  | .none, _, h => h
  | .bool _, _, h => h
  | .int _, _, h => h
  | .str _, _, h => h
  | .list ds, v, ⟨a, xs, e, s, l, t⟩ => ⟨a, xs, e, s, k _ _ (.inl ⟨⟨_, rfl⟩, s⟩) l, TrAll.hold k ds xs t⟩
  | .tuple ds, v, ⟨a, xs, e, l, t⟩ => ⟨a, xs, e, k _ _ (.inr (.inl ⟨_, rfl⟩)) l, TrAll.hold k ds xs t⟩
  | .dict ds, v, ⟨a, kvs, e, l, t⟩ => ⟨a, kvs, e, k _ _ (.inr (.inr ⟨_, rfl⟩)) l, t⟩
theorem TrAll.hold (k : ∀ b o, ((∃ xs, o = HO.lst xs) ∧ S b) ∨ (∃ xs, o = HO.tup xs) ∨ (∃ kvs, o = HO.dK kvs) → H b = some o → H' b = some o) : ∀ (ds : List PyData) (vs : List V), TrAll S H ds vs → TrAll S H' ds vs
  | [], _, h => h
  | d :: r, _, ⟨x, us, e, t, u⟩ => ⟨x, us, e, Tr.hold k d x t, TrAll.hold k r us u⟩
end
end
section
variable {α : Type} {R R' : α → V → Prop}
theorem AllR.imp (h : ∀ a v, R a v → R' a v) : ∀ {as : List α} {vs : List V}, AllR R as vs → AllR R' as vs
  | [], _, e => e
  | a :: r, _, ⟨v, us, e, x, q⟩ => ⟨v, us, e, h a v x, AllR.imp h q⟩
theorem AllR.append : ∀ {as bs : List α} {vs us : List V}, AllR R as vs → AllR R bs us → AllR R (as ++ bs) (vs ++ us)
  | [], _, _, _, e, q => by
    have e : _ = [] := e
    subst e
    exact q
  | a :: r, _, _, _, ⟨v, ws, e, x, q⟩, q2 => by
    subst e
    exact ⟨v, _, rfl, x, AllR.append q q2⟩
theorem AllR.len : ∀ {as : List α} {vs : List V}, AllR R as vs → vs.length = as.length
  | [], _, e => by have e : _ = [] := e; subst e; rfl
  | a :: r, _, ⟨v, ws, e, x, q⟩ => by subst e; rw [List.length_cons, List.length_cons, AllR.len q]
theorem AllR.one {a : α} {v : V} (h : R a v) : AllR R [a] [v] := ⟨v, [], rfl, h, rfl⟩
theorem AllR.split : ∀ {as : List α} {a : α} {vs : List V}, AllR R (as ++ [a]) vs → ∃ us u, vs = us ++ [u] ∧ AllR R as us ∧ R a u
  | [], a, _, ⟨v, us, e, x, q⟩ => by
    have q : us = [] := q
    subst q e
    exact ⟨[], v, rfl, rfl, x⟩
  | b :: r, a, _, ⟨v, us, e, x, q⟩ => by
    obtain ⟨us', u, e2, q1, q2⟩ := AllR.split q
    subst e e2
    exact ⟨v :: us', u, rfl, ⟨v, us', rfl, x, q1⟩, q2⟩
theorem AllR.reverse : ∀ {as : List α} {vs : List V}, AllR R as vs → AllR R as.reverse vs.reverse
  | [], _, e => by have e : _ = [] := e; subst e; rfl
  | a :: r, _, ⟨v, us, e, x, q⟩ => by
    subst e
    rw [List.reverse_cons, List.reverse_cons]
    exact AllR.append (AllR.reverse q) (AllR.one x)
end
theorem th_blk {S : Addr → Prop} {aB : Addr} {H : Hp} : ∀ {b : List Stm} {vs : List V}, TrAll S H (blkD b) vs → AllR (ThV S aB H) (b.map Th.st) vs
  | [], _, e => e
  | z :: r, _, ⟨x, us, e, t, q⟩ => ⟨x, us, e, t, th_blk q⟩
/-- nothing changes but the objects at M, which are lists and an object -/
def KpM (M : Addr → Prop) (H H' : Hp) : Prop := ∀ b o, ¬ M b → H b = some o → H' b = some o
theorem KpM.of {M : Addr → Prop} {H H' : Hp} (s : Same H H') : KpM M H H' := fun b o _ h => s b o h
theorem KpM.trans {M : Addr → Prop} {H H' H'' : Hp} (a : KpM M H H') (b : KpM M H' H'') : KpM M H H'' := fun c o n h => b c o n (a c o n h)
theorem KpM.upd {M : Addr → Prop} {H : Hp} {a : Addr} {o : HO} (m : M a) : KpM M H (upd H a o) := fun b x n h => by
  rw [upd_ne (fun e => n (by rw [e]; exact m))]
  exact h
theorem KpM.mono {M M' : Addr → Prop} {H H' : Hp} (k : KpM M H H') (h : ∀ a, M a → M' a) : KpM M' H H' := fun b o n e => k b o (fun m => n (h b m)) e
/-- at M stand lists and objects only, none of them in S -/
def Mut (S : Addr → Prop) (M : Addr → Prop) (H : Hp) : Prop := ∀ a, M a → ¬ S a ∧ ((∃ xs, H a = some (.lst xs)) ∨ ∃ C dx fs, H a = some (.ins C dx fs))
theorem KpM.tr {S M : Addr → Prop} {H H' : Hp} (k : KpM M H H') (m : Mut S M H) : ∀ b o, ((∃ xs, o = HO.lst xs) ∧ S b) ∨ (∃ xs, o = HO.tup xs) ∨ (∃ kvs, o = HO.dK kvs) → H b = some o → H' b = some o := fun b o h e => k b o (fun mb => by
  obtain ⟨n, h2⟩ := m b mb
  rcases h with ⟨_, s⟩ | ⟨xs, h⟩ | ⟨xs, h⟩
  · exact n s
  · rw [h] at e
    rcases h2 with ⟨ys, h2⟩ | ⟨C, dx, fs, h2⟩ <;> rw [h2] at e <;> cases e
  · rw [h] at e
    rcases h2 with ⟨ys, h2⟩ | ⟨C, dx, fs, h2⟩ <;> rw [h2] at e <;> cases e) e
theorem ThV.keep {S M : Addr → Prop} {aB : Addr} {H H' : Hp} (k : KpM M H H') (m : Mut S M H) : ∀ (x : Th) (v : V), ThV S aB H x v → ThV S aB H' x v
  | .st z, v, h => Tr.hold (k.tr m) _ _ h
  | .beh _ _ _ _, v, h => Tr.hold (k.tr m) _ _ h
  | .back, v, h => h
theorem DdV.keep {S M : Addr → Prop} {aH aB : Addr} {H H' : Hp} (k : KpM M H H') (m : Mut S M H) : ∀ (x : Dd) (v : V), DdV aH aB H x v → DdV aH aB H' x v
  | .cmd c, v, h => Tr.hold (fun b o h e => k.tr m b o (h.elim (fun h => h.2.elim) .inr) e) _ _ h
  | .hold, v, h => h
  | .back, v, h => h
section
variable {C aH aB : Addr} {A : ExA} {s s' : ESt} {H H' : Hp}
theorem ExV.mut (X : ExV C aH aB A s H) : Mut A.S A.M H := fun a m => by
  obtain ⟨dx, he⟩ := X.ins
  obtain ⟨ls, hl, _⟩ := X.lft
  obtain ⟨ds, hd, _⟩ := X.dds
  obtain ⟨_, n⟩ := X.sep
  rcases m with rfl | rfl | rfl | m
  · exact ⟨n _ (by simp), .inr ⟨C, dx, _, he⟩⟩
  · exact ⟨n _ (by simp), .inl ⟨ls, hl⟩⟩
  · exact ⟨n _ (by simp), .inl ⟨ds, hd⟩⟩
  · obtain ⟨i, hi⟩ := List.getElem?_of_mem m
    obtain ⟨hg, lg, hb⟩ := X.beg
    have hlt := (List.getElem?_eq_some_iff.mp hi).1
    exact ⟨n _ (by simp [m]), .inl ⟨_, hb i a _ hi (List.getElem?_eq_getElem (show i < s.begun.length by omega))⟩⟩
theorem ne_mem {a b : Addr} {l : List Addr} (h : a ∈ l) (n : b ∉ l) : a ≠ b := fun e => n (e ▸ h)
/-- how the addresses differ -/
structure ExD (A : ExA) : Prop where
  eP : A.e ≠ A.aP
  eT : A.e ≠ A.aT
  eL : A.e ≠ A.aL
  eG : A.e ≠ A.aG
  eD : A.e ≠ A.aD
  eg : A.e ∉ A.gs
  PL : A.aP ≠ A.aL
  PD : A.aP ≠ A.aD
  Pg : A.aP ∉ A.gs
  TL : A.aT ≠ A.aL
  TD : A.aT ≠ A.aD
  Tg : A.aT ∉ A.gs
  LG : A.aL ≠ A.aG
  LD : A.aL ≠ A.aD
  Lg : A.aL ∉ A.gs
  GD : A.aG ≠ A.aD
  Gg : A.aG ∉ A.gs
  Dg : A.aD ∉ A.gs
  nd : A.gs.Nodup
theorem ExV.dis (X : ExV C aH aB A s H) : ExD A := by
  have n := X.sep.1
  simp only [List.nodup_cons, List.mem_cons, not_or] at n
  obtain ⟨⟨e1, e2, e3, e4, e5, e6⟩, ⟨p1, p2, p3, p4, p5⟩, ⟨t1, t2, t3, t4⟩, ⟨l1, l2, l3⟩, ⟨g1, g2⟩, d1, d2⟩ := n
  exact ⟨e1, e2, e3, e4, e5, e6, p2, p4, p5, t1, t3, t4, l1, l2, l3, g1, g2, d1, d2⟩
theorem ExV.out (X : ExV C aH aB A s H) : ¬ A.M A.aP ∧ ¬ A.M A.aT ∧ ¬ A.M A.aG := by
  have d := X.dis
  refine ⟨fun m => ?_, fun m => ?_, fun m => ?_⟩
  · rcases m with m | m | m | m
    · exact d.eP m.symm
    · exact d.PL m
    · exact d.PD m
    · exact d.Pg m
  · rcases m with m | m | m | m
    · exact d.eT m.symm
    · exact d.TL m
    · exact d.TD m
    · exact d.Tg m
  · rcases m with m | m | m | m
    · exact d.eG m.symm
    · exact d.LG m.symm
    · exact d.GD m
    · exact d.Gg m
theorem ExV.next (X : ExV C aH aB A s H) (k : KpM A.M H H') (i' : ∃ dx, H' A.e = some (.ins C dx (A.fs s'.taken s'.way))) (l' : ∃ ls, H' A.aL = some (.lst ls) ∧ AllR (ThV A.S aB H') s'.left.reverse ls)
    (b' : A.gs.length = s'.begun.length ∧ ∀ (i : Nat) (g : Addr) (ns : List Nat), A.gs[i]? = some g → s'.begun[i]? = some ns → H' g = some (.lst (ns.reverse.map natV))) (d' : ∃ ds, H' A.aD = some (.lst ds) ∧ AllR (DdV aH aB H') s'.deeds ds) (t' : s'.taken ≤ A.bits.length) : ExV C aH aB A s' H' := by
  obtain ⟨n1, n2, n3⟩ := X.out
  obtain ⟨ps, hp, tp⟩ := X.procs
  exact ⟨i', ⟨ps, k _ _ n1 hp, TrAll.hold (k.tr X.mut) _ _ tp⟩, k _ _ n2 X.bts, l', ⟨k _ _ n3 X.beg.1, b'⟩, d', X.sep, t'⟩
/-- new objects only -/
theorem ExV.same (X : ExV C aH aB A s H) (sm : Same H H') : ExV C aH aB A s H' := by
  obtain ⟨dx, he⟩ := X.ins
  obtain ⟨ls, hl, rl⟩ := X.lft
  obtain ⟨ds, hd, rd⟩ := X.dds
  have k : KpM A.M H H' := KpM.of sm
  exact X.next k ⟨dx, sm _ _ he⟩ ⟨ls, sm _ _ hl, AllR.imp (ThV.keep k X.mut) rl⟩ ⟨X.beg.2.1, fun i g ns hi hn => sm _ _ (X.beg.2.2 i g ns hi hn)⟩ ⟨ds, sm _ _ hd, AllR.imp (DdV.keep k X.mut) rd⟩ X.tk
/-- only what is left changes -/
theorem ExV.setLeft (X : ExV C aH aB A s H) {ls : List V} {xs : List Th} (r : AllR (ThV A.S aB H) xs.reverse ls) : KpM A.M H (upd H A.aL (.lst ls)) ∧ ExV C aH aB A { s with left := xs } (upd H A.aL (.lst ls)) := by
  have d := X.dis
  have k : KpM A.M H (upd H A.aL (.lst ls)) := KpM.upd (.inr (.inl rfl))
  obtain ⟨dx, he⟩ := X.ins
  obtain ⟨ds, hd, rd⟩ := X.dds
  refine ⟨k, X.next k ⟨dx, by rw [upd_ne d.eL]; exact he⟩ ⟨ls, upd_same, AllR.imp (ThV.keep k X.mut) r⟩ ⟨X.beg.2.1, fun i g ns hi hn => ?_⟩ ⟨ds, by rw [upd_ne (Ne.symm d.LD)]; exact hd, AllR.imp (DdV.keep k X.mut) rd⟩ X.tk⟩
  rw [upd_ne (ne_mem (List.mem_of_getElem? hi) d.Lg)]
  exact X.beg.2.2 i g ns hi hn
/-- only the deeds change -/
theorem ExV.setDeeds (X : ExV C aH aB A s H) {ds : List V} {xs : List Dd} (r : AllR (DdV aH aB H) xs ds) : KpM A.M H (upd H A.aD (.lst ds)) ∧ ExV C aH aB A { s with deeds := xs } (upd H A.aD (.lst ds)) := by
  have d := X.dis
  have k : KpM A.M H (upd H A.aD (.lst ds)) := KpM.upd (.inr (.inr (.inl rfl)))
  obtain ⟨dx, he⟩ := X.ins
  obtain ⟨ls, hl, rl⟩ := X.lft
  refine ⟨k, X.next k ⟨dx, by rw [upd_ne d.eD]; exact he⟩ ⟨ls, by rw [upd_ne d.LD]; exact hl, AllR.imp (ThV.keep k X.mut) rl⟩ ⟨X.beg.2.1, fun i g ns hi hn => ?_⟩ ⟨ds, upd_same, AllR.imp (DdV.keep k X.mut) r⟩ X.tk⟩
  rw [upd_ne (ne_mem (List.mem_of_getElem? hi) d.Dg)]
  exact X.beg.2.2 i g ns hi hn
/-- only the fields change -/
theorem ExV.setIns (X : ExV C aH aB A s H) {t : Nat} {w : Int} {dx : Addr} (ht : t ≤ A.bits.length) : KpM A.M H (upd H A.e (.ins C dx (A.fs t w))) ∧ ExV C aH aB A { s with taken := t, way := w } (upd H A.e (.ins C dx (A.fs t w))) := by
  have d := X.dis
  have k : KpM A.M H (upd H A.e (.ins C dx (A.fs t w))) := KpM.upd (.inl rfl)
  obtain ⟨ls, hl, rl⟩ := X.lft
  obtain ⟨ds, hd, rd⟩ := X.dds
  refine ⟨k, X.next k ⟨dx, upd_same⟩ ⟨ls, by rw [upd_ne (Ne.symm d.eL)]; exact hl, AllR.imp (ThV.keep k X.mut) rl⟩ ⟨X.beg.2.1, fun i g ns hi hn => ?_⟩ ⟨ds, by rw [upd_ne (Ne.symm d.eD)]; exact hd, AllR.imp (DdV.keep k X.mut) rd⟩ ht⟩
  rw [upd_ne (ne_mem (List.mem_of_getElem? hi) d.eg)]
  exact X.beg.2.2 i g ns hi hn
/-- only the list of one procedure changes -/
theorem ExV.setBegun (X : ExV C aH aB A s H) {p : Nat} {g : Addr} {ns : List Nat} (hg : A.gs[p]? = some g) : KpM A.M H (upd H g (.lst (ns.reverse.map natV))) ∧ ExV C aH aB A { s with begun := s.begun.set p ns } (upd H g (.lst (ns.reverse.map natV))) := by
  have d := X.dis
  have mg := List.mem_of_getElem? hg
  have k : KpM A.M H (upd H g (.lst (ns.reverse.map natV))) := KpM.upd (.inr (.inr (.inr mg)))
  obtain ⟨dx, he⟩ := X.ins
  obtain ⟨ls, hl, rl⟩ := X.lft
  obtain ⟨ds, hd, rd⟩ := X.dds
  refine ⟨k, X.next k ⟨dx, by rw [upd_ne (Ne.symm (ne_mem mg d.eg))]; exact he⟩ ⟨ls, by rw [upd_ne (Ne.symm (ne_mem mg d.Lg))]; exact hl, AllR.imp (ThV.keep k X.mut) rl⟩ ⟨by rw [List.length_set]; exact X.beg.2.1, fun i g' ns' hi hn => ?_⟩ ⟨ds, by rw [upd_ne (Ne.symm (ne_mem mg d.Dg))]; exact hd, AllR.imp (DdV.keep k X.mut) rd⟩ X.tk⟩
  by_cases e : p = i
  · subst e
    rw [hg] at hi
    cases hi
    have hl := (List.getElem?_eq_some_iff.mp hn).1
    rw [List.length_set] at hl
    rw [List.getElem?_set_self hl] at hn
    cases hn
    exact upd_same
  · rw [List.getElem?_set_ne e] at hn
    rw [upd_ne (fun h => e ?_)]
    · exact X.beg.2.2 i g' ns' hi hn
    · subst h
      have h1 := (List.getElem?_eq_some_iff.mp hg).1
      have h2 := (List.getElem?_eq_some_iff.mp hi).1
      exact (List.getElem?_inj h1 d.nd).mp (hg.trans hi.symm)
end
/-- NoRun(i) is raised: only the objects at M have changed -/
def ErrR (CE : Addr) (M : Addr → Prop) (H : Hp) (E : XK) (i : Int) : Prop := ∀ (x : Addr) (H' : Hp), KpM M H H' → H' x = some (.xd [("index", .int i)]) → E (.ref CE) (some x) H'
theorem ErrR.kp {CE : Addr} {M : Addr → Prop} {H H1 : Hp} {E : XK} {i : Int} (k : KpM M H H1) (h : ErrR CE M H E i) : ErrR CE M H1 E i := fun x H' k2 hx => h x H' (k.trans k2) hx
section
variable {aP aT aL aG aD : Addr} {t t' : Nat} {w w' : Int}
theorem exf_procedures : (exFs aP aT aL aG aD t w).lookup ("procedures" : Str) = some (.ref aP) := rfl
theorem exf_bits : (exFs aP aT aL aG aD t w).lookup ("bits" : Str) = some (.ref aT) := rfl
theorem exf_taken : (exFs aP aT aL aG aD t w).lookup ("taken" : Str) = some (natV t) := rfl
theorem exf_left : (exFs aP aT aL aG aD t w).lookup ("left" : Str) = some (.ref aL) := rfl
theorem exf_begun : (exFs aP aT aL aG aD t w).lookup ("begun" : Str) = some (.ref aG) := rfl
theorem exf_deeds : (exFs aP aT aL aG aD t w).lookup ("deeds" : Str) = some (.ref aD) := rfl
theorem exf_way : (exFs aP aT aL aG aD t w).lookup ("way" : Str) = some (.int w) := rfl
theorem exf_putT : putF "taken" (natV t') (exFs aP aT aL aG aD t w) = exFs aP aT aL aG aD t' w := rfl
theorem exf_putW : putF "way" (.int w') (exFs aP aT aL aG aD t w) = exFs aP aT aL aG aD t w' := rfl
theorem exf_len : (exFs aP aT aL aG aD t w).length < 1000 := by show 7 < 1000; decide
theorem exf_enter : (exFs aP aT aL aG aD t w).lookup ("enter" : Str) = none := rfl
theorem exf_take : (exFs aP aT aL aG aD t w).lookup ("take" : Str) = none := rfl
theorem exf_leave : (exFs aP aT aL aG aD t w).lookup ("leave" : Str) = none := rfl
theorem exf_begin : (exFs aP aT aL aG aD t w).lookup ("begin" : Str) = none := rfl
theorem exf_unwind : (exFs aP aT aL aG aD t w).lookup ("unwind" : Str) = none := rfl
theorem exf_step : (exFs aP aT aL aG aD t w).lookup ("step" : Str) = none := rfl
theorem exf_finish : (exFs aP aT aL aG aD t w).lookup ("finish" : Str) = none := rfl
end

/-! ### the pens of deeds -/
theorem mv_six {c : Cm} {ps : List Int} (h : ps.length = 6) : (c.mv ps).length = 6 := by
  match ps, h with
  | [x, y, u, v, p, q], _ => cases c <;> rfl
def penStep : Dd → List (List Int) × List Int → List (List Int) × List Int
  | .cmd c, (h, p) => (h, c.mv p)
  | .hold, (h, p) => (p :: h, p)
  | .back, (q :: h, p) => (h, q.take 4 ++ p.drop 4)
  | .back, ([], p) => ([], p)
def penFold (xs : List Dd) (z : List (List Int) × List Int) : List (List Int) × List Int := xs.foldl (fun z d => penStep d z) z
/-- the pen behind each deed -/
def pensB (xs : List Dd) (p : List Int) : List (List Int) := (List.range xs.length).map fun i => (penFold (xs.take (i + 1)) ([], p)).2
/-- the pen behind all -/
def penEnd (xs : List Dd) (p : List Int) : List Int := (penFold xs ([], p)).2
/-- how many holds are open behind the deeds; none: one back too many -/
def depD : List Dd → Nat → Option Nat
  | [], n => some n
  | .cmd _ :: r, n => depD r n
  | .hold :: r, n => depD r (n + 1)
  | .back :: r, n + 1 => depD r n
  | .back :: _, 0 => none
theorem penFold_snoc {xs : List Dd} {i : Nat} {d : Dd} (h : xs[i]? = some d) (z : List (List Int) × List Int) : penFold (xs.take (i + 1)) z = penStep d (penFold (xs.take i) z) := by
  unfold penFold
  rw [List.take_add_one, h, List.foldl_append]
  rfl
theorem depD_take : ∀ {xs : List Dd} {n m : Nat}, depD xs n = some m → ∀ i, ∃ k, depD (xs.take i) n = some k
  | [], n, m, _, i => ⟨n, by rw [List.take_nil]; rfl⟩
  | d :: r, n, m, e, 0 => ⟨n, rfl⟩
  | .cmd _ :: r, n, m, e, i + 1 => depD_take (xs := r) (n := n) e i
  | .hold :: r, n, m, e, i + 1 => depD_take (xs := r) (n := n + 1) e i
  | .back :: r, n + 1, m, e, i + 1 => depD_take (xs := r) (n := n) e i
  | .back :: r, 0, m, e, i + 1 => by cases e
theorem depD_append : ∀ (xs ys : List Dd) (n : Nat), depD (xs ++ ys) n = (depD xs n).bind (depD ys)
  | [], ys, n => rfl
  | .cmd _ :: r, ys, n => depD_append r ys n
  | .hold :: r, ys, n => depD_append r ys (n + 1)
  | .back :: r, ys, n + 1 => depD_append r ys n
  | .back :: r, ys, 0 => rfl
/-- the open holds are those that the fold keeps -/
theorem dep_len : ∀ {xs : List Dd} {z : List (List Int) × List Int} {k : Nat}, depD xs z.1.length = some k → (penFold xs z).1.length = k
  | [], z, k, e => by cases e; rfl
  | .cmd c :: r, (h, p), k, e => dep_len (xs := r) (z := (h, c.mv p)) e
  | .hold :: r, (h, p), k, e => dep_len (xs := r) (z := (p :: h, p)) e
  | .back :: r, (q :: h, p), k, e => dep_len (xs := r) (z := (h, q.take 4 ++ p.drop 4)) e
  | .back :: r, ([], p), k, e => by cases e
/-- all pens have six numbers -/
theorem six_fold : ∀ {xs : List Dd} {z : List (List Int) × List Int}, (∀ q ∈ z.1, q.length = 6) → z.2.length = 6 → (∀ q ∈ (penFold xs z).1, q.length = 6) ∧ (penFold xs z).2.length = 6
  | [], z, h1, h2 => ⟨h1, h2⟩
  | .cmd c :: r, (h, p), h1, h2 => six_fold (xs := r) (z := (h, c.mv p)) h1 (mv_six h2)
  | .hold :: r, (h, p), h1, h2 => six_fold (xs := r) (z := (p :: h, p)) (fun q hq => (List.mem_cons.mp hq).elim (fun e => by rw [e]; exact h2) (h1 q)) h2
  | .back :: r, (q :: h, p), h1, h2 => six_fold (xs := r) (z := (h, q.take 4 ++ p.drop 4)) (fun q' hq => h1 q' (List.mem_cons_of_mem _ hq)) (by
      have e1 := h1 q List.mem_cons_self
      have h2 : p.length = 6 := h2
      show (q.take 4 ++ p.drop 4).length = 6
      rw [List.length_append, List.length_take, List.length_drop]
      omega)
  | .back :: r, ([], p), h1, h2 => six_fold (xs := r) (z := ([], p)) h1 h2
theorem pensB_snoc (xs : List Dd) (i : Nat) (p : List Int) (h : i < xs.length) : pensB (xs.take (i + 1)) p = pensB (xs.take i) p ++ [(penFold (xs.take (i + 1)) ([], p)).2] := by
  unfold pensB
  rw [List.length_take, List.length_take, show min (i + 1) xs.length = i + 1 by omega, show min i xs.length = i by omega, List.range_succ, List.map_append, List.map_cons, List.map_nil, List.take_take, show min (i + 1) (i + 1) = i + 1 by omega]
  congr 1
  refine List.map_congr_left fun j hj => ?_
  have := List.mem_range.mp hj
  rw [List.take_take, List.take_take, show min (j + 1) (i + 1) = j + 1 by omega, show min (j + 1) i = j + 1 by omega]
theorem pensB_last (xs : List Dd) (p : List Int) : (pensB xs p).getLast? = if xs = [] then none else some (penEnd xs p) := by
  cases e : xs.length with
  | zero =>
    have : xs = [] := List.length_eq_zero_iff.mp e
    subst this
    rfl
  | succ n =>
    have h := pensB_snoc xs n p (by omega)
    rw [List.take_of_length_le (by omega)] at h
    rw [h, List.getLast?_concat, if_neg (fun z => by rw [z] at e; cases e)]
    rfl
def Dd.ok : Dd → Prop
  | .cmd c => c.ok
  | _ => True

section
open GenW
/-! ### a generator def that a for walks: its body -/
section
variable (P : Program) (w : World) (K : PySem.W.Frag) (mg : Str → Option Value) (base : Heap) (N : List Str) (qual : Str) (scope : Scope) (f : Addr) (cd : Value) (A : Around) (outer : List Env) (n : Nat) (H0 : Hp) (pn : List (Addr × Obj))
/-- the context of the body: its frame stands at n; b: what stood when it was called, the caller's locals as they are now -/
def vcx (b : Shared) : Cx :=
  { prog := P, w := w, K := K, mg := mg, base := base, A := A.deeper (envOfC qual scope n f cd), N := N, s_0 := b, H_0 := H0, env := envOfC qual scope n f cd, outer := outer, stack := envOfC qual scope n f cd :: outer,
    ex := [], calm := true, fn := fun _ => true, pn := pn, xe := fun _ _ => False }
end
section
variable {P : Program} {w : World} {K : PySem.W.Frag} {mg : Str → Option Value} {base : Heap} {N : List Str} {qual : Str} {scope : Scope} {f : Addr} {cd : Value} {A : Around} {outer : List Env} {n : Nat} {H0 : Hp} {pn : List (Addr × Obj)}
/-- all that an item's receiver must keep: the generator's frame and what it knows; Gh: what the receiver keeps for itself -/
def GY3 (F : Shared → Cx) (Gh : List V → Shared → Prop) : Protocol := fun m _ v s kap => ∃ (ys : List V) (x : V) (ip : List (Addr × Obj)) (σ : L2.St) (H : Hp) (b : Shared), m + 1 + ys.length = sizeLine ∧ RelV x v ∧ Inv (F b) ip σ H s ∧ Gh ys b ∧
  ∀ b' s', Gh (ys ++ [x]) b' → Inv (F b') ip σ H s' → kap (.send .none) s'
def GR3 (F : Shared → Cx) (Gh : List V → Shared → Prop) (Q : List V → Hp → Prop) : GenEnd := fun _ _ r s => ((r = .ok (.ret .none) ∨ r = .ok .next) ∧ ∃ (ys : List V) (ip : List (Addr × Obj)) (σ : L2.St) (H : Hp) (b : Shared), Inv (F b) ip σ H s ∧ Gh ys b ∧ ys.length ≤ sizeLine ∧ Q ys H) ∨ ∃ e, r = .error e ∧ False
/-- where the code stands -/
structure GC3 (A : Around) (B : Around) (c : Code) (fs : List Frame) (gd : Bool → Bool) : Prop where
  over : A.over c fs = B
  split : splitAtGen fs = none
  guard : fs.any Frame.guarded = false
  gd : gd false = false
/-- what follows -/
def GK3 (P : Program) (w : World) (F : Shared → Cx) (A : Around) (Gh : List V → Shared → Prop) (R : GenEnd) (ip : List (Addr × Obj)) (c : Code) (fs : List Frame) (Kc : Flow → Sem PySem.Fin) (D : GEnds) : Prop :=
  ∀ (m : Nat) (ys : List V) (s₀ b s : Shared) (fl : Flow), m + ys.length = sizeLine → Gh ys b → SP (F b) ip (D.at ys) fl s → Seg (model P w) A R (GY3 F Gh) m s₀ c (Kc fl) fs s
abbrev TG3 := Shared → TGn
/-- a statement of the body, over every state that may have been -/
def G3 (P : Program) (w : World) (F : Shared → Cx) (n : Nat) (A B : Around) (E0 : Env) (st : Stmt) (t : TG3) : Prop :=
  ∀ (Gh : List V → Shared → Prop) (_ : ∀ ys b, Gh ys b → b.heap.objs.size = n) (ip : List (Addr × Obj)) (R : GenEnd) (m : Nat) (ys : List V) (s₀ : Shared) (c : Code) (fs : List Frame) (Kc : Flow → Sem PySem.Fin) (J : Value → Sem PySem.Fin) (gd : Bool → Bool) (lv : List Value → List Value) (b s : Shared) (σ : L2.St) (H : Hp) (D : GEnds),
    GC3 A B c fs gd → m + ys.length = sizeLine → GK3 P w F A Gh R ip c fs Kc D → Gh ys b → Inv (F b) ip σ H s → t b D ys σ H → Seg (model P w) A R (GY3 F Gh) m s₀ c ((exec st E0).wrap Kc J gd lv) fs s
def G3s (P : Program) (w : World) (F : Shared → Cx) (n : Nat) (A B : Around) (E0 : Env) (st : List Stmt) (t : TG3) : Prop :=
  ∀ (Gh : List V → Shared → Prop) (_ : ∀ ys b, Gh ys b → b.heap.objs.size = n) (ip : List (Addr × Obj)) (R : GenEnd) (m : Nat) (ys : List V) (s₀ : Shared) (c : Code) (fs : List Frame) (Kc : Flow → Sem PySem.Fin) (J : Value → Sem PySem.Fin) (gd : Bool → Bool) (lv : List Value → List Value) (b s : Shared) (σ : L2.St) (H : Hp) (D : GEnds),
    GC3 A B c fs gd → m + ys.length = sizeLine → GK3 P w F A Gh R ip c fs Kc D → Gh ys b → Inv (F b) ip σ H s → t b D ys σ H → Seg (model P w) A R (GY3 F Gh) m s₀ c ((execs st E0).wrap Kc J gd lv) fs s
/-- the judgement for a def -/
abbrev GB (P : Program) (w : World) (K : PySem.W.Frag) (mg : Str → Option Value) (base : Heap) (N : List Str) (qual : Str) (scope : Scope) (f : Addr) (cd : Value) (A : Around) (outer : List Env) (n : Nat) (H0 : Hp) (pn : List (Addr × Obj)) (st : List Stmt) (t : TG3) : Prop :=
  G3s P w (vcx P w K mg base N qual scope f cd A outer n H0 pn) n A (A.deeper (envOfC qual scope n f cd)) (envOfC qual scope n f cd) st t
abbrev GB1 (P : Program) (w : World) (K : PySem.W.Frag) (mg : Str → Option Value) (base : Heap) (N : List Str) (qual : Str) (scope : Scope) (f : Addr) (cd : Value) (A : Around) (outer : List Env) (n : Nat) (H0 : Hp) (pn : List (Addr × Obj)) (st : Stmt) (t : TG3) : Prop :=
  G3 P w (vcx P w K mg base N qual scope f cd A outer n H0 pn) n A (A.deeper (envOfC qual scope n f cd)) (envOfC qual scope n f cd) st t
theorem g3_ps {st : Stmt} {t : Shared → TS} (h : ∀ b, PS (vcx P w K mg base N qual scope f cd A outer n H0 pn b) st (t b)) : GB1 P w K mg base N qual scope f cd A outer n H0 pn st fun b => tPlain (t b) := by
  intro Gh hsz ip R m ys s₀ c fs Kc J gd lv b s σ H D g hm k hg hI ht
  refine seg_wrap ?_
  rw [g.over]
  exact wpAny_mono ((h b).run ip s σ H (D.at ys) hI ht) (fun fl s' hs => k m ys s₀ b s' fl hm hg hs) fun x s' hx => hx.elim
theorem g3_nil : GB P w K mg base N qual scope f cd A outer n H0 pn [] fun _ => tG0 := by
  intro Gh hsz ip R m ys s₀ c fs Kc J gd lv b s σ H D g hm k hg hI ht
  exact seg_execs_nil (k m ys s₀ b s .next hm hg ⟨σ, H, hI, ht⟩)
theorem g3_cons {st : Stmt} {rest : List Stmt} {t u : TG3} (a : GB1 P w K mg base N qual scope f cd A outer n H0 pn st t) (r : GB P w K mg base N qual scope f cd A outer n H0 pn rest u) (hu : ∀ b b', u b = u b') :
    GB P w K mg base N qual scope f cd A outer n H0 pn (st :: rest) fun b => tGThen (t b) (u b) := by
  intro Gh hsz ip R m ys s₀ c fs Kc J gd lv b s σ H D g hm k hg hI ht
  refine seg_execs_cons ?_
  refine a Gh hsz ip R m ys s₀ c fs _ J gd lv b s σ H { D with nx := fun ys' σ' H' => u b D ys' σ' H' } g hm (fun m' ys' s₀' b' s' fl hm' hg' hs => ?_) hg hI ht
  cases fl with
  | next =>
    obtain ⟨σ', H', I', q⟩ := hs
    exact r Gh hsz ip R m' ys' s₀' c fs Kc J gd lv b' s' σ' H' D g hm' k hg' I' (hu b b' ▸ q)
  | brk => exact k m' ys' s₀' b' s' .brk hm' hg' hs
  | cont => exact k m' ys' s₀' b' s' .cont hm' hg' hs
  | ret v => exact k m' ys' s₀' b' s' (.ret v) hm' hg' hs
theorem g3_yield {e : Expr} {yp pos : Pos} {te : Shared → TE} (he : ∀ b, PE (vcx P w K mg base N qual scope f cd A outer n H0 pn b) e (te b)) (hco : scope.isCoroutine = false := by rfl) (hi : interactive (envOfC qual scope n f cd) = false := by rfl) :
    GB1 P w K mg base N qual scope f cd A outer n H0 pn (.Expr (.Yield (some e) yp) pos) fun b => tGYield (te b) := by
  intro Gh hsz ip R m ys s₀ c fs Kc J gd lv b s σ H D g hm k hg hI ht
  obtain ⟨hlt, ht⟩ := ht
  obtain ⟨m, rfl⟩ : ∃ l, m = l + 1 := ⟨m - 1, by omega⟩
  refine seg_Expr_Yield g.split g.gd g.guard ?_ hco hi
  rw [g.over]
  refine wpAny_mono ((he b).run ip s σ H _ hI ht) (fun v s' hv => ?_) fun x s' hx => hx.elim
  obtain ⟨x, H1, I1, rv, q⟩ := hv
  intro kap hk
  refine ⟨ys, x, ip, σ, H1, b, hm, rv, I1, hg, fun b' s'' hg' I' => hk .none s'' ?_⟩
  refine k m (ys ++ [x]) s'' b' s'' .next ?_ hg' ⟨σ, H1, I', q⟩
  rw [List.length_append, List.length_singleton]
  omega
end
section
variable {P : Program} {w : World} {A : Around} {R : GenEnd} {Y : Protocol} {m : Nat} {s₀ : Shared} {c : Code} {fs : List Frame} {s : Shared} {env : Env} {Kc : Flow → Sem PySem.Fin} {J : Value → Sem PySem.Fin} {gd : Bool → Bool} {lv : List Value → List Value}
theorem seg_For3 {tg iter : Expr} {body orelse : List Stmt} {pos : Pos} (hs : ∀ x, foldedSetIterable iter env x = pure x)
    (h : wpAny (model P w) (A.over c fs) (eval iter env) (fun v s1 => wpAny (model P w) (A.over c fs) (pyIter v) (fun it s2 => ∀ p, Seg (model P w) A R Y m s₀ (.forLoop tg it body orelse env) ((model P w).den (.forLoop tg it body orelse env))
      (.ret (fun r => ((match r with | .ok f => (.pure f : Sem Flow) | .error e => .raise e).onRaise (cameBack env)).wrap Kc J gd lv) none (gd false) (lv []) c p [] :: fs) s2) (fun _ _ => False) s1) (fun _ _ => False) s) :
    Seg (model P w) A R Y m s₀ c ((exec (.For tg iter body orelse pos) env).wrap Kc J gd lv) fs s := by
  rw [exec_For]
  refine seg_bind_wrap (wpAny_standAt ?_)
  refine seg_bind_wrap (wpAny_mono h (fun v s1 h1 => ?_) fun _ _ z => z.elim)
  refine seg_bind_wrap (wpAny_of_eq (hs v) ?_)
  refine seg_bind_wrap (wpAny_standAt ?_)
  refine seg_bind_wrap (wpAny_holding (wpAny_mono h1 (fun it s2 h2 => ?_) fun _ _ z => z.elim))
  exact seg_call h2
/-- one turn -/
theorem seg_forLoop3 {tg : Expr} {it : Value} {body : List Stmt}
    (h : wpAny (model P w) (A.over (.forLoop tg it body [] env) fs) (pyNext it) (fun r s1 => match r with
      | none => Seg (model P w) A R Y m s₀ (.block [] env) ((model P w).den (.block [] env)) fs s1
      | some v => wpAny (model P w) (A.over (.forLoop tg it body [] env) fs) (letOwnedTupleGo tg it v) (fun _ s2 => wpAny (model P w) (A.over (.forLoop tg it body [] env) fs) (assign tg env v) (fun _ s3 =>
          Seg (model P w) A R Y m s₀ (.forLoop tg it body [] env) ((execs body env).wrap (fun f => match f with
            | .next | .cont => .pure (.again (.forLoop tg it body [] env))
            | .brk => .pure (.done .next)
            | .ret v => .pure (.done (.ret v))) (fun e => (do noteFrame e env; theTreesLotGoes e : Sem Unit).wrap (fun _ => .raise e) .raise id id) id id) fs s3) (fun _ _ => False) s2) (fun _ _ => False) s1) (fun _ _ => False) s) :
    Seg (model P w) A R Y m s₀ (.forLoop tg it body [] env) ((model P w).den (.forLoop tg it body [] env)) fs s := by
  show Seg _ A R Y m s₀ _ ((forTurn tg it body [] env).onRaise (fun x => do noteFrame x env; theTreesLotGoes x)) fs s
  unfold forTurn
  rw [Sem.onRaise_eq_wrap]
  refine seg_bind_wrap (wpAny_standAt ?_)
  refine seg_bind_wrap (wpAny_onRaise (wpAny_mono h (fun r s1 h1 => ?_) fun _ _ z => z.elim))
  cases r with
  | none => exact seg_again rfl h1
  | some v =>
    refine seg_bind_wrap (wpAny_mono h1 (fun _ s2 h2 => ?_) fun _ _ z => z.elim)
    refine seg_bind_wrap (wpAny_mono h2 (fun _ s3 h3 => ?_) fun _ _ z => z.elim)
    rw [Sem.bind_eq_wrap', Sem.wrap_wrap]
    rw [Sem.wrap_congr (execs body env) _ _ (K' := fun f => match f with
            | .next | .cont => .pure (.again (.forLoop tg it body [] env))
            | .brk => .pure (.done .next)
            | .ret v => .pure (.done (.ret v))) (H' := (fun e => (do noteFrame e env; theTreesLotGoes e : Sem Unit).wrap (fun _ => .raise e) .raise id id))
        (fun f => by cases f <;> rfl) (fun e => by first | exact Sem.bind_eq_wrap _ _ | (show (do noteFrame e env; theTreesLotGoes e : Sem Unit).bind (fun _ => .raise e) = _; rw [Sem.bind_eq_wrap]))]
    exact h3
end
section
variable {P : Program} {w : World} {K : PySem.W.Frag} {mg : Str → Option Value} {base : Heap} {N : List Str} {qual : Str} {scope : Scope} {f : Addr} {cd : Value} {A : Around} {outer : List Env} {n : Nat} {H0 : Hp} {pn : List (Addr × Obj)}
theorem gc3_loop {A B : Around} {c c' : Code} {fs : List Frame} {gd : Bool → Bool} {kk : Result → Sem PySem.Fin} {l kp : List Value} {p : Pos} (g : GC3 A B c fs gd) (hw : c'.weight = 0) (hu : c'.cUnits = 0) : GC3 A B c' (.ret kk none (gd false) l c p kp :: fs) id where
  over := (over_loop hw hu).trans g.over
  split := by show (splitAtGen fs).map _ = none; rw [g.split]; rfl
  guard := by show (gd false || fs.any Frame.guarded) = false; rw [g.gd, g.guard]; rfl
  gd := rfl
/-- W: the invariant by the turn and a measure, with what is out -/
def tG3For (wi : TI) (g : TG) (tb : TGn) : TGn := fun D ys σ H => wi σ H fun J H1 => ∃ W : Nat → Nat → List V → L2.St → Hp → Prop, (∃ m, W 0 m ys σ H1) ∧ ∀ i m ys σ H, W i m ys σ H →
  (J.stop i H ∧ D.nx ys σ H) ∨ (J.go i H ∧ ∃ N : List V → L2.St → Hp → Prop, (∀ ys' σ' H', N ys' σ' H' → ∃ m', m' < m ∧ W (i + 1) m' ys' σ' H') ∧ ∀ x H', J.yld i H x H' → g x σ H' fun σ2 H2 => tb { D with nx := N, ct := N, bk := D.nx } ys σ2 H2)
theorem g3_for {tg iter : Expr} {body : List Stmt} {pos : Pos} {wi : Shared → TI} {g : Shared → TG} {tb : TG3} (hi : ∀ b, PI (vcx P w K mg base N qual scope f cd A outer n H0 pn b) tg iter (wi b)) (hgt : ∀ b, PG (vcx P w K mg base N qual scope f cd A outer n H0 pn b) tg (g b))
    (hb : GB P w K mg base N qual scope f cd A outer n H0 pn body tb) (hgc : ∀ b b', g b = g b') (htc : ∀ b b', tb b = tb b') (hs : ∀ x, foldedSetIterable iter (envOfC qual scope n f cd) x = pure x := by intro _; rfl) :
    GB1 P w K mg base N qual scope f cd A outer n H0 pn (.For tg iter body [] pos) fun b => tG3For (wi b) (g b) (tb b) := by
  intro Gh hsz ip R m ys s₀ c fs Kc J gd lv b s σ H D gc hm k hg hI ht
  refine seg_For3 hs ?_
  rw [gc.over]
  refine wpAny_mono ((hi b).run ip s σ H _ hI ht) (fun v s1 h1 => wpAny_mono h1 (fun itv s2 h2 => ?_) fun x s' hx => hx.elim) fun x s' hx => hx.elim
  obtain ⟨it, fp, tn, Jt, H2, rfl, I2, T, st2, f2, W, ⟨m0, w0⟩, turn⟩ := h2
  intro p
  have gl := fun (kk : Result → Sem PySem.Fin) => gc3_loop (kk := kk) (c' := .forLoop tg (.ref it) body [] (envOfC qual scope n f cd)) (l := lv []) (kp := []) (p := p) gc rfl rfl
  have stat : ∀ {H' : Hp} (b' : Shared), b'.heap.objs.size = n → (∀ x ∈ fp, H' x = none) → ∀ x ∈ fp, FpOk (vcx P w K mg base N qual scope f cd A outer n H0 pn b') ip H' x := fun b' e hn x hx => by
    obtain ⟨_, q1, q2, q3, q4, q5⟩ := f2 x hx
    refine ⟨hn x hx, q1, q2, ?_, q4, q5⟩
    rcases q3 with q3 | q3
    · exact .inl q3
    · have q3 : b.heap.objs.size ≤ x := q3
      rw [hsz ys b hg] at q3
      exact .inr (by show b'.heap.objs.size ≤ x; rw [e]; exact q3)
  have loop : ∀ (l i m : Nat) (ys : List V) (s₀ b s : Shared) (σ : L2.St) (H : Hp), m + ys.length = sizeLine → Gh ys b → Inv (vcx P w K mg base N qual scope f cd A outer n H0 pn b) ip σ H s → tn i s.heap → (∀ x ∈ fp, H x = none) → W i l ys σ H →
      Seg (model P w) A R (GY3 (vcx P w K mg base N qual scope f cd A outer n H0 pn) Gh) m s₀ (.forLoop tg (.ref it) body [] (envOfC qual scope n f cd)) ((model P w).den (.forLoop tg (.ref it) body [] (envOfC qual scope n f cd)))
        (.ret (fun r => ((match r with | .ok f => (.pure f : Sem Flow) | .error e => .raise e).onRaise (cameBack (envOfC qual scope n f cd))).wrap Kc J gd lv) none (gd false) (lv []) c p [] :: fs) s := by
    intro l
    induction l using Nat.strongRecOn with
    | ind l ih =>
      intro i m ys s₀ b0 s σ H hm hg hI hst hfr hw
      refine seg_forLoop3 ?_
      rw [(gl _).over]
      rcases turn i l ys σ H hw with ⟨stop, qn⟩ | ⟨go, N', hN, step⟩
      · refine wpAny_mono (T.done (vcx P w K mg base N qual scope f cd A outer n H0 pn b0) rfl rfl rfl rfl i ip s σ H (fun _ _ => False) hI (stat b0 (hsz ys b0 hg) hfr) hst stop) (fun r s4 ⟨hr, I4⟩ => ?_) fun _ _ z => z.elim
        subst hr
        exact seg_leaf (.ok .next) (k m ys s₀ b0 s4 .next hm hg ⟨σ, H, I4, qn⟩)
      · refine wpAny_mono (T.item (vcx P w K mg base N qual scope f cd A outer n H0 pn b0) rfl rfl rfl rfl i ip s σ H (fun _ _ => False) hI (stat b0 (hsz ys b0 hg) hfr) hst go) (fun r s4 ⟨u, hr, h4⟩ => ?_) fun _ _ z => z.elim
        subst hr
        refine wpAny_mono h4 (fun _ s5 ⟨x, H5, I5, r5, y5, st5, fr5⟩ => ?_) fun _ _ z => z.elim
        have I5' := I5.pinned (stat b0 (hsz ys b0 hg) fr5) (T.obj _ _ st5)
        refine wpAny_mono ((hgt b0).run _ s5 σ H5 x u _ I5' r5 (hgc b b0 ▸ step x H5 y5)) (fun _ s6 ⟨σ6, H6, I6, q6⟩ => ?_) fun _ _ z => z.elim
        refine hb Gh hsz _ R m ys s₀ _ _ _ _ id id b0 s6 σ6 H6 { D with nx := N', ct := N', bk := D.nx } (gl _) hm (fun m' ys' s₀' b' s7 fl hm' hg' q7 => ?_) hg I6 (htc b b0 ▸ q6)
        have again : ∀ {σ7 : L2.St} {H7 : Hp}, Inv (vcx P w K mg base N qual scope f cd A outer n H0 pn b') (ip ++ pinsAt fp s5.heap) σ7 H7 s7 → N' ys' σ7 H7 → Seg (model P w) A R (GY3 (vcx P w K mg base N qual scope f cd A outer n H0 pn) Gh) m' s₀' (.forLoop tg (.ref it) body [] (envOfC qual scope n f cd)) ((model P w).den (.forLoop tg (.ref it) body [] (envOfC qual scope n f cd)))
            (.ret (fun r => ((match r with | .ok f => (.pure f : Sem Flow) | .error e => .raise e).onRaise (cameBack (envOfC qual scope n f cd))).wrap Kc J gd lv) none (gd false) (lv []) c p [] :: fs) s7 := fun {σ7 H7} I7 n7 => by
          obtain ⟨l', hl, w7⟩ := hN ys' σ7 H7 n7
          refine ih l' hl (i + 1) m' ys' s₀' b' s7 σ7 H7 hm' hg' I7.unpinned (T.keep _ _ _ st5 fun x hx o e => (I7.pin (x, o) (List.mem_append_right _ (List.mem_append_right _ (mem_pinsAt hx e)))).1) (fun x hx => ?_) w7
          obtain ⟨o, e, d⟩ := T.obj _ _ st5 x hx
          exact (I7.pin (x, o) (List.mem_append_right _ (List.mem_append_right _ (mem_pinsAt hx e)))).2.1
        cases fl with
        | next =>
          obtain ⟨σ7, H7, I7, n7⟩ := q7
          exact seg_again rfl (again I7 n7)
        | cont =>
          obtain ⟨σ7, H7, I7, n7⟩ := q7
          exact seg_again rfl (again I7 n7)
        | brk =>
          obtain ⟨σ7, H7, I7, n7⟩ := q7
          exact seg_leaf (.ok .next) (k m' ys' s₀' b' s7 .next hm' hg' ⟨σ7, H7, I7.unpinned, n7⟩)
        | ret v =>
          obtain ⟨x7, σ7, H7, I7, r7, n7⟩ := q7
          exact seg_leaf (.ok (.ret v)) (k m' ys' s₀' b' s7 (.ret v) hm' hg' ⟨x7, σ7, H7, I7.unpinned, r7, n7⟩)
  exact loop m0 0 m ys s₀ b s2 σ H2 hm hg I2 st2 (fun x hx => (f2 x hx).1) w0
end
/-- only the record at L has changed, which is a frame's names -/
structure OneNs (L : Addr) (s s' : Shared) : Prop where
  os : s'.os = s.os
  same : Heap.SameBut L s.heap s'.heap
theorem funFrames_one {base h h' : Heap} {L : Addr} {o' : Obj} (hs : Heap.SameBut L h h') (ho : h'.get? L = some o') (hd : ∀ vs, o'.data ≠ .fields vs) : ∀ {l : List Env}, h.FunFrames base l → h'.FunFrames base l
  | [], _ => trivial
  | env :: rest, ⟨hk, ⟨M, o, hf, hn, e, d⟩, hr⟩ => by
    refine ⟨hk, ?_, funFrames_one hs ho hd hr⟩
    by_cases z : M = L
    · subst z
      exact ⟨M, o', hf, hn, ho, hd⟩
    · exact ⟨M, o, hf, hn, (hs.2 M z).trans e, d⟩
section
variable {P : Program} {w : World} {K : PySem.W.Frag} {mg : Str → Option Value} {base : Heap} {N : List Str} {qual : Str} {scope : Scope} {f : Addr} {cd : Value} {A : Around} {outer : List Env} {n : Nat} {H0 : Hp} {pn : List (Addr × Obj)}
/-- the receiver has changed its own names, in b and in s alike -/
theorem vcx_again {ip : List (Addr × Obj)} {σ : L2.St} {H : Hp} {b b' s s' : Shared} {L : Addr} {o' : Obj} (I : Inv (vcx P w K mg base N qual scope f cd A outer n H0 pn b) ip σ H s) (hL : L ∈ frs outer) (h1 : OneNs L b b') (h2 : OneNs L s s') (hg : AllBare s'.gens)
    (e1 : b'.heap.get? L = some o') (e2 : s'.heap.get? L = some o') (hd : ∀ vs, o'.data ≠ .fields vs) : Inv (vcx P w K mg base N qual scope f cd A outer n H0 pn b') ip σ H s' := by
  obtain ⟨hbL, o₀, ho₀, _⟩ := I.ok.funs.mem hL
  have hlt : L < b.heap.objs.size := Heap.lt_size ho₀
  have ltn : L < n := Nat.lt_of_lt_of_le hlt I.ok.above
  have frL : H0 L = none := I.ok.frf L hL
  have HL : H L = none := I.base.free L o₀ ho₀ frL (by simp [vcx])
  have neC : ∀ x c, (envOfC qual scope n f cd).cells.lookup x = some c → c ≠ L := fun x c e z => by
    have q : b.heap.objs.size ≤ c := I.ok.cab x c rfl e
    exact absurd (Nat.lt_of_lt_of_le hlt q) (by rw [z]; exact Nat.lt_irrefl _)
  have sz : b'.heap.objs.size = b.heap.objs.size := h1.same.1
  have old : ∀ x o, x ≠ L → b'.heap.get? x = some o → b.heap.get? x = some o := fun x o hx e => (h1.same.2 x hx).symm.trans e
  have new : ∀ x o, x ≠ L → s.heap.get? x = some o → s'.heap.get? x = some o := fun x o hx e => (h2.same.2 x hx).trans e
  refine ⟨⟨I.ok.mod, I.ok.kind, I.ok.glob, I.ok.blt, ?_, I.ok.inj, I.ok.has, fun x c h e => ?_, I.ok.hd, I.ok.frames, I.ok.stk, I.ok.exf, fun x o e => ?_, ?_, I.ok.noex, I.ok.exfs, funFrames_one h1.same e1 hd I.ok.funs, I.ok.frf⟩, ?_, hg, ⟨fun x o e h0 hf hx => ?_, fun x o e h0 hf hx => ?_, fun x o e h0 hx => ?_, fun x o e hx => ?_, I.base.tups, I.base.frzs, I.base.tbls⟩, ?_, fun x c e => ?_, I.free, I.freeC, fun p hp => ?_, fun x o e => ?_, I.len⟩
  · exact Nat.le_trans (Nat.le_of_eq sz) I.ok.above
  · exact Nat.le_trans (Nat.le_of_eq sz) (I.ok.cab x c h e)
  · obtain ⟨q1, q2⟩ := I.ok.bs x o e
    refine ⟨(h1.same.2 x fun z => ?_).trans q1, q2⟩
    rw [z] at e
    exact absurd (hbL.symm.trans e) (by simp)
  · exact Nat.le_trans I.ok.bsz (Nat.le_of_eq sz.symm)
  · exact h2.os.trans (I.os.trans h1.os.symm)
  · have hx' : x ≠ L := fun z => hf (z ▸ hL)
    exact new x o hx' (I.base.keep x o (old x o hx' e) h0 hf hx)
  · by_cases z : x = L
    · subst z
      have e : b'.heap.get? x = some o := e
      rw [e1] at e
      cases e
      exact ⟨o'.slots, e2⟩
    · obtain ⟨sl, q⟩ := I.base.slot x o (old x o z e) h0 hf hx
      exact ⟨sl, new x _ z q⟩
  · by_cases z : x = L
    · rw [z]; exact HL
    · exact I.base.free x o (old x o z e) h0 hx
  · by_cases z : x = L
    · exact ⟨o', by rw [z]; exact e2⟩
    · obtain ⟨o2, q⟩ := I.base.there x o (old x o z e) hx
      exact ⟨o2, new x _ z q⟩
  · obtain ⟨m, hn, hl⟩ := I.loc
    refine ⟨m, hn.at' fun o e => new _ o (fun z => ?_) e, fun i x v q1 q2 q3 => ?_⟩
    · have z : n = L := z
      exact absurd ltn (by rw [z]; exact Nat.lt_irrefl _)
    · obtain ⟨u, ru, hk⟩ := hl i x v q1 q2 q3
      refine ⟨u, ru, ?_⟩
      rcases hk with hk | ⟨hk, c, hc, o, ho, hd'⟩
      · exact .inl hk
      · exact .inr ⟨hk, c, hc, o, new c o (neC x c hc) ho, hd'⟩
  · obtain ⟨v, o, ho, hd'⟩ := I.cell x c e
    exact ⟨v, o, new c o (neC x c e) ho, hd'⟩
  · obtain ⟨q1, q2, q3, q4, q5⟩ := I.pin p hp
    exact ⟨new _ _ (fun z => q4 (z ▸ hL)) q1, q2, q3, q4, q5⟩
  · refine (I.hok x o e).stay (fun c u hc q => new c u (fun z => ?_) q) (fun _ q => q) fun _ _ q => q
    rcases hc with hc | hc
    · rw [← hc, z, HL] at e
      cases e
    · rw [z, HL] at hc
      cases hc
end
/-! ### a call of the def -/
/-- its promise: the arguments, the heap, what is wanted of all that is handed out and of the heap at the end (the receiver leaves the heap as it is) -/
abbrev Sp3 := List V → Hp → (List V → Hp → Prop) → Prop
def GMade3 (P : Program) (w : World) (K : PySem.W.Frag) (mg : Str → Option Value) (base : Heap) (k : Nat) (outer : List Env) (H : Hp) (sc : Shared) (Q : List V → Hp → Prop) (u : Value) (s' : Shared) : Prop :=
  ∃ (a : Addr) (g : Nat) (body : List Stmt) (N : List Str) (qual : Str) (scope : Scope) (f : Addr) (cd : Value) (go : Obj) (σ0 : L2.St), u = .ref a ∧ s'.heap.get? a = some go ∧ (∀ h : Heap, h.get? a = some go → h.IsGen a g) ∧ s'.gens[g]? = some (.fresh (.func body (envOfC qual scope sc.heap.objs.size f cd))) ∧ s'.os = sc.os ∧ AllBare s'.gens ∧ (∀ b o, sc.heap.get? b = some o → s'.heap.get? b = some o) ∧
  sc.heap.objs.size ≤ a ∧ ∀ Aw, Room k Aw → Aw.frames = some outer → Inv (vcx P w K mg base N qual scope f cd Aw outer sc.heap.objs.size H [(a, go)] sc) [] σ0 H s' ∧
    ∀ (Gh : List V → Shared → Prop) (s2 : Shared), (∀ ys b, Gh ys b → b.heap.objs.size = sc.heap.objs.size) → Gh [] sc → Inv (vcx P w K mg base N qual scope f cd Aw outer sc.heap.objs.size H [(a, go)] sc) [] σ0 H s2 →
      Seg (model P w) Aw (GR3 (vcx P w K mg base N qual scope f cd Aw outer sc.heap.objs.size H [(a, go)]) Gh Q) (GY3 (vcx P w K mg base N qual scope f cd Aw outer sc.heap.objs.size H [(a, go)]) Gh) sizeLine s2 (.func body (envOfC qual scope sc.heap.objs.size f cd)) ((model P w).den (.func body (envOfC qual scope sc.heap.objs.size f cd))) [] s2
structure GFn3 (P : Program) (w : World) (K : PySem.W.Frag) (mg : Str → Option Value) (base : Heap) (k : Nat) (f : Addr) (fd : FuncData) (ps : List Str) (sp : Sp3) : Prop where
  len : ∀ vs H Q, sp vs H Q → vs.length = ps.length
  run : ∀ (A : Around) (outer : List Env) (s : Shared) (H : Hp) (args : Args) (us : List Value) (vs : List V) (Q : List V → Hp → Prop), Room k A → Env0 P w K mg base A outer s H → BindsTo s fd args (ps.zip us) → Vals vs us → sp vs H Q →
    codeAny (model P w) A (.call (.ref f) args) (fun r s' => match r with | .ok (.ret u) => GMade3 P w K mg base k outer H s Q u s' | _ => False) s
section
variable {P : Program} {w : World} {K : PySem.W.Frag} {mg : Str → Option Value} {base : Heap} {N : List Str} {qual : Str} {scope : Scope} {f : Addr} {cd : Value} {A : Around} {outer : List Env} {H0 : Hp}
theorem inv_vcx {s s1 : Shared} {E : XK} {pins : List (Addr × Obj)} {σ : L2.St} {H : Hp} (I : Inv (gcxOf P w K mg base N qual scope f cd A outer s H0 E []) pins σ H s1) : Inv (vcx P w K mg base N qual scope f cd A outer s.heap.objs.size H0 [] s) pins σ H s1 :=
  ⟨⟨I.ok.mod, I.ok.kind, I.ok.glob, I.ok.blt, I.ok.above, I.ok.inj, I.ok.has, I.ok.cab, I.ok.hd, I.ok.frames, I.ok.stk, I.ok.exf, I.ok.bs, I.ok.bsz, I.ok.noex, I.ok.exfs, I.ok.funs, I.ok.frf⟩, I.os, I.bare, I.base, I.loc, I.cell, I.free, I.freeC, I.pin, I.hok, I.len⟩
theorem inv_vcx_pn {n : Nat} {s s1 : Shared} {pins pn : List (Addr × Obj)} {σ : L2.St} {H : Hp} (I : Inv (vcx P w K mg base N qual scope f cd A outer n H0 [] s) pins σ H s1)
    (h : ∀ p ∈ pn ++ pins, s1.heap.get? p.1 = some p.2 ∧ H p.1 = none ∧ p.1 ≠ n ∧ p.1 ∉ frs outer ∧ ∀ v, p.2.data ≠ .cell v) : Inv (vcx P w K mg base N qual scope f cd A outer n H0 pn s) pins σ H s1 :=
  ⟨⟨I.ok.mod, I.ok.kind, I.ok.glob, I.ok.blt, I.ok.above, I.ok.inj, I.ok.has, I.ok.cab, I.ok.hd, I.ok.frames, I.ok.stk, I.ok.exf, I.ok.bs, I.ok.bsz, I.ok.noex, I.ok.exfs, I.ok.funs, I.ok.frf⟩, I.os, I.bare, I.base, I.loc, I.cell, I.free, I.freeC, h, I.hok, I.len⟩
end
/-- a generator def, by its body -/
theorem gfn3_of {P : Program} {w : World} {K : PySem.W.Frag} {mg : Str → Option Value} {base : Heap} {k : Nat} {f : Addr} {name qual : Str} {params : Arguments} {body : List Stmt} {scope : Scope} {dV kV doc pm cdv ct oc : Value} {an od : Option Addr} {osl : Array (Option Value)} {N ps : List Str} {sp : Sp3}
    (lk : K.lookup f = some ⟨oc, od, .func (PySem.W.fnOf name qual params body scope dV kV doc pm an cdv ct), osl⟩) (hcd : PySem.W.codeIn K cdv qual = true) (S : GScope N ps scope) (len : ∀ vs H Q, sp vs H Q → vs.length = ps.length)
    (hbody : ∀ (A : Around) (outer : List Env) (s : Shared) (H : Hp) (vs : List V) (Q : List V → Hp → Prop) (pn : List (Addr × Obj)), Room k (A.deeper (envOfC qual scope s.heap.objs.size f cdv)) → sp vs H Q →
      ∃ t : TG3, GB P w K mg base N qual scope f cdv A outer s.heap.objs.size H pn body t ∧ t s { nx := fun ys _ H' => Q ys H', rt := fun ys v H' => v = .non ∧ Q ys H' } [] (start N vs) H) :
    GFn3 P w K mg base (k + 1) f (PySem.W.fnOf name qual params body scope dV kV doc pm an cdv ct) ps sp := by
  refine ⟨len, fun A outer s H args us vs Q hr e0 hb r hsp => ?_⟩
  have hl := len _ _ _ hsp
  have KX : K.In s.heap := e0.mod.kin.keeps fun b o e => (e0.bs b o e).1
  have lim : s.heap.NoLimit := e0.mod.nolimit.keeps fun b o e => (e0.bs b o e).1
  have hkind : ∀ y ∈ ps.zip us, scope.names.lookup y.1 = some .local ∨ (scope.names.lookup y.1 = some .cell ∧ ((cellsFrom (s.heap.objs.size + 1) scope.names []).lookup y.1).isSome = true) := fun ⟨x, v⟩ hy => by
    rcases S.par x (List.of_mem_zip hy).1 with q | q
    · exact .inl q
    · exact .inr ⟨q, PySem.W.cellsFrom_some _ _ _ (.inl q)⟩
  refine codeAny_call_generator hr.depth (KX _ _ lk) rfl S.co S.gen rfl (PySem.W.codeRec_of KX hcd) (hb _ _ _ _ ?_)
  refine wpAny_newFunctionEnv_cells S.kind hkind fun env he s1 x => ?_
  subst he
  have lim1 : s1.heap.NoLimit := lim.keeps x.toInCall.keep
  refine ⟨lim1, ?_⟩
  obtain ⟨h1, tk, es1, hk1⟩ := x.done
  have os1 : s1.os = s.os := by rw [es1]
  have gen1 : s1.gens = s.gens := by rw [es1]
  have lt1 : s.heap.objs.size < s1.heap.objs.size := x.toInCall.ns.lt
  have kp1 : ∀ b o, s.heap.get? b = some o → s1.heap.get? b = some o := x.toInCall.keep
  have main : ∀ (go : Obj) (nm qn : Value) (tk2 : Nat), go.cls = .type "generator" → go.data = .fields #[.int s1.gens.size 0, nm, qn] → go.slots = #[] → (∀ h : Heap, (h.push go).get? h.objs.size = some go) →
      GMade3 P w K mg base (k + 1) outer H s Q (.ref s1.heap.objs.size) { s1 with gens := s1.gens.push (.fresh (.func body (envOfC qual scope s.heap.objs.size f cdv))), toks := tk2, heap := s1.heap.push go } := by
    intro go nm qn tk2 hgc hgd0 hgs hgp
    have hpushed : (s1.heap.push go).get? s1.heap.objs.size = some go := hgp _
    have kp2 : ∀ b o, s1.heap.get? b = some o → (s1.heap.push go).get? b = some o := fun b o e => Heap.get?_push_of_some _ e
    have bare2 : AllBare (s1.gens.push (.fresh (.func body (envOfC qual scope s.heap.objs.size f cdv)))) := AllBare.push (by rw [gen1]; exact e0.bare) rfl
    refine ⟨s1.heap.objs.size, s1.gens.size, body, N, qual, scope, f, cdv, go, start N vs, rfl, hpushed, fun h e => ⟨go, nm, qn, e, hgc, hgd0, hgs⟩, Array.getElem?_push_size .., os1, bare2, fun b o e => kp2 b o (kp1 b o e), Nat.le_of_lt lt1, ?_⟩
    intro Aw hrw hfr
    have e0w : Env0 P w K mg base Aw outer s H := ⟨hfr, e0.mod, e0.bs, e0.bsz, e0.funs, e0.frf, e0.hok, e0.bare⟩
    obtain ⟨t, ht, hq⟩ := hbody Aw outer s H vs Q [(s1.heap.objs.size, go)] (hrw.deeper _) hsp
    have I1 : Inv (vcx P w K mg base N qual scope f cdv Aw outer s.heap.objs.size H [] s) [] (start N vs) H s1 := inv_vcx (inv_startG (E := fun _ _ _ => False) S hrw.hd e0w hl r x)
    have I2 : Inv (vcx P w K mg base N qual scope f cdv Aw outer s.heap.objs.size H [] s) [] (start N vs) H { s1 with gens := s1.gens.push (.fresh (.func body (envOfC qual scope s.heap.objs.size f cdv))), toks := tk2, heap := s1.heap.push go } :=
      I1.call' (ch := []) rfl (Un.kept kp2) (I1.hok.kept kp2) bare2 fun b z => by simp at z
    have I3 := inv_vcx_pn (pn := [(s1.heap.objs.size, go)]) I2 fun p hp => by
      rcases List.mem_append.mp hp with z | z
      · rw [List.mem_singleton.mp z]
        exact ⟨hpushed, I1.hok.fresh (Nat.le_refl _), Nat.ne_of_gt lt1, I1.nofs (Nat.le_refl _), fun v q => by rw [hgd0] at q; cases q⟩
      · cases z
    refine ⟨I3, fun Gh s2 hsz hg0 Is => ?_⟩
    refine seg_func ?_
    refine ht Gh hsz [] _ sizeLine [] s2 _ [] _ _ id id s s2 (start N vs) H _ ⟨over_func, rfl, rfl, rfl⟩ (Nat.add_zero _) (fun m ys s₀ b s' fl hm hg hs => ?_) hg0 Is hq
    cases fl with
    | next =>
      obtain ⟨σ', H', hI, hQ⟩ := hs
      exact seg_end (.ok (.ret .none)) (.inl ⟨.inl rfl, ys, [], σ', H', b, hI, hg, by omega, hQ⟩)
    | brk => obtain ⟨_, _, _, q⟩ := hs; exact False.elim q
    | cont => obtain ⟨_, _, _, q⟩ := hs; exact False.elim q
    | ret u =>
      obtain ⟨v, σ', H', hI, rv, ev, hQ⟩ := hs
      subst ev
      have eu : u = Value.none := rv
      subst eu
      exact seg_end (.ok (.ret .none)) (.inl ⟨.inl rfl, ys, [], σ', H', b, hI, hg, by omega, hQ⟩)
  exact main _ _ _ _ rfl rfl rfl fun h => Heap.get?_push_size _ rfl
/-! ### the receiver: a for whose body sets one name -/
section
variable {X : Cx} {pins : List (Addr × Obj)} {σ σ' : L2.St} {H : Hp} {s : Shared}
/-- only the frame's own names have changed -/
theorem inv_names {h' : Heap} {t' : Nat} (I : Inv X pins σ H s) (hs : Heap.SameBut X.env.locals s.heap h') (hl : σ'.length = X.N.length)
    (loc' : ∃ m, h'.Ns X.env.locals m ∧ ∀ (i : Nat) (x : Str) (v : V), X.N[i]? = some x → σ'[i]? = some (some v) → Vis X.env.scope x → ∃ u, RelV v u ∧ Look X.env h' m x u) : Inv X pins σ' H { s with heap := h', toks := t' } := by
  have young : ∀ b o, X.s_0.heap.get? b = some o → b ≠ X.env.locals := fun b o e => Nat.ne_of_lt (Nat.lt_of_lt_of_le (Heap.lt_size e) I.ok.above)
  refine ⟨I.ok, I.os, I.bare, ⟨fun b o e n hb hx => ?_, fun b o e n hb hx => ?_, I.base.free, fun b o e hx => ?_, I.base.tups, I.base.frzs, I.base.tbls⟩, loc', fun y c e => ?_, I.free, I.freeC, fun p hp => ?_, fun b ob e => ?_, hl⟩
  · rw [hs.2 b (young b o e)]
    exact I.base.keep b o e n hb hx
  · obtain ⟨sl, q⟩ := I.base.slot b o e n hb hx
    refine ⟨sl, ?_⟩
    rw [hs.2 b (young b o e)]
    exact q
  · obtain ⟨o', q⟩ := I.base.there b o e hx
    refine ⟨o', ?_⟩
    rw [hs.2 b (young b o e)]
    exact q
  · obtain ⟨v, o, q, d⟩ := I.cell y c e
    refine ⟨v, o, ?_, d⟩
    rw [hs.2 c (I.cne y c e)]
    exact q
  · obtain ⟨q1, q2, q3, q4, q5⟩ := I.pin p hp
    refine ⟨?_, q2, q3, q4, q5⟩
    rw [hs.2 p.1 q3]
    exact q1
  · refine (I.hok b ob e).stay (fun c u hc q => ?_) (fun _ q => q) fun _ _ q => q
    rw [hs.2 c (fun z => ?_)]
    · exact q
    · have fr := I.free
      rcases hc with hc | hc
      · rw [← hc, z, fr] at e
        cases e
      · rw [z, fr] at hc
        cases hc
theorem store3 {M : Model} {A : Around} {E : Value → Shared → Prop} {i : Nat} {x : Str} {v : V} {u : Value} {Q : Unit → Shared → Prop} (I : Inv X pins σ H s) (hN : X.N.Nodup) (hi : X.N[i]? = some x) (hk : X.env.kindOf x = some .local) (r : RelV v u)
    (h : ∀ s', Inv X pins (σ.set i (some v)) H s' → OneNs X.env.locals s s' → s'.gens = s.gens → Q () s') : wpAny M A (storeName X.env x u) Q E s := by
  obtain ⟨m, hn, hl⟩ := id I.loc
  have hcls : (X.env.scope.kind == .class || (X.env.scope.kind == .module && X.env.locals != X.env.globals)) = false := by
    rw [I.ok.kind]
    rfl
  refine wpAny_storeName_local hk hn (fun h' hn' hs => ?_) hcls
  refine h _ (inv_names I hs ((List.length_set ..).trans I.len) ⟨_, hn', fun j y v' e1 e2 e3 => ?_⟩) ⟨rfl, hs⟩ rfl
  by_cases hj : j = i
  · rw [hj, hi] at e1
    cases e1
    rw [hj, List.getElem?_set_self (by rw [I.len]; exact (List.getElem?_eq_some_iff.mp hi).1)] at e2
    cases e2
    exact ⟨u, r, .inl ⟨hk, if_pos rfl⟩⟩
  · rw [List.getElem?_set_ne (fun z => hj z.symm)] at e2
    obtain ⟨u', r', q⟩ := hl j y v' e1 e2 e3
    refine ⟨u', r', q.elim (fun q => .inl ⟨q.1, ?_⟩) fun ⟨q1, c, q2, o, q3, q4⟩ => .inr ⟨q1, c, q2, o, ?_, q4⟩⟩
    · exact (if_neg fun z : y = x => hj (nodup_ix hN e1 (z.symm ▸ hi))).trans q.2
    · rw [hs.2 c (I.cne y c q2)]
      exact q3
end
abbrev TGen3 := L2.St → Hp → (List V → Hp → Prop) → Prop
/-- an expression whose value is such a generator -/
structure PGen3 (X : Cx) (k : Nat) (e : Expr) (tg : TGen3) : Prop where
  run : ∀ (pins : List (Addr × Obj)) (s : Shared) (σ : L2.St) (H : Hp) (cont : List V → Hp → Prop), Inv X pins σ H s → tg σ H cont → wpAny (model X.prog X.w) X.A (eval e X.env) (fun u s' => ∃ H1 sc, Inv X pins σ H1 sc ∧ GMade3 X.prog X.w X.K X.mg X.base k X.stack H1 sc cont u s') X.xe s
section
variable {X : Cx} {k : Nat} {f : Addr} {fd : FuncData} {ps : List Str} {sp : Sp3} {x : Str} {p pos' : Pos}
theorem run_gfn3 {pins : List (Addr × Obj)} {σ : L2.St} {H : Hp} {s : Shared} {us : List Value} {vs : List V} {cont : List V → Hp → Prop} {E1 : Value → Shared → Prop} (F : GFn3 X.prog X.w X.K X.mg X.base k f fd ps sp) (hr : Room k X.A) (hb : Binds X.K fd ps [])
    (I : Inv X pins σ H s) (r : Vals vs us) (h : sp vs H cont) : wpAny (model X.prog X.w) X.A (call (.ref f) us) (fun u s' => ∃ H1 sc, Inv X pins σ H1 sc ∧ GMade3 X.prog X.w X.K X.mg X.base k X.stack H1 sc cont u s') E1 s := by
  have hl2 : us.length = ps.length := by rw [← r.length]; exact F.len _ _ _ h
  have hl3 : (us ++ []).length = ps.length := by rw [List.append_nil]; exact hl2
  have hb3 := hb s us I.kIn hl3
  rw [List.append_nil] at hb3
  refine wpAny_call (codeAny_mono (F.run X.A X.stack s H ⟨us, []⟩ us vs cont hr I.env0 hb3 r h) fun res s' hq => ?_)
  match res, hq with
  | .ok (.ret u), hq => exact ⟨H, s, I, hq⟩
  | .error _, hq => exact hq.elim
  | .ok .next, hq => exact hq.elim
  | .ok .brk, hq => exact hq.elim
  | .ok .cont, hq => exact hq.elim
def tCall3 (sp : Sp3) (t : TA) : TGen3 := fun σ H cont => t σ H fun vs H1 => sp vs H1 cont
theorem pgen3_call {e : Expr} {es : List Expr} {t : TA} (F : GFn3 X.prog X.w X.K X.mg X.base k f fd ps sp) (hr : Room k X.A) (hg : Gl X x) (hm : X.mg x = some (.ref f)) (hk : PySem.W.keepIn X.K (.ref f) = true) (hb : Binds X.K fd ps []) (ha : PA X (e :: es) t)
    (hdb : (x == ("__debug__" : Str)) = false := by decide) (he : starEach (e :: es) X.env = (false, eval e X.env) :: starEach es X.env := by rfl) (hpl : (backTo pos' (starEach es X.env)).any (·.1) = false := by rfl) : PGen3 X k (.Call (.Name x p) (e :: es) [] pos') (tCall3 sp t) := by
  refine ⟨fun pins s σ H cont I h => ?_⟩
  refine wpAny_Call_Name_kw (ld_glob I hg hm ?_ hdb)
  exact PySem.W.callWith_K (h₀ := X.base) I.ok.mod.kin hk (thn (ha.run pos' pins s σ H _ I h) fun us s1 ⟨vs, H1, I1, r, q⟩ => ⟨I1.kIn, run_gfn3 F hr hb I1 r q⟩) he hpl
end
/-- the names of the receiver as they stand -/
def NamesAt (X : Cx) (σ : L2.St) (h : Heap) : Prop := ∃ m, h.Ns X.env.locals m ∧ ∀ (i : Nat) (x : Str) (v : V), X.N[i]? = some x → σ[i]? = some (some v) → Vis X.env.scope x → ∃ u, RelV v u ∧ Look X.env h m x u
theorem NamesAt.at {X : Cx} {σ : L2.St} {h h' : Heap} (hc : ∀ x, X.env.cells.lookup x = none) (n : NamesAt X σ h) (e : ∀ o, h.get? X.env.locals = some o → ∃ o', h'.get? X.env.locals = some o' ∧ o'.data = o.data) : NamesAt X σ h' := by
  obtain ⟨m, ⟨o, es, ep, q1, q2, q3⟩, hl⟩ := n
  obtain ⟨o', q4, q5⟩ := e o q1
  refine ⟨m, ⟨o', es, ep, q4, q5.trans q2, q3⟩, fun i x v e1 e2 e3 => ?_⟩
  obtain ⟨u, r, hk⟩ := hl i x v e1 e2 e3
  refine ⟨u, r, ?_⟩
  rcases hk with hk | ⟨_, c, hcc, _⟩
  · exact .inl hk
  · rw [hc x] at hcc
    cases hcc
section
variable {X : Cx} {N : List Str} {qual : Str} {scope : Scope} {f : Addr} {cd : Value} {A : Around} {n : Nat} {pn : List (Addr × Obj)}
/-- what the receiver knows where the generator has handed out or has ended -/
theorem received {pins ip : List (Addr × Obj)} {σ σ' σg : L2.St} {H1 Hg : Hp} {sc b sg : Shared} (hc : ∀ x, X.env.cells.lookup x = none) (hex : X.ex = []) (hstk : X.stack = X.env :: X.outer) (hfr : X.env.frame = some X.env.locals) (I1 : Inv X pins σ H1 sc)
    (Iv : Inv (vcx X.prog X.w X.K X.mg X.base N qual scope f cd A X.stack n H1 pn b) ip σg Hg sg) (h1 : OneNs X.env.locals sc b) (nm : NamesAt X σ' b.heap) (hl : σ'.length = X.N.length) : Inv X pins σ' Hg sg := by
  have fs : frs X.stack = X.env.locals :: X.fs := by
    rw [hstk]
    unfold frs
    rw [List.filterMap_cons, hfr]
    rfl
  have nex : ∀ y : Addr, y ∉ ([] : List Addr) := fun y h => by cases h
  have young : ∀ y o, X.s_0.heap.get? y = some o → y ≠ X.env.locals := fun y o e => Nat.ne_of_lt (Nat.lt_of_lt_of_le (Heap.lt_size e) I1.ok.above)
  have inb : ∀ y o, y ≠ X.env.locals → sc.heap.get? y = some o → b.heap.get? y = some o := fun y o hy e => (h1.same.2 y hy).trans e
  obtain ⟨m, ⟨oL, es, ep, q1, q2, q3⟩, hlk⟩ := id nm
  have inL : X.env.locals ∈ frs X.stack := by rw [fs]; exact List.mem_cons_self
  obtain ⟨sl, eL⟩ := Iv.base.slot X.env.locals oL q1 I1.free inL (nex _)
  have notfs : ∀ y, y ≠ X.env.locals → y ∉ X.fs → y ∉ frs X.stack := fun y h2 h3 h4 => by
    rw [fs] at h4
    rcases List.mem_cons.mp h4 with h4 | h4
    · exact h2 h4
    · exact h3 h4
  refine ⟨I1.ok, Iv.os.trans (h1.os.trans I1.os), Iv.bare, ⟨fun y o e h0 hf hx => ?_, fun y o e h0 hf hx => ?_, fun y o e h0 hx => ?_, fun y o e hx => ?_, fun y xs e => Iv.base.tups y xs (I1.base.tups y xs e), fun y o u e => Iv.base.frzs y o u (I1.base.frzs y o u e), fun y qs e => ?_⟩,
    nm.at hc (fun o e => ?_), fun x c e => ?_, Iv.base.free X.env.locals oL q1 I1.free (nex _), fun x c e => ?_, fun p hp => ?_, Iv.hok, hl⟩
  · exact Iv.base.keep y o (inb y o (young y o e) (I1.base.keep y o e h0 hf hx)) (I1.base.free y o e h0 hx) (notfs y (young y o e) hf) (nex _)
  · obtain ⟨s2, e2⟩ := I1.base.slot y o e h0 hf hx
    obtain ⟨s3, e3⟩ := Iv.base.slot y _ (inb y _ (young y o e) e2) (I1.base.free y o e h0 hx) (show y ∈ frs X.stack by rw [fs]; exact List.mem_cons_of_mem _ hf) (nex _)
    exact ⟨s3, e3⟩
  · obtain ⟨o2, e2⟩ := I1.base.there y o e hx
    exact Iv.base.free y o2 (inb y o2 (young y o e) e2) (I1.base.free y o e h0 hx) (nex _)
  · obtain ⟨o2, e2⟩ := I1.base.there y o e hx
    exact Iv.base.there y o2 (inb y o2 (young y o e) e2) (nex _)
  · obtain ⟨m1, e1⟩ := I1.base.tbls y qs e
    obtain ⟨m2, e2⟩ := Iv.base.tbls y _ e1
    exact ⟨m1 ++ m2, by rw [e2]; exact congrArg (fun z => some (HO.tbl z)) (Array.append_assoc ..)⟩
  · rw [q1] at e
    cases e
    exact ⟨_, eL, rfl⟩
  · rw [hc x] at e
    cases e
  · rw [hc x] at e
    cases e
  · obtain ⟨p1, p2, p3, p4, p5⟩ := I1.pin p hp
    exact ⟨Iv.base.keep p.1 p.2 (inb p.1 p.2 p3 p1) p2 (notfs p.1 p3 p4) (nex _), Iv.base.free p.1 p.2 (inb p.1 p.2 p3 p1) p2 (nex _), p3, p4, p5⟩
end
/-- the receiver's names behind `for x in g: y = x`, x at i, y at j -/
def lastS (i j : Nat) (σ : L2.St) (ys : List V) : L2.St := match ys.getLast? with
  | none => σ
  | some v => (σ.set i (some v)).set j (some v)
theorem lastS_len {i j : Nat} {σ : L2.St} {ys : List V} : (lastS i j σ ys).length = σ.length := by
  unfold lastS
  split
  · rfl
  · rw [List.length_set, List.length_set]
theorem lastS_snoc {i j : Nat} {σ : L2.St} {ys : List V} {v : V} : ((lastS i j σ ys).set i (some v)).set j (some v) = lastS i j σ (ys ++ [v]) := by
  have e2 : lastS i j σ (ys ++ [v]) = (σ.set i (some v)).set j (some v) := by
    unfold lastS
    rw [List.getLast?_concat]
  rw [e2]
  unfold lastS
  split
  · rfl
  · rename_i u _
    refine List.ext_getElem? fun l => ?_
    simp only [List.getElem?_set, List.length_set]
    by_cases h1 : j = l
    · simp [h1]
    · by_cases h2 : i = l
      · simp [h1, h2]
      · simp [h1, h2]
def tFor3 (tg : TGen3) (i j : Nat) : TS := fun D σ H => tg σ H fun ys H' => D.nx (lastS i j σ ys) H'
theorem ps_for3 {X : Cx} {k : Nat} {i j : Nat} {x y : Str} {iter : Expr} {tg : TGen3} {px py pz pa pos : Pos} (h : PGen3 X k iter tg) (hr : Room (k + 2) X.A) (hN : X.N.Nodup) (hi : X.N[i]? = some x) (hj : X.N[j]? = some y) (hx : X.env.kindOf x = some .local) (hy : X.env.kindOf y = some .local)
    (hc : ∀ x, X.env.cells.lookup x = none) (hex : X.ex = []) (hstk : X.stack = X.env :: X.outer) (hfr : X.env.frame = some X.env.locals) (hp : PassesOwn (model X.prog X.w) X.A X.env X.xe) (hdb : (x == ("__debug__" : Str)) = false := by decide)
    (hs : ∀ x, foldedSetIterable iter X.env x = pure x := by intro _; rfl) (hsw : swapsWith (.Name x pz) (some (.Name y py)) pa.line X.env = pure false := by rfl) : PS X (.For (.Name x px) iter [.Assign [.Name y py] (.Name x pz) pa] [] pos) (tFor3 tg i j) := by
  refine ⟨fun pins s σ H D I hq => ?_⟩
  refine wpAny_For (thn (h.run pins s σ H _ I hq) fun u s1 ⟨H1, sc, I1, hG⟩ => ?_) hs
  obtain ⟨a, g, body, N, qual, scope, f, cd, go, σ0, rfl, hgo, hgen, hgs, hos, hba, hkp, hsza, wake⟩ := hG
  obtain ⟨hI0, hseg⟩ := wake X.A.in1 ((hr.mono (by omega : k + 1 ≤ k + 2)).in1) I1.ok.frames
  refine wpAny_pyIter_gen (hgen _ hgo) ?_
  have ltL : X.env.locals < sc.heap.objs.size := I1.lt
  have neaL : a ≠ X.env.locals := Nat.ne_of_gt (Nat.lt_of_lt_of_le ltL hsza)
  have lenσ := I1.len
  have inL : X.env.locals ∈ frs X.stack := by
    rw [hstk]
    unfold frs
    rw [List.filterMap_cons, hfr]
    exact List.mem_cons_self
  let Gh : List V → Shared → Prop := fun ys b => OneNs X.env.locals sc b ∧ NamesAt X (lastS i j σ ys) b.heap
  have hsz : ∀ ys b, Gh ys b → b.heap.objs.size = sc.heap.objs.size := fun ys b q => q.1.same.1
  have gh0 : Gh [] sc := ⟨⟨rfl, .refl _ _⟩, I1.loc⟩
  let Fv := vcx X.prog X.w X.K X.mg X.base N qual scope f cd X.A.in1 X.stack sc.heap.objs.size H1 [(a, go)]
  let cont : List V → Hp → Prop := fun ys H' => D.nx (lastS i j σ ys) H'
  -- the state of the loop
  refine codeAny_forLoop_any (fun l s' => ∃ gs, s'.gens[g]? = some gs ∧ s'.heap.get? a = some go ∧ s'.heap.NoLimit ∧ gs.Goes (model X.prog X.w) X.A.in1 (GR3 Fv Gh cont) (GY3 Fv Gh) l (.send .none) (s'.setGen g .running)) ?_ sizeLine ⟨_, hgs, hgo, hI0.nolimit, ⟨rfl, ?_⟩⟩
  · rintro l s0 ⟨gs, hgs0, hgo0, hlim, hgoes⟩
    have hgl : g + 1 ≤ s0.gens.size := (Array.getElem?_eq_some_iff.mp hgs0).1
    refine wpAny_gsz (n := g + 1) hgl (next_genG (A := X.A) (F := fun _ _ s1 => ∃ (ys : List V) (ip : List (Addr × Obj)) (σ : L2.St) (H : Hp) (b : Shared), Inv (Fv b) ip σ H s1 ∧ Gh ys b ∧ ys.length ≤ sizeLine ∧ cont ys H) (Er := fun _ _ => False) hr.hd hlim
      (by have := hr.dp; omega) (hgen _ hgo0) hgs0 hgoes (fun v s₁ gs' hbare hv => ?_) (fun s₁ hfin h' hk => ?_) fun e s₁ he => he.elim)
    · intro hsz1
      obtain ⟨ys, xv, ip, σg, Hg, b, hm, rv, Iv, hgb, hk⟩ := hv
      have Ir := received hc hex hstk hfr I1 Iv hgb.1 hgb.2 (lastS_len.trans lenσ)
      have Ic : Inv X pins (lastS i j σ ys) Hg (s₁.setGen g gs') := ⟨Ir.ok, Ir.os, allBare_setGen Ir.bare hbare, Ir.base, Ir.loc, Ir.cell, Ir.free, Ir.freeC, Ir.pin, Ir.hok, Ir.len⟩
      show wpAny _ _ (letOwnedTupleGo (.Name x px) (.ref a) v) _ _ _
      refine wpAny_of_eq (a := ()) (by cases v <;> rfl) ?_
      refine wpAny_assign_Name (store3 Ic hN hi hx rv fun s2 I2 o2 g2 => ?_)
      obtain ⟨m2, hn2, hl2⟩ := id I2.loc
      have hil : i < (lastS i j σ ys).length := by rw [Ic.len]; exact (List.getElem?_eq_some_iff.mp hi).1
      obtain ⟨u2, r2, lk⟩ := hl2 i x xv hi (List.getElem?_set_self hil) (.inl hx)
      have hm2 : m2 x = some u2 := by
        rcases lk with lk | ⟨lk, _⟩
        · exact lk.2
        · rw [hx] at lk
          rcases lk with lk | lk <;> cases lk
      refine wpAny_execs_cons (wpAny_Assign_Name (wpAny_Name (wpAny_loadName_local I2.ok.kind hx hn2 hm2 ?_) hdb) hsw)
      refine store3 I2 hN hj hy r2 fun s3 I3 o3 g3 => wpAny_execs_nil ?_
      obtain ⟨m3, ⟨oL, es, ep, eL, dL, pL⟩, hl3⟩ := id I3.loc
      obtain ⟨mb, ⟨ob, esb, epb, ebL, _⟩, _⟩ := id hgb.2
      have eb : (b.heap.update X.env.locals (fun _ => oL)).get? X.env.locals = some oL := Heap.get?_update_self (fun _ => oL) ebL (Heap.get?_some_iff.mp eL).2
      have ob1 : OneNs X.env.locals b { b with heap := b.heap.update X.env.locals (fun _ => oL) } := ⟨rfl, .update _ _ _⟩
      have os3 : OneNs X.env.locals s₁ (s3.setGen g .running) := ⟨o3.os.trans o2.os, o2.same.trans o3.same⟩
      have Iv3 := vcx_again Iv inL ob1 os3 (allBare_setGen I3.bare rfl) eb (show (s3.setGen g .running).heap.get? X.env.locals = some oL from eL) fun vs z => by rw [dL] at z; cases z
      have gh3 : Gh (ys ++ [xv]) { b with heap := b.heap.update X.env.locals (fun _ => oL) } := by
        refine ⟨⟨hgb.1.os, hgb.1.same.trans (.update _ _ _)⟩, ?_⟩
        have nm3 : NamesAt X (lastS i j σ (ys ++ [xv])) s3.heap := by
          rw [← lastS_snoc]
          exact I3.loc
        refine nm3.at hc fun o e => ?_
        rw [eL] at e
        cases e
        exact ⟨_, eb, rfl⟩
      have hkk := hk _ _ gh3 Iv3
      have hpa := (Iv.pin (a, go) (List.mem_append_left _ (List.mem_singleton.mpr rfl))).1
      have hgs3 : s3.gens[g]? = some gs' := by
        rw [g3, g2]
        refine setGen_at ?_
        have q : (s₁.setGen g gs').gens.size = s₁.gens.size := setGen_size _ _ _
        omega
      cases l with
      | zero => exact hkk.elim
      | succ l => exact ⟨l, Nat.lt_succ_self _, gs', hgs3, (os3.same.2 a neaL).trans hpa, I3.nolimit, hkk⟩
    · intro hsz1
      obtain ⟨ys, ip, σg, Hg, b, Iv, hgb, hle, hqq⟩ := hfin
      have Ir := received hc hex hstk hfr I1 Iv hgb.1 hgb.2 (lastS_len.trans lenσ)
      refine wpAny_execs_nil ⟨lastS i j σ ys, Hg, ?_, hqq⟩
      exact Ir.call' (ch := []) rfl (Un.kept hk) (Ir.hok.kept hk) (allBare_setGen Ir.bare rfl) fun b z => by simp at z
  · refine hseg Gh _ hsz gh0 ?_
    exact ⟨hI0.ok, hI0.os, allBare_setGen hba rfl, hI0.base, hI0.loc, hI0.cell, hI0.free, hI0.freeC, hI0.pin, hI0.hok, hI0.len⟩
theorem fun_gen3 {P : Program} {w : World} {K : PySem.W.Frag} {mg : Str → Option Value} {base : Heap} {x qual : Str} {st : Stmt} {f : Addr} {fd : FuncData} {N ps : List Str} {k : Nat} {sp : Sp3} (F : Fun K x qual st f fd) (S : GScope N ps (defScope st)) (len : ∀ vs H Q, sp vs H Q → vs.length = ps.length)
    (hbody : ∀ (cdv : Value) (A : Around) (outer : List Env) (s : Shared) (H : Hp) (vs : List V) (Q : List V → Hp → Prop) (pn : List (Addr × Obj)), Room k (A.deeper (envOfC qual (defScope st) s.heap.objs.size f cdv)) → sp vs H Q →
      ∃ t : TG3, GB P w K mg base N qual (defScope st) f cdv A outer s.heap.objs.size H pn (defBody st) t ∧ t s { nx := fun ys _ H' => Q ys H', rt := fun ys v H' => v = .non ∧ Q ys H' } [] (start N vs) H) : GFn3 P w K mg base (k + 1) f fd ps sp := by
  obtain ⟨oc, od, kV, doc, pm, an, cdv, ct, osl, rfl, lk, hcd⟩ := F.ex
  exact gfn3_of lk hcd S len fun A outer s H vs Q pn hr hsp => hbody cdv A outer s H vs Q pn hr hsp

end
section
variable {P : Program} {w : World} {K : PySem.W.Frag} {mg : Str → Option Value} {base : Heap}
--SPLIT



def topS (i : Nat) : Stmt := PySem.Challenge.pw_penhome_k15_runs_of_plain_bodies.main.body.getD i (.Pass ⟨0, 0, 0, 0⟩)
theorem bt_all : bootBuiltins "all" = some (.builtin "all") := by decide +kernel
theorem bt_bool : bootBuiltins "bool" = some (.type "bool") := by decide +kernel
theorem bt_enumerate : bootBuiltins "enumerate" = some (.type "enumerate") := by decide +kernel
theorem bt_int : bootBuiltins "int" = some (.type "int") := by decide +kernel
theorem bt_isinstance : bootBuiltins "isinstance" = some (.builtin "isinstance") := by decide +kernel
theorem bt_len : bootBuiltins "len" = some (.builtin "len") := by decide +kernel
theorem bt_list : bootBuiltins "list" = some (.type "list") := by decide +kernel
theorem bt_range : bootBuiltins "range" = some (.type "range") := by decide +kernel
theorem bt_str : bootBuiltins "str" = some (.type "str") := by decide +kernel
theorem bt_tuple : bootBuiltins "tuple" = some (.type "tuple") := by decide +kernel
theorem bt_zip : bootBuiltins "zip" = some (.type "zip") := by decide +kernel
abbrev s_NoRun___init__ : Stmt := inClass (topS 8) 0
abbrev N_NoRun___init__ : List Str := ["self", "index", "procedure", "path"]
theorem sc_NoRun___init__ : FnScope N_NoRun___init__ ["self", "index"] (defScope s_NoRun___init__) := ⟨rfl, rfl, rfl, by decide +kernel, rfl, by decide +kernel, by decide +kernel⟩
abbrev s_is_integer : Stmt := topS 12
abbrev N_is_integer : List Str := ["thing"]
theorem sc_is_integer : FnScope N_is_integer ["thing"] (defScope s_is_integer) := ⟨rfl, rfl, rfl, by decide +kernel, rfl, by decide +kernel, by decide +kernel⟩
abbrev s_is_pen : Stmt := topS 13
abbrev N_is_pen : List Str := ["thing", "number"]
theorem sc_is_pen : FnScope N_is_pen ["thing"] (defScope s_is_pen) := ⟨rfl, rfl, rfl, by decide +kernel, rfl, by decide +kernel, by decide +kernel⟩
abbrev s_is_within : Stmt := topS 14
abbrev N_is_within : List Str := ["thing", "bounds", "low", "high"]
theorem sc_is_within : FnScope N_is_within ["thing", "bounds"] (defScope s_is_within) := ⟨rfl, rfl, rfl, by decide +kernel, rfl, by decide +kernel, by decide +kernel⟩
abbrev s_is_bit : Stmt := topS 15
abbrev N_is_bit : List Str := ["thing"]
theorem sc_is_bit : FnScope N_is_bit ["thing"] (defScope s_is_bit) := ⟨rfl, rfl, rfl, by decide +kernel, rfl, by decide +kernel, by decide +kernel⟩
abbrev s_is_command : Stmt := topS 16
abbrev N_is_command : List Str := ["thing", "word", "numbers", "bounds", "number", "pair"]
theorem sc_is_command : FnScope N_is_command ["thing"] (defScope s_is_command) := ⟨rfl, rfl, rfl, by decide +kernel, rfl, by decide +kernel, by decide +kernel⟩
abbrev s_turned : Stmt := topS 17
abbrev N_turned : List Str := ["u", "v", "times", "_"]
theorem sc_turned : FnScope N_turned ["u", "v", "times"] (defScope s_turned) := ⟨rfl, rfl, rfl, by decide +kernel, rfl, by decide +kernel, by decide +kernel⟩
abbrev s_moved : Stmt := topS 18
abbrev N_moved : List Str := ["pen", "command", "x", "y", "u", "v", "p", "q", "word"]
theorem sc_moved : FnScope N_moved ["pen", "command"] (defScope s_moved) := ⟨rfl, rfl, rfl, by decide +kernel, rfl, by decide +kernel, by decide +kernel⟩
abbrev s_is_index : Stmt := topS 24
abbrev N_is_index : List Str := ["thing", "many"]
theorem sc_is_index : FnScope N_is_index ["thing", "many"] (defScope s_is_index) := ⟨rfl, rfl, rfl, by decide +kernel, rfl, by decide +kernel, by decide +kernel⟩
abbrev s_are_blocks : Stmt := topS 25
abbrev N_are_blocks : List Str := ["thing", "many", "block"]
theorem sc_are_blocks : FnScope N_are_blocks ["thing", "many"] (defScope s_are_blocks) := ⟨rfl, rfl, rfl, by decide +kernel, rfl, by decide +kernel, by decide +kernel⟩
abbrev s_is_call : Stmt := topS 26
abbrev N_is_call : List Str := ["thing", "procedures", "_", "procedure", "saved", "blocks"]
theorem sc_is_call : FnScope N_is_call ["thing", "procedures"] (defScope s_is_call) := ⟨rfl, rfl, rfl, by decide +kernel, rfl, by decide +kernel, by decide +kernel⟩
abbrev s_is_statement : Stmt := topS 27
abbrev N_is_statement : List Str := ["thing", "level", "procedures", "word"]
theorem sc_is_statement : FnScope N_is_statement ["thing", "level", "procedures"] (defScope s_is_statement) := ⟨rfl, rfl, rfl, by decide +kernel, rfl, by decide +kernel, by decide +kernel⟩
abbrev s_blocks_of : Stmt := topS 28
abbrev N_blocks_of : List Str := ["statement", "word"]
theorem sc_blocks_of : FnScope N_blocks_of ["statement"] (defScope s_blocks_of) := ⟨rfl, rfl, rfl, by decide +kernel, rfl, by decide +kernel, by decide +kernel⟩
abbrev s_with_blocks : Stmt := topS 29
abbrev N_with_blocks : List Str := ["statement", "blocks", "word"]
theorem sc_with_blocks : FnScope N_with_blocks ["statement", "blocks"] (defScope s_with_blocks) := ⟨rfl, rfl, rfl, by decide +kernel, rfl, by decide +kernel, by decide +kernel⟩
abbrev s_copied_statement : Stmt := topS 30
abbrev N_copied_statement : List Str := ["statement", "block"]
theorem sc_copied_statement : FnScope N_copied_statement ["statement"] (defScope s_copied_statement) := ⟨rfl, rfl, rfl, by decide +kernel, rfl, by decide +kernel, by decide +kernel⟩
abbrev s_copied : Stmt := topS 31
abbrev N_copied : List Str := ["block", "statement"]
theorem sc_copied : FnScope N_copied ["block"] (defScope s_copied) := ⟨rfl, rfl, rfl, by decide +kernel, rfl, by decide +kernel, by decide +kernel⟩
abbrev s_check_block : Stmt := topS 35
abbrev N_check_block : List Str := ["block", "procedure", "ahead", "read", "procedures", "at", "statement", "path", "number", "inner"]
theorem sc_check_block : FnScope N_check_block ["block", "procedure", "ahead", "read", "procedures"] (defScope s_check_block) := ⟨rfl, rfl, rfl, by decide +kernel, rfl, by decide +kernel, by decide +kernel⟩
abbrev s_check_bodies : Stmt := topS 36
abbrev N_check_bodies : List Str := ["bodies", "procedure", "body"]
theorem sc_check_bodies : FnScope N_check_bodies ["bodies"] (defScope s_check_bodies) := ⟨rfl, rfl, rfl, by decide +kernel, rfl, by decide +kernel, by decide +kernel⟩
abbrev s_Book___init__ : Stmt := inClass (topS 38) 0
abbrev N_Book___init__ : List Str := ["self", "bodies", "body"]
theorem sc_Book___init__ : FnScope N_Book___init__ ["self", "bodies"] (defScope s_Book___init__) := ⟨rfl, rfl, rfl, by decide +kernel, rfl, by decide +kernel, by decide +kernel⟩
abbrev s_Book___len__ : Stmt := inClass (topS 38) 1
abbrev N_Book___len__ : List Str := ["self"]
theorem sc_Book___len__ : FnScope N_Book___len__ ["self"] (defScope s_Book___len__) := ⟨rfl, rfl, rfl, by decide +kernel, rfl, by decide +kernel, by decide +kernel⟩
abbrev s_Book_bodies : Stmt := inClass (topS 38) 6
abbrev N_Book_bodies : List Str := ["self", "body"]
theorem sc_Book_bodies : FnScope N_Book_bodies ["self"] (defScope s_Book_bodies) := ⟨rfl, rfl, rfl, by decide +kernel, rfl, by decide +kernel, by decide +kernel⟩
abbrev s_vector : Stmt := topS 40
abbrev N_vector : List Str := ["pen"]
theorem sc_vector : FnScope N_vector ["pen"] (defScope s_vector) := ⟨rfl, rfl, rfl, by decide +kernel, rfl, by decide +kernel, by decide +kernel⟩
abbrev s_unit_pen : Stmt := topS 41
abbrev N_unit_pen : List Str := ["at", "i"]
theorem sc_unit_pen : FnScope N_unit_pen ["at"] (defScope s_unit_pen) := ⟨rfl, rfl, rfl, by decide +kernel, rfl, by decide +kernel, by decide +kernel⟩
abbrev s_probes : Stmt := topS 42
abbrev N_probes : List Str := ["at"]
theorem sc_probes : FnScope N_probes [] (defScope s_probes) := ⟨rfl, rfl, rfl, by decide +kernel, rfl, by decide +kernel, by decide +kernel⟩
abbrev s_matrix_from : Stmt := topS 43
abbrev N_matrix_from : List Str := ["ends", "start", "others", "columns", "end", "i", "column", "other", "a", "b"]
theorem sc_matrix_from : FnScope N_matrix_from ["ends"] (defScope s_matrix_from) := ⟨rfl, rfl, rfl, by decide +kernel, rfl, by decide +kernel, by decide +kernel⟩
abbrev s_Execution___init__ : Stmt := inClass (topS 47) 0
abbrev N_Execution___init__ : List Str := ["self", "procedures", "bits", "_"]
theorem sc_Execution___init__ : FnScope N_Execution___init__ ["self", "procedures", "bits"] (defScope s_Execution___init__) := ⟨rfl, rfl, rfl, by decide +kernel, rfl, by decide +kernel, by decide +kernel⟩
abbrev s_Execution_finish : Stmt := inClass (topS 47) 1
abbrev N_Execution_finish : List Str := ["self", "procedure"]
theorem sc_Execution_finish : FnScope N_Execution_finish ["self", "procedure"] (defScope s_Execution_finish) := ⟨rfl, rfl, rfl, by decide +kernel, rfl, by decide +kernel, by decide +kernel⟩
abbrev s_Execution_step : Stmt := inClass (topS 47) 2
abbrev N_Execution_step : List Str := ["self", "thing", "word"]
theorem sc_Execution_step : FnScope N_Execution_step ["self", "thing"] (defScope s_Execution_step) := ⟨rfl, rfl, rfl, by decide +kernel, rfl, by decide +kernel, by decide +kernel⟩
abbrev s_Execution_enter : Stmt := inClass (topS 47) 3
abbrev N_Execution_enter : List Str := ["self", "block"]
theorem sc_Execution_enter : FnScope N_Execution_enter ["self", "block"] (defScope s_Execution_enter) := ⟨rfl, rfl, rfl, by decide +kernel, rfl, by decide +kernel, by decide +kernel⟩
abbrev s_Execution_take : Stmt := inClass (topS 47) 4
abbrev N_Execution_take : List Str := ["self"]
theorem sc_Execution_take : FnScope N_Execution_take ["self"] (defScope s_Execution_take) := ⟨rfl, rfl, rfl, by decide +kernel, rfl, by decide +kernel, by decide +kernel⟩
abbrev s_Execution_begin : Stmt := inClass (topS 47) 5
abbrev N_Execution_begin : List Str := ["self", "statement", "_", "procedure", "saved", "blocks", "begun"]
theorem sc_Execution_begin : FnScope N_Execution_begin ["self", "statement"] (defScope s_Execution_begin) := ⟨rfl, rfl, rfl, by decide +kernel, rfl, by decide +kernel, by decide +kernel⟩
abbrev s_Execution_unwind : Stmt := inClass (topS 47) 6
abbrev N_Execution_unwind : List Str := ["self", "way", "thing"]
theorem sc_Execution_unwind : FnScope N_Execution_unwind ["self", "way"] (defScope s_Execution_unwind) := ⟨rfl, rfl, rfl, by decide +kernel, rfl, by decide +kernel, by decide +kernel⟩
abbrev s_Execution_leave : Stmt := inClass (topS 47) 7
abbrev N_Execution_leave : List Str := ["self", "thing", "way", "_", "procedure", "saved", "blocks"]
theorem sc_Execution_leave : FnScope N_Execution_leave ["self", "thing", "way"] (defScope s_Execution_leave) := ⟨rfl, rfl, rfl, by decide +kernel, rfl, by decide +kernel, by decide +kernel⟩
abbrev s_check_bits : Stmt := topS 48
abbrev N_check_bits : List Str := ["bits", "index", "bit"]
theorem sc_check_bits : FnScope N_check_bits ["bits"] (defScope s_check_bits) := ⟨rfl, rfl, rfl, by decide +kernel, rfl, by decide +kernel, by decide +kernel⟩
abbrev s_executed : Stmt := topS 49
abbrev N_executed : List Str := ["book", "procedure", "bits", "execution"]
theorem sc_executed : FnScope N_executed ["book", "procedure", "bits"] (defScope s_executed) := ⟨rfl, rfl, rfl, by decide +kernel, rfl, by decide +kernel, by decide +kernel⟩
abbrev s_length_of : Stmt := topS 50
abbrev N_length_of : List Str := ["deeds", "deed"]
theorem sc_length_of : FnScope N_length_of ["deeds"] (defScope s_length_of) := ⟨rfl, rfl, rfl, by decide +kernel, rfl, by decide +kernel, by decide +kernel⟩
abbrev s_pens_behind : Stmt := topS 51
abbrev N_pens_behind : List Str := ["deeds", "pen", "held", "deed"]
theorem sc_pens_behind : GScope N_pens_behind ["deeds", "pen"] (defScope s_pens_behind) := ⟨rfl, rfl, rfl, by decide +kernel, rfl, by decide +kernel, by decide +kernel⟩
abbrev s_end_of : Stmt := topS 52
abbrev N_end_of : List Str := ["deeds", "pen", "end", "behind"]
theorem sc_end_of : FnScope N_end_of ["deeds", "pen"] (defScope s_end_of) := ⟨rfl, rfl, rfl, by decide +kernel, rfl, by decide +kernel, by decide +kernel⟩
abbrev s_ran : Stmt := topS 53
abbrev N_ran : List Str := ["book", "procedure", "bits", "pen", "execution"]
theorem sc_ran : FnScope N_ran ["book", "procedure", "bits", "pen"] (defScope s_ran) := ⟨rfl, rfl, rfl, by decide +kernel, rfl, by decide +kernel, by decide +kernel⟩
abbrev s_run_matrix : Stmt := topS 54
abbrev N_run_matrix : List Str := ["book", "procedure", "bits", "execution", "deeds", "matrix", "pen"]
theorem sc_run_matrix : FnScope N_run_matrix ["book", "procedure", "bits"] (defScope s_run_matrix) := ⟨rfl, rfl, rfl, by decide +kernel, rfl, by decide +kernel, by decide +kernel⟩
abbrev s__law_pool : Stmt := topS 56
abbrev N__law_pool : List Str := ["_law_script", "_law_cell"]
theorem sc__law_pool : FnScope N__law_pool ["_law_script"] (defScope s__law_pool) := ⟨rfl, rfl, rfl, by decide +kernel, rfl, by decide +kernel, by decide +kernel⟩
abbrev s__law_draw : Stmt := topS 57
abbrev N__law_draw : List Str := ["_law_pool_here", "_law_many", "_law_at", "_law_cell", "_law_number_here"]
theorem sc__law_draw : FnScope N__law_draw ["_law_pool_here", "_law_many"] (defScope s__law_draw) := ⟨rfl, rfl, rfl, by decide +kernel, rfl, by decide +kernel, by decide +kernel⟩
abbrev s__law_number : Stmt := topS 58
abbrev N__law_number : List Str := ["_law_pool_here", "_law_small", "_law_at", "_law_number_here"]
theorem sc__law_number : FnScope N__law_number ["_law_pool_here"] (defScope s__law_number) := ⟨rfl, rfl, rfl, by decide +kernel, rfl, by decide +kernel, by decide +kernel⟩
abbrev s__law_pen : Stmt := topS 59
abbrev N__law_pen : List Str := ["_law_pool_here", "_law_begin", "_law_k"]
theorem sc__law_pen : FnScope N__law_pen ["_law_pool_here"] (defScope s__law_pen) := ⟨rfl, rfl, rfl, by decide +kernel, rfl, by decide +kernel, by decide +kernel⟩
abbrev s__law_move : Stmt := topS 60
abbrev N__law_move : List Str := ["_law_begin", "_law_command", "_law_x", "_law_y", "_law_u", "_law_v", "_law_p", "_law_q", "_law_word", "_law_k", "_law_turned"]
theorem sc__law_move : FnScope N__law_move ["_law_begin", "_law_command"] (defScope s__law_move) := ⟨rfl, rfl, rfl, by decide +kernel, rfl, by decide +kernel, by decide +kernel⟩
abbrev s__law_pens : Stmt := topS 61
abbrev N__law_pens : List Str := ["_law_deeds", "_law_begin", "_law_pens_here", "_law_held", "_law_deed"]
theorem sc__law_pens : FnScope N__law_pens ["_law_deeds", "_law_begin"] (defScope s__law_pens) := ⟨rfl, rfl, rfl, by decide +kernel, rfl, by decide +kernel, by decide +kernel⟩
abbrev s__law_probe : Stmt := topS 62
abbrev N__law_probe : List Str := ["_law_deeds", "_law_origin", "_law_j", "_law_images", "_law_matrix", "_law_i", "_law_k"]
theorem sc__law_probe : FnScope N__law_probe ["_law_deeds"] (defScope s__law_probe) := ⟨rfl, rfl, rfl, by decide +kernel, rfl, by decide +kernel, by decide +kernel⟩
abbrev s__law_any_command : Stmt := topS 63
abbrev N__law_any_command : List Str := ["_law_pool_here", "_law_kind"]
theorem sc__law_any_command : FnScope N__law_any_command ["_law_pool_here"] (defScope s__law_any_command) := ⟨rfl, rfl, rfl, by decide +kernel, rfl, by decide +kernel, by decide +kernel⟩
abbrev s__law_same : Stmt := topS 64
abbrev N__law_same : List Str := ["_law_one", "_law_other", "_law_k"]
theorem sc__law_same : FnScope N__law_same ["_law_one", "_law_other"] (defScope s__law_same) := ⟨rfl, rfl, rfl, by decide +kernel, rfl, by decide +kernel, by decide +kernel⟩
abbrev s__law_bare : Stmt := topS 65
abbrev N__law_bare : List Str := ["_law_pool_here", "_law_size", "_law_k"]
theorem sc__law_bare : FnScope N__law_bare ["_law_pool_here"] (defScope s__law_bare) := ⟨rfl, rfl, rfl, by decide +kernel, rfl, by decide +kernel, by decide +kernel⟩
abbrev s__law_refused : Stmt := topS 66
abbrev N__law_refused : List Str := ["_law_book", "_law_bits", "_law_answer", "e"]
theorem sc__law_refused : FnScope N__law_refused ["_law_book", "_law_bits"] (defScope s__law_refused) := ⟨rfl, rfl, rfl, by decide +kernel, rfl, by decide +kernel, by decide +kernel⟩
abbrev s_law : Stmt := topS 67
abbrev N_law : List Str := ["_law_script", "_law_pool_here", "_law_ended", "_law_commands", "_law_begin", "_law_body", "_law_way", "_law_at", "_law_book", "_law_due", "_law_home"]
theorem sc_law : FnScope N_law ["_law_script"] (defScope s_law) := ⟨rfl, rfl, rfl, by decide +kernel, rfl, by decide +kernel, by decide +kernel⟩
structure Top (w : World) (K : PySem.W.Frag) (mg : Str → Option Value) where
  a_HOME : Addr
  C_Book : Addr
  g_Book : mg "Book" = some (.ref C_Book)
  cl_Book : Cls K C_Book
  na_Book__bodies : NoAttr K C_Book "_bodies"
  C_Execution : Addr
  g_Execution : mg "Execution" = some (.ref C_Execution)
  cl_Execution : Cls K C_Execution
  na_Execution_procedures : NoAttr K C_Execution "procedures"
  na_Execution_bits : NoAttr K C_Execution "bits"
  na_Execution_taken : NoAttr K C_Execution "taken"
  na_Execution_left : NoAttr K C_Execution "left"
  na_Execution_begun : NoAttr K C_Execution "begun"
  na_Execution_deeds : NoAttr K C_Execution "deeds"
  na_Execution_way : NoAttr K C_Execution "way"
  C_NoRun : Addr
  g_NoRun : mg "NoRun" = some (.ref C_NoRun)
  O_NoRun : OexC K C_NoRun
  x_NoRun : PySem.W.exmOne K (.ref C_NoRun) (.ref C_NoRun) = some true
  xf_NoRun : XfC K C_NoRun
  no_NoRun_index : PySem.W.findIn K (.ref C_NoRun) "index" = some none
  a_NoRun___init__ : Addr
  d_NoRun___init__ : FuncData
  F_NoRun___init__ : Fun K "__init__" "NoRun.__init__" s_NoRun___init__ a_NoRun___init__ d_NoRun___init__
  io_NoRun : PySem.W.findIn K (.ref C_NoRun) "__init__" = some (some (.ref a_NoRun___init__))
  to_NoRun : PySem.W.typeIn K (.ref a_NoRun___init__) = some (.type "function")
  a_is_integer : Addr
  d_is_integer : FuncData
  F_is_integer : Fun K "is_integer" "is_integer" s_is_integer a_is_integer d_is_integer
  g_is_integer : mg "is_integer" = some (.ref a_is_integer)
  a_is_pen : Addr
  d_is_pen : FuncData
  F_is_pen : Fun K "is_pen" "is_pen" s_is_pen a_is_pen d_is_pen
  g_is_pen : mg "is_pen" = some (.ref a_is_pen)
  a_is_within : Addr
  d_is_within : FuncData
  F_is_within : Fun K "is_within" "is_within" s_is_within a_is_within d_is_within
  g_is_within : mg "is_within" = some (.ref a_is_within)
  a_is_bit : Addr
  d_is_bit : FuncData
  F_is_bit : Fun K "is_bit" "is_bit" s_is_bit a_is_bit d_is_bit
  g_is_bit : mg "is_bit" = some (.ref a_is_bit)
  a_is_command : Addr
  d_is_command : FuncData
  F_is_command : Fun K "is_command" "is_command" s_is_command a_is_command d_is_command
  g_is_command : mg "is_command" = some (.ref a_is_command)
  a_turned : Addr
  d_turned : FuncData
  F_turned : Fun K "turned" "turned" s_turned a_turned d_turned
  g_turned : mg "turned" = some (.ref a_turned)
  a_moved : Addr
  d_moved : FuncData
  F_moved : Fun K "moved" "moved" s_moved a_moved d_moved
  g_moved : mg "moved" = some (.ref a_moved)
  a_is_index : Addr
  d_is_index : FuncData
  F_is_index : Fun K "is_index" "is_index" s_is_index a_is_index d_is_index
  g_is_index : mg "is_index" = some (.ref a_is_index)
  a_are_blocks : Addr
  d_are_blocks : FuncData
  F_are_blocks : Fun K "are_blocks" "are_blocks" s_are_blocks a_are_blocks d_are_blocks
  g_are_blocks : mg "are_blocks" = some (.ref a_are_blocks)
  a_is_call : Addr
  d_is_call : FuncData
  F_is_call : Fun K "is_call" "is_call" s_is_call a_is_call d_is_call
  g_is_call : mg "is_call" = some (.ref a_is_call)
  a_is_statement : Addr
  d_is_statement : FuncData
  F_is_statement : Fun K "is_statement" "is_statement" s_is_statement a_is_statement d_is_statement
  g_is_statement : mg "is_statement" = some (.ref a_is_statement)
  a_blocks_of : Addr
  d_blocks_of : FuncData
  F_blocks_of : Fun K "blocks_of" "blocks_of" s_blocks_of a_blocks_of d_blocks_of
  g_blocks_of : mg "blocks_of" = some (.ref a_blocks_of)
  a_with_blocks : Addr
  d_with_blocks : FuncData
  F_with_blocks : Fun K "with_blocks" "with_blocks" s_with_blocks a_with_blocks d_with_blocks
  g_with_blocks : mg "with_blocks" = some (.ref a_with_blocks)
  a_copied_statement : Addr
  d_copied_statement : FuncData
  F_copied_statement : Fun K "copied_statement" "copied_statement" s_copied_statement a_copied_statement d_copied_statement
  g_copied_statement : mg "copied_statement" = some (.ref a_copied_statement)
  a_copied : Addr
  d_copied : FuncData
  F_copied : Fun K "copied" "copied" s_copied a_copied d_copied
  g_copied : mg "copied" = some (.ref a_copied)
  a_check_block : Addr
  d_check_block : FuncData
  F_check_block : Fun K "check_block" "check_block" s_check_block a_check_block d_check_block
  g_check_block : mg "check_block" = some (.ref a_check_block)
  a_check_bodies : Addr
  d_check_bodies : FuncData
  F_check_bodies : Fun K "check_bodies" "check_bodies" s_check_bodies a_check_bodies d_check_bodies
  g_check_bodies : mg "check_bodies" = some (.ref a_check_bodies)
  a_Book___init__ : Addr
  d_Book___init__ : FuncData
  F_Book___init__ : Fun K "__init__" "Book.__init__" s_Book___init__ a_Book___init__ d_Book___init__
  mk_Book : Mk K C_Book a_Book___init__
  a_Book___len__ : Addr
  d_Book___len__ : FuncData
  F_Book___len__ : Fun K "__len__" "Book.__len__" s_Book___len__ a_Book___len__ d_Book___len__
  m_Book___len__ : Meth K C_Book "__len__" a_Book___len__
  a_Book_bodies : Addr
  d_Book_bodies : FuncData
  F_Book_bodies : Fun K "bodies" "Book.bodies" s_Book_bodies a_Book_bodies d_Book_bodies
  m_Book_bodies : Meth K C_Book "bodies" a_Book_bodies
  a_vector : Addr
  d_vector : FuncData
  F_vector : Fun K "vector" "vector" s_vector a_vector d_vector
  g_vector : mg "vector" = some (.ref a_vector)
  a_unit_pen : Addr
  d_unit_pen : FuncData
  F_unit_pen : Fun K "unit_pen" "unit_pen" s_unit_pen a_unit_pen d_unit_pen
  g_unit_pen : mg "unit_pen" = some (.ref a_unit_pen)
  a_probes : Addr
  d_probes : FuncData
  F_probes : Fun K "probes" "probes" s_probes a_probes d_probes
  g_probes : mg "probes" = some (.ref a_probes)
  a_matrix_from : Addr
  d_matrix_from : FuncData
  F_matrix_from : Fun K "matrix_from" "matrix_from" s_matrix_from a_matrix_from d_matrix_from
  g_matrix_from : mg "matrix_from" = some (.ref a_matrix_from)
  a_Execution___init__ : Addr
  d_Execution___init__ : FuncData
  F_Execution___init__ : Fun K "__init__" "Execution.__init__" s_Execution___init__ a_Execution___init__ d_Execution___init__
  mk_Execution : Mk K C_Execution a_Execution___init__
  a_Execution_finish : Addr
  d_Execution_finish : FuncData
  F_Execution_finish : Fun K "finish" "Execution.finish" s_Execution_finish a_Execution_finish d_Execution_finish
  m_Execution_finish : Meth K C_Execution "finish" a_Execution_finish
  a_Execution_step : Addr
  d_Execution_step : FuncData
  F_Execution_step : Fun K "step" "Execution.step" s_Execution_step a_Execution_step d_Execution_step
  m_Execution_step : Meth K C_Execution "step" a_Execution_step
  a_Execution_enter : Addr
  d_Execution_enter : FuncData
  F_Execution_enter : Fun K "enter" "Execution.enter" s_Execution_enter a_Execution_enter d_Execution_enter
  m_Execution_enter : Meth K C_Execution "enter" a_Execution_enter
  a_Execution_take : Addr
  d_Execution_take : FuncData
  F_Execution_take : Fun K "take" "Execution.take" s_Execution_take a_Execution_take d_Execution_take
  m_Execution_take : Meth K C_Execution "take" a_Execution_take
  a_Execution_begin : Addr
  d_Execution_begin : FuncData
  F_Execution_begin : Fun K "begin" "Execution.begin" s_Execution_begin a_Execution_begin d_Execution_begin
  m_Execution_begin : Meth K C_Execution "begin" a_Execution_begin
  a_Execution_unwind : Addr
  d_Execution_unwind : FuncData
  F_Execution_unwind : Fun K "unwind" "Execution.unwind" s_Execution_unwind a_Execution_unwind d_Execution_unwind
  m_Execution_unwind : Meth K C_Execution "unwind" a_Execution_unwind
  a_Execution_leave : Addr
  d_Execution_leave : FuncData
  F_Execution_leave : Fun K "leave" "Execution.leave" s_Execution_leave a_Execution_leave d_Execution_leave
  m_Execution_leave : Meth K C_Execution "leave" a_Execution_leave
  a_check_bits : Addr
  d_check_bits : FuncData
  F_check_bits : Fun K "check_bits" "check_bits" s_check_bits a_check_bits d_check_bits
  g_check_bits : mg "check_bits" = some (.ref a_check_bits)
  a_executed : Addr
  d_executed : FuncData
  F_executed : Fun K "executed" "executed" s_executed a_executed d_executed
  g_executed : mg "executed" = some (.ref a_executed)
  a_length_of : Addr
  d_length_of : FuncData
  F_length_of : Fun K "length_of" "length_of" s_length_of a_length_of d_length_of
  g_length_of : mg "length_of" = some (.ref a_length_of)
  a_pens_behind : Addr
  d_pens_behind : FuncData
  F_pens_behind : Fun K "pens_behind" "pens_behind" s_pens_behind a_pens_behind d_pens_behind
  g_pens_behind : mg "pens_behind" = some (.ref a_pens_behind)
  a_end_of : Addr
  d_end_of : FuncData
  F_end_of : Fun K "end_of" "end_of" s_end_of a_end_of d_end_of
  g_end_of : mg "end_of" = some (.ref a_end_of)
  a_ran : Addr
  d_ran : FuncData
  F_ran : Fun K "ran" "ran" s_ran a_ran d_ran
  FD_ran : FunD K "ran" "ran" (defArgs s_ran) (defBody s_ran) (defScope s_ran) [] [("pen", .ref a_HOME)] a_ran d_ran
  g_ran : mg "ran" = some (.ref a_ran)
  a_run_matrix : Addr
  d_run_matrix : FuncData
  F_run_matrix : Fun K "run_matrix" "run_matrix" s_run_matrix a_run_matrix d_run_matrix
  g_run_matrix : mg "run_matrix" = some (.ref a_run_matrix)
  a__law_pool : Addr
  d__law_pool : FuncData
  F__law_pool : Fun K "_law_pool" "_law_pool" s__law_pool a__law_pool d__law_pool
  g__law_pool : mg "_law_pool" = some (.ref a__law_pool)
  a__law_draw : Addr
  d__law_draw : FuncData
  F__law_draw : Fun K "_law_draw" "_law_draw" s__law_draw a__law_draw d__law_draw
  g__law_draw : mg "_law_draw" = some (.ref a__law_draw)
  a__law_number : Addr
  d__law_number : FuncData
  F__law_number : Fun K "_law_number" "_law_number" s__law_number a__law_number d__law_number
  g__law_number : mg "_law_number" = some (.ref a__law_number)
  a__law_pen : Addr
  d__law_pen : FuncData
  F__law_pen : Fun K "_law_pen" "_law_pen" s__law_pen a__law_pen d__law_pen
  g__law_pen : mg "_law_pen" = some (.ref a__law_pen)
  a__law_move : Addr
  d__law_move : FuncData
  F__law_move : Fun K "_law_move" "_law_move" s__law_move a__law_move d__law_move
  g__law_move : mg "_law_move" = some (.ref a__law_move)
  a__law_pens : Addr
  d__law_pens : FuncData
  F__law_pens : Fun K "_law_pens" "_law_pens" s__law_pens a__law_pens d__law_pens
  g__law_pens : mg "_law_pens" = some (.ref a__law_pens)
  a__law_probe : Addr
  d__law_probe : FuncData
  F__law_probe : Fun K "_law_probe" "_law_probe" s__law_probe a__law_probe d__law_probe
  g__law_probe : mg "_law_probe" = some (.ref a__law_probe)
  a__law_any_command : Addr
  d__law_any_command : FuncData
  F__law_any_command : Fun K "_law_any_command" "_law_any_command" s__law_any_command a__law_any_command d__law_any_command
  g__law_any_command : mg "_law_any_command" = some (.ref a__law_any_command)
  a__law_same : Addr
  d__law_same : FuncData
  F__law_same : Fun K "_law_same" "_law_same" s__law_same a__law_same d__law_same
  g__law_same : mg "_law_same" = some (.ref a__law_same)
  a__law_bare : Addr
  d__law_bare : FuncData
  F__law_bare : Fun K "_law_bare" "_law_bare" s__law_bare a__law_bare d__law_bare
  g__law_bare : mg "_law_bare" = some (.ref a__law_bare)
  a__law_refused : Addr
  d__law_refused : FuncData
  F__law_refused : Fun K "_law_refused" "_law_refused" s__law_refused a__law_refused d__law_refused
  g__law_refused : mg "_law_refused" = some (.ref a__law_refused)
  a_law : Addr
  d_law : FuncData
  F_law : Fun K "law" "law" s_law a_law d_law
  g_law : mg "law" = some (.ref a_law)
  c_DEEPEST_LEVEL : ∃ u, mg "DEEPEST_LEVEL" = some u ∧ RelV (.int 3) u
  c_MOST_IN_A_LIST : ∃ u, mg "MOST_IN_A_LIST" = some u ∧ RelV (.int 8) u
  c_MOST_IN_A_PROCEDURE : ∃ u, mg "MOST_IN_A_PROCEDURE" = some u ∧ RelV (.int 12) u
  c_MOST_PROCEDURES : ∃ u, mg "MOST_PROCEDURES" = some u ∧ RelV (.int 3) u
  z_all : mg "all" = none
  z_bool : mg "bool" = none
  z_enumerate : mg "enumerate" = none
  z_int : mg "int" = none
  z_isinstance : mg "isinstance" = none
  z_len : mg "len" = none
  z_list : mg "list" = none
  z_range : mg "range" = none
  z_str : mg "str" = none
  z_tuple : mg "tuple" = none
  z_zip : mg "zip" = none
  a_BOUNDS : Addr
  c_BOUNDS : ∃ u, mg "BOUNDS" = some u ∧ RelV (.ref a_BOUNDS) u
  e_B : Array DictEntry
  n_B : Nat
  D_B : KDict K w a_BOUNDS e_B n_B
  L_B : Lims w K a_BOUNDS
  W_B : ∀ s ∈ oddWords, PySem.W.nsIn K a_BOUNDS s = some none
  a_NoProcedure : Addr
  a_NoPen : Addr
  X_NPr : ExcT K mg "NoProcedure" a_NoProcedure
  X_NP : ExcT K mg "NoPen" a_NoPen
  c_HOME : ∃ u, mg "HOME" = some u ∧ RelV (.ref a_HOME) u
  h_HOME : ∀ H, SqT K H a_HOME (([0, 0, 1, 0, 0, 0] : List Int).map V.int)
  a_HOLD : Addr
  c_HOLD : ∃ u, mg "HOLD" = some u ∧ RelV (.ref a_HOLD) u
  h_HOLD : ∀ H, SqT K H a_HOLD [V.str "hold"]
  a_BACK : Addr
  c_BACK : ∃ u, mg "BACK" = some u ∧ RelV (.ref a_BACK) u
  h_BACK : ∀ H, SqT K H a_BACK [V.str "back"]
  W_D0 : PySem.W.nsIn K a_BOUNDS "hold" = some none
  W_D1 : PySem.W.nsIn K a_BOUNDS "back" = some none
theorem b_NoRun___init__ {w : World} {K : PySem.W.Frag} {mg : Str → Option Value} (T : Top w K mg) : Binds K T.d_NoRun___init__ ["self", "index"] [] := T.F_NoRun___init__.binds (ps := ["self", "index"]) fun _ _ _ _ _ _ us hl => match us, hl with | [_, _], _ => rfl
theorem b_is_integer {w : World} {K : PySem.W.Frag} {mg : Str → Option Value} (T : Top w K mg) : Binds K T.d_is_integer ["thing"] [] := T.F_is_integer.binds (ps := ["thing"]) fun _ _ _ _ _ _ us hl => match us, hl with | [_], _ => rfl
theorem b_is_pen {w : World} {K : PySem.W.Frag} {mg : Str → Option Value} (T : Top w K mg) : Binds K T.d_is_pen ["thing"] [] := T.F_is_pen.binds (ps := ["thing"]) fun _ _ _ _ _ _ us hl => match us, hl with | [_], _ => rfl
theorem b_is_within {w : World} {K : PySem.W.Frag} {mg : Str → Option Value} (T : Top w K mg) : Binds K T.d_is_within ["thing", "bounds"] [] := T.F_is_within.binds (ps := ["thing", "bounds"]) fun _ _ _ _ _ _ us hl => match us, hl with | [_, _], _ => rfl
theorem b_is_bit {w : World} {K : PySem.W.Frag} {mg : Str → Option Value} (T : Top w K mg) : Binds K T.d_is_bit ["thing"] [] := T.F_is_bit.binds (ps := ["thing"]) fun _ _ _ _ _ _ us hl => match us, hl with | [_], _ => rfl
theorem b_is_command {w : World} {K : PySem.W.Frag} {mg : Str → Option Value} (T : Top w K mg) : Binds K T.d_is_command ["thing"] [] := T.F_is_command.binds (ps := ["thing"]) fun _ _ _ _ _ _ us hl => match us, hl with | [_], _ => rfl
theorem b_turned {w : World} {K : PySem.W.Frag} {mg : Str → Option Value} (T : Top w K mg) : Binds K T.d_turned ["u", "v", "times"] [] := T.F_turned.binds (ps := ["u", "v", "times"]) fun _ _ _ _ _ _ us hl => match us, hl with | [_, _, _], _ => rfl
theorem b_moved {w : World} {K : PySem.W.Frag} {mg : Str → Option Value} (T : Top w K mg) : Binds K T.d_moved ["pen", "command"] [] := T.F_moved.binds (ps := ["pen", "command"]) fun _ _ _ _ _ _ us hl => match us, hl with | [_, _], _ => rfl
theorem b_is_index {w : World} {K : PySem.W.Frag} {mg : Str → Option Value} (T : Top w K mg) : Binds K T.d_is_index ["thing", "many"] [] := T.F_is_index.binds (ps := ["thing", "many"]) fun _ _ _ _ _ _ us hl => match us, hl with | [_, _], _ => rfl
theorem b_are_blocks {w : World} {K : PySem.W.Frag} {mg : Str → Option Value} (T : Top w K mg) : Binds K T.d_are_blocks ["thing", "many"] [] := T.F_are_blocks.binds (ps := ["thing", "many"]) fun _ _ _ _ _ _ us hl => match us, hl with | [_, _], _ => rfl
theorem b_is_call {w : World} {K : PySem.W.Frag} {mg : Str → Option Value} (T : Top w K mg) : Binds K T.d_is_call ["thing", "procedures"] [] := T.F_is_call.binds (ps := ["thing", "procedures"]) fun _ _ _ _ _ _ us hl => match us, hl with | [_, _], _ => rfl
theorem b_is_statement {w : World} {K : PySem.W.Frag} {mg : Str → Option Value} (T : Top w K mg) : Binds K T.d_is_statement ["thing", "level", "procedures"] [] := T.F_is_statement.binds (ps := ["thing", "level", "procedures"]) fun _ _ _ _ _ _ us hl => match us, hl with | [_, _, _], _ => rfl
theorem b_blocks_of {w : World} {K : PySem.W.Frag} {mg : Str → Option Value} (T : Top w K mg) : Binds K T.d_blocks_of ["statement"] [] := T.F_blocks_of.binds (ps := ["statement"]) fun _ _ _ _ _ _ us hl => match us, hl with | [_], _ => rfl
theorem b_with_blocks {w : World} {K : PySem.W.Frag} {mg : Str → Option Value} (T : Top w K mg) : Binds K T.d_with_blocks ["statement", "blocks"] [] := T.F_with_blocks.binds (ps := ["statement", "blocks"]) fun _ _ _ _ _ _ us hl => match us, hl with | [_, _], _ => rfl
theorem b_copied_statement {w : World} {K : PySem.W.Frag} {mg : Str → Option Value} (T : Top w K mg) : Binds K T.d_copied_statement ["statement"] [] := T.F_copied_statement.binds (ps := ["statement"]) fun _ _ _ _ _ _ us hl => match us, hl with | [_], _ => rfl
theorem b_copied {w : World} {K : PySem.W.Frag} {mg : Str → Option Value} (T : Top w K mg) : Binds K T.d_copied ["block"] [] := T.F_copied.binds (ps := ["block"]) fun _ _ _ _ _ _ us hl => match us, hl with | [_], _ => rfl
theorem b_check_block {w : World} {K : PySem.W.Frag} {mg : Str → Option Value} (T : Top w K mg) : Binds K T.d_check_block ["block", "procedure", "ahead", "read", "procedures"] [] := T.F_check_block.binds (ps := ["block", "procedure", "ahead", "read", "procedures"]) fun _ _ _ _ _ _ us hl => match us, hl with | [_, _, _, _, _], _ => rfl
theorem b_check_bodies {w : World} {K : PySem.W.Frag} {mg : Str → Option Value} (T : Top w K mg) : Binds K T.d_check_bodies ["bodies"] [] := T.F_check_bodies.binds (ps := ["bodies"]) fun _ _ _ _ _ _ us hl => match us, hl with | [_], _ => rfl
theorem b_Book___init__ {w : World} {K : PySem.W.Frag} {mg : Str → Option Value} (T : Top w K mg) : Binds K T.d_Book___init__ ["self", "bodies"] [] := T.F_Book___init__.binds (ps := ["self", "bodies"]) fun _ _ _ _ _ _ us hl => match us, hl with | [_, _], _ => rfl
theorem b_Book___len__ {w : World} {K : PySem.W.Frag} {mg : Str → Option Value} (T : Top w K mg) : Binds K T.d_Book___len__ ["self"] [] := T.F_Book___len__.binds (ps := ["self"]) fun _ _ _ _ _ _ us hl => match us, hl with | [_], _ => rfl
theorem b_Book_bodies {w : World} {K : PySem.W.Frag} {mg : Str → Option Value} (T : Top w K mg) : Binds K T.d_Book_bodies ["self"] [] := T.F_Book_bodies.binds (ps := ["self"]) fun _ _ _ _ _ _ us hl => match us, hl with | [_], _ => rfl
theorem b_vector {w : World} {K : PySem.W.Frag} {mg : Str → Option Value} (T : Top w K mg) : Binds K T.d_vector ["pen"] [] := T.F_vector.binds (ps := ["pen"]) fun _ _ _ _ _ _ us hl => match us, hl with | [_], _ => rfl
theorem b_unit_pen {w : World} {K : PySem.W.Frag} {mg : Str → Option Value} (T : Top w K mg) : Binds K T.d_unit_pen ["at"] [] := T.F_unit_pen.binds (ps := ["at"]) fun _ _ _ _ _ _ us hl => match us, hl with | [_], _ => rfl
theorem b_probes {w : World} {K : PySem.W.Frag} {mg : Str → Option Value} (T : Top w K mg) : Binds K T.d_probes [] [] := T.F_probes.binds (ps := []) fun _ _ _ _ _ _ us hl => match us, hl with | [], _ => rfl
theorem b_matrix_from {w : World} {K : PySem.W.Frag} {mg : Str → Option Value} (T : Top w K mg) : Binds K T.d_matrix_from ["ends"] [] := T.F_matrix_from.binds (ps := ["ends"]) fun _ _ _ _ _ _ us hl => match us, hl with | [_], _ => rfl
theorem b_Execution___init__ {w : World} {K : PySem.W.Frag} {mg : Str → Option Value} (T : Top w K mg) : Binds K T.d_Execution___init__ ["self", "procedures", "bits"] [] := T.F_Execution___init__.binds (ps := ["self", "procedures", "bits"]) fun _ _ _ _ _ _ us hl => match us, hl with | [_, _, _], _ => rfl
theorem b_Execution_finish {w : World} {K : PySem.W.Frag} {mg : Str → Option Value} (T : Top w K mg) : Binds K T.d_Execution_finish ["self", "procedure"] [] := T.F_Execution_finish.binds (ps := ["self", "procedure"]) fun _ _ _ _ _ _ us hl => match us, hl with | [_, _], _ => rfl
theorem b_Execution_step {w : World} {K : PySem.W.Frag} {mg : Str → Option Value} (T : Top w K mg) : Binds K T.d_Execution_step ["self", "thing"] [] := T.F_Execution_step.binds (ps := ["self", "thing"]) fun _ _ _ _ _ _ us hl => match us, hl with | [_, _], _ => rfl
theorem b_Execution_enter {w : World} {K : PySem.W.Frag} {mg : Str → Option Value} (T : Top w K mg) : Binds K T.d_Execution_enter ["self", "block"] [] := T.F_Execution_enter.binds (ps := ["self", "block"]) fun _ _ _ _ _ _ us hl => match us, hl with | [_, _], _ => rfl
theorem b_Execution_take {w : World} {K : PySem.W.Frag} {mg : Str → Option Value} (T : Top w K mg) : Binds K T.d_Execution_take ["self"] [] := T.F_Execution_take.binds (ps := ["self"]) fun _ _ _ _ _ _ us hl => match us, hl with | [_], _ => rfl
theorem b_Execution_begin {w : World} {K : PySem.W.Frag} {mg : Str → Option Value} (T : Top w K mg) : Binds K T.d_Execution_begin ["self", "statement"] [] := T.F_Execution_begin.binds (ps := ["self", "statement"]) fun _ _ _ _ _ _ us hl => match us, hl with | [_, _], _ => rfl
theorem b_Execution_unwind {w : World} {K : PySem.W.Frag} {mg : Str → Option Value} (T : Top w K mg) : Binds K T.d_Execution_unwind ["self", "way"] [] := T.F_Execution_unwind.binds (ps := ["self", "way"]) fun _ _ _ _ _ _ us hl => match us, hl with | [_, _], _ => rfl
theorem b_Execution_leave {w : World} {K : PySem.W.Frag} {mg : Str → Option Value} (T : Top w K mg) : Binds K T.d_Execution_leave ["self", "thing", "way"] [] := T.F_Execution_leave.binds (ps := ["self", "thing", "way"]) fun _ _ _ _ _ _ us hl => match us, hl with | [_, _, _], _ => rfl
theorem b_check_bits {w : World} {K : PySem.W.Frag} {mg : Str → Option Value} (T : Top w K mg) : Binds K T.d_check_bits ["bits"] [] := T.F_check_bits.binds (ps := ["bits"]) fun _ _ _ _ _ _ us hl => match us, hl with | [_], _ => rfl
theorem b_executed {w : World} {K : PySem.W.Frag} {mg : Str → Option Value} (T : Top w K mg) : Binds K T.d_executed ["book", "procedure", "bits"] [] := T.F_executed.binds (ps := ["book", "procedure", "bits"]) fun _ _ _ _ _ _ us hl => match us, hl with | [_, _, _], _ => rfl
theorem b_length_of {w : World} {K : PySem.W.Frag} {mg : Str → Option Value} (T : Top w K mg) : Binds K T.d_length_of ["deeds"] [] := T.F_length_of.binds (ps := ["deeds"]) fun _ _ _ _ _ _ us hl => match us, hl with | [_], _ => rfl
theorem b_pens_behind {w : World} {K : PySem.W.Frag} {mg : Str → Option Value} (T : Top w K mg) : Binds K T.d_pens_behind ["deeds", "pen"] [] := T.F_pens_behind.binds (ps := ["deeds", "pen"]) fun _ _ _ _ _ _ us hl => match us, hl with | [_, _], _ => rfl
theorem b_end_of {w : World} {K : PySem.W.Frag} {mg : Str → Option Value} (T : Top w K mg) : Binds K T.d_end_of ["deeds", "pen"] [] := T.F_end_of.binds (ps := ["deeds", "pen"]) fun _ _ _ _ _ _ us hl => match us, hl with | [_, _], _ => rfl
theorem bd_ran {w : World} {K : PySem.W.Frag} {mg : Str → Option Value} (T : Top w K mg) : ∃ ds, Vals [.ref T.a_HOME] ds ∧ Binds K T.d_ran ["book", "procedure", "bits", "pen"] ds := T.FD_ran.binds0 (ps := ["book", "procedure", "bits", "pen"]) 3 (by simp) rfl fun _ _ _ _ _ _ us ks hl hk => match us, ks, hl, hk with | [_, _, _], [_], _, _ => ⟨_, _, _, _, _, _, rfl, rfl, rfl⟩
theorem bk_ran {w : World} {K : PySem.W.Frag} {mg : Str → Option Value} (T : Top w K mg) : KBn K T.d_ran ["book", "procedure", "bits", "pen"] 3 ["pen"] (fun us ws => us ++ ws) (fun us ws => us ++ ws) := kb_all T.F_ran fun _ _ _ _ _ _ us ws hl hk => match us, ws, hl, hk with | [_, _, _], [_], _, _ => rfl
theorem b_run_matrix {w : World} {K : PySem.W.Frag} {mg : Str → Option Value} (T : Top w K mg) : Binds K T.d_run_matrix ["book", "procedure", "bits"] [] := T.F_run_matrix.binds (ps := ["book", "procedure", "bits"]) fun _ _ _ _ _ _ us hl => match us, hl with | [_, _, _], _ => rfl
theorem b__law_pool {w : World} {K : PySem.W.Frag} {mg : Str → Option Value} (T : Top w K mg) : Binds K T.d__law_pool ["_law_script"] [] := T.F__law_pool.binds (ps := ["_law_script"]) fun _ _ _ _ _ _ us hl => match us, hl with | [_], _ => rfl
theorem b__law_draw {w : World} {K : PySem.W.Frag} {mg : Str → Option Value} (T : Top w K mg) : Binds K T.d__law_draw ["_law_pool_here", "_law_many"] [] := T.F__law_draw.binds (ps := ["_law_pool_here", "_law_many"]) fun _ _ _ _ _ _ us hl => match us, hl with | [_, _], _ => rfl
theorem b__law_number {w : World} {K : PySem.W.Frag} {mg : Str → Option Value} (T : Top w K mg) : Binds K T.d__law_number ["_law_pool_here"] [] := T.F__law_number.binds (ps := ["_law_pool_here"]) fun _ _ _ _ _ _ us hl => match us, hl with | [_], _ => rfl
theorem b__law_pen {w : World} {K : PySem.W.Frag} {mg : Str → Option Value} (T : Top w K mg) : Binds K T.d__law_pen ["_law_pool_here"] [] := T.F__law_pen.binds (ps := ["_law_pool_here"]) fun _ _ _ _ _ _ us hl => match us, hl with | [_], _ => rfl
theorem b__law_move {w : World} {K : PySem.W.Frag} {mg : Str → Option Value} (T : Top w K mg) : Binds K T.d__law_move ["_law_begin", "_law_command"] [] := T.F__law_move.binds (ps := ["_law_begin", "_law_command"]) fun _ _ _ _ _ _ us hl => match us, hl with | [_, _], _ => rfl
theorem b__law_pens {w : World} {K : PySem.W.Frag} {mg : Str → Option Value} (T : Top w K mg) : Binds K T.d__law_pens ["_law_deeds", "_law_begin"] [] := T.F__law_pens.binds (ps := ["_law_deeds", "_law_begin"]) fun _ _ _ _ _ _ us hl => match us, hl with | [_, _], _ => rfl
theorem b__law_probe {w : World} {K : PySem.W.Frag} {mg : Str → Option Value} (T : Top w K mg) : Binds K T.d__law_probe ["_law_deeds"] [] := T.F__law_probe.binds (ps := ["_law_deeds"]) fun _ _ _ _ _ _ us hl => match us, hl with | [_], _ => rfl
theorem b__law_any_command {w : World} {K : PySem.W.Frag} {mg : Str → Option Value} (T : Top w K mg) : Binds K T.d__law_any_command ["_law_pool_here"] [] := T.F__law_any_command.binds (ps := ["_law_pool_here"]) fun _ _ _ _ _ _ us hl => match us, hl with | [_], _ => rfl
theorem b__law_same {w : World} {K : PySem.W.Frag} {mg : Str → Option Value} (T : Top w K mg) : Binds K T.d__law_same ["_law_one", "_law_other"] [] := T.F__law_same.binds (ps := ["_law_one", "_law_other"]) fun _ _ _ _ _ _ us hl => match us, hl with | [_, _], _ => rfl
theorem b__law_bare {w : World} {K : PySem.W.Frag} {mg : Str → Option Value} (T : Top w K mg) : Binds K T.d__law_bare ["_law_pool_here"] [] := T.F__law_bare.binds (ps := ["_law_pool_here"]) fun _ _ _ _ _ _ us hl => match us, hl with | [_], _ => rfl
theorem b__law_refused {w : World} {K : PySem.W.Frag} {mg : Str → Option Value} (T : Top w K mg) : Binds K T.d__law_refused ["_law_book", "_law_bits"] [] := T.F__law_refused.binds (ps := ["_law_book", "_law_bits"]) fun _ _ _ _ _ _ us hl => match us, hl with | [_, _], _ => rfl
theorem b_law {w : World} {K : PySem.W.Frag} {mg : Str → Option Value} (T : Top w K mg) : Binds K T.d_law ["_law_script"] [] := T.F_law.binds (ps := ["_law_script"]) fun _ _ _ _ _ _ us hl => match us, hl with | [_], _ => rfl
--SPLIT
def sp_is_integer : Sp := fun vs H Q _ => ∃ (S : Addr → Prop) (d : PyData) (v : V), vs = [v] ∧ Tr S H d v ∧ Q (.bl (isI d)) H
theorem ok_is_integer (T : Top w K mg) : FnOk P w K mg base CX0 1 T.a_is_integer T.d_is_integer ["thing"] sp_is_integer := by
  refine T.F_is_integer.ok sc_is_integer (fun vs H Q E h => ?_) (fun cdv A outer s H vs Q E hr h => ?_)
  · obtain ⟨S, d, v, rfl, _⟩ := h
    rfl
  · obtain ⟨S, d, v, rfl, hv, q⟩ := h
    refine ⟨_, (pss_one (ps_ret (pe_and (pe_callB (k_isi K) (by rfl) T.z_isinstance bt_isinstance (pa_cons (pv 0) (pa_cons (pe_bltn (v := .ty "int") (by rfl) T.z_int bt_int rfl) pa_nil))) (pe_one (pe_not (pe_callB (k_isi K) (by rfl) T.z_isinstance bt_isinstance (pa_cons (pv 0) (pa_cons (pe_bltn (v := .ty "bool") (by rfl) T.z_bool bt_bool rfl) pa_nil)))))))), ?_⟩
    refine ⟨_, rfl, _, _, _, _, isNum d, rfl, .ty _, tr_ty K hv, ki_int K d, _, rfl, ?_⟩
    cases d with
    | int z => exact iteT ⟨_, rfl, _, _, _, _, _, rfl, .ty _, tr_ty K hv, ki_bool K _, _, rfl, q⟩
    | bool b => exact iteT ⟨_, rfl, _, _, _, _, _, rfl, .ty _, tr_ty K hv, ki_bool K _, _, rfl, q⟩
    | _ => exact q
def sp_is_within (K : PySem.W.Frag) : Sp := fun vs H Q _ => ∃ (S : Addr → Prop) (t : Addr) (d : PyData) (v : V) (l : Int × Int), vs = [v, .ref t] ∧ Tr S H d v ∧ SqT K H t [.int l.1, .int l.2] ∧ Q (.bl (inD d l)) H
theorem ok_is_within (T : Top w K mg) : FnOk P w K mg base CX0 2 T.a_is_within T.d_is_within ["thing", "bounds"] (sp_is_within K) := by
  refine T.F_is_within.ok sc_is_within (fun vs H Q E h => ?_) (fun cdv A outer s H vs Q E hr h => ?_)
  · obtain ⟨S, t, d, v, l, rfl, _⟩ := h
    rfl
  · obtain ⟨S, t, d, v, l, rfl, hv, ht, q⟩ := h
    refine ⟨_, (pss_cons (ps_asg (pv 1) (pg_tup rfl (pgs_cons (pg_name (i := 2) sc_is_within.nd rfl (Or.inl rfl)) (pgs_cons (pg_name (i := 3) sc_is_within.nd rfl (Or.inl rfl)) pgs_nil))))
      (pss_one (ps_ret (pe_and (pe_call (ok_is_integer T) hr (by rfl) T.g_is_integer T.F_is_integer.kp (b_is_integer T) .nil pass0 (pa_cons (pv 0) pa_nil)) (pe_one (pe_chain op_le op_le (pv 2) (pv 0) (pv 3))))))), ?_⟩
    refine ⟨_, rfl, t, _, rfl, ht, rfl, _, _, rfl, _, _, rfl, rfl, ?_⟩
    refine ⟨_, rfl, S, d, v, rfl, hv, ⟨isI d, rfl, ?_⟩⟩
    cases d with
    | int z =>
      cases hv
      refine iteT ⟨_, rfl, _, rfl, _, _, rfl, rfl, _, rfl, ?_⟩
      by_cases h1 : l.1 ≤ z
      · refine iteP h1 ⟨_, rfl, _, _, rfl, rfl, ?_⟩
        have e : inD (.int z) l = decide (z ≤ l.2) := by
          show (decide (l.1 ≤ z) && decide (z ≤ l.2)) = _
          rw [decide_eq_true h1, Bool.true_and]
        rw [e] at q
        exact q
      · refine iteN h1 ?_
        have e : inD (.int z) l = false := by
          show (decide (l.1 ≤ z) && decide (z ≤ l.2)) = _
          rw [decide_eq_false h1, Bool.false_and]
        rw [e] at q
        exact q
    | _ => exact q
def sp_is_bit (K : PySem.W.Frag) : Sp := fun vs H Q _ => ∃ (S : Addr → Prop) (d : PyData) (v : V), vs = [v] ∧ Tr S H d v ∧ ∀ H', Same H H' → Q (.bl (inD d (0, 1))) H'
theorem ok_is_bit (T : Top w K mg) : FnOk P w K mg base CX0 3 T.a_is_bit T.d_is_bit ["thing"] (sp_is_bit K) := by
  refine T.F_is_bit.ok sc_is_bit (fun vs H Q E h => ?_) (fun cdv A outer s H vs Q E hr h => ?_)
  · obtain ⟨S, d, v, rfl, _⟩ := h
    rfl
  · obtain ⟨S, d, v, rfl, hv, q⟩ := h
    refine ⟨_, (pss_one (ps_ret (pe_call (ok_is_within T) hr (by rfl) T.g_is_within T.F_is_within.kp (b_is_within T) .nil pass0 (pa_cons (pv 0) (pa_cons (pe_tup (pa_cons pe_int (pa_cons pe_int pa_nil))) pa_nil))))), ?_⟩
    refine ⟨_, rfl, small100 (n := 2) (by decide), fun t nt => ?_⟩
    have s1 := same_upd (o := .tup [V.int 0, V.int 1]) nt
    exact ⟨S, t, d, v, (0, 1), rfl, hv.same s1, SqT.of upd_same, q _ s1⟩
def sp_is_index (K : PySem.W.Frag) : Sp := fun vs H Q _ => ∃ (S : Addr → Prop) (d : PyData) (v : V) (n : Int), vs = [v, .int n] ∧ Tr S H d v ∧ ∀ H', Same H H' → Q (.bl (inD d (0, n - 1))) H'
theorem ok_is_index (T : Top w K mg) : FnOk P w K mg base CX0 3 T.a_is_index T.d_is_index ["thing", "many"] (sp_is_index K) := by
  refine T.F_is_index.ok sc_is_index (fun vs H Q E h => ?_) (fun cdv A outer s H vs Q E hr h => ?_)
  · obtain ⟨S, d, v, n, rfl, _⟩ := h
    rfl
  · obtain ⟨S, d, v, n, rfl, hv, q⟩ := h
    refine ⟨_, (pss_one (ps_ret (pe_call (ok_is_within T) hr (by rfl) T.g_is_within T.F_is_within.kp (b_is_within T) .nil pass0 (pa_cons (pv 0) (pa_cons (pe_tup (pa_cons pe_int (pa_cons (pe_op op_sub (pv 1) pe_int) pa_nil))) pa_nil))))), ?_⟩
    refine ⟨_, rfl, _, rfl, _, _, rfl, rfl, small100 (n := 2) (by decide), fun t nt => ?_⟩
    have s1 := same_upd (o := .tup [V.int 0, V.int (n - 1)]) nt
    exact ⟨S, t, d, v, (0, n - 1), rfl, hv.same s1, SqT.of upd_same, q _ s1⟩

def sp_is_command : Sp := fun vs H Q _ => ∃ (S : Addr → Prop) (d : PyData) (v : V), vs = [v] ∧ Tr S H d v ∧ WordOk d ∧ ∀ H', Same H H' → Q (.bl (cmdOk d)) H'
theorem zipTake (ns : List PyData) (ls : List (Int × Int)) (i : Nat) {d : PyData} {l : Int × Int} (h1 : ns[i]? = some d) (h2 : ls[i]? = some l) : ((List.zipWith inD ns ls).take (i + 1)).map V.bl = ((List.zipWith inD ns ls).take i).map V.bl ++ [.bl (inD d l)] := by
  rw [List.take_add_one, List.getElem?_zipWith, h1, h2, List.map_append]
  rfl
theorem ok_is_command (T : Top w K mg) : FnOk P w K mg base CX0 3 T.a_is_command T.d_is_command ["thing"] sp_is_command := by
  refine T.F_is_command.ok sc_is_command (fun vs H Q E h => ?_) (fun cdv A outer s H vs Q E hr h => ?_)
  · obtain ⟨S, d, v, rfl, _⟩ := h
    rfl
  · obtain ⟨S, d, v, rfl, hv, hw, q⟩ := h
    refine ⟨_, (pss_cons (ps_if (PW.pt (pw_or (pt_not (pt_val (pe_callB (k_isi K) (by rfl) T.z_isinstance bt_isinstance (pa_cons (pv 0) (pa_cons (pe_bltn (v := .ty "tuple") (by rfl) T.z_tuple bt_tuple rfl) pa_nil))))) (pw_or1 (pt_cmpR op_eq (pe_callB (k_len K) (by rfl) T.z_len bt_len (pa_cons (pv 0) pa_nil)) pe_int (nomark _))))) (pss_one (ps_ret pe_bl)) pss_nil)
      (pss_cons (ps_asg (pv 0) (pg_star K rfl (pg_name (i := 1) sc_is_command.nd rfl (Or.inl rfl)) (pg_name (i := 2) sc_is_command.nd rfl (Or.inl rfl))))
      (pss_cons (ps_if (PW.pt (pw_or (pt_not (pt_val (pe_callB (k_isi K) (by rfl) T.z_isinstance bt_isinstance (pa_cons (pv 1) (pa_cons (pe_bltn (v := .ty "str") (by rfl) T.z_str bt_str rfl) pa_nil))))) (pw_or1 (pt_cmpR (op_notIn_kd T.D_B) (pv 1) (C8.pe_gc rfl T.c_BOUNDS) rfl)))) (pss_one (ps_ret pe_bl)) pss_nil)
      (pss_cons (ps_set (i := 3) sc_is_command.nd rfl (Or.inl rfl) (pe_ix ix_kdict (C8.pe_gc rfl T.c_BOUNDS) (pv 1) (fun _ _ => rfl)))
      (pss_cons (ps_if (pt_cmpR op_ne (pe_callB (k_len K) (by rfl) T.z_len bt_len (pa_cons (pv 2) pa_nil)) (pe_callB (k_len K) (by rfl) T.z_len bt_len (pa_cons (pv 3) pa_nil)) (nomark _)) (pss_one (ps_ret pe_bl)) pss_nil)
      (pss_one (ps_ret (pe_callB (k_all K) (by rfl) T.z_all bt_all (pa_cons (pe_lc (own := [("number", 4), ("pair", 5)]) (g := (gTup K 2 (gCons (gName 4) (gCons (gName 5) gNil)))) (tt := tYes) rfl sc_is_command.nd (pi_zipLT K (by rfl) T.z_zip (pa_cons (pv 2) (pa_cons (pv 3) pa_nil))) (blkOk_by (N := N_is_command) (sc := defScope s_is_command) (by decide +kernel)) (fun _ _ _ _ _ => (pg_tup rfl (pgs_cons (pg_name (i := 4) sc_is_command.nd rfl (Or.inl rfl)) (pgs_cons (pg_name (i := 5) sc_is_command.nd rfl (Or.inl rfl)) pgs_nil)))) (fun _ _ _ _ _ => pts_nil) (fun _ _ _ _ _ => (pe_call (ok_is_within T) hr (by rfl) T.g_is_within T.F_is_within.kp (b_is_within T) .nil pass0 (pa_cons (pv 4) (pa_cons (pv 5) pa_nil))))) pa_nil))))))))), ?_⟩
    cases d with
    | tuple ds =>
      refine ⟨_, rfl, _, _, _, _, _, rfl, .ty _, tr_ty K hv, ki_tuple K _, _, rfl, ?_⟩
      obtain ⟨a, xs, rfl, ha, hs⟩ := hv
      cases ds with
      | nil =>
        cases hs
        exact ⟨_, rfl, _, _, rfl, .inr (SqT.of ha), rfl, _, rfl, iteP rfl (q H (Same.refl _))⟩
      | cons x ns =>
        obtain ⟨y, r, rfl, hx, hr2⟩ := hs
        refine ⟨_, rfl, a, _, rfl, .inr (SqT.of ha), rfl, _, rfl, iteN (fun e => ?_) ?_⟩
        · have := V.int.inj e
          rw [List.length_cons] at this
          omega
        refine ⟨_, rfl, a, _, _, rfl, SqT.of ha, fun b nb => ?_⟩
        have s1 := same_upd (o := .lst r) nb
        have hb : (upd H b (.lst r)) b = some (.lst r) := upd_same
        generalize upd H b (.lst r) = H1 at *
        have hx := hx.same s1
        have hr2 := hr2.same s1
        refine ⟨_, rfl, _, _, _, _, _, rfl, .ty _, tr_ty K hx, ki_str K _, _, rfl, ?_⟩
        cases x with
        | str sw =>
          cases hx
          rcases hw with hw | ⟨c, rfl⟩
          · refine ⟨_, rfl, _, none, rfl, rfl, T.W_B _ hw, _, rfl, ?_⟩
            have e : cmdOk (.tuple (.str sw :: ns)) = false := by
              unfold cmdOk
              dsimp only
              rw [bounds_odd hw]
            rw [← e]
            exact q _ s1
          · obtain ⟨ab, ps, hd, hab, hpl, hll, hps⟩ := T.L_B.row c
            obtain ⟨es, n, u, hl, hk, hn, hu⟩ := id hd
            have hlen : c.nums.length ≤ 2 := by cases c <;> simp [Cm.nums]
            have lr := hr2.len
            refine ⟨_, rfl, _, some u, rfl, rfl, hn, _, rfl, ?_⟩
            refine ⟨_, rfl, _, _, _, rfl, rfl, hd, ?_⟩
            have e : cmdOk (.tuple (.str c.word :: ns)) = (decide (ns.length = c.lims.length) && (List.zipWith inD ns c.lims).all id) := by
              unfold cmdOk
              dsimp only
              rw [bounds_cm]
            by_cases l : ns.length = c.nums.length
            · refine ⟨_, rfl, b, _, rfl, .inl (SqL.of hb), _, rfl, ab, _, rfl, .inr (hab _), rfl, _, rfl, iteNS (by rw [List.length_map, hpl, lr, l]) ?_⟩
              have lz : (List.zipWith inD ns c.lims).length = c.nums.length := by rw [List.length_zipWith, hll, l]; omega
              refine ⟨_, rfl, _, rfl, b, ab, _, _, rfl, SqL.of hb, hab _, fun D nD => ?_⟩
              refine lc_it (walk_zipLT (xs := r) (ys := ps.map V.ref) (n := c.nums.length) (by rw [lr, l]) (by rw [List.length_map, hpl])) (fun i H' => Same H1 H' ∧ H' D = some (.lst (((List.zipWith inD ns c.lims).take i).map V.bl))) ⟨same_upd nD, upd_same⟩ (fun i H' _ h => ⟨SqL.of (h.1 _ _ hb), hab _⟩) (fun i x H' H2 hi h y => ?_) (fun H' h => ?_)
              · obtain ⟨sm, hD⟩ := h
                obtain ⟨t, x, y, rfl, nt, rfl, hx, hy⟩ := y
                have hx : r[i]? = some x := hx
                have hy : (ps.map V.ref)[i]? = some y := hy
                have gy : ps[i]? = some ps[i] := List.getElem?_eq_getElem (by omega)
                rw [List.getElem?_map, gy] at hy
                cases hy
                obtain ⟨lm, hl1, hl2⟩ := hps i _ gy
                obtain ⟨dx, hdx, tx⟩ := hr2.get hx
                have sm2 := sm.trans (same_upd (o := .tup [x, V.ref ps[i]]) nt)
                have hD2 := same_upd (o := .tup [x, V.ref ps[i]]) nt _ _ hD
                refine ⟨t, [x, V.ref ps[i]], rfl, SqT.of upd_same, rfl, _, _, rfl, _, _, rfl, rfl, rfl, _, rfl, _, rfl, S, ps[i], dx, x, lm, rfl, tx.same sm2, hl2 _, _, hD2, ?_, same_new sm2 nD, ?_⟩
                · rw [List.length_map, List.length_take]
                  exact small1000 (by omega)
                · rw [upd_same, zipTake ns c.lims i hdx hl1]
              · rw [← lz, List.take_length] at h
                refine ⟨D, _, rfl, SqL.of h.2, ?_⟩
                have e2 : cmdOk (.tuple (.str c.word :: ns)) = (List.zipWith inD ns c.lims).all id := by rw [e, decide_eq_true (by rw [l, hll]), Bool.true_and]
                rw [← e2]
                exact q _ (s1.trans h.1)
            · refine ⟨_, rfl, b, _, rfl, .inl (SqL.of hb), _, rfl, ab, _, rfl, .inr (hab _), rfl, _, rfl, iteNN (fun e => l (by have := V.int.inj e; rw [List.length_map, hpl, lr] at this; omega)) ?_⟩
              have e2 : cmdOk (.tuple (.str c.word :: ns)) = false := by rw [e, decide_eq_false (by rw [hll]; exact l), Bool.false_and]
              rw [← e2]
              exact q _ s1
        | _ => exact q _ s1
    | _ => exact ⟨_, rfl, _, _, _, _, _, rfl, .ty _, tr_ty K hv, ki_tuple K _, _, rfl, q H (Same.refl _)⟩

--SPLIT
def sp_are_blocks : Sp := fun vs H Q _ => ∃ (S : Addr → Prop) (d : PyData) (v : V) (n : Nat), vs = [v, .int n] ∧ n ≤ 100 ∧ Tr S H d v ∧ ∀ H', Same H H' → Q (.bl (areBl n d)) H'
theorem ok_are_blocks (T : Top w K mg) : FnOk P w K mg base CX0 1 T.a_are_blocks T.d_are_blocks ["thing", "many"] sp_are_blocks := by
  refine T.F_are_blocks.ok sc_are_blocks (fun vs H Q E h => ?_) (fun cdv A outer s H vs Q E hr h => ?_)
  · obtain ⟨S, d, v, n, rfl, _⟩ := h
    rfl
  · obtain ⟨S, d, v, n, rfl, hn, hv, q⟩ := h
    refine ⟨_, (pss_one (ps_ret (pe_and (pe_callB (k_isi K) (by rfl) T.z_isinstance bt_isinstance (pa_cons (pv 0) (pa_cons (pe_bltn (v := .ty "list") (by rfl) T.z_list bt_list rfl) pa_nil))) (pe_and (pe_cmpR op_eq (pe_callB (k_len K) (by rfl) T.z_len bt_len (pa_cons (pv 0) pa_nil)) (pv 1) (nomark _)) (pe_one (pe_callB (k_all K) (by rfl) T.z_all bt_all (pa_cons (pe_lc (own := [("block", 2)]) (g := (gName 2)) (tt := tYes) rfl sc_are_blocks.nd (k_piL K (pv 0)) (blkOk_by (N := N_are_blocks) (sc := defScope s_are_blocks) (by decide +kernel)) (fun _ _ _ _ _ => (pg_name (i := 2) sc_are_blocks.nd rfl (Or.inl rfl))) (fun _ _ _ _ _ => pts_nil) (fun _ _ _ _ _ => (pe_callB (k_isi K) (by rfl) T.z_isinstance bt_isinstance (pa_cons (pv 2) (pa_cons (pe_bltn (v := .ty "list") (by rfl) T.z_list bt_list rfl) pa_nil))))) pa_nil))))))), ?_⟩
    refine ⟨_, rfl, _, _, _, _, _, rfl, .ty _, tr_ty K hv, ki_list K _, _, rfl, ?_⟩
    cases d with
    | list ds =>
      obtain ⟨a, xs, rfl, sa, ha, hs⟩ := hv
      have hl := hs.len
      refine iteT ⟨_, rfl, a, _, rfl, .inl (SqL.of ha), _, rfl, rfl, _, rfl, ?_⟩
      by_cases e : ds.length = n
      · refine iteP (by rw [hl, e]) ?_
        refine ⟨_, rfl, a, rfl, ⟨_, SqL.of ha⟩, fun D nD => ?_⟩
        refine lc_list (xs := xs) (fun i H' => Same H H' ∧ H' D = some (.lst (((ds.map isLs).take i).map V.bl))) ⟨same_upd nD, upd_same⟩ (fun i H' _ h => h.1.seq (SqL.of ha)) (fun i x H' hx h => ?_) (fun H' h => ?_)
        · obtain ⟨dx, hdx, tx⟩ := hs.get hx
          have hi := (List.getElem?_eq_some_iff.mp hx).1
          refine ⟨rfl, _, rfl, _, _, _, _, _, rfl, .ty _, tr_ty K (tx.same h.1), ki_list K _, _, h.2, ?_, same_new h.1 nD, ?_⟩
          · rw [List.length_map, List.length_take]
            exact small1000 (by omega)
          · rw [upd_same, List.take_add_one, List.getElem?_map, hdx, List.map_append]
            rfl
        · rw [hl, ← List.length_map (f := isLs), List.take_length] at h
          refine ⟨D, _, rfl, SqL.of h.2, ?_⟩
          have e2 : areBl n (.list ds) = (ds.map isLs).all id := by
            show (decide (ds.length = n) && ds.all isLs) = _
            rw [decide_eq_true e, Bool.true_and, List.all_map]
            rfl
          rw [← e2]
          exact q _ h.1
      · refine iteN (fun z => e (by have := V.int.inj z; omega)) ?_
        have e2 : areBl n (.list ds) = false := by
          show (decide (ds.length = n) && ds.all isLs) = _
          rw [decide_eq_false e, Bool.false_and]
        rw [← e2]
        exact q _ (Same.refl _)
    | _ => exact q _ (Same.refl _)
def sp_is_call : Sp := fun vs H Q _ => ∃ (S : Addr → Prop) (ds : List PyData) (v : V) (n : Int), vs = [v, .int n] ∧ Tr S H (.tuple ds) v ∧ ∀ H', Same H H' → Q (.bl (callOk n ds)) H'
theorem ok_is_call (T : Top w K mg) : FnOk P w K mg base CX0 4 T.a_is_call T.d_is_call ["thing", "procedures"] sp_is_call := by
  refine T.F_is_call.ok sc_is_call (fun vs H Q E h => ?_) (fun cdv A outer s H vs Q E hr h => ?_)
  · obtain ⟨S, ds, v, n, rfl, _⟩ := h
    rfl
  · obtain ⟨S, ds, v, n, rfl, hv, q⟩ := h
    refine ⟨_, (pss_cons (ps_if (pt_cmpR op_ne (pe_callB (k_len K) (by rfl) T.z_len bt_len (pa_cons (pv 0) pa_nil)) pe_int (nomark _)) (pss_one (ps_ret pe_bl)) pss_nil)
      (pss_cons (ps_asg (pv 0) (pg_tup rfl (pgs_cons (pg_name (i := 2) sc_is_call.nd rfl (Or.inl rfl)) (pgs_cons (pg_name (i := 3) sc_is_call.nd rfl (Or.inl rfl)) (pgs_cons (pg_name (i := 4) sc_is_call.nd rfl (Or.inl rfl)) (pgs_cons (pg_name (i := 5) sc_is_call.nd rfl (Or.inl rfl)) pgs_nil))))))
      (pss_one (ps_ret (pe_and (pe_call (ok_is_index T) hr (by rfl) T.g_is_index T.F_is_index.kp (b_is_index T) .nil pass0 (pa_cons (pv 3) (pa_cons (pv 1) pa_nil))) (pe_and (pe_callB (k_isi K) (by rfl) T.z_isinstance bt_isinstance (pa_cons (pv 4) (pa_cons (pe_bltn (v := .ty "bool") (by rfl) T.z_bool bt_bool rfl) pa_nil))) (pe_one (pe_call (ok_are_blocks T) (hr.mono (by decide)) (by rfl) T.g_are_blocks T.F_are_blocks.kp (b_are_blocks T) .nil pass0 (pa_cons (pv 5) (pa_cons pe_int pa_nil)))))))))), ?_⟩
    obtain ⟨a, xs, rfl, ha, hs⟩ := hv
    have hl := hs.len
    refine ⟨_, rfl, a, _, rfl, .inr (SqT.of ha), rfl, _, rfl, ?_⟩
    by_cases e : ds.length = 4
    · refine iteNS (by rw [hl, e]; rfl) ?_
      match ds, e, hs with
      | [d0, d1, d2, d3], _, ⟨x0, _, e0, t0, x1, _, e1, t1, x2, _, e2, t2, x3, _, e3, t3, e4⟩ =>
        subst e4 e3 e2 e1 e0
        refine ⟨_, rfl, a, _, rfl, SqT.of ha, rfl, _, _, rfl, _, _, rfl, _, _, rfl, _, _, rfl, rfl, ?_⟩
        refine ⟨_, rfl, _, rfl, S, d1, x1, n, rfl, t1, fun H1 s1 => ⟨_, rfl, ?_⟩⟩
        cases c1 : inD d1 (0, n - 1)
        · have e : callOk n [d0, d1, d2, d3] = false := by simp [callOk, c1]
          have q := q _ s1
          rw [e] at q
          exact q
        · refine iteT ⟨_, rfl, _, _, _, _, _, rfl, .ty _, tr_ty K (t2.same s1), ki_bool K _, _, rfl, ?_⟩
          cases c2 : isBl d2
          · have e : callOk n [d0, d1, d2, d3] = false := by simp [callOk, c2]
            have q := q _ s1
            rw [e] at q
            exact q
          · refine iteT ⟨_, rfl, S, d3, x3, 2, rfl, by decide, t3.same s1, fun H2 s2 => ?_⟩
            have e : callOk n [d0, d1, d2, d3] = areBl 2 d3 := by simp [callOk, c1, c2]
            rw [← e]
            exact q _ (s1.trans s2)
    · refine iteNN (fun z => e (by have := V.int.inj z; omega)) ?_
      have e2 : callOk n ds = false := by
        unfold callOk
        split
        · exact absurd rfl e
        · rfl
      rw [← e2]
      exact q _ (Same.refl _)
def sp_is_statement : Sp := fun vs H Q _ => ∃ (S : Addr → Prop) (d : PyData) (v : V) (level n : Int), vs = [v, .int level, .int n] ∧ Tr S H d v ∧ WordOk d ∧ (∀ x r, d = .tuple (x :: r) → SeqAt.shaped x = true) ∧ ∀ H', Same H H' → Q (.bl (stOk level n d)) H'
set_option maxHeartbeats 1000000 in
theorem ok_is_statement (T : Top w K mg) : FnOk P w K mg base CX0 5 T.a_is_statement T.d_is_statement ["thing", "level", "procedures"] sp_is_statement := by
  refine T.F_is_statement.ok sc_is_statement (fun vs H Q E h => ?_) (fun cdv A outer s H vs Q E hr h => ?_)
  · obtain ⟨S, d, v, l, n, rfl, _⟩ := h
    rfl
  · obtain ⟨S, d, v, l, n, rfl, hv, hw, hx, q⟩ := h
    refine ⟨_, (pss_cons (ps_if (pt_val (pe_call (ok_is_command T) (hr.mono (by decide)) (by rfl) T.g_is_command T.F_is_command.kp (b_is_command T) .nil pass0 (pa_cons (pv 0) pa_nil))) (pss_one (ps_ret pe_bl)) pss_nil)
      (pss_cons (ps_if (PW.pt (pw_or (pt_not (pt_val (pe_callB (k_isi K) (by rfl) T.z_isinstance bt_isinstance (pa_cons (pv 0) (pa_cons (pe_bltn (v := .ty "tuple") (by rfl) T.z_tuple bt_tuple rfl) pa_nil))))) (pw_or1 (pt_cmpR op_eq (pe_callB (k_len K) (by rfl) T.z_len bt_len (pa_cons (pv 0) pa_nil)) pe_int (nomark _))))) (pss_one (ps_ret pe_bl)) pss_nil)
      (pss_cons (ps_set (i := 3) sc_is_statement.nd rfl (Or.inl rfl) (pe_ix (k_ixT K) (pv 0) pe_int (fun _ _ => rfl)))
      (pss_cons (ps_if (pt_cmpR (op_eqD (hu64 hr)) (pv 3) pe_str (nomark _)) (pss_one (ps_ret (pe_and (pe_cmpR op_eq (pe_callB (k_len K) (by rfl) T.z_len bt_len (pa_cons (pv 0) pa_nil)) pe_int (nomark _)) (pe_one (pe_call (ok_is_bit T) (hr.mono (by decide)) (by rfl) T.g_is_bit T.F_is_bit.kp (b_is_bit T) .nil pass0 (pa_cons (pe_ix (k_ixT K) (pv 0) pe_int (fun _ _ => rfl)) pa_nil)))))) pss_nil)
      (pss_cons (ps_if (pt_cmpR op_eq (pv 1) (C8.pe_gc rfl T.c_DEEPEST_LEVEL) (nomark _)) (pss_one (ps_ret pe_bl)) pss_nil)
      (pss_cons (ps_if (pt_cmpR (op_eqD (hu64 hr)) (pv 3) pe_str (nomark _)) (pss_one (ps_ret (pe_call (ok_is_call T) hr (by rfl) T.g_is_call T.F_is_call.kp (b_is_call T) .nil pass0 (pa_cons (pv 0) (pa_cons (pv 2) pa_nil))))) pss_nil)
      (pss_cons (ps_if (pt_cmpR (op_eqD (hu64 hr)) (pv 3) pe_str (nomark _)) (pss_one (ps_ret (pe_call (ok_are_blocks T) (hr.mono (by decide)) (by rfl) T.g_are_blocks T.F_are_blocks.kp (b_are_blocks T) .nil pass0 (pa_cons (pe_callTy (k_list K) (by rfl) T.z_list bt_list (pa_cons (pe_slice (k_slT K) (pv 0) (po_some pe_int) po_none) pa_nil)) (pa_cons pe_int pa_nil))))) pss_nil)
      (pss_one (ps_ret (pe_and (pe_cmpR (k_inDT K (hu65 hr)) (pv 3) (pe_tup (pa_cons pe_str (pa_cons pe_str pa_nil))) rfl) (pe_one (pe_call (ok_are_blocks T) (hr.mono (by decide)) (by rfl) T.g_are_blocks T.F_are_blocks.kp (b_are_blocks T) .nil pass0 (pa_cons (pe_callTy (k_list K) (by rfl) T.z_list bt_list (pa_cons (pe_slice (k_slT K) (pv 0) (po_some pe_int) po_none) pa_nil)) (pa_cons pe_int pa_nil)))))))))))))), ?_⟩
    refine ⟨_, rfl, S, d, v, rfl, hv, hw, fun H1 s1 => ⟨_, rfl, ?_⟩⟩
    cases c : cmdOk d
    · refine iteF ?_
      have hv1 := hv.same s1
      have e0 : stOk l n d = stRest l n d := by
        unfold stOk
        rw [c, Bool.false_or]
      refine ⟨_, rfl, _, _, _, _, _, rfl, .ty _, tr_ty K hv1, ki_tuple K _, _, rfl, ?_⟩
      rw [e0] at q
      cases d with
      | tuple ds =>
        obtain ⟨a, xs, rfl, ha, hs⟩ := hv1
        refine iteF ?_
        cases ds with
        | nil =>
          cases hs
          exact ⟨_, rfl, _, _, rfl, .inr (SqT.of ha), rfl, _, rfl, iteP rfl (q _ s1)⟩
        | cons x ns =>
          obtain ⟨y, r, rfl, hy, hr2⟩ := hs
          have hsx := hx x ns rfl
          have e1 : stRest l n (.tuple (x :: ns)) = (if PyData.eqv x (.str "end") then endOk ns
            else if l = 3 then false
            else if PyData.eqv x (.str "call") then callOk n (x :: ns)
            else if PyData.eqv x (.str "either") then areBlT 2 ns
            else (PyData.eqv x (.str "keep") || PyData.eqv x (.str "again")) && areBlT 1 ns) := rfl
          rw [e1] at q
          clear hx hv e0 e1 hw
          refine ⟨_, rfl, a, _, rfl, .inr (SqT.of ha), rfl, _, rfl, iteN (fun e => ?_) ?_⟩
          · have := V.int.inj e
            rw [List.length_cons] at this
            omega
          refine ⟨_, rfl, a, _, 0, y, rfl, rfl, SqT.of ha, at_of (j := 0) (by decide) rfl, ?_⟩
          refine ⟨_, rfl, x, .str "end", Tr.dp x y (canOf hsx) hy, .str _, hsx, sh_str (by decide +kernel), _, rfl, ?_⟩
          have lr := hr2.len
          refine ifB (fun c1 => ?_) (fun c1 => ?_)
          · rw [if_pos c1] at q
            refine ⟨_, rfl, a, _, rfl, .inr (SqT.of ha), rfl, _, rfl, ?_⟩
            match ns, r, hr2, lr with
            | [z], [u], ⟨_, _, e1, tz, e2⟩, _ =>
              cases e1
              refine iteP rfl ⟨_, rfl, a, _, 1, u, rfl, rfl, SqT.of ha, at_of (j := 1) (by decide) rfl, S, z, u, rfl, tz, fun H2 s2 => q _ (s1.trans s2)⟩
            | [], r, _, lr =>
              refine iteN (fun e => ?_) (q _ s1)
              have := V.int.inj e
              rw [List.length_cons, lr] at this
              cases this
            | _ :: _ :: ns', r, _, lr =>
              refine iteN (fun e => ?_) (q _ s1)
              have := V.int.inj e
              rw [List.length_cons, lr, List.length_cons, List.length_cons] at this
              omega
          · rw [if_neg (by rw [c1]; exact Bool.false_ne_true)] at q
            refine ⟨_, rfl, rfl, _, rfl, ite2 (fun c2 => ?_) (fun c2 => ?_)⟩
            · rw [if_pos (dec_int' c2)] at q
              exact q _ s1
            · rw [if_neg (dec_int c2)] at q
              refine ⟨_, rfl, x, .str "call", Tr.dp x y (canOf hsx) hy, .str _, hsx, sh_str (by decide +kernel), _, rfl, ?_⟩
              refine ifB (fun c3 => ?_) (fun c3 => ?_)
              · rw [if_pos c3] at q
                exact ⟨_, rfl, _, rfl, S, x :: ns, .ref a, n, rfl, ⟨a, _, rfl, ha, y, r, rfl, hy, hr2⟩, fun H2 s2 => q _ (s1.trans s2)⟩
              · rw [if_neg (by rw [c3]; exact Bool.false_ne_true)] at q
                refine ⟨_, rfl, x, .str "either", Tr.dp x y (canOf hsx) hy, .str _, hsx, sh_str (by decide +kernel), _, rfl, ?_⟩
                have slice : ∀ (k : Nat) {p2 : V → Hp → Prop}, k ≤ 100 → (∀ H', Same H1 H' → p2 (.bl (areBlT k ns)) H') → ∀ t, H1 t = none → ∀ l, (upd H1 t (.tup (cutV (y :: r) (some 1) none))) l = none → ∃ (S : Addr → Prop) (d : PyData) (v : V) (n : Nat), [V.ref l, V.int (k : Int)] = [v, .int n] ∧ n ≤ 100 ∧ Tr S (upd (upd H1 t (.tup (cutV (y :: r) (some 1) none))) l (.lst (cutV (y :: r) (some 1) none))) d v ∧ ∀ H', Same (upd (upd H1 t (.tup (cutV (y :: r) (some 1) none))) l (.lst (cutV (y :: r) (some 1) none))) H' → p2 (.bl (areBl n d)) H' := by
                  intro k p2 hk hp t nt l nl
                  have s2 := same_upd (o := .tup (cutV (y :: r) (some 1) none)) nt
                  have s3 := s2.trans (same_upd (o := .lst (cutV (y :: r) (some 1) none)) nl)
                  refine ⟨fun _ => True, .list ns, .ref l, k, rfl, hk, ⟨l, r, rfl, True.intro, by rw [upd_same, cut_from1], (TrAll.mono (S' := fun _ => True) (fun _ _ => True.intro) _ _ hr2).same s3⟩, fun H' s4 => hp _ (s3.trans s4)⟩
                refine ifB (fun c4 => ?_) (fun c4 => ?_)
                · rw [if_pos c4] at q
                  refine ⟨_, rfl, _, rfl, a, _, rfl, SqT.of ha, cut_ne1, fun t nt => ⟨t, _, rfl, .inr (SqT.of upd_same), fun l nl => ?_⟩⟩
                  exact slice 2 (by decide) (fun H' s => q _ (s1.trans s)) t nt l nl
                · rw [if_neg (by rw [c4]; exact Bool.false_ne_true)] at q
                  refine ⟨_, rfl, small100 (n := 2) (by decide), fun t0 nt0 => ?_⟩
                  have s0 := same_upd (o := .tup [V.str "keep", V.str "again"]) nt0
                  have ht0 : (upd H1 t0 (.tup [V.str "keep", V.str "again"])) t0 = some (.tup [V.str "keep", V.str "again"]) := upd_same
                  generalize upd H1 t0 (.tup [V.str "keep", V.str "again"]) = H2 at *
                  refine ⟨x, [.str "keep", .str "again"], Tr.dp x y (canOf hsx) (hy.same s0), .tup (SqT.of ht0) (dp_strs ["keep", "again"]), hsx, sh_strs (ss := ["keep", "again"]) (by decide +kernel), _, rfl, ?_⟩
                  have ea : ([PyData.str "keep", PyData.str "again"].any fun z => PyData.eqv z x) = (PyData.eqv x (.str "keep") || PyData.eqv x (.str "again")) := by
                    show (PyData.eqv (.str "keep") x || (PyData.eqv (.str "again") x || false)) = _
                    rw [Bool.or_false, eqv_strC, eqv_strC]
                  rw [ea]
                  refine ifB (fun c5 => ?_) (fun c5 => ?_)
                  · rw [c5, Bool.true_and] at q
                    have ha2 := s0 _ _ ha
                    have hr3 := hr2.same s0
                    refine ⟨_, rfl, _, rfl, a, _, rfl, SqT.of ha2, cut_ne1, fun t nt => ⟨t, _, rfl, .inr (SqT.of upd_same), fun l nl => ?_⟩⟩
                    have s2 := same_upd (o := .tup (cutV (y :: r) (some 1) none)) nt
                    have s3 := s2.trans (same_upd (o := .lst (cutV (y :: r) (some 1) none)) nl)
                    exact ⟨fun _ => True, .list ns, .ref l, 1, rfl, by decide, ⟨l, r, rfl, True.intro, by rw [upd_same, cut_from1], (TrAll.mono (S' := fun _ => True) (fun _ _ => True.intro) _ _ hr3).same s3⟩, fun H' s4 => q _ ((s1.trans s0).trans (s3.trans s4))⟩
                  · rw [c5, Bool.false_and] at q
                    exact q _ (s1.trans s0)
      | _ => exact q _ s1
    · refine iteT ?_
      have e : stOk l n d = true := by
        unfold stOk
        rw [c, Bool.true_or]
      rw [← e]
      exact q _ s1

--SPLIT
section
variable (K : PySem.W.Frag) {X : Cx}
theorem k_inS (hK : X.K = K := by rfl) : OpR X (compareOp .In) (rIn K false) := hK ▸ op_in_seq
theorem k_notInS (hK : X.K = K := by rfl) : OpR X (compareOp .NotIn) (rIn K true) := hK ▸ op_notIn_seq
end
def sp_blocks_of : Sp := fun vs H Q _ => ∃ (S : Addr → Prop) (sw : Str) (r : List PyData) (v : V), vs = [v] ∧ Tr S H (.tuple (.str sw :: r)) v ∧ (sw = "call" → ∃ p q bs, r = [p, q, .list bs]) ∧
  ∀ (q : Addr) (ys : List V) (H' : Hp), Same H H' → (S q ∨ H q = none) → H' q = some (.lst ys) → TrAll S H' (blocksR sw r) ys → Q (.ref q) H'
theorem ok_blocks_of (T : Top w K mg) : FnOk P w K mg base CX0 1 T.a_blocks_of T.d_blocks_of ["statement"] sp_blocks_of := by
  refine T.F_blocks_of.ok sc_blocks_of (fun vs H Q E h => ?_) (fun cdv A outer s H vs Q E hr h => ?_)
  · obtain ⟨S, sw, r, v, rfl, _⟩ := h
    rfl
  · obtain ⟨S, sw, r, v, rfl, hv, hc, q⟩ := h
    obtain ⟨a, xs, rfl, ha, y, us, rfl, hy, hs⟩ := hv
    cases hy
    refine ⟨_, (pss_cons (ps_set (i := 1) sc_blocks_of.nd rfl (Or.inl rfl) (pe_ix (k_ixT K) (pv 0) pe_int (fun _ _ => rfl)))
      (pss_cons (ps_if (pt_cmpR op_eq (pv 1) pe_str (nomark _)) (pss_one (ps_ret (pe_ix (k_ixT K) (pv 0) pe_int (fun _ _ => rfl)))) pss_nil)
      (pss_cons (ps_if (pt_cmpR (k_inS K) (pv 1) (pe_tup (pa_cons pe_str (pa_cons pe_str (pa_cons pe_str pa_nil)))) rfl) (pss_one (ps_ret (pe_callTy (k_list K) (by rfl) T.z_list bt_list (pa_cons (pe_slice (k_slT K) (pv 0) (po_some pe_int) po_none) pa_nil)))) pss_nil)
      (pss_one (ps_ret (pe_lst pa_nil)))))), ?_⟩
    refine ⟨_, rfl, a, _, 0, _, rfl, rfl, SqT.of ha, at_of (j := 0) (by decide) rfl, ?_⟩
    refine ⟨_, rfl, rfl, _, rfl, ite2 (fun c => ?_) (fun c => ?_)⟩
    · have c : sw = "call" := V.str.inj (of_decide_eq_true c)
      obtain ⟨p, z, bs, rfl⟩ := hc c
      obtain ⟨x1, _, rfl, t1, x2, _, rfl, t2, x3, _, rfl, ⟨b, ys, rfl, sb, hb, tb⟩, rfl⟩ := hs
      refine ⟨_, rfl, a, _, 3, _, rfl, rfl, SqT.of ha, at_of (j := 3) (by decide) rfl, ?_⟩
      refine q b ys H (Same.refl _) (.inl sb) hb ?_
      rw [blocksR, if_pos c]
      exact tb
    · have c : ¬ sw = "call" := fun e => c (by rw [e]; exact decide_eq_true rfl)
      refine ⟨_, rfl, small100 (n := 3) (by decide), fun t nt => ?_⟩
      have s1 := same_upd (o := .tup [V.str "keep", V.str "either", V.str "again"]) nt
      have ht : (upd H t (.tup [V.str "keep", V.str "either", V.str "again"])) t = some (.tup [V.str "keep", V.str "either", V.str "again"]) := upd_same
      generalize upd H t (.tup [V.str "keep", V.str "either", V.str "again"]) = H1 at *
      refine ⟨t, _, rfl, .inr (SqT.of ht), rfl, rfl, _, rfl, ifB (fun c2 => ?_) (fun c2 => ?_)⟩
      · have hb : blocksR sw r = r := by
          rw [blocksR, if_neg c, if_pos (show isBlk sw = true from c2)]
        refine ⟨_, rfl, _, rfl, a, _, rfl, SqT.of (s1 _ _ ha), cut_ne1, fun u nu => ⟨u, _, rfl, .inr (SqT.of upd_same), fun l nl => ?_⟩⟩
        have s2 := same_upd (o := .tup (cutV (V.str sw :: us) (some 1) none)) nu
        have s3 := s2.trans (same_upd (o := .lst (cutV (V.str sw :: us) (some 1) none)) nl)
        exact q l us _ (s1.trans s3) (.inr ((s1.trans s2).free nl)) (by rw [upd_same, cut_from1]) (by rw [hb]; exact hs.same (s1.trans s3))
      · have hb : blocksR sw r = [] := by
          rw [blocksR, if_neg c, if_neg (by rw [show isBlk sw = false from c2]; exact Bool.false_ne_true)]
        refine ⟨small100 (n := 0) (by decide), fun l nl => ?_⟩
        exact q l [] _ (s1.trans (same_upd nl)) (.inr (s1.free nl)) upd_same (by rw [hb]; exact TrAll.nil)
def sp_with_blocks : Sp := fun vs H Q _ => ∃ (S S' : Addr → Prop) (z : Stm) (v : V) (b : Addr) (ys : List V), vs = [v, .ref b] ∧ Tr S H z.d v ∧ S' b ∧ H b = some (.lst ys) ∧ TrAll S' H (z.blocks.map bD) ys ∧
  ∀ (r : V) (H' : Hp), Same H H' → Tr S' H' z.d r → Q r H'
theorem ok_with_blocks (T : Top w K mg) : FnOk P w K mg base CX0 1 T.a_with_blocks T.d_with_blocks ["statement", "blocks"] sp_with_blocks := by
  refine T.F_with_blocks.ok sc_with_blocks (fun vs H Q E h => ?_) (fun cdv A outer s H vs Q E hr h => ?_)
  · obtain ⟨S, S', z, v, b, ys, rfl, _⟩ := h
    rfl
  · obtain ⟨S, S', z, v, b, ys, rfl, hv, sb, hb, tb, q⟩ := h
    rw [Stm.d_eq] at hv
    obtain ⟨a, xs, rfl, ha, y, us, rfl, hy, hs⟩ := hv
    cases hy
    refine ⟨_, (pss_cons (ps_set (i := 2) sc_with_blocks.nd rfl (Or.inl rfl) (pe_ix (k_ixT K) (pv 0) pe_int (fun _ _ => rfl)))
      (pss_cons (ps_if (pt_cmpR op_eq (pv 2) pe_str (nomark _)) (pss_one (ps_ret (pe_tup (k_star K (pe_slice (k_slT K) (pv 0) po_none (po_some pe_int)) (pa_cons (pv 1) pa_nil))))) pss_nil)
      (pss_cons (ps_if (pt_cmpR (k_inS K) (pv 2) (pe_tup (pa_cons pe_str (pa_cons pe_str (pa_cons pe_str pa_nil)))) rfl) (pss_one (ps_ret (pe_tup (pa_cons (pv 2) (k_star K (pv 1) pa_nil))))) pss_nil)
      (pss_one (ps_ret (pv 0)))))), ?_⟩
    refine ⟨_, rfl, a, _, 0, _, rfl, rfl, SqT.of ha, at_of (j := 0) (by decide) rfl, ?_⟩
    refine ⟨_, rfl, rfl, _, rfl, ite2 (fun c => ?_) (fun c => ?_)⟩
    · have c : z.word = "call" := V.str.inj (of_decide_eq_true c)
      cases z with
      | call p sv b0 b1 =>
        obtain ⟨x1, _, rfl, t1, x2, _, rfl, t2, x3, _, rfl, t3, rfl⟩ := hs
        cases t1
        cases t2
        refine ⟨_, rfl, _, rfl, a, _, rfl, SqT.of ha, cut_ne (n := 3) (xs := [V.str (Stm.call p sv b0 b1).word, V.int p, V.bl sv, x3]) (by show 3 < 4; decide), fun u nu => ⟨u, _, rfl, .inl (SqT.of upd_same), ?_⟩⟩
        have s1 := same_upd (o := .tup (cutV [V.str (Stm.call p sv b0 b1).word, V.int p, V.bl sv, x3] none (some 3))) nu
        refine ⟨_, rfl, ?_⟩
        rw [show cutV [V.str (Stm.call p sv b0 b1).word, V.int p, V.bl sv, x3] none (some 3) = [V.str "call", V.int p, V.bl sv] from cut_to (n := 3)] at *
        refine ⟨small100 (n := 4) (by decide), fun t nt => ?_⟩
        have s2 := s1.trans (same_upd (o := .tup [V.str "call", V.int p, V.bl sv, V.ref b]) nt)
        refine q _ _ s2 ?_
        refine ⟨t, _, rfl, upd_same, .cons rfl (.cons rfl (.cons rfl (.cons ?_ .nil)))⟩
        exact ⟨b, ys, rfl, sb, s2 _ _ hb, tb.same s2⟩
      | cmd c' => exact absurd c (cm_call c')
      | fin w => exact absurd c (show ¬ ("end" : Str) = "call" by decide +kernel)
      | keep w => exact absurd c (show ¬ ("keep" : Str) = "call" by decide +kernel)
      | again w => exact absurd c (show ¬ ("again" : Str) = "call" by decide +kernel)
      | either w z => exact absurd c (show ¬ ("either" : Str) = "call" by decide +kernel)
    · have c : ¬ z.word = "call" := fun e => c (by rw [e]; exact decide_eq_true rfl)
      refine ⟨_, rfl, small100 (n := 3) (by decide), fun t nt => ?_⟩
      have s1 := same_upd (o := .tup [V.str "keep", V.str "either", V.str "again"]) nt
      have ht : (upd H t (.tup [V.str "keep", V.str "either", V.str "again"])) t = some (.tup [V.str "keep", V.str "either", V.str "again"]) := upd_same
      generalize upd H t (.tup [V.str "keep", V.str "either", V.str "again"]) = H1 at *
      refine ⟨t, _, rfl, .inr (SqT.of ht), rfl, rfl, _, rfl, ifB (fun c2 => ?_) (fun c2 => ?_)⟩
      · have hz : z.rest = z.blocks.map bD := by
          have := blocksR_d z
          rw [blocksR, if_neg c, if_pos (show isBlk z.word = true from c2)] at this
          exact this
        have hl := tb.len
        have hl2 := z.rest_len
        rw [← hz] at hl tb
        refine ⟨_, rfl, _, rfl, b, _, rfl, .inr (SqL.of (s1 _ _ hb)), ?_⟩
        refine ⟨small100 (n := (V.str z.word :: (ys ++ [])).length) (by rw [List.append_nil, List.length_cons]; omega), fun u nu => ?_⟩
        rw [List.append_nil] at *
        have s2 := s1.trans (same_upd (o := .tup (V.str z.word :: ys)) nu)
        refine q _ _ s2 ?_
        rw [Stm.d_eq]
        exact ⟨u, _, rfl, upd_same, .cons rfl (tb.same s2)⟩
      · refine ⟨_, rfl, q _ _ s1 ?_⟩
        rw [Stm.d_eq]
        have flat : ∀ {us : List V}, TrAll S H z.rest us → TrAll S' H1 z.rest us := by
          intro us hs
          cases z with
          | cmd c' =>
            have hs : TrAll S H (c'.nums.map PyData.int) us := hs
            rw [hs.ints]
            exact TrAll.ofInts c'.nums
          | fin w' =>
            obtain ⟨x, r', rfl, t, rfl⟩ := hs
            exact ⟨x, [], rfl, t, rfl⟩
          | call p sv b0 b1 => exact absurd rfl c
          | keep b0 => exact absurd (show isBlk "keep" = true by decide +kernel) (by rw [show isBlk "keep" = false from c2]; exact Bool.false_ne_true)
          | again b0 => exact absurd (show isBlk "again" = true by decide +kernel) (by rw [show isBlk "again" = false from c2]; exact Bool.false_ne_true)
          | either b0 b1 => exact absurd (show isBlk "either" = true by decide +kernel) (by rw [show isBlk "either" = false from c2]; exact Bool.false_ne_true)
        exact ⟨a, _, rfl, s1 _ _ ha, .cons rfl (flat hs)⟩

/-! ### copies -/
def sp_copied (n : Nat) : Sp := fun vs H Q _ => ∃ (S : Addr → Prop) (b : List Stm) (v : V) (many l : Nat), vs = [v] ∧ Tr S H (bD b) v ∧ b.length ≤ 8 ∧ okB many b l ∧ l ≤ 3 ∧ 4 ≤ l + n ∧
  ∀ (r : V) (H' : Hp), Same H H' → Tr (New H) H' (bD b) r → Q r H'
def sp_copied_statement (n : Nat) : Sp := fun vs H Q _ => ∃ (S : Addr → Prop) (z : Stm) (v : V) (many l : Nat), vs = [v] ∧ Tr S H z.d v ∧ z.ok many l ∧ 3 ≤ l + n ∧
  ∀ (r : V) (H' : Hp), Same H H' → Tr (New H) H' z.d r → Q r H'
/-- what a statement's blocks are -/
theorem ok_block {many : Nat} {z : Stm} {l : Nat} (h : z.ok many l) {b : List Stm} (hb : b ∈ z.blocks) : l < 3 ∧ b.length ≤ 8 ∧ okB many b (l + 1) := by
  cases z with
  | cmd c => cases hb
  | fin w => cases hb
  | keep c => cases List.mem_singleton.mp hb; exact h
  | again c => cases List.mem_singleton.mp hb; exact h
  | either c d =>
    rcases List.mem_cons.mp hb with rfl | hb
    · exact ⟨h.1, h.2.1⟩
    · cases List.mem_singleton.mp hb
      exact ⟨h.1, h.2.2⟩
  | call p s c d =>
    rcases List.mem_cons.mp hb with rfl | hb
    · exact ⟨h.1, h.2.2.1⟩
    · cases List.mem_singleton.mp hb
      exact ⟨h.1, h.2.2.2⟩
theorem blocks_len (z : Stm) : z.blocks.length ≤ 2 := by cases z <;> simp [Stm.blocks]
theorem get_blocks {z : Stm} {i : Nat} {d : PyData} (h : (z.blocks.map bD)[i]? = some d) : ∃ b, z.blocks[i]? = some b ∧ b ∈ z.blocks ∧ d = bD b := by
  rw [List.getElem?_map] at h
  cases e : z.blocks[i]? with
  | none => rw [e] at h; cases h
  | some b => rw [e] at h; cases h; exact ⟨b, rfl, List.mem_of_getElem? e, rfl⟩
theorem ok_cs (T : Top w K mg) (n : Nat) (G_copied : FnOk P w K mg base CX0 (2 * n + 2) T.a_copied T.d_copied ["block"] (sp_copied n)) :
    FnOk P w K mg base CX0 (2 * n + 3) T.a_copied_statement T.d_copied_statement ["statement"] (sp_copied_statement n) := by
  refine T.F_copied_statement.ok sc_copied_statement (fun vs H Q E h => ?_) (fun cdv A outer s H vs Q E hr h => ?_)
  · obtain ⟨S, z, v, many, l, rfl, _⟩ := h
    rfl
  · obtain ⟨S, z, v, many, l, rfl, hv, ho, hl, q⟩ := h
    refine ⟨_, (pss_one (ps_ret (pe_call (ok_with_blocks T) (hr.mono (by omega)) (by rfl) T.g_with_blocks T.F_with_blocks.kp (b_with_blocks T) .nil pass0 (pa_cons (pv 0) (pa_cons (pe_lc (own := [("block", 1)]) (g := (gName 1)) (tt := tYes) rfl sc_copied_statement.nd (k_piL K (pe_call (ok_blocks_of T) (hr.mono (by omega)) (by rfl) T.g_blocks_of T.F_blocks_of.kp (b_blocks_of T) .nil pass0 (pa_cons (pv 0) pa_nil))) (blkOk_by (N := N_copied_statement) (sc := defScope s_copied_statement) (by decide +kernel)) (fun _ _ _ _ _ => (pg_name (i := 1) sc_copied_statement.nd rfl (Or.inl rfl))) (fun _ _ _ _ _ => pts_nil) (fun _ _ _ _ _ => (pe_call G_copied (hr.mono (by omega)) (by rfl) T.g_copied T.F_copied.kp (b_copied T) .nil pass0 (pa_cons (pv 1) pa_nil)))) pa_nil))))), ?_⟩
    refine ⟨_, rfl, _, rfl, S, z.word, z.rest, v, rfl, by rw [← Stm.d_eq]; exact hv, fun e => Stm.rest_call e, fun a ys H1 s1 _ ha hs => ?_⟩
    rw [blocksR_d] at hs
    have hl2 := hs.len
    have hl3 := blocks_len z
    rw [List.length_map] at hl2
    refine ⟨a, rfl, ⟨_, SqL.of ha⟩, fun D nD => ?_⟩
    refine lc_list (xs := ys) (fun i H' => Bld H1 D ((z.blocks.map bD).take i) H') (Bld.nil nD) (fun i H' _ h => h.1.seq (SqL.of ha)) (fun i x H' hx h => ?_) (fun H' h => ?_)
    · obtain ⟨d, hd, tx⟩ := hs.get hx
      obtain ⟨b, hb, mb, rfl⟩ := get_blocks hd
      obtain ⟨o1, o2, o3⟩ := ok_block ho mb
      refine ⟨rfl, _, rfl, S, b, x, many, l + 1, rfl, tx.same h.1, o2, o3, by omega, by omega, fun r H2 s2 tr => ?_⟩
      obtain ⟨zs, hD, lz, m⟩ := h.push nD s2 tr
      have hi := (List.getElem?_eq_some_iff.mp hx).1
      refine ⟨zs, hD, ?_, ?_⟩
      · rw [lz, List.length_take]
        exact small1000 (by omega)
      · rw [List.take_add_one, hd]
        exact m
    · rw [hl2, ← List.length_map (f := bD), List.take_length] at h
      obtain ⟨zs, hD, lz⟩ := h.len
      have st := s1.trans h.1
      obtain ⟨_, zs', e', sD, hD', tz⟩ := h.done nD
      cases e'
      refine ⟨S, New H, z, v, D, zs', rfl, hv.same st, s1.free nD, hD', tz.newer s1, fun r H2 s2 tr => ?_⟩
      exact q r H2 (st.trans s2) tr
theorem ok_cp (T : Top w K mg) (n : Nat) (G_copied_statement : FnOk P w K mg base CX0 (2 * n + 3) T.a_copied_statement T.d_copied_statement ["statement"] (sp_copied_statement n)) :
    FnOk P w K mg base CX0 (2 * n + 4) T.a_copied T.d_copied ["block"] (sp_copied (n + 1)) := by
  refine T.F_copied.ok sc_copied (fun vs H Q E h => ?_) (fun cdv A outer s H vs Q E hr h => ?_)
  · obtain ⟨S, z, v, many, l, rfl, _⟩ := h
    rfl
  · obtain ⟨S, b, v, many, l, rfl, hv, h8, ho, hl3, hl, q⟩ := h
    refine ⟨_, (pss_one (ps_ret (pe_lc (own := [("statement", 1)]) (g := (gName 1)) (tt := tYes) rfl sc_copied.nd (k_piL K (pv 0)) (blkOk_by (N := N_copied) (sc := defScope s_copied) (by decide +kernel)) (fun _ _ _ _ _ => (pg_name (i := 1) sc_copied.nd rfl (Or.inl rfl))) (fun _ _ _ _ _ => pts_nil) (fun _ _ _ _ _ => (pe_call G_copied_statement (hr.mono (by omega)) (by rfl) T.g_copied_statement T.F_copied_statement.kp (b_copied_statement T) .nil pass0 (pa_cons (pv 1) pa_nil)))))), ?_⟩
    obtain ⟨a, ys, rfl, sa, ha, hs⟩ := hv
    have hl2 := hs.len
    rw [blkD_len] at hl2
    refine ⟨_, rfl, a, rfl, ⟨_, SqL.of ha⟩, fun D nD => ?_⟩
    refine lc_list (xs := ys) (fun i H' => Bld H D ((blkD b).take i) H') (Bld.nil nD) (fun i H' _ h => h.1.seq (SqL.of ha)) (fun i x H' hx h => ?_) (fun H' h => ?_)
    · obtain ⟨d, hd, tx⟩ := hs.get hx
      obtain ⟨z, hz, rfl⟩ := blkD_get hd
      refine ⟨rfl, _, rfl, S, z, x, many, l, rfl, tx.same h.1, okB_get ho hz, by omega, fun r H2 s2 tr => ?_⟩
      obtain ⟨zs, hD, lz, m⟩ := h.push nD s2 tr
      have hi := (List.getElem?_eq_some_iff.mp hx).1
      refine ⟨zs, hD, ?_, ?_⟩
      · rw [lz, List.length_take]
        exact small1000 (by omega)
      · rw [List.take_add_one, hd]
        exact m
    · rw [hl2, ← blkD_len, List.take_length] at h
      exact q _ _ h.1 (h.done nD)
theorem none_copied (T : Top w K mg) : FnOk P w K mg base CX0 2 T.a_copied T.d_copied ["block"] (sp_copied 0) := by
  have no : ∀ vs H Q E, ¬ sp_copied 0 vs H Q E := fun vs H Q E ⟨_, _, _, _, l, _, _, _, _, h1, h2, _⟩ => by omega
  exact ⟨fun vs H Q E h => absurd h (no vs H Q E), fun A outer s H args us vs Q E _ _ _ _ h => absurd h (no vs H Q E)⟩
theorem all_copied (T : Top w K mg) : ∀ n : Nat, FnOk P w K mg base CX0 (2 * n + 2) T.a_copied T.d_copied ["block"] (sp_copied n)
  | 0 => none_copied T
  | n + 1 => ok_cp T n (ok_cs T n (all_copied T n))
theorem ok_copied (T : Top w K mg) : FnOk P w K mg base CX0 10 T.a_copied T.d_copied ["block"] (sp_copied 4) := all_copied T 4

--SPLIT
/-! ### a good book is accepted -/
def sp_check_block (K : PySem.W.Frag) (n : Nat) : Sp := fun vs H Q _ => ∃ (S : Addr → Prop) (b : List Stm) (v : V) (many l rd : Nat) (pr : Int) (t : Addr) (ps : List V), vs = [v, .int pr, .ref t, .int rd, .int many] ∧ Tr S H (bD b) v ∧ b.length ≤ 8 ∧ okB many b l ∧ l ≤ 3 ∧ 4 ≤ l + n ∧
  H t = some (.tup ps) ∧ ps.length = 2 * l ∧ rd + cntB b ≤ 12 ∧ ∀ H', Same H H' → Q (.int ((rd + cntB b : Nat) : Int)) H'
theorem ok_check_step (T : Top w K mg) (n : Nat) (G_check_block : FnOk P w K mg base CX0 (n + 6) T.a_check_block T.d_check_block ["block", "procedure", "ahead", "read", "procedures"] (sp_check_block K n)) :
    FnOk P w K mg base CX0 (n + 7) T.a_check_block T.d_check_block ["block", "procedure", "ahead", "read", "procedures"] (sp_check_block K (n + 1)) := by
  refine T.F_check_block.ok sc_check_block (fun vs H Q E h => ?_) (fun cdv A outer s H vs Q E hr h => ?_)
  · obtain ⟨S, b, v, many, l, rd, pr, t, ps, rfl, _⟩ := h
    rfl
  · obtain ⟨S, b, v, many, l, rd, pr, t, ps, rfl, hv, h8, ho, hl3, hln, ht, hps, hc, q⟩ := h
    refine ⟨_, (pss_cons (ps_for PassesOwn.never rfl (pi_enum (by rfl) T.z_enumerate (pa_cons (pv 0) pa_nil)) (pg_tup rfl (pgs_cons (pg_name (i := 5) sc_check_block.nd rfl (Or.inl rfl)) (pgs_cons (pg_name (i := 6) sc_check_block.nd rfl (Or.inl rfl)) pgs_nil))) (pss_cons (ps_set (i := 7) sc_check_block.nd rfl (Or.inl rfl) (pe_tup (k_star K (pv 2) (pa_cons (pv 5) pa_nil))))
        (pss_cons (ps_set (i := 3) sc_check_block.nd rfl (Or.inl rfl) (pe_op op_add (pv 3) pe_int))
        (pss_cons (ps_if (PW.pt (pw_or (pt_cmpR op_eq (pv 5) (C8.pe_gc rfl T.c_MOST_IN_A_LIST) (nomark _)) (pw_or1 (pt_cmpR op_gt (pv 3) (C8.pe_gc rfl T.c_MOST_IN_A_PROCEDURE) (nomark _))))) (pss_one ps_never) pss_nil)
        (pss_cons (ps_if (pt_not (pt_val (pe_call (ok_is_statement T) (hr.mono (by omega)) (by rfl) T.g_is_statement T.F_is_statement.kp (b_is_statement T) .nil pass0 (pa_cons (pv 6) (pa_cons (pe_op op_fdiv (pe_callB (k_len K) (by rfl) T.z_len bt_len (pa_cons (pv 7) pa_nil)) pe_int) (pa_cons (pv 4) pa_nil)))))) (pss_one ps_never) pss_nil)
        (pss_one (ps_for PassesOwn.never rfl (pi_enum (by rfl) T.z_enumerate (pa_cons (pe_call (ok_blocks_of T) (hr.mono (by omega)) (by rfl) T.g_blocks_of T.F_blocks_of.kp (b_blocks_of T) .nil pass0 (pa_cons (pv 6) pa_nil)) pa_nil)) (pg_tup rfl (pgs_cons (pg_name (i := 8) sc_check_block.nd rfl (Or.inl rfl)) (pgs_cons (pg_name (i := 9) sc_check_block.nd rfl (Or.inl rfl)) pgs_nil))) (pss_one (ps_set (i := 3) sc_check_block.nd rfl (Or.inl rfl) (pe_call G_check_block (hr.mono (by omega)) (by rfl) T.g_check_block T.F_check_block.kp (b_check_block T) .nil pass0 (pa_cons (pv 9) (pa_cons (pv 1) (pa_cons (pe_tup (k_star K (pv 7) (pa_cons (pv 8) pa_nil))) (pa_cons (pv 3) (pa_cons (pv 4) pa_nil)))))))))))))))
      (pss_one (ps_ret (pv 3)))), ?_⟩
    obtain ⟨a, ys, rfl, sa, ha, hs⟩ := hv
    have hl2 := hs.len
    rw [blkD_len] at hl2
    refine ⟨_, rfl, a, ys, rfl, SqL.of ha, ?_⟩
    refine for_it (walk_enum (xs := ys)) (fun i σ H' => ∃ y5 y6 y7 y8 y9, σ = [some (.ref a), some (.int pr), some (.ref t), some (.int ((rd + cntB (b.take i) : Nat) : Int)), some (.int many), y5, y6, y7, y8, y9] ∧ Same H H') ⟨none, none, none, none, none, rfl, Same.refl _⟩ (fun i σ H' _ h => ?_) (fun i x σ H' H2 hi h y => ?_) (fun σ H' h => ?_)
    · obtain ⟨_, _, _, _, _, _, sm⟩ := h
      exact SqL.of (sm _ _ ha)
    · obtain ⟨y5, y6, y7, y8, y9, rfl, sm⟩ := h
      obtain ⟨u, x, y, rfl, nu, rfl, hx, hy⟩ := y
      cases hx
      have hy : ys[i]? = some y := hy
      obtain ⟨d, hd, tx⟩ := hs.get hy
      obtain ⟨z, hz, rfl⟩ := blkD_get hd
      have oz := okB_get ho hz
      have c1 := cntB_le hz
      have c0 := z.cnt_pos
      have cb := cnt_blocks z
      have s1 := sm.trans (same_upd (o := .tup [V.int (i : Int), y]) nu)
      have hu : (upd H' u (.tup [V.int (i : Int), y])) u = some (.tup [V.int (i : Int), y]) := upd_same
      generalize upd H' u (.tup [V.int (i : Int), y]) = H1 at *
      refine ⟨u, _, rfl, SqT.of hu, rfl, _, _, rfl, _, _, rfl, rfl, ?_⟩
      refine ⟨_, rfl, t, ps, rfl, .inl (SqT.of (s1 _ _ ht)), _, rfl, ?_⟩
      have lp : (ps ++ [V.int (i : Int)]).length = 2 * l + 1 := by rw [List.length_append, hps]; rfl
      refine ⟨small100 (by rw [lp]; omega), fun p np => ?_⟩
      have s2 := s1.trans (same_upd (o := .tup (ps ++ [V.int (i : Int)])) np)
      have hp : (upd H1 p (.tup (ps ++ [V.int (i : Int)]))) p = some (.tup (ps ++ [V.int (i : Int)])) := upd_same
      generalize upd H1 p (.tup (ps ++ [V.int (i : Int)])) = H2 at *
      refine ⟨_, rfl, _, _, rfl, rfl, ?_⟩
      refine ⟨_, rfl, rfl, _, rfl, iteN (fun e => ?_) ?_⟩
      · have := V.int.inj e
        omega
      refine ⟨_, rfl, _, _, rfl, rfl, _, rfl, iteN (fun e => ?_) ?_⟩
      · omega
      refine ⟨_, rfl, _, rfl, p, _, rfl, .inr (SqT.of hp), _, _, rfl, rfl, ⟨by decide, by decide⟩, _, rfl, ?_⟩
      have el : (((ps ++ [V.int (i : Int)]).length : Nat) : Int) / 2 = (l : Int) := by rw [lp]; omega
      dsimp only
      rw [el]
      refine ⟨S, z.d, y, (l : Int), (many : Int), rfl, tx.same s2, wordOk_d z, fun x r e => ?_, fun H3 s3 => ?_⟩
      · rw [Stm.d_eq] at e
        cases e
        exact sh_str (word_ok z)
      refine ⟨_, rfl, ?_⟩
      rw [stOk_ok oz]
      refine ⟨_, rfl, S, z.word, z.rest, y, rfl, by rw [← Stm.d_eq]; exact tx.same (s2.trans s3), fun e => Stm.rest_call e, fun qa zs H4 s4 _ hqa hzs => ?_⟩
      rw [blocksR_d] at hzs
      have s24 := s2.trans (s3.trans s4)
      have hl5 := hzs.len
      rw [List.length_map] at hl5
      refine ⟨qa, zs, rfl, SqL.of hqa, ?_⟩
      refine for_it (walk_enum (xs := zs)) (fun j σ H' => ∃ y8 y9, σ = [some (.ref a), some (.int pr), some (.ref t), some (.int ((rd + cntB (b.take i) + 1 + cntBs (z.blocks.take j) : Nat) : Int)), some (.int many), some (.int i), some y, some (.ref p), y8, y9] ∧ Same H4 H') ⟨y8, y9, rfl, Same.refl _⟩ (fun j σ H' _ h => ?_) (fun j x σ H' H6 hj h y => ?_) (fun σ H' h => ?_)
      · obtain ⟨_, _, _, sj⟩ := h
        exact SqL.of (sj _ _ hqa)
      · obtain ⟨y8, y9, rfl, sj⟩ := h
        obtain ⟨u2, x2, y2, rfl, nu2, rfl, hx2, hy2⟩ := y
        cases hx2
        have hy2 : zs[j]? = some y2 := hy2
        obtain ⟨d2, hd2, tx2⟩ := hzs.get hy2
        obtain ⟨zb, hzb, mzb, rfl⟩ := get_blocks hd2
        obtain ⟨o1, o2, o3⟩ := ok_block oz mzb
        have c2 := cntBs_le hzb
        have s5 := sj.trans (same_upd (o := .tup [V.int (j : Int), y2]) nu2)
        have hu2 : (upd H' u2 (.tup [V.int (j : Int), y2])) u2 = some (.tup [V.int (j : Int), y2]) := upd_same
        generalize upd H' u2 (.tup [V.int (j : Int), y2]) = H5 at *
        refine ⟨u2, _, rfl, SqT.of hu2, rfl, _, _, rfl, _, _, rfl, rfl, ?_⟩
        refine ⟨_, rfl, _, rfl, _, rfl, p, _, rfl, .inl (SqT.of (s5 _ _ ((s3.trans s4) _ _ hp))), _, rfl, small100 (by rw [List.length_append, lp]; show 2 * l + 1 + 1 ≤ 1000; omega), fun p2 np2 => ?_⟩
        have s6 := s5.trans (same_upd (o := .tup (ps ++ [V.int (i : Int)] ++ [V.int (j : Int)])) np2)
        refine ⟨_, rfl, _, rfl, S, zb, y2, many, l + 1, rd + cntB (b.take i) + 1 + cntBs (z.blocks.take j), pr, p2, _, rfl, tx2.same s6, o2, o3, by omega, by omega, upd_same, by rw [List.length_append, lp]; show 2 * l + 1 + 1 = _; omega, by omega, fun H7 s7 => ?_⟩
        refine ⟨some (.int (j : Int)), some y2, ?_, s6.trans s7⟩
        rw [cntBs_take hzb, ← Nat.add_assoc]
        rfl
      · obtain ⟨y8, y9, rfl, sj⟩ := h
        refine ⟨some (.int (i : Int)), some y, some (.ref p), y8, y9, ?_, s24.trans sj⟩
        rw [hl5, List.take_length, cntB_take hz, cb, ← Nat.add_assoc, ← Nat.add_assoc]
    · obtain ⟨y5, y6, y7, y8, y9, rfl, sm⟩ := h
      refine ⟨_, rfl, ?_⟩
      have q := q H' sm
      rw [hl2, List.take_length]
      exact q
theorem none_check (T : Top w K mg) : FnOk P w K mg base CX0 6 T.a_check_block T.d_check_block ["block", "procedure", "ahead", "read", "procedures"] (sp_check_block K 0) := by
  have no : ∀ vs H Q E, ¬ sp_check_block K 0 vs H Q E := fun vs H Q E ⟨_, _, _, _, l, _, _, _, _, _, _, _, _, h1, h2, _⟩ => by omega
  exact ⟨fun vs H Q E h => absurd h (no vs H Q E), fun A outer s H args us vs Q E _ _ _ _ h => absurd h (no vs H Q E)⟩
theorem all_check (T : Top w K mg) : ∀ n : Nat, FnOk P w K mg base CX0 (n + 6) T.a_check_block T.d_check_block ["block", "procedure", "ahead", "read", "procedures"] (sp_check_block K n)
  | 0 => none_check T
  | n + 1 => ok_check_step T n (all_check T n)
theorem ok_check_block (T : Top w K mg) : FnOk P w K mg base CX0 10 T.a_check_block T.d_check_block ["block", "procedure", "ahead", "read", "procedures"] (sp_check_block K 4) := all_check T 4

--SPLIT
/-! ### a book -/
def sp_check_bodies : Sp := fun vs H Q _ => ∃ (S : Addr → Prop) (bs : List (List Stm)) (v : V), vs = [v] ∧ Tr S H (bookD bs) v ∧ OkBook bs ∧ ∀ H', Same H H' → Q .non H'
theorem ok_check_bodies (T : Top w K mg) : FnOk P w K mg base CX0 11 T.a_check_bodies T.d_check_bodies ["bodies"] sp_check_bodies := by
  refine T.F_check_bodies.ok sc_check_bodies (fun vs H Q E h => ?_) (fun cdv A outer s H vs Q E hr h => ?_)
  · obtain ⟨S, bs, v, rfl, _⟩ := h
    rfl
  · obtain ⟨S, bs, v, rfl, hv, ho, q⟩ := h
    refine ⟨_, (pss_cons (ps_if (PW.pt (pw_or (pt_not (pt_val (pe_callB (k_isi K) (by rfl) T.z_isinstance bt_isinstance (pa_cons (pv 0) (pa_cons (pe_bltn (v := .ty "list") (by rfl) T.z_list bt_list rfl) pa_nil))))) (pw_or1 (pt_not (pt_chain op_le op_le pe_int (pe_callB (k_len K) (by rfl) T.z_len bt_len (pa_cons (pv 0) pa_nil)) (C8.pe_gc rfl T.c_MOST_PROCEDURES)))))) (pss_one ps_never) pss_nil)
      (pss_one (ps_for PassesOwn.never rfl (pi_enum (by rfl) T.z_enumerate (pa_cons (pv 0) pa_nil)) (pg_tup rfl (pgs_cons (pg_name (i := 1) sc_check_bodies.nd rfl (Or.inl rfl)) (pgs_cons (pg_name (i := 2) sc_check_bodies.nd rfl (Or.inl rfl)) pgs_nil))) (pss_cons (ps_if (pt_not (pt_val (pe_callB (k_isi K) (by rfl) T.z_isinstance bt_isinstance (pa_cons (pv 2) (pa_cons (pe_bltn (v := .ty "list") (by rfl) T.z_list bt_list rfl) pa_nil))))) (pss_one ps_never) pss_nil)
        (pss_one (ps_expr (pe_call (ok_check_block T) hr (by rfl) T.g_check_block T.F_check_block.kp (b_check_block T) .nil pass0 (pa_cons (pv 2) (pa_cons (pv 1) (pa_cons (pe_tup pa_nil) (pa_cons pe_int (pa_cons (pe_callB (k_len K) (by rfl) T.z_len bt_len (pa_cons (pv 0) pa_nil)) pa_nil)))))))))))), ?_⟩
    refine ⟨_, rfl, _, _, _, _, _, rfl, .ty _, tr_ty K hv, ki_list K _, _, rfl, ?_⟩
    obtain ⟨a, ys, rfl, sa, ha, hs⟩ := hv
    have hl2 := hs.len
    rw [List.length_map] at hl2
    have lo := ho.lo
    have hi := ho.hi
    refine iteF ⟨_, rfl, a, _, rfl, .inl (SqL.of ha), _, _, rfl, rfl, _, rfl, iteP (by rw [hl2]; omega) ⟨_, _, rfl, rfl, _, rfl, ?_⟩⟩
    rw [decide_eq_true (by rw [hl2]; omega)]
    refine ⟨_, rfl, a, ys, rfl, SqL.of ha, ?_⟩
    refine for_it (walk_enum (xs := ys)) (fun i σ H' => ∃ y1 y2, σ = [some (.ref a), y1, y2] ∧ Same H H') ⟨_, _, rfl, Same.refl _⟩ (fun i σ H' _ h => ?_) (fun i x σ H' H2 hi h y => ?_) (fun σ H' h => ?_)
    · obtain ⟨_, _, _, sm⟩ := h
      exact SqL.of (sm _ _ ha)
    · obtain ⟨y1, y2, rfl, sm⟩ := h
      obtain ⟨u, x, y, rfl, nu, rfl, hx, hy⟩ := y
      cases hx
      have hy : ys[i]? = some y := hy
      obtain ⟨d, hd, tx⟩ := hs.get hy
      obtain ⟨b, hb, mb, rfl⟩ := get_bodies hd
      obtain ⟨o1, o2, o3⟩ := ho.each b mb
      have s1 := sm.trans (same_upd (o := .tup [V.int (i : Int), y]) nu)
      have hu : (upd H' u (.tup [V.int (i : Int), y])) u = some (.tup [V.int (i : Int), y]) := upd_same
      generalize upd H' u (.tup [V.int (i : Int), y]) = H1 at *
      refine ⟨u, _, rfl, SqT.of hu, rfl, _, _, rfl, _, _, rfl, rfl, ?_⟩
      refine ⟨_, rfl, _, _, _, _, _, rfl, .ty _, tr_ty K (tx.same s1), ki_list K _, _, rfl, ?_⟩
      refine iteF ⟨_, rfl, _, rfl, small100 (n := 0) (by decide), fun t nt => ?_⟩
      have s2 := s1.trans (same_upd (o := .tup []) nt)
      refine ⟨_, rfl, a, _, rfl, .inl (SqL.of (s2 _ _ ha)), ?_⟩
      refine ⟨S, b, y, bs.length, 0, 0, (i : Int), t, [], by rw [hl2]; rfl, tx.same s2, o1, o3, by decide, by decide, upd_same, rfl, by omega, fun H3 s3 => ?_⟩
      exact ⟨_, _, rfl, s2.trans s3⟩
    · obtain ⟨y1, y2, rfl, sm⟩ := h
      exact q _ sm
section
variable (K : PySem.W.Frag) {X : Cx}
end
def bf (q : Addr) : List (Str × V) := putF "_bodies" (.ref q) []
theorem bf_get (q : Addr) : (bf q).lookup ("_bodies" : Str) = some (.ref q) := by
  unfold bf
  rw [lookup_putF, if_pos rfl]
theorem bf_no (q : Addr) {m : Str} (h : ¬ m = "_bodies") : (bf q).lookup m = none := by
  unfold bf
  rw [lookup_putF, if_neg h]
  rfl
/-- a Book of the bodies bs stands at p, its lists at S -/
def BookV (S : Addr → Prop) (C : Addr) (H : Hp) (p : Addr) (bs : List (List Stm)) : Prop := ∃ dx q, H p = some (.ins C dx (bf q)) ∧ Tr S H (bookD bs) (.ref q)
theorem BookV.kpl {S M : Addr → Prop} {C : Addr} {H H' : Hp} {p : Addr} {bs : List (List Stm)} (k : KpL M H H') (h : ∀ a, S a → ¬ M a) (b : BookV S C H p bs) : BookV S C H' p bs := by
  obtain ⟨dx, q, hp, t⟩ := b
  exact ⟨dx, q, k.ins hp, Tr.kpl k h _ _ t⟩
theorem BookV.same {S : Addr → Prop} {C : Addr} {H H' : Hp} {p : Addr} {bs : List (List Stm)} (k : Same H H') (b : BookV S C H p bs) : BookV S C H' p bs := b.kpl (M := fun _ => False) (KpL.of k) fun _ _ h => h
theorem BookV.mono {S S' : Addr → Prop} {C : Addr} {H : Hp} {p : Addr} {bs : List (List Stm)} (h : ∀ a, S a → S' a) (b : BookV S C H p bs) : BookV S' C H p bs := by
  obtain ⟨dx, q, hp, t⟩ := b
  exact ⟨dx, q, hp, Tr.mono h _ _ t⟩
def sp_Book_init (C : Addr) : Sp := fun vs H Q _ => ∃ (S : Addr → Prop) (p dx : Addr) (v : V) (bs : List (List Stm)), vs = [.ref p, v] ∧ H p = some (.ins C dx []) ∧ Tr S H (bookD bs) v ∧ OkBook bs ∧
  ∀ H', (∀ b o, H b = some o → b ≠ p → H' b = some o) → BookV (New H) C H' p bs → Q .non H'
theorem ok_Book___init__ (T : Top w K mg) : FnOk P w K mg base CX0 12 T.a_Book___init__ T.d_Book___init__ ["self", "bodies"] (sp_Book_init T.C_Book) := by
  refine T.F_Book___init__.ok sc_Book___init__ (fun vs H Q E h => ?_) (fun cdv A outer s H vs Q E hr h => ?_)
  · obtain ⟨S, p, dx, v, bs, rfl, _⟩ := h
    rfl
  · obtain ⟨S, p, dx, v, bs, rfl, hp, hv, ho, q⟩ := h
    refine ⟨_, (pss_cons (ps_expr (pe_call (ok_check_bodies T) hr (by rfl) T.g_check_bodies T.F_check_bodies.kp (b_check_bodies T) .nil pass0 (pa_cons (pv 1) pa_nil)))
      (pss_one (ps_fld (pv 0) (pe_lc (own := [("body", 2)]) (g := (gName 2)) (tt := tYes) rfl sc_Book___init__.nd (k_piL K (pv 1)) (blkOk_by (N := N_Book___init__) (sc := defScope s_Book___init__) (by decide +kernel)) (fun _ _ _ _ _ => (pg_name (i := 2) sc_Book___init__.nd rfl (Or.inl rfl))) (fun _ _ _ _ _ => pts_nil) (fun _ _ _ _ _ => (pe_call (ok_copied T) (hr.mono (by decide)) (by rfl) T.g_copied T.F_copied.kp (b_copied T) .nil pass0 (pa_cons (pv 2) pa_nil)))) rfl))), ?_⟩
    refine ⟨_, rfl, S, bs, v, rfl, hv, ho, fun H1 s1 => ?_⟩
    have hv1 := hv.same s1
    obtain ⟨a, ys, rfl, sa, ha, hs⟩ := hv1
    have hl2 := hs.len
    rw [List.length_map] at hl2
    have hi3 := ho.hi
    refine ⟨_, rfl, a, rfl, ⟨_, SqL.of ha⟩, fun D nD => ?_⟩
    refine lc_list (xs := ys) (fun i H' => Bld H1 D ((bs.map bD).take i) H') (Bld.nil nD) (fun i H' _ h => h.1.seq (SqL.of ha)) (fun i x H' hx h => ?_) (fun H' h => ?_)
    · obtain ⟨d, hd, tx⟩ := hs.get hx
      obtain ⟨b, hb, mb, rfl⟩ := get_bodies hd
      obtain ⟨o1, o2, o3⟩ := ho.each b mb
      refine ⟨rfl, _, rfl, S, b, x, bs.length, 0, rfl, tx.same h.1, o1, o3, by decide, by decide, fun r H2 s2 tr => ?_⟩
      obtain ⟨zs, hD, lz, m⟩ := h.push nD s2 tr
      have hi := (List.getElem?_eq_some_iff.mp hx).1
      refine ⟨zs, hD, ?_, ?_⟩
      · rw [lz, List.length_take]
        exact small1000 (by omega)
      · rw [List.take_add_one, hd]
        exact m
    · rw [hl2, ← List.length_map (f := bD), List.take_length] at h
      have st := s1.trans h.1
      have hp' := st _ _ hp
      refine ⟨_, rfl, p, T.C_Book, dx, [], rfl, hp', T.cl_Book, T.na_Book__bodies, by decide, ?_⟩
      refine q _ (fun b o e nb => by rw [upd_ne nb]; exact st _ _ e) ⟨dx, D, upd_same, ?_⟩
      have t := (h.done nD).newer s1
      exact Tr.put hp' t
/-- Book(v) -/
theorem made {S : Addr → Prop} {C : Addr} {H : Hp} {p dx : Addr} {v : V} {bs : List (List Stm)} {R : Hp → Prop} {E : XK} (hv : Tr S H (bookD bs) v) (ho : OkBook bs) (np : H p = none) (nd : H dx = none) (ne : dx ≠ p)
    (q : ∀ H', Same H H' → BookV (New H) C H' p bs → R H') : sp_Book_init C [.ref p, v] (upd (upd H dx (.own p)) p (.ins C dx [])) (fun z H2 => z = .non ∧ R H2) E := by
  have s1 : Same H (upd (upd H dx (.own p)) p (.ins C dx [])) := fun b o e => by
    rw [upd_ne (ne_of_none e np), upd_ne (ne_of_none e nd)]
    exact e
  refine ⟨S, p, dx, v, bs, rfl, upd_same, hv.same s1, ho, fun H' k b => ⟨rfl, q H' (fun c o e => k c o (s1 _ _ e) (ne_of_none e np)) (b.mono fun a n => s1.free n)⟩⟩

def sp_Book_bodies (C : Addr) : Sp := fun vs H Q _ => ∃ (S : Addr → Prop) (p : Addr) (bs : List (List Stm)), vs = [.ref p] ∧ BookV S C H p bs ∧ OkBook bs ∧ ∀ r H', Same H H' → Tr (New H) H' (bookD bs) r → Q r H'
theorem ok_Book_bodies (T : Top w K mg) : FnOk P w K mg base CX0 11 T.a_Book_bodies T.d_Book_bodies ["self"] (sp_Book_bodies T.C_Book) := by
  refine T.F_Book_bodies.ok sc_Book_bodies (fun vs H Q E h => ?_) (fun cdv A outer s H vs Q E hr h => ?_)
  · obtain ⟨S, p, bs, rfl, _⟩ := h
    rfl
  · obtain ⟨S, p, bs, rfl, ⟨dx, qa, hp, hv⟩, ho, q⟩ := h
    refine ⟨_, (pss_one (ps_ret (pe_lc (own := [("body", 1)]) (g := (gName 1)) (tt := tYes) rfl sc_Book_bodies.nd (k_piL K (pe_fld (pv 0) rfl)) (blkOk_by (N := N_Book_bodies) (sc := defScope s_Book_bodies) (by decide +kernel)) (fun _ _ _ _ _ => (pg_name (i := 1) sc_Book_bodies.nd rfl (Or.inl rfl))) (fun _ _ _ _ _ => pts_nil) (fun _ _ _ _ _ => (pe_call (ok_copied T) hr (by rfl) T.g_copied T.F_copied.kp (b_copied T) .nil pass0 (pa_cons (pv 1) pa_nil)))))), ?_⟩
    obtain ⟨a, ys, ea, sa, ha, hs⟩ := hv
    cases ea
    have hl2 := hs.len
    rw [List.length_map] at hl2
    have hi3 := ho.hi
    refine ⟨_, rfl, p, T.C_Book, dx, _, _, rfl, hp, T.cl_Book, T.na_Book__bodies, bf_get _, qa, rfl, ⟨_, SqL.of ha⟩, fun D nD => ?_⟩
    refine lc_list (xs := ys) (fun i H' => Bld H D ((bs.map bD).take i) H') (Bld.nil nD) (fun i H' _ h => h.1.seq (SqL.of ha)) (fun i x H' hx h => ?_) (fun H' h => ?_)
    · obtain ⟨d, hd, tx⟩ := hs.get hx
      obtain ⟨b, hb, mb, rfl⟩ := get_bodies hd
      obtain ⟨o1, o2, o3⟩ := ho.each b mb
      refine ⟨rfl, _, rfl, S, b, x, bs.length, 0, rfl, tx.same h.1, o1, o3, by decide, by decide, fun r H2 s2 tr => ?_⟩
      obtain ⟨zs, hD, lz, m⟩ := h.push nD s2 tr
      have hi := (List.getElem?_eq_some_iff.mp hx).1
      refine ⟨zs, hD, ?_, ?_⟩
      · rw [lz, List.length_take]
        exact small1000 (by omega)
      · rw [List.take_add_one, hd]
        exact m
    · rw [hl2, ← List.length_map (f := bD), List.take_length] at h
      exact q _ _ h.1 (h.done nD)

def sp_Book_len (C : Addr) : Sp := fun vs H Q _ => ∃ (S : Addr → Prop) (p : Addr) (bs : List (List Stm)), vs = [.ref p] ∧ BookV S C H p bs ∧ Q (.int bs.length) H
theorem ok_Book___len__ (T : Top w K mg) : FnOk P w K mg base CX0 1 T.a_Book___len__ T.d_Book___len__ ["self"] (sp_Book_len T.C_Book) := by
  refine T.F_Book___len__.ok sc_Book___len__ (fun vs H Q E h => ?_) (fun cdv A outer s H vs Q E hr h => ?_)
  · obtain ⟨S, p, bs, rfl, _⟩ := h
    rfl
  · obtain ⟨S, p, bs, rfl, ⟨dx, qa, hp, hv⟩, q⟩ := h
    refine ⟨_, (pss_one (ps_ret (pe_callB (k_len K) (by rfl) T.z_len bt_len (pa_cons (pe_fld (pv 0) rfl) pa_nil)))), ?_⟩
    obtain ⟨a, ys, ea, sa, ha, hs⟩ := hv
    cases ea
    have hl2 := hs.len
    rw [List.length_map] at hl2
    refine ⟨_, rfl, p, T.C_Book, dx, _, _, rfl, hp, T.cl_Book, T.na_Book__bodies, bf_get _, qa, _, rfl, .inl (SqL.of ha), ?_⟩
    rw [hl2]
    exact q

--SPLIT
/-! ### the methods of an execution -/
def sp_Execution_enter (C aH aB : Addr) : Sp := fun vs H Q _ => ∃ (A : ExA) (s : ESt) (b : List Stm) (v : V), vs = [.ref A.e, v] ∧ ExV C aH aB A s H ∧ Tr A.S H (bD b) v ∧ b.length ≤ 8 ∧ s.left.length ≤ 1000000 ∧
  ∀ H', KpM A.M H H' → ExV C aH aB A (enterE b s) H' → Q .non H'
theorem ok_Execution_enter (T : Top w K mg) : FnOk P w K mg base CX0 1 T.a_Execution_enter T.d_Execution_enter ["self", "block"] (sp_Execution_enter T.C_Execution T.a_HOLD T.a_BACK) := by
  refine T.F_Execution_enter.ok sc_Execution_enter (fun vs H Q E h => ?_) (fun cdv A outer sh H vs Q E hr h => ?_)
  · obtain ⟨A, s, b, v, rfl, _⟩ := h
    rfl
  · obtain ⟨A1, s, b, v, rfl, X, hv, h8, h1, q⟩ := h
    refine ⟨_, (pss_one (ps_expr (pe_bm PySem.F.plainAttrs_list PySem.F.slot_list_extend PySem.F.type_list_extend mt_extend (pe_fld (pv 0) rfl) (pa_cons (pe_revL (pv 1)) pa_nil)))), ?_⟩
    obtain ⟨dx, he⟩ := X.ins
    obtain ⟨ls, hl, rl⟩ := X.lft
    obtain ⟨bv, ys, rfl, sb, hb, tb⟩ := hv
    have ly := tb.len
    rw [blkD_len] at ly
    have ll := rl.len
    rw [List.length_reverse] at ll
    refine ⟨_, rfl, A1.e, T.C_Execution, dx, _, _, rfl, he, T.cl_Execution, T.na_Execution_left, exf_left, .inl ⟨rfl, _, .inl (.inl hl)⟩, ?_⟩
    refine ⟨_, rfl, bv, ys, rfl, SqL.of hb, fun p np => ?_⟩
    have sp := same_upd (o := .lst ys.reverse) np
    have hp : upd H p (.lst ys.reverse) p = some (.lst ys.reverse) := upd_same
    have X1 := X.same sp
    have hl1 := sp _ _ hl
    have tb1 := tb.same sp
    have rl1 := AllR.imp (ThV.keep (KpM.of (M := A1.M) sp) X.mut) rl
    generalize upd H p _ = H1 at *
    refine ⟨A1.aL, p, ls, ys.reverse, rfl, rfl, hl1, hp, Nat.le_trans (m := 2000000) (by rw [List.length_reverse]; omega) (by decide), ?_⟩
    have r2 : AllR (ThV A1.S T.a_BACK H1) (enterE b s).left.reverse (ls ++ ys.reverse) := by
      unfold enterE
      rw [List.reverse_append]
      exact AllR.append rl1 (AllR.reverse (th_blk tb1))
    obtain ⟨k, X2⟩ := X1.setLeft r2
    exact q _ ((KpM.of sp).trans k) X2

--SPLIT
theorem ok_NoRun___init__ (T : Top w K mg) : FnOk P w K mg base CX0 1 T.a_NoRun___init__ T.d_NoRun___init__ ["self", "index"] (sp1 T.C_NoRun "index") := by
  refine T.F_NoRun___init__.ok sc_NoRun___init__ (fun vs H Q E h => ?_) (fun cdv A outer s H vs Q E hr h => ?_)
  · obtain ⟨a, x, rfl, _⟩ := h
    rfl
  · obtain ⟨a, x, rfl, ha, q⟩ := h
    refine ⟨_, (pss_one (ps_ost (pv 0) (pv 1))), ?_⟩
    refine ⟨_, rfl, _, rfl, a, T.C_NoRun, rfl, T.O_NoRun, T.no_NoRun_index, .inl ⟨ha, fun dx nd ne => q dx nd ne⟩⟩
/-- raise NoRun(i) -/
theorem made_NR {CE : Addr} {M : Addr → Prop} {H H1 : Hp} {E : XK} {i : Int} (q : ErrR CE M H E i) (k : KpM M H H1) : ∀ a, H1 a = none → sp1 CE "index" (.ref a :: ([V.int i] ++ [])) (upd H1 a (exo a CE none)) (fun v H2 => v = .non ∧ ∃ (d : Addr) (fs : List (Str × V)), H2 a = some (exo a CE (some d)) ∧ H2 d = some (exd d fs) ∧ H1 d = none ∧ E (.ref CE) (some d) (upd (del H2 a) d (.xd fs))) (fun _ _ _ => False) :=
  mk1 [.int i] H1 E rfl fun d fs H' s2 nd hd ef => by
    subst ef
    exact q d H' (k.trans (KpM.of s2)) hd
def sp_Execution_take (C aH aB CE : Addr) : Sp := fun vs H Q E => ∃ (A : ExA) (s : ESt), vs = [.ref A.e] ∧ ExV C aH aB A s H ∧ (A.bits[s.taken]? = none → ErrR CE A.M H E s.taken) ∧
  ∀ b, A.bits[s.taken]? = some b → ∀ H', KpM A.M H H' → ExV C aH aB A { s with taken := s.taken + 1 } H' → Q (bitV b) H'
theorem ok_Execution_take (T : Top w K mg) : FnOk P w K mg base (L2.CX P w) 3 T.a_Execution_take T.d_Execution_take ["self"] (sp_Execution_take T.C_Execution T.a_HOLD T.a_BACK T.C_NoRun) := by
  refine T.F_Execution_take.okX sc_Execution_take (fun vs H Q E h => ?_) (fun cdv A outer sh H vs Q E hr h => ?_)
  · obtain ⟨A, s, rfl, _⟩ := h
    rfl
  · obtain ⟨A1, s, rfl, X, qe, q⟩ := h
    refine ⟨_, (pss_cons (ps_if (pt_cmpR op_eq (pe_fld (pv 0) rfl) (pe_callB (k_len K) (by rfl) T.z_len bt_len (pa_cons (pe_fld (pv 0) rfl) pa_nil)) (nomark _)) (pss_one (ps_raise rfl (takes_of rfl rfl rfl rfl) (pmk_oex T.O_NoRun T.io_NoRun T.to_NoRun (ok_NoRun___init__ T) (hr.mono (by decide)) (b_NoRun___init__ T) .nil pass0 (by rfl) T.g_NoRun (pa_cons (pe_fld (pv 0) rfl) pa_nil)))) pss_nil)
      (pss_cons (ps_fld (pv 0) (pe_op op_add (pe_fld (pv 0) rfl) pe_int) rfl)
      (pss_one (ps_ret (pe_ix (k_ixL K) (pe_fld (pv 0) rfl) (pe_op op_sub (pe_fld (pv 0) rfl) pe_int) (fun _ _ => rfl)))))), ?_⟩
    obtain ⟨dx, he⟩ := X.ins
    have htk := X.tk
    refine ⟨_, rfl, A1.e, T.C_Execution, dx, _, _, rfl, he, T.cl_Execution, T.na_Execution_taken, exf_taken, ?_⟩
    refine ⟨_, rfl, A1.e, T.C_Execution, dx, _, _, rfl, he, T.cl_Execution, T.na_Execution_bits, exf_bits, _, _, rfl, .inl (SqL.of X.bts), rfl, ?_⟩
    rw [List.length_map]
    by_cases e : s.taken = A1.bits.length
    · refine ⟨_, rfl, iteP (show natV s.taken = V.int (A1.bits.length : Int) by rw [e]) ?_⟩
      have qe := qe (by rw [e]; exact List.getElem?_eq_none (Nat.le_refl _))
      refine ⟨_, rfl, A1.e, T.C_Execution, dx, _, _, rfl, he, T.cl_Execution, T.na_Execution_taken, exf_taken, ?_⟩
      exact ⟨by show 1 ≤ 1000; decide, made_NR qe (KpM.of (Same.refl _))⟩
    · have hlt : s.taken < A1.bits.length := by omega
      refine ⟨_, rfl, iteN (show ¬ natV s.taken = V.int (A1.bits.length : Int) from fun h => e (by injection h with h; exact Int.ofNat.inj h)) ?_⟩
      refine ⟨_, rfl, A1.e, T.C_Execution, dx, _, _, rfl, he, T.cl_Execution, T.na_Execution_taken, exf_taken, _, _, rfl, rfl, _, rfl, A1.e, T.C_Execution, dx, _, rfl, he, T.cl_Execution, T.na_Execution_taken, exf_len, ?_⟩
      obtain ⟨k, X1⟩ := X.setIns (t := s.taken + 1) (w := s.way) (dx := dx) (by omega)
      have q := q _ (List.getElem?_eq_getElem hlt) _ k X1
      have he1 : upd H A1.e (.ins T.C_Execution dx (A1.fs (s.taken + 1) s.way)) A1.e = _ := upd_same
      have hb1 := X1.bts
      have ei : ((s.taken + 1 : Nat) : Int) - 1 = (s.taken : Int) := by omega
      refine ⟨_, rfl, A1.e, T.C_Execution, dx, _, _, rfl, he1, T.cl_Execution, T.na_Execution_bits, exf_bits, _, rfl, A1.e, T.C_Execution, dx, _, _, rfl, he1, T.cl_Execution, T.na_Execution_taken, exf_taken, _, _, rfl, rfl, A1.aT, _, _, bitV A1.bits[s.taken], rfl, rfl, SqL.of hb1, ?_, q⟩
      rw [ei]
      exact atI_nat (by rw [List.getElem?_map, List.getElem?_eq_getElem hlt]; rfl)

--SPLIT
def sp_Execution_leave (C aH aB : Addr) : Sp := fun vs H Q _ => ∃ (A : ExA) (s s' : ESt) (p : Nat) (sv w : Bool) (a b : List Stm) (v : V), vs = [.ref A.e, v, .int (wayN w)] ∧ ExV C aH aB A s H ∧ ThV A.S aB H (.beh p sv a b) v ∧ (Th.beh p sv a b).ok ∧ Szd 500000 s ∧ leaveE p sv a b w s = .go s' ∧
  ∀ H', KpM A.M H H' → ExV C aH aB A s' H' → Q .non H'
theorem leave_go {p : Nat} {sv w : Bool} {a b : List Stm} {s s' : ESt} (h : leaveE p sv a b w s = .go s') : ∃ n r, s.begun[p]? = some (n :: r) ∧ s' = { s with begun := s.begun.set p r, deeds := s.deeds ++ (if sv then [.back] else []), left := (if w then b else a).map Th.st ++ s.left, way := wayN w } := by
  unfold leaveE at h
  split at h
  · rename_i n r e
    cases h
    exact ⟨n, r, e, rfl⟩
  · cases h
theorem ok_Execution_leave (T : Top w K mg) : FnOk P w K mg base CX0 2 T.a_Execution_leave T.d_Execution_leave ["self", "thing", "way"] (sp_Execution_leave T.C_Execution T.a_HOLD T.a_BACK) := by
  refine T.F_Execution_leave.ok sc_Execution_leave (fun vs H Q E h => ?_) (fun cdv A outer sh H vs Q E hr h => ?_)
  · obtain ⟨A, s, s', p, sv, w, a, b, v, rfl, _⟩ := h
    rfl
  · obtain ⟨A1, s, s', p, sv, w1, a, b, v, rfl, X, hv, ho, hz, hg, q⟩ := h
    refine ⟨_, (pss_cons (ps_asg (pv 1) (pg_tup rfl (pgs_cons (pg_name (i := 3) sc_Execution_leave.nd rfl (Or.inl rfl)) (pgs_cons (pg_name (i := 4) sc_Execution_leave.nd rfl (Or.inl rfl)) (pgs_cons (pg_name (i := 5) sc_Execution_leave.nd rfl (Or.inl rfl)) (pgs_cons (pg_name (i := 6) sc_Execution_leave.nd rfl (Or.inl rfl)) pgs_nil))))))
      (pss_cons (ps_expr (pe_bm0 PySem.F.plainAttrs_list PySem.F.slot_list_pop PySem.F.type_list_pop mt_pop (pe_ix (k_ixL K) (pe_fld (pv 0) rfl) (pv 4) (fun _ _ => rfl))))
      (C8.pss_cut (ps_if (pt_val (pv 5)) (pss_one (ps_expr (pe_bm PySem.F.plainAttrs_list PySem.F.slot_list_append PySem.F.type_list_append mt_append (pe_fld (pv 0) rfl) (pa_cons (C8.pe_gc rfl T.c_BACK) pa_nil)))) pss_nil)
      (pss_cons (ps_expr (pe_meth (pv 0) T.cl_Execution T.m_Execution_enter (ok_Execution_enter T) (hr.mono (by decide)) (b_Execution_enter T) .nil pass0 (pa_cons (pe_ix (k_ixL K) (pv 6) (pv 2) (fun _ _ => rfl)) pa_nil)))
      (pss_one (ps_fld (pv 0) (pv 2) rfl)))))), ?_⟩
    obtain ⟨dx, he⟩ := X.ins
    obtain ⟨n, r, eb, rfl⟩ := leave_go hg
    obtain ⟨vt, xs, rfl, hvt, tx⟩ := hv
    obtain ⟨x1, _, rfl, t1, x2, _, rfl, t2, x3, _, rfl, t3, x4, _, rfl, t4, rfl⟩ := tx
    have t2 : x2 = .int p := t2
    have t3 : x3 = .bl sv := t3
    subst t2 t3
    refine ⟨_, rfl, vt, _, rfl, SqT.of hvt, rfl, _, _, rfl, _, _, rfl, _, _, rfl, _, _, rfl, rfl, ?_⟩
    obtain ⟨hG, lG, hB⟩ := X.beg
    have hp := (List.getElem?_eq_some_iff.mp eb).1
    obtain ⟨g, eg⟩ : ∃ g, A1.gs[p]? = some g := ⟨_, List.getElem?_eq_getElem (show p < A1.gs.length by omega)⟩
    have hg1 := hB p g _ eg eb
    refine ⟨_, rfl, A1.e, T.C_Execution, dx, _, _, rfl, he, T.cl_Execution, T.na_Execution_begun, exf_begun, _, rfl, A1.aG, _, _, .ref g, rfl, rfl, SqL.of hG, atI_nat (by rw [List.getElem?_map, eg]; rfl), ?_⟩
    have e1 : ((n :: r).reverse.map natV).dropLast = r.reverse.map natV := by rw [List.reverse_cons, List.map_append, List.map_cons, List.map_nil, List.dropLast_concat]
    refine ⟨.inl ⟨rfl, _, .inl (.inl hg1)⟩, g, _, natV n, rfl, rfl, hg1, ?_, ?_⟩
    · rw [List.reverse_cons, List.map_append, List.map_cons, List.map_nil, List.length_append, List.length_singleton, Nat.add_sub_cancel, List.getElem?_append_right (Nat.le_refl _), Nat.sub_self]
      rfl
    · rw [e1]
      obtain ⟨k1, X1⟩ := X.setBegun (ns := r) eg
      have m1 := X.mut
      have t4' := Tr.hold (k1.tr m1) _ _ t4
      clear t4 hvt hg1 hB hG
      generalize upd H g _ = H1 at *
      obtain ⟨dx1, he1⟩ := X1.ins
      refine ⟨fun σ H2 => σ = [some (.ref A1.e), some (.ref vt), some (.int (wayN w1)), some x1, some (.int p), some (.bl sv), some x4] ∧ KpM A1.M H H2 ∧ ExV T.C_Execution T.a_HOLD T.a_BACK A1 { s with begun := s.begun.set p r, deeds := s.deeds ++ (if sv then [.back] else []) } H2 ∧ Tr A1.S H2 (.list [bD a, bD b]) x4, ?_, fun σ H2 h => ?_⟩
      · refine ⟨_, rfl, _, rfl, ?_⟩
        obtain ⟨ds, hd, rd⟩ := X1.dds
        have ld := rd.len
        have hz1 : s.left.length + s.deeds.length ≤ 500000 := hz.1
        cases sv with
        | true =>
          refine iteT ⟨_, rfl, A1.e, T.C_Execution, dx1, _, _, rfl, he1, T.cl_Execution, T.na_Execution_deeds, exf_deeds, .inl ⟨rfl, _, .inl (.inl hd)⟩, A1.aD, ds, .ref T.a_BACK, rfl, rfl, hd, Nat.lt_of_le_of_lt (m := 500000) (by rw [ld]; exact Nat.le_trans (Nat.le_add_left _ _) hz1) (by decide), ?_⟩
          obtain ⟨k2, X2⟩ := X1.setDeeds (ds := ds ++ [.ref T.a_BACK]) (xs := s.deeds ++ [.back]) (AllR.append rd (AllR.one (a := Dd.back) rfl))
          exact ⟨rfl, k1.trans k2, X2, Tr.hold (k2.tr X1.mut) _ _ t4'⟩
        | false =>
          refine iteF ⟨rfl, k1, ?_, t4'⟩
          rw [show s.deeds ++ (if false = true then [Dd.back] else []) = s.deeds from List.append_nil _]
          exact X1
      · obtain ⟨rfl, k2, X2, t5⟩ := h
        obtain ⟨bl, bb, rfl, sbb, hbb, tb⟩ := t5
        obtain ⟨y1, _, rfl, u1, y2, _, rfl, u2, rfl⟩ := tb
        obtain ⟨dx2, he2⟩ := X2.ins
        obtain ⟨o1, o2⟩ := ho
        have ey : atI [y1, y2] (wayN w1) = some (if w1 then y2 else y1) := by cases w1 <;> rfl
        refine ⟨_, rfl, A1.e, dx2, _, rfl, he2, exf_enter, _, rfl, _, rfl, bl, _, wayN w1, _, rfl, rfl, SqL.of hbb, ey, A1, _, if w1 then b else a, if w1 then y2 else y1, rfl, X2, ?_, ?_, ?_, fun H3 k3 X3 => ?_⟩
        · cases w1
          · exact u1
          · exact u2
        · cases w1
          · exact o1.1
          · exact o2.1
        · exact Nat.le_trans (Nat.le_trans (Nat.le_add_right _ _) hz.1) (by decide)
        · obtain ⟨dx3, he3⟩ := X3.ins
          refine ⟨_, rfl, _, rfl, A1.e, T.C_Execution, dx3, _, rfl, he3, T.cl_Execution, T.na_Execution_way, exf_len, ?_⟩
          obtain ⟨k4, X4⟩ := X3.setIns (t := s.taken) (w := wayN w1) (dx := dx3) X.tk
          exact q _ ((k2.trans k3).trans k4) X4

--SPLIT
def OutR (CE C aH aB : Addr) (A : ExA) (H : Hp) (Q : VK) (E : XK) : Out → Prop
  | .go s' => ∀ H', KpM A.M H H' → ExV C aH aB A s' H' → Q .non H'
  | .no i => ErrR CE A.M H E i
  | .bad => False
def sp_Execution_begin (C aH aB CE : Addr) : Sp := fun vs H Q E => ∃ (A : ExA) (s : ESt) (p : Nat) (sv : Bool) (a b : List Stm) (v : V), vs = [.ref A.e, v] ∧ ExV C aH aB A s H ∧ Tr A.S H (Stm.call p sv a b).d v ∧ BodiesOk A.bs ∧ Szd 500000 s ∧ OutR CE C aH aB A H Q E (beginE A.bs p sv a b s)
theorem ok_Execution_begin (T : Top w K mg) : FnOk P w K mg base (L2.CX P w) 3 T.a_Execution_begin T.d_Execution_begin ["self", "statement"] (sp_Execution_begin T.C_Execution T.a_HOLD T.a_BACK T.C_NoRun) := by
  refine T.F_Execution_begin.okX sc_Execution_begin (fun vs H Q E h => ?_) (fun cdv A outer sh H vs Q E hr h => ?_)
  · obtain ⟨A, s, p, sv, a, b, v, rfl, _⟩ := h
    rfl
  · obtain ⟨A1, s, p, sv, a, b, v, rfl, X, hv, hb, hz, q⟩ := h
    refine ⟨_, (pss_cons (ps_asg (pv 1) (pg_tup rfl (pgs_cons (pg_name (i := 2) sc_Execution_begin.nd rfl (Or.inl rfl)) (pgs_cons (pg_name (i := 3) sc_Execution_begin.nd rfl (Or.inl rfl)) (pgs_cons (pg_name (i := 4) sc_Execution_begin.nd rfl (Or.inl rfl)) (pgs_cons (pg_name (i := 5) sc_Execution_begin.nd rfl (Or.inl rfl)) pgs_nil))))))
      (pss_cons (ps_set (i := 6) sc_Execution_begin.nd rfl (Or.inl rfl) (pe_ix (k_ixL K) (pe_fld (pv 0) rfl) (pv 3) (fun _ _ => rfl)))
      (C8.pss_cut (ps_if (PW.pt (pw_and (pt_cmpR op_gt (pe_callB (k_len K) (by rfl) T.z_len bt_len (pa_cons (pv 6) pa_nil)) pe_int (nomark _)) (pw_and1 (pt_cmpR op_eq (pe_ix (k_ixL K) (pv 6) (pe_un un_neg pe_int) (fun _ _ => rfl)) (pe_fld (pv 0) rfl) (nomark _))))) (pss_one (ps_raise rfl (takes_of rfl rfl rfl rfl) (pmk_oex T.O_NoRun T.io_NoRun T.to_NoRun (ok_NoRun___init__ T) (hr.mono (by decide)) (b_NoRun___init__ T) .nil pass0 (by rfl) T.g_NoRun (pa_cons (pe_un un_neg pe_int) pa_nil)))) pss_nil)
      (pss_cons (ps_expr (pe_bm PySem.F.plainAttrs_list PySem.F.slot_list_append PySem.F.type_list_append mt_append (pv 6) (pa_cons (pe_fld (pv 0) rfl) pa_nil)))
      (C8.pss_cut (ps_if (pt_val (pv 4)) (pss_one (ps_expr (pe_bm PySem.F.plainAttrs_list PySem.F.slot_list_append PySem.F.type_list_append mt_append (pe_fld (pv 0) rfl) (pa_cons (C8.pe_gc rfl T.c_HOLD) pa_nil)))) pss_nil)
      (pss_cons (ps_expr (pe_bm PySem.F.plainAttrs_list PySem.F.slot_list_append PySem.F.type_list_append mt_append (pe_fld (pv 0) rfl) (pa_cons (pe_tup (pa_cons pe_str (pa_cons (pv 3) (pa_cons (pv 4) (pa_cons (pv 5) pa_nil))))) pa_nil)))
      (pss_one (ps_expr (pe_meth (pv 0) T.cl_Execution T.m_Execution_enter (ok_Execution_enter T) (hr.mono (by decide)) (b_Execution_enter T) .nil pass0 (pa_cons (pe_ix (k_ixL K) (pe_fld (pv 0) rfl) (pv 3) (fun _ _ => rfl)) pa_nil)))))))))), ?_⟩
    obtain ⟨dx, he⟩ := X.ins
    obtain ⟨vt, xs, rfl, hvt, tx⟩ := hv
    obtain ⟨x1, _, rfl, t1, x2, _, rfl, t2, x3, _, rfl, t3, x4, _, rfl, t4, rfl⟩ := tx
    have t2 : x2 = .int p := t2
    have t3 : x3 = .bl sv := t3
    subst t2 t3
    unfold beginE at q
    cases eb : s.begun[p]? with
    | none => rw [eb] at q; exact q.elim
    | some ns =>
      cases ebd : A1.bs[p]? with
      | none => rw [eb, ebd] at q; exact q.elim
      | some body =>
        rw [eb, ebd] at q
        dsimp only at q
        refine ⟨_, rfl, vt, _, rfl, SqT.of hvt, rfl, _, _, rfl, _, _, rfl, _, _, rfl, _, _, rfl, rfl, ?_⟩
        obtain ⟨hG, lG, hB⟩ := X.beg
        have hp := (List.getElem?_eq_some_iff.mp eb).1
        obtain ⟨g, eg⟩ : ∃ g, A1.gs[p]? = some g := ⟨_, List.getElem?_eq_getElem (show p < A1.gs.length by omega)⟩
        have hg1 := hB p g _ eg eb
        refine ⟨_, rfl, A1.e, T.C_Execution, dx, _, _, rfl, he, T.cl_Execution, T.na_Execution_begun, exf_begun, _, rfl, A1.aG, _, _, .ref g, rfl, rfl, SqL.of hG, atI_nat (by rw [List.getElem?_map, eg]; rfl), ?_⟩
        refine ⟨fun σ H2 => σ = [some (.ref A1.e), some (.ref vt), some x1, some (.int p), some (.bl sv), some x4, some (.ref g)] ∧ H2 = H ∧ ¬ ns.head? = some s.taken, ?_, fun σ H2 h => ?_⟩
        · refine ⟨_, rfl, _, _, rfl, .inl (SqL.of hg1), _, _, rfl, rfl, ?_⟩
          cases ns with
          | nil => exact ⟨_, rfl, iteN (by decide) (iteF ⟨rfl, rfl, by simp⟩)⟩
          | cons n r =>
            have el : ((n :: r).reverse.map natV) = r.reverse.map natV ++ [natV n] := by rw [List.reverse_cons, List.map_append]; rfl
            refine ⟨_, rfl, iteP (by simp) ?_⟩
            refine ⟨_, rfl, _, rfl, g, _, _, natV n, rfl, rfl, SqL.of hg1, by rw [el]; exact atI_last _ _, _, rfl, A1.e, T.C_Execution, dx, _, _, rfl, he, T.cl_Execution, T.na_Execution_taken, exf_taken, rfl, ?_⟩
            by_cases e : n = s.taken
            · subst e
              rw [if_pos (show (s.taken :: r).head? = some s.taken from rfl)] at q
              refine ⟨_, rfl, iteP rfl ⟨_, rfl, ?_⟩⟩
              exact ⟨by show 1 ≤ 1000; decide, made_NR q (KpM.of (Same.refl _))⟩
            · refine ⟨_, rfl, iteN (show ¬ natV n = natV s.taken from fun h => e (by injection h with h; exact Int.ofNat.inj h)) ⟨rfl, rfl, fun h => e (by cases h; rfl)⟩⟩
        · obtain ⟨rfl, rfl, hne⟩ := h
          rw [if_neg hne] at q
          obtain ⟨hz1, hz2⟩ := hz
          have lns := hz2 _ (List.mem_of_getElem? eb)
          refine ⟨_, rfl, .inl ⟨rfl, _, .inl (.inl hg1)⟩, _, rfl, A1.e, T.C_Execution, dx, _, _, rfl, he, T.cl_Execution, T.na_Execution_taken, exf_taken, g, _, natV s.taken, rfl, rfl, hg1, Nat.lt_of_le_of_lt (m := 500000) (by rw [List.length_map, List.length_reverse]; exact lns) (by decide), ?_⟩
          have e1 : ns.reverse.map natV ++ [natV s.taken] = (s.taken :: ns).reverse.map natV := by rw [List.reverse_cons, List.map_append]; rfl
          rw [e1]
          obtain ⟨k1, X1⟩ := X.setBegun (ns := s.taken :: ns) eg
          have t4' := Tr.hold (k1.tr X.mut) _ _ t4
          clear t4 hvt hg1 hB hG
          generalize upd H2 g _ = H1 at *
          obtain ⟨dx1, he1⟩ := X1.ins
          refine ⟨fun σ H3 => σ = [some (.ref A1.e), some (.ref vt), some x1, some (.int p), some (.bl sv), some x4, some (.ref g)] ∧ KpM A1.M H2 H3 ∧ ExV T.C_Execution T.a_HOLD T.a_BACK A1 { s with begun := s.begun.set p (s.taken :: ns), deeds := s.deeds ++ (if sv then [.hold] else []) } H3 ∧ Tr A1.S H3 (.list [bD a, bD b]) x4, ?_, fun σ H3 h => ?_⟩
          · refine ⟨_, rfl, _, rfl, ?_⟩
            obtain ⟨ds, hd, rd⟩ := X1.dds
            have ld := rd.len
            cases sv with
            | true =>
              refine iteT ⟨_, rfl, A1.e, T.C_Execution, dx1, _, _, rfl, he1, T.cl_Execution, T.na_Execution_deeds, exf_deeds, .inl ⟨rfl, _, .inl (.inl hd)⟩, A1.aD, ds, .ref T.a_HOLD, rfl, rfl, hd, Nat.lt_of_le_of_lt (m := 500000) (by rw [ld]; exact Nat.le_trans (Nat.le_add_left _ _) hz1) (by decide), ?_⟩
              obtain ⟨k2, X2⟩ := X1.setDeeds (ds := ds ++ [.ref T.a_HOLD]) (xs := s.deeds ++ [.hold]) (AllR.append rd (AllR.one (a := Dd.hold) rfl))
              exact ⟨rfl, k1.trans k2, X2, Tr.hold (k2.tr X1.mut) _ _ t4'⟩
            | false =>
              refine iteF ⟨rfl, k1, ?_, t4'⟩
              rw [show s.deeds ++ (if false = true then [Dd.hold] else []) = s.deeds from List.append_nil _]
              exact X1
          · obtain ⟨rfl, k2, X2, t5⟩ := h
            obtain ⟨dx2, he2⟩ := X2.ins
            obtain ⟨ls, hl, rl⟩ := X2.lft
            refine ⟨_, rfl, A1.e, T.C_Execution, dx2, _, _, rfl, he2, T.cl_Execution, T.na_Execution_left, exf_left, .inl ⟨rfl, _, .inl (.inl hl)⟩, ?_⟩
            have zl : s.left.length ≤ 500000 := Nat.le_trans (Nat.le_add_right _ _) hz1
            have ll := rl.len
            rw [List.length_reverse] at ll
            refine ⟨_, rfl, _, rfl, _, rfl, small100 (n := 4) (by decide), fun u nu => ?_⟩
            have su := same_upd (o := .tup [.str "behind", .int p, .bl sv, x4]) nu
            have hu : upd H3 u (.tup [.str "behind", .int p, .bl sv, x4]) u = _ := upd_same
            have X3 := X2.same su
            have t6 := Tr.hold ((KpM.of (M := A1.M) su).tr X2.mut) _ _ t5
            have rl1 := AllR.imp (ThV.keep (KpM.of (M := A1.M) su) X2.mut) rl
            have hl1 := su _ _ hl
            have k3 : KpM A1.M H2 (upd H3 u (.tup [.str "behind", .int p, .bl sv, x4])) := k2.trans (KpM.of su)
            generalize upd H3 u _ = H4 at *
            have tb : ThV A1.S T.a_BACK H4 (.beh p sv a b) (.ref u) := ⟨u, _, rfl, hu, _, _, rfl, rfl, _, _, rfl, rfl, _, _, rfl, rfl, _, _, rfl, t6, rfl⟩
            refine ⟨A1.aL, ls, .ref u, rfl, rfl, hl1, Nat.lt_of_le_of_lt (m := 500000) (by rw [ll]; exact zl) (by decide), ?_⟩
            obtain ⟨k4, X4⟩ := X3.setLeft (ls := ls ++ [.ref u]) (xs := .beh p sv a b :: s.left) (by rw [List.reverse_cons]; exact AllR.append rl1 (AllR.one tb))
            generalize upd H4 A1.aL _ = H5 at *
            obtain ⟨dx5, he5⟩ := X4.ins
            obtain ⟨ps, hps, tps⟩ := X4.procs
            have lps := tps.len
            rw [List.length_map] at lps
            have hlt := (List.getElem?_eq_some_iff.mp ebd).1
            obtain ⟨y, ey⟩ : ∃ y, ps[p]? = some y := ⟨_, List.getElem?_eq_getElem (show p < ps.length by omega)⟩
            obtain ⟨d, ed, td⟩ := tps.get ey
            rw [List.getElem?_map, ebd] at ed
            cases ed
            refine ⟨_, rfl, A1.e, dx5, _, rfl, he5, exf_enter, _, rfl, A1.e, T.C_Execution, dx5, _, _, rfl, he5, T.cl_Execution, T.na_Execution_procedures, exf_procedures, _, rfl, A1.aP, ps, _, y, rfl, rfl, SqL.of hps, atI_nat ey, A1, _, body, y, rfl, X4, td, (hb _ (List.mem_of_getElem? ebd)).1, Nat.le_trans (show s.left.length + 1 ≤ 500001 by omega) (by decide), fun H6 k6 X6 => ?_⟩
            exact q _ ((k3.trans k4).trans k6) X6

--SPLIT
def Th.word : Th → Str
  | .st (.cmd c) => c.word
  | .st (.fin _) => "end"
  | .st (.keep _) => "keep"
  | .st (.again _) => "again"
  | .st (.either _ _) => "either"
  | .st (.call _ _ _ _) => "call"
  | .beh _ _ _ _ => "behind"
  | .back => "back"
theorem atI_0 (x : V) (r : List V) : atI (x :: r) 0 = some x := atI_nat (j := 0) rfl
def nine : List Str := ["go", "turn", "mirror", "scale", "aim", "place", "mark", "return", "exchange"]
theorem cm_nine (c : Cm) : c.word ∈ nine := by cases c <;> simp [Cm.word, nine]
theorem cm_neS {s : Str} (h : ¬ s ∈ nine) (c : Cm) : ¬ c.word = s := fun e => h (e ▸ cm_nine c)
theorem th_word {S : Addr → Prop} {aB : Addr} {H : Hp} (hB : ∀ H, SqT K H aB [V.str "back"]) : ∀ {x : Th} {v : V}, ThV S aB H x v → ∃ t xs, v = .ref t ∧ SqT K H t xs ∧ atI xs 0 = some (.str x.word)
  | .st (.cmd c), _, ⟨a, _, e, l, _, _, rfl, rfl, _⟩ => ⟨a, _, e, SqT.of l, atI_0 _ _⟩
  | .st (.fin _), _, ⟨a, _, e, l, _, _, rfl, rfl, _⟩ => ⟨a, _, e, SqT.of l, atI_0 _ _⟩
  | .st (.keep _), _, ⟨a, _, e, l, _, _, rfl, rfl, _⟩ => ⟨a, _, e, SqT.of l, atI_0 _ _⟩
  | .st (.again _), _, ⟨a, _, e, l, _, _, rfl, rfl, _⟩ => ⟨a, _, e, SqT.of l, atI_0 _ _⟩
  | .st (.either _ _), _, ⟨a, _, e, l, _, _, rfl, rfl, _⟩ => ⟨a, _, e, SqT.of l, atI_0 _ _⟩
  | .st (.call _ _ _ _), _, ⟨a, _, e, l, _, _, rfl, rfl, _⟩ => ⟨a, _, e, SqT.of l, atI_0 _ _⟩
  | .beh _ _ _ _, _, ⟨a, _, e, l, _, _, rfl, rfl, _⟩ => ⟨a, _, e, SqT.of l, atI_0 _ _⟩
  | .back, _, e => ⟨aB, _, e, hB H, rfl⟩
def backD : PyData := .tuple [.str "back"]
theorem back_sh : SeqAt.shaped backD = true := by decide +kernel
theorem cm_neB (c : Cm) (s : Str) (h : ∀ c : Cm, ¬ c.word = s) : PyData.eqv (.str c.word) (.str s) = false := by
  rw [PyData.eqv]
  exact beq_eq_false_iff_ne.mpr (h c)
theorem ne_back : ∀ z : Stm, PyData.eqv z.d backD = false
  | .cmd c => by
    show PyData.eqv (.tuple (.str c.word :: c.nums.map .int)) (.tuple [.str "back"]) = false
    rw [PyData.eqv, PyData.eqvAll, cm_neB c "back" (cm_neS (by decide))]
    rfl
  | .fin _ => rfl
  | .keep _ => rfl
  | .again _ => rfl
  | .either _ _ => rfl
  | .call _ _ _ _ => rfl
theorem iteB {b : Bool} {A B : Prop} (h : b = true) (hb : B) : if (!b) = true then A else B := by
  rw [h, if_neg (by decide)]
  exact hb
theorem iteNB {b : Bool} {A B : Prop} (h : b = false) (ha : A) : if (!b) = true then A else B := by
  rw [h]
  exact ha
theorem dec_str (a b : Str) : decide (V.str a = V.str b) = decide (a = b) := by
  by_cases h : a = b
  · subst h; simp
  · rw [decide_eq_false h, decide_eq_false (fun e => h (by injection e))]
def Th.isB : Th → Bool
  | .back => true
  | _ => false
theorem unw_cons {x : Th} {r : List Th} {ds : List Dd} (h : ¬ x.word = "behind") : unwL (x :: r) ds = unwL r (ds ++ if x.isB then [.back] else []) := by
  match x with
  | .st z => show unwL r ds = unwL r (ds ++ []); rw [List.append_nil]
  | .back => rfl
  | .beh _ _ _ _ => exact absurd rfl h
theorem th_neB {x : Th} (h : ¬ x.word = "behind") {S : Addr → Prop} {aB : Addr} {H : Hp} (hB : ∀ H, SqT K H aB [V.str "back"]) {v : V} (t : ThV S aB H x v) (o : x.ok) : ∃ d, Dp K H v d ∧ SeqAt.shaped d = true ∧ PyData.eqv d backD = x.isB := by
  match x with
  | .st z =>
    obtain ⟨many, l, o, hl⟩ := o
    have sh := (fit_stm z l 12 o (by omega)).shaped (by decide)
    exact ⟨z.d, Tr.dp _ _ (canOf sh) t, sh, ne_back z⟩
  | .back =>
    have t : v = .ref aB := t
    subst t
    exact ⟨backD, .tup (hB H) (.cons (.str _) .nil), back_sh, rfl⟩
  | .beh _ _ _ _ => exact absurd rfl h
def sp_Execution_unwind (C aH aB : Addr) : Sp := fun vs H Q _ => ∃ (A : ExA) (s s' : ESt) (w : Bool), vs = [.ref A.e, .int (wayN w)] ∧ ExV C aH aB A s H ∧ (∀ x ∈ s.left, x.ok) ∧ Szd 500000 s ∧ unwindE w s = .go s' ∧ ∀ H', KpM A.M H H' → ExV C aH aB A s' H' → Q .non H'
/-- the next thing of what is left -/
theorem pop_left {R : Th → V → Prop} {x : Th} {r : List Th} {ls : List V} (h : AllR R (x :: r).reverse ls) : ∃ us v, ls = us ++ [v] ∧ AllR R r.reverse us ∧ R x v := by
  rw [List.reverse_cons] at h
  exact AllR.split h
theorem pop_last (us : List V) (v : V) : (us ++ [v])[(us ++ [v]).length - 1]? = some v ∧ (us ++ [v]).dropLast = us := by
  refine ⟨?_, List.dropLast_concat⟩
  rw [List.length_append, List.length_singleton, Nat.add_sub_cancel, List.getElem?_append_right (Nat.le_refl _), Nat.sub_self]
  rfl
theorem ok_Execution_unwind (T : Top w K mg) : FnOk P w K mg base CX0 3 T.a_Execution_unwind T.d_Execution_unwind ["self", "way"] (sp_Execution_unwind T.C_Execution T.a_HOLD T.a_BACK) := by
  refine T.F_Execution_unwind.ok sc_Execution_unwind (fun vs H Q E h => ?_) (fun cdv A outer sh H vs Q E hr h => ?_)
  · obtain ⟨A, s, s', w, rfl, _⟩ := h
    rfl
  · obtain ⟨A1, s, s', w1, rfl, X, hok, hz, hg, q⟩ := h
    refine ⟨_, (pss_cons (ps_set (i := 2) sc_Execution_unwind.nd rfl (Or.inl rfl) (pe_bm0 PySem.F.plainAttrs_list PySem.F.slot_list_pop PySem.F.type_list_pop mt_pop (pe_fld (pv 0) rfl)))
      (pss_cons (ps_while PassesOwn.never (pt_cmpR op_ne (pe_ix ix_tup (pv 2) pe_int (fun _ _ => rfl)) pe_str (nomark _)) (C8.pss_cut (ps_if (pt_cmpR (op_eqD (hu64 hr)) (pv 2) (C8.pe_gc rfl T.c_BACK) (nomark _)) (pss_one (ps_expr (pe_bm PySem.F.plainAttrs_list PySem.F.slot_list_append PySem.F.type_list_append mt_append (pe_fld (pv 0) rfl) (pa_cons (C8.pe_gc rfl T.c_BACK) pa_nil)))) pss_nil)
        (pss_one (ps_set (i := 2) sc_Execution_unwind.nd rfl (Or.inl rfl) (pe_bm0 PySem.F.plainAttrs_list PySem.F.slot_list_pop PySem.F.type_list_pop mt_pop (pe_fld (pv 0) rfl))))))
      (pss_one (ps_expr (pe_meth (pv 0) T.cl_Execution T.m_Execution_leave (ok_Execution_leave T) (hr.mono (by decide)) (b_Execution_leave T) .nil pass0 (pa_cons (pv 2) (pa_cons (pv 1) pa_nil))))))), ?_⟩
    obtain ⟨dx, he⟩ := X.ins
    obtain ⟨hz1, hz2⟩ := hz
    unfold unwindE at hg
    cases eu : unwL s.left s.deeds with
    | none => rw [eu] at hg; cases hg
    | some res =>
      obtain ⟨⟨p, sv, a, b⟩, l', ds'⟩ := res
      rw [eu] at hg
      have hg : leaveE p sv a b w1 { s with left := l', deeds := ds' } = .go s' := hg
      have one : ∀ (H1 : Hp) (x : Th) (r : List Th) (ds : List Dd), ExV T.C_Execution T.a_HOLD T.a_BACK A1 { s with left := x :: r, deeds := ds } H1 → ∃ us v, H1 A1.aL = some (.lst (us ++ [v])) ∧ ThV A1.S T.a_BACK (upd H1 A1.aL (.lst us)) x v ∧ KpM A1.M H1 (upd H1 A1.aL (.lst us)) ∧ ExV T.C_Execution T.a_HOLD T.a_BACK A1 { s with left := r, deeds := ds } (upd H1 A1.aL (.lst us)) := fun H1 x r ds X1 => by
        obtain ⟨ls, hl, rl⟩ := X1.lft
        obtain ⟨us, v, rfl, ru, rv⟩ := pop_left rl
        obtain ⟨k, X2⟩ := X1.setLeft ru
        exact ⟨us, v, hl, ThV.keep k X1.mut _ _ rv, k, X2⟩
      cases eleft : s.left with
      | nil => rw [eleft] at eu; cases eu
      | cons x r =>
        have X0 : ExV T.C_Execution T.a_HOLD T.a_BACK A1 { s with left := x :: r, deeds := s.deeds } H := by rw [← eleft]; exact X
        obtain ⟨us, v, hl, tv, k1, X1⟩ := one H x r s.deeds X0
        rw [eleft] at eu hok
        rw [eleft, List.length_cons] at hz1
        refine ⟨_, rfl, A1.e, T.C_Execution, dx, _, _, rfl, he, T.cl_Execution, T.na_Execution_left, exf_left, .inl ⟨rfl, _, .inl (.inl hl)⟩, A1.aL, _, v, rfl, rfl, hl, (pop_last us v).1, ?_⟩
        rw [(pop_last us v).2]
        refine ⟨fun m σ H' => ∃ x rest ds v, m = rest.length ∧ σ = [some (.ref A1.e), some (.int (wayN w1)), some v] ∧ KpM A1.M H H' ∧ ExV T.C_Execution T.a_HOLD T.a_BACK A1 { s with left := rest, deeds := ds } H' ∧ ThV A1.S T.a_BACK H' x v ∧ (∀ y ∈ x :: rest, y.ok) ∧ rest.length + ds.length + 1 ≤ 500000 ∧ unwL (x :: rest) ds = some ((p, sv, a, b), l', ds'), ⟨_, x, r, s.deeds, v, rfl, rfl, k1, X1, tv, hok, by omega, eu⟩, ?_⟩
        rintro m σ H' ⟨x, rest, ds, v, rfl, rfl, k2, X2, tv, hok, hz3, eu⟩
        obtain ⟨t, xs, rfl, ht, hw⟩ := th_word T.h_BACK tv
        refine ⟨_, rfl, t, xs, 0, _, rfl, rfl, ht, hw, rfl, ?_⟩
        rw [dec_str]
        by_cases hb : x.word = "behind"
        · refine ⟨_, rfl, iteB (decide_eq_true hb) ?_⟩
          have hx : ∃ p' sv' a' b', x = .beh p' sv' a' b' := by
            match x, hb with
            | .beh p' sv' a' b', _ => exact ⟨_, _, _, _, rfl⟩
            | .st (.cmd c), hb => exact absurd hb (cm_neS (by decide) c)
          obtain ⟨p', sv', a', b', rfl⟩ := hx
          cases eu
          have ho := hok _ List.mem_cons_self
          obtain ⟨dx2, he2⟩ := X2.ins
          refine ⟨_, rfl, A1.e, dx2, _, rfl, he2, exf_leave, _, rfl, _, rfl, A1, _, s', p, sv, w1, a, b, .ref t, rfl, X2, tv, ho, ⟨by show l'.length + ds'.length ≤ 500000; omega, hz2⟩, hg, fun H3 k3 X3 => q _ (k2.trans k3) X3⟩
        · refine ⟨_, rfl, iteNB (decide_eq_false hb) ?_⟩
          rw [unw_cons hb] at eu
          cases erest : rest with
          | nil => rw [erest] at eu; cases eu
          | cons y r2 =>
            subst erest
            obtain ⟨d, hd1, sh1, ed⟩ := th_neB hb T.h_BACK tv (hok _ List.mem_cons_self)
            refine ⟨fun σ H' => ∃ y r3 ds v, r3.length = r2.length ∧ σ = [some (.ref A1.e), some (.int (wayN w1)), some v] ∧ KpM A1.M H H' ∧ ExV T.C_Execution T.a_HOLD T.a_BACK A1 { s with left := r3, deeds := ds } H' ∧ ThV A1.S T.a_BACK H' y v ∧ (∀ z ∈ y :: r3, z.ok) ∧ r3.length + ds.length + 1 ≤ 500000 ∧ unwL (y :: r3) ds = some ((p, sv, a, b), l', ds'), fun σ' H1 ⟨y, r3, ds, v, e1, e2⟩ => ⟨r2.length, by simp, y, r3, ds, v, e1.symm, e2⟩, ?_⟩
            refine ⟨fun σ H1 => σ = [some (.ref A1.e), some (.int (wayN w1)), some (.ref t)] ∧ KpM A1.M H H1 ∧ ExV T.C_Execution T.a_HOLD T.a_BACK A1 { s with left := y :: r2, deeds := ds ++ if x.isB then [.back] else [] } H1, ?_, fun σ H1 h => ?_⟩
            · refine ⟨_, rfl, d, backD, hd1, .tup (T.h_BACK _) (.cons (.str _) .nil), sh1, back_sh, _, rfl, ?_⟩
              rw [ed]
              obtain ⟨dsv, hdd, rd⟩ := X2.dds
              have ld := rd.len
              have hz4 : ds.length < 500000 := by omega
              obtain ⟨dx2, he2⟩ := X2.ins
              cases x.isB with
              | true =>
                refine iteT ⟨_, rfl, A1.e, T.C_Execution, dx2, _, _, rfl, he2, T.cl_Execution, T.na_Execution_deeds, exf_deeds, .inl ⟨rfl, _, .inl (.inl hdd)⟩, A1.aD, dsv, .ref T.a_BACK, rfl, rfl, hdd, Nat.lt_trans (m := 500000) (by rw [ld]; exact hz4) (by decide), ?_⟩
                obtain ⟨k3, X3⟩ := X2.setDeeds (ds := dsv ++ [.ref T.a_BACK]) (xs := ds ++ [.back]) (AllR.append rd (AllR.one (a := Dd.back) rfl))
                exact ⟨rfl, k2.trans k3, X3⟩
              | false =>
                refine iteF ⟨rfl, k2, ?_⟩
                rw [show ds ++ (if false = true then [Dd.back] else []) = ds from List.append_nil _]
                exact X2
            · obtain ⟨rfl, k3, X3⟩ := h
              obtain ⟨us, v, hl, tv, k4, X4⟩ := one H1 y r2 _ X3
              obtain ⟨dx3, he3⟩ := X3.ins
              refine ⟨_, rfl, A1.e, T.C_Execution, dx3, _, _, rfl, he3, T.cl_Execution, T.na_Execution_left, exf_left, .inl ⟨rfl, _, .inl (.inl hl)⟩, A1.aL, _, v, rfl, rfl, hl, (pop_last us v).1, ?_⟩
              rw [(pop_last us v).2]
              refine ⟨y, r2, _, v, rfl, rfl, k3.trans k4, X4, tv, fun z hz => hok z (List.mem_cons_of_mem _ hz), ?_, eu⟩
              have : (if x.isB = true then [Dd.back] else []).length ≤ 1 := by split <;> simp
              rw [List.length_append]
              rw [List.length_cons] at hz3
              omega

--SPLIT
theorem wne {a b : Str} (h : ¬ a = b) : ¬ V.str a = V.str b := fun e => h (by injection e)
theorem atI_1 (x y : V) (r : List V) : atI (x :: y :: r) 1 = some y := atI_nat (j := 1) rfl
theorem atI_2 (x y z : V) (r : List V) : atI (x :: y :: z :: r) 2 = some z := atI_nat (j := 2) rfl
theorem cm_tr {S S' : Addr → Prop} {H : Hp} (c : Cm) {us : List V} (h : TrAll S H (c.nums.map .int) us) : TrAll S' H (c.nums.map .int) us := by
  have key : ∀ (ns : List Int) (us : List V), TrAll S H (ns.map .int) us → TrAll S' H (ns.map .int) us := by
    intro ns
    induction ns with
    | nil => exact fun _ h => h
    | cons n r ih => exact fun us ⟨x, ws, e, t, u⟩ => ⟨x, ws, e, t, ih _ u⟩
  exact key _ _ h
theorem leave_or {p : Nat} {sv w : Bool} {a b : List Stm} {s : ESt} : leaveE p sv a b w s = .bad ∨ ∃ s', leaveE p sv a b w s = .go s' := by
  unfold leaveE
  split
  · exact .inr ⟨_, rfl⟩
  · exact .inl rfl
theorem unw_or {w : Bool} {s : ESt} : unwindE w s = .bad ∨ ∃ s', unwindE w s = .go s' := by
  unfold unwindE
  split
  · exact leave_or
  · exact .inl rfl
def sp_Execution_step (C aH aB CE : Addr) : Sp := fun vs H Q E => ∃ (A : ExA) (s : ESt) (x : Th) (v : V), vs = [.ref A.e, v] ∧ ExV C aH aB A s H ∧ ThV A.S aB H x v ∧ x.ok ∧ (∀ y ∈ s.left, y.ok) ∧ BodiesOk A.bs ∧ Szd 400000 s ∧ OutR CE C aH aB A H Q E (stepE A.bs A.bits x s)
theorem ok_Execution_step (T : Top w K mg) : FnOk P w K mg base (L2.CX P w) 4 T.a_Execution_step T.d_Execution_step ["self", "thing"] (sp_Execution_step T.C_Execution T.a_HOLD T.a_BACK T.C_NoRun) := by
  refine T.F_Execution_step.okX sc_Execution_step (fun vs H Q E h => ?_) (fun cdv A outer sh H vs Q E hr h => ?_)
  · obtain ⟨A, s, x, v, rfl, _⟩ := h
    rfl
  · obtain ⟨A1, s, x, v, rfl, X, tv, ho, hok, hbs, hz, q⟩ := h
    refine ⟨_, (pss_cons (ps_set (i := 2) sc_Execution_step.nd rfl (Or.inl rfl) (pe_ix ix_tup (pv 1) pe_int (fun _ _ => rfl)))
      (pss_one (ps_if (pt_cmpR op_eq (pv 2) pe_str (nomark _)) (pss_cons (ps_expr (pe_bm PySem.F.plainAttrs_list PySem.F.slot_list_append PySem.F.type_list_append mt_append (pe_fld (pv 0) rfl) (pa_cons (C8.pe_gc rfl T.c_HOLD) pa_nil)))
        (pss_cons (ps_expr (pe_bm PySem.F.plainAttrs_list PySem.F.slot_list_append PySem.F.type_list_append mt_append (pe_fld (pv 0) rfl) (pa_cons (C8.pe_gc rfl T.c_BACK) pa_nil)))
        (pss_one (ps_expr (pe_meth (pv 0) T.cl_Execution T.m_Execution_enter (ok_Execution_enter T) (hr.mono (by decide)) (b_Execution_enter T) .nil pass0 (pa_cons (pe_ix ix_tup (pv 1) pe_int (fun _ _ => rfl)) pa_nil)))))) (pss_one (ps_if (pt_cmpR op_eq (pv 2) pe_str (nomark _)) (pss_one (ps_expr (pe_meth (pv 0) T.cl_Execution T.m_Execution_enter (ok_Execution_enter T) (hr.mono (by decide)) (b_Execution_enter T) .nil pass0 (pa_cons (pe_ix ix_tup (pv 1) (pe_op op_add pe_int (pe_methR0 (pv 0) T.cl_Execution T.m_Execution_take (ok_Execution_take T) (hr.mono (by decide)) (b_Execution_take T) (fun σ => passAt (takes_of rfl rfl rfl rfl) σ))) (fun _ _ => rfl)) pa_nil)))) (pss_one (ps_if (pt_cmpR op_eq (pv 2) pe_str (nomark _)) (pss_one (ps_if (pt_cmpR op_eq (pe_methR0 (pv 0) T.cl_Execution T.m_Execution_take (ok_Execution_take T) (hr.mono (by decide)) (b_Execution_take T) (fun σ => passAt (takes_of rfl rfl rfl rfl) σ)) pe_int (nomark _)) (pss_cons (ps_expr (pe_bm PySem.F.plainAttrs_list PySem.F.slot_list_append PySem.F.type_list_append mt_append (pe_fld (pv 0) rfl) (pa_cons (pv 1) pa_nil)))
              (pss_one (ps_expr (pe_meth (pv 0) T.cl_Execution T.m_Execution_enter (ok_Execution_enter T) (hr.mono (by decide)) (b_Execution_enter T) .nil pass0 (pa_cons (pe_ix ix_tup (pv 1) pe_int (fun _ _ => rfl)) pa_nil))))) pss_nil)) (pss_one (ps_if (pt_cmpR op_eq (pv 2) pe_str (nomark _)) (pss_one (ps_expr (pe_methR (pv 0) T.cl_Execution T.m_Execution_begin (ok_Execution_begin T) (hr.mono (by decide)) (b_Execution_begin T) (fun σ => passAt (takes_of rfl rfl rfl rfl) σ) (pa_cons (pv 1) pa_nil)))) (pss_one (ps_if (pt_cmpR op_eq (pv 2) pe_str (nomark _)) (pss_one (ps_expr (pe_meth (pv 0) T.cl_Execution T.m_Execution_leave (ok_Execution_leave T) (hr.mono (by decide)) (b_Execution_leave T) .nil pass0 (pa_cons (pv 1) (pa_cons pe_int pa_nil))))) (pss_one (ps_if (pt_cmpR op_eq (pv 2) pe_str (nomark _)) (pss_one (ps_expr (pe_meth (pv 0) T.cl_Execution T.m_Execution_unwind (ok_Execution_unwind T) (hr.mono (by decide)) (b_Execution_unwind T) .nil pass0 (pa_cons (pe_ix ix_tup (pv 1) pe_int (fun _ _ => rfl)) pa_nil)))) (pss_one (ps_expr (pe_bm PySem.F.plainAttrs_list PySem.F.slot_list_append PySem.F.type_list_append mt_append (pe_fld (pv 0) rfl) (pa_cons (pv 1) pa_nil))))))))))))))))), ?_⟩
    obtain ⟨dx, he⟩ := X.ins
    obtain ⟨hz1, hz2⟩ := hz
    have zl : s.left.length ≤ 400000 := Nat.le_trans (Nat.le_add_right _ _) hz1
    obtain ⟨ls, hl, rl⟩ := X.lft
    have ll := rl.len
    rw [List.length_reverse] at ll
    obtain ⟨ds, hd, rd⟩ := X.dds
    have ld := rd.len
    have zd : ds.length ≤ 400000 := by rw [ld]; exact Nat.le_trans (Nat.le_add_left _ _) hz1
    have sz : Szd 500000 s := ⟨by omega, fun ns h => Nat.le_trans (hz2 ns h) (by decide)⟩
    have app : ∀ d (vd : V), DdV T.a_HOLD T.a_BACK H d vd → KpM A1.M H (upd H A1.aD (.lst (ds ++ [vd]))) ∧ ExV T.C_Execution T.a_HOLD T.a_BACK A1 { s with deeds := s.deeds ++ [d] } (upd H A1.aD (.lst (ds ++ [vd]))) := fun d vd h => X.setDeeds (AllR.append rd (AllR.one h))
    obtain ⟨t, xs, rfl, ht, hw⟩ := th_word T.h_BACK tv
    refine ⟨_, rfl, t, xs, 0, _, rfl, rfl, ht, hw, ?_⟩
    match x with
    | .back =>
      refine ⟨_, rfl, rfl, _, rfl, iteN (wne (a := "back") (by decide)) ?_⟩
      refine ⟨_, rfl, rfl, _, rfl, iteN (wne (a := "back") (by decide)) ?_⟩
      refine ⟨_, rfl, rfl, _, rfl, iteN (wne (a := "back") (by decide)) ?_⟩
      refine ⟨_, rfl, rfl, _, rfl, iteN (wne (a := "back") (by decide)) ?_⟩
      refine ⟨_, rfl, rfl, _, rfl, iteN (wne (a := "back") (by decide)) ?_⟩
      refine ⟨_, rfl, rfl, _, rfl, iteN (wne (a := "back") (by decide)) ?_⟩
      refine ⟨_, rfl, A1.e, T.C_Execution, dx, _, _, rfl, he, T.cl_Execution, T.na_Execution_deeds, exf_deeds, .inl ⟨rfl, _, .inl (.inl hd)⟩, _, rfl, A1.aD, ds, .ref t, rfl, rfl, hd, Nat.lt_of_le_of_lt zd (by decide), ?_⟩
      obtain ⟨k, X1⟩ := app .back (.ref t) tv
      exact q _ k X1
    | .st (.cmd c) =>
      refine ⟨_, rfl, rfl, _, rfl, iteN (wne (cm_neS (by decide) c)) ?_⟩
      refine ⟨_, rfl, rfl, _, rfl, iteN (wne (cm_neS (by decide) c)) ?_⟩
      refine ⟨_, rfl, rfl, _, rfl, iteN (wne (cm_neS (by decide) c)) ?_⟩
      refine ⟨_, rfl, rfl, _, rfl, iteN (wne (cm_neS (by decide) c)) ?_⟩
      refine ⟨_, rfl, rfl, _, rfl, iteN (wne (cm_neS (by decide) c)) ?_⟩
      refine ⟨_, rfl, rfl, _, rfl, iteN (wne (cm_neS (by decide) c)) ?_⟩
      refine ⟨_, rfl, A1.e, T.C_Execution, dx, _, _, rfl, he, T.cl_Execution, T.na_Execution_deeds, exf_deeds, .inl ⟨rfl, _, .inl (.inl hd)⟩, _, rfl, A1.aD, ds, .ref t, rfl, rfl, hd, Nat.lt_of_le_of_lt zd (by decide), ?_⟩
      obtain ⟨a, ys, e, l, y, us, rfl, hy, hu⟩ := tv
      have tc : DdV T.a_HOLD T.a_BACK H (.cmd c) (.ref t) := ⟨a, _, e, l, y, us, rfl, hy, cm_tr c hu⟩
      obtain ⟨k, X1⟩ := app (.cmd c) (.ref t) tc
      exact q _ k X1
    | .st (.fin w1) =>
      obtain ⟨a, ys, e, l, y, us, rfl, hy, y2, us2, rfl, hy2, rfl⟩ := tv
      cases e
      have hy2 : y2 = .int (wayN w1) := hy2
      subst hy2
      refine ⟨_, rfl, rfl, _, rfl, iteN (wne (a := "end") (by decide)) ?_⟩
      refine ⟨_, rfl, rfl, _, rfl, iteN (wne (a := "end") (by decide)) ?_⟩
      refine ⟨_, rfl, rfl, _, rfl, iteN (wne (a := "end") (by decide)) ?_⟩
      refine ⟨_, rfl, rfl, _, rfl, iteN (wne (a := "end") (by decide)) ?_⟩
      refine ⟨_, rfl, rfl, _, rfl, iteN (wne (a := "end") (by decide)) ?_⟩
      refine ⟨_, rfl, rfl, _, rfl, iteP rfl ?_⟩
      rcases unw_or (w := w1) (s := s) with hb | ⟨s', hg⟩
      · rw [show stepE A1.bs A1.bits (.st (.fin w1)) s = .bad from hb] at q
        exact q.elim
      · rw [show stepE A1.bs A1.bits (.st (.fin w1)) s = .go s' from hg] at q
        exact ⟨_, rfl, A1.e, dx, _, rfl, he, exf_unwind, _, rfl, t, _, 1, _, rfl, rfl, SqT.of l, atI_1 _ _ _, A1, s, s', w1, rfl, X, hok, sz, hg, q⟩
    | .st (.keep b) =>
      obtain ⟨many, lv, o1, o2⟩ := ho
      obtain ⟨k1, X1⟩ := app .hold (.ref T.a_HOLD) rfl
      have tv1 := ThV.keep k1 X.mut _ _ tv
      refine ⟨_, rfl, rfl, _, rfl, iteP rfl ?_⟩
      refine ⟨_, rfl, A1.e, T.C_Execution, dx, _, _, rfl, he, T.cl_Execution, T.na_Execution_deeds, exf_deeds, .inl ⟨rfl, _, .inl (.inl hd)⟩, A1.aD, ds, .ref T.a_HOLD, rfl, rfl, hd, Nat.lt_of_le_of_lt zd (by decide), ?_⟩
      generalize upd H A1.aD _ = H1 at *
      obtain ⟨dx1, he1⟩ := X1.ins
      obtain ⟨ls1, hl1, rl1⟩ := X1.lft
      have ll1 := rl1.len
      rw [List.length_reverse] at ll1
      refine ⟨_, rfl, A1.e, T.C_Execution, dx1, _, _, rfl, he1, T.cl_Execution, T.na_Execution_left, exf_left, .inl ⟨rfl, _, .inl (.inl hl1)⟩, A1.aL, ls1, .ref T.a_BACK, rfl, rfl, hl1, Nat.lt_of_le_of_lt (m := 400000) (by rw [ll1]; exact zl) (by decide), ?_⟩
      obtain ⟨k2, X2⟩ := X1.setLeft (ls := ls1 ++ [.ref T.a_BACK]) (xs := .back :: s.left) (by rw [List.reverse_cons]; exact AllR.append rl1 (AllR.one (a := Th.back) rfl))
      have tv2 := ThV.keep k2 X1.mut _ _ tv1
      generalize upd H1 A1.aL _ = H2 at *
      obtain ⟨dx2, he2⟩ := X2.ins
      obtain ⟨a, ys, e, l, y, us, rfl, hy, y2, us2, rfl, hy2, rfl⟩ := tv2
      cases e
      exact ⟨_, rfl, A1.e, dx2, _, rfl, he2, exf_enter, _, rfl, t, _, 1, _, rfl, rfl, SqT.of l, atI_1 _ _ _, A1, _, b, y2, rfl, X2, hy2, o1.2.1, Nat.le_trans (show s.left.length + 1 ≤ 400001 by omega) (by decide), fun H3 k3 X3 => q _ ((k1.trans k2).trans k3) X3⟩
    | .st (.either a b) =>
      obtain ⟨many, lv, o1, o2⟩ := ho
      refine ⟨_, rfl, rfl, _, rfl, iteN (wne (a := "either") (by decide)) ?_⟩
      refine ⟨_, rfl, rfl, _, rfl, iteP rfl ?_⟩
      have tq : ∀ w, A1.bits[s.taken]? = some w → OutR T.C_NoRun T.C_Execution T.a_HOLD T.a_BACK A1 H Q E (.go (enterE (if w then b else a) { s with taken := s.taken + 1 })) := fun w e => by
        have q2 := q
        simp only [stepE, takeE, e] at q2
        exact q2
      refine ⟨_, rfl, A1.e, dx, _, rfl, he, exf_enter, _, rfl, _, rfl, A1.e, dx, _, rfl, he, exf_take, A1, s, rfl, X, fun e => ?_, fun w e H1 k1 X1 => ?_⟩
      · simp only [stepE, takeE, e] at q
        exact q
      · have tv1 := ThV.keep k1 X.mut _ _ tv
        have q2 := tq w e
        clear tv
        obtain ⟨dx1, he1⟩ := X1.ins
        obtain ⟨a', ys, e', l, y, us, rfl, hy, y2, us2, rfl, hy2, y3, us3, rfl, hy3, rfl⟩ := tv1
        cases e'
        have ey : atI [y, y2, y3] (1 + (if w then 1 else 0)) = some (if w then y3 else y2) := by
          cases w
          · exact atI_1 _ _ _
          · exact atI_2 _ _ _ _
        refine ⟨_, _, rfl, rfl, t, _, _, _, rfl, rfl, SqT.of l, ey, A1, _, if w then b else a, if w then y3 else y2, rfl, X1, ?_, ?_, Nat.le_trans (show s.left.length ≤ 400000 from zl) (by decide), fun H3 k3 X3 => q2 _ (k1.trans k3) X3⟩
        · cases w
          · exact hy2
          · exact hy3
        · cases w
          · exact o1.2.1.1
          · exact o1.2.2.1
    | .st (.again b) =>
      obtain ⟨many, lv, o1, o2⟩ := ho
      refine ⟨_, rfl, rfl, _, rfl, iteN (wne (a := "again") (by decide)) ?_⟩
      refine ⟨_, rfl, rfl, _, rfl, iteN (wne (a := "again") (by decide)) ?_⟩
      refine ⟨_, rfl, rfl, _, rfl, iteP rfl ?_⟩
      refine ⟨_, rfl, A1.e, dx, _, rfl, he, exf_take, A1, s, rfl, X, fun e => ?_, fun w e H1 k1 X1 => ?_⟩
      · simp only [stepE, takeE, e] at q
        exact q
      · have tv1 := ThV.keep k1 X.mut _ _ tv
        simp only [stepE, takeE, e] at q
        clear tv
        obtain ⟨dx1, he1⟩ := X1.ins
        cases w with
        | false =>
          refine ⟨rfl, _, rfl, iteN (show ¬ V.int 0 = V.int 1 by decide) ?_⟩
          exact q _ k1 X1
        | true =>
          refine ⟨rfl, _, rfl, iteP rfl ?_⟩
          obtain ⟨ls1, hl1, rl1⟩ := X1.lft
          have ll1 := rl1.len
          rw [List.length_reverse] at ll1
          refine ⟨_, rfl, A1.e, T.C_Execution, dx1, _, _, rfl, he1, T.cl_Execution, T.na_Execution_left, exf_left, .inl ⟨rfl, _, .inl (.inl hl1)⟩, _, rfl, A1.aL, ls1, .ref t, rfl, rfl, hl1, Nat.lt_of_le_of_lt (m := 400000) (by rw [ll1]; exact zl) (by decide), ?_⟩
          obtain ⟨k2, X2⟩ := X1.setLeft (ls := ls1 ++ [.ref t]) (xs := .st (.again b) :: s.left) (by rw [List.reverse_cons]; exact AllR.append rl1 (AllR.one tv1))
          have tv2 := ThV.keep k2 X1.mut _ _ tv1
          generalize upd H1 A1.aL _ = H2 at *
          obtain ⟨dx2, he2⟩ := X2.ins
          obtain ⟨a, ys, e, l, y, us, rfl, hy, y2, us2, rfl, hy2, rfl⟩ := tv2
          cases e
          exact ⟨_, rfl, A1.e, dx2, _, rfl, he2, exf_enter, _, rfl, t, _, 1, _, rfl, rfl, SqT.of l, atI_1 _ _ _, A1, _, b, y2, rfl, X2, hy2, o1.2.1, Nat.le_trans (show s.left.length + 1 ≤ 400001 by omega) (by decide), fun H3 k3 X3 => q _ ((k1.trans k2).trans k3) X3⟩
    | .st (.call p sv a b) =>
      refine ⟨_, rfl, rfl, _, rfl, iteN (wne (a := "call") (by decide)) ?_⟩
      refine ⟨_, rfl, rfl, _, rfl, iteN (wne (a := "call") (by decide)) ?_⟩
      refine ⟨_, rfl, rfl, _, rfl, iteN (wne (a := "call") (by decide)) ?_⟩
      refine ⟨_, rfl, rfl, _, rfl, iteP rfl ?_⟩
      exact ⟨_, rfl, A1.e, dx, _, rfl, he, exf_begin, _, rfl, A1, s, p, sv, a, b, _, rfl, X, tv, hbs, sz, q⟩
    | .beh p sv a b =>
      refine ⟨_, rfl, rfl, _, rfl, iteN (wne (a := "behind") (by decide)) ?_⟩
      refine ⟨_, rfl, rfl, _, rfl, iteN (wne (a := "behind") (by decide)) ?_⟩
      refine ⟨_, rfl, rfl, _, rfl, iteN (wne (a := "behind") (by decide)) ?_⟩
      refine ⟨_, rfl, rfl, _, rfl, iteN (wne (a := "behind") (by decide)) ?_⟩
      refine ⟨_, rfl, rfl, _, rfl, iteP rfl ?_⟩
      rcases leave_or (p := p) (sv := sv) (w := false) (a := a) (b := b) (s := s) with hb | ⟨s', hg⟩
      · rw [show stepE A1.bs A1.bits (.beh p sv a b) s = .bad from hb] at q
        exact q.elim
      · rw [show stepE A1.bs A1.bits (.beh p sv a b) s = .go s' from hg] at q
        exact ⟨_, rfl, A1.e, dx, _, rfl, he, exf_leave, _, rfl, A1, s, s', p, sv, false, a, b, _, rfl, X, tv, ho, sz, hg, q⟩

--SPLIT
def finE (bits : List Bool) : Out → Out
  | .go s => if s.taken < bits.length then .no s.taken else .go s
  | o => o
def startE (p : Nat) (s : ESt) : ESt := { s with left := [.st (.call p false [] [])] }
def sp_Execution_finish (C aH aB CE : Addr) : Sp := fun vs H Q E => ∃ (A : ExA) (s : ESt) (p n : Nat), vs = [.ref A.e, .int p] ∧ ExV C aH aB A s H ∧ s.left = [] ∧ BodiesOk A.bs ∧ Szd 100000 s ∧ n ≤ 20000 ∧ OutR CE C aH aB A H Q E (finE A.bits (runE A.bs A.bits n (startE p s)))
theorem ExV.some {C aH aB : Addr} {A : ExA} {s : ESt} {H : Hp} (X : ExV C aH aB A s H) : ∀ a ∈ (A.e :: A.aP :: A.aT :: A.aL :: A.aG :: A.aD :: A.gs), ∃ o, H a = some o := fun a m => by
  obtain ⟨dx, he⟩ := X.ins
  obtain ⟨ls, hl, _⟩ := X.lft
  obtain ⟨ds, hd, _⟩ := X.dds
  obtain ⟨ps, hp, _⟩ := X.procs
  simp only [List.mem_cons] at m
  rcases m with rfl | rfl | rfl | rfl | rfl | rfl | m
  · exact ⟨_, he⟩
  · exact ⟨_, hp⟩
  · exact ⟨_, X.bts⟩
  · exact ⟨_, hl⟩
  · exact ⟨_, X.beg.1⟩
  · exact ⟨_, hd⟩
  · obtain ⟨i, hi⟩ := List.getElem?_of_mem m
    obtain ⟨hg, lg, hb⟩ := X.beg
    have hlt := (List.getElem?_eq_some_iff.mp hi).1
    exact ⟨_, hb i a _ hi (List.getElem?_eq_getElem (show i < s.begun.length by omega))⟩
theorem ThV.mono {S S' : Addr → Prop} {aB : Addr} {H : Hp} (h : ∀ a, S a → S' a) : ∀ (x : Th) (v : V), ThV S aB H x v → ThV S' aB H x v
  | .st z, v, t => Tr.mono h _ _ t
  | .beh _ _ _ _, v, t => Tr.mono h _ _ t
  | .back, v, t => t
/-- new lists may stand in what is left -/
theorem ExV.grow {C aH aB : Addr} {A : ExA} {s : ESt} {H0 H : Hp} (X : ExV C aH aB A s H) (X0 : ExV C aH aB A s H0) : ExV C aH aB { A with S := fun a => A.S a ∨ H0 a = none } s H := by
  obtain ⟨ps, hp, tp⟩ := X.procs
  obtain ⟨ls, hl, rl⟩ := X.lft
  refine ⟨X.ins, ⟨ps, hp, TrAll.mono (fun a h => .inl h) _ _ tp⟩, X.bts, ⟨ls, hl, AllR.imp (ThV.mono fun a h => .inl h) rl⟩, X.beg, X.dds, ⟨X.sep.1, fun a m h => ?_⟩, X.tk⟩
  rcases h with h | h
  · exact X.sep.2 a m h
  · have m2 : a ∈ A.e :: A.aL :: A.aD :: A.gs := m
    obtain ⟨o, ho⟩ := X0.some a (by
      simp only [List.mem_cons] at m2 ⊢
      rcases m2 with m | m | m | m <;> simp [m])
    rw [ho] at h
    cases h
theorem ExV.shrink {C aH aB : Addr} {A : ExA} {s s0 : ESt} {H0 H : Hp} {S : Addr → Prop} (X : ExV C aH aB { A with S := S } s H) (e : s.left = []) (X0 : ExV C aH aB A s0 H0) (k : KpM A.M H0 H) : ExV C aH aB A s H := by
  obtain ⟨ps, hp, tp⟩ := X0.procs
  obtain ⟨ls, hl, rl⟩ := X.lft
  have kk := Tr.hold (k.tr X0.mut)
  refine ⟨X.ins, ⟨ps, k _ _ X0.out.1 hp, TrAll.hold (k.tr X0.mut) _ _ tp⟩, X.bts, ⟨ls, hl, ?_⟩, X.beg, X.dds, X0.sep, X.tk⟩
  rw [e] at rl ⊢
  exact rl
theorem ok_Execution_finish (T : Top w K mg) : FnOk P w K mg base (L2.CX P w) 5 T.a_Execution_finish T.d_Execution_finish ["self", "procedure"] (sp_Execution_finish T.C_Execution T.a_HOLD T.a_BACK T.C_NoRun) := by
  refine T.F_Execution_finish.okX sc_Execution_finish (fun vs H Q E h => ?_) (fun cdv A outer sh H vs Q E hr h => ?_)
  · obtain ⟨A, s, p, n, rfl, _⟩ := h
    rfl
  · obtain ⟨A1, s, p, n, rfl, X, hl0, hbs, hz, hn, q⟩ := h
    refine ⟨_, (pss_cons (ps_expr (pe_bm PySem.F.plainAttrs_list PySem.F.slot_list_append PySem.F.type_list_append mt_append (pe_fld (pv 0) rfl) (pa_cons (pe_tup (pa_cons pe_str (pa_cons (pv 1) (pa_cons pe_bl (pa_cons (pe_lst (pa_cons (pe_lst pa_nil) (pa_cons (pe_lst pa_nil) pa_nil))) pa_nil))))) pa_nil)))
      (pss_cons (ps_while (passes_of rfl) (pt_truth (pe_fld (pv 0) rfl) (by intro _; rfl)) (pss_one (ps_expr (pe_methR (pv 0) T.cl_Execution T.m_Execution_step (ok_Execution_step T) (hr.mono (by decide)) (b_Execution_step T) (fun σ => passAt (takes_of rfl rfl rfl rfl) σ) (pa_cons (pe_bm0 PySem.F.plainAttrs_list PySem.F.slot_list_pop PySem.F.type_list_pop mt_pop (pe_fld (pv 0) rfl)) pa_nil)))))
      (pss_one (ps_if (pt_cmpR op_lt (pe_fld (pv 0) rfl) (pe_callB (k_len K) (by rfl) T.z_len bt_len (pa_cons (pe_fld (pv 0) rfl) pa_nil)) (nomark _)) (pss_one (ps_raise rfl (takes_of rfl rfl rfl rfl) (pmk_oex T.O_NoRun T.io_NoRun T.to_NoRun (ok_NoRun___init__ T) (hr.mono (by decide)) (b_NoRun___init__ T) .nil pass0 (by rfl) T.g_NoRun (pa_cons (pe_fld (pv 0) rfl) pa_nil)))) pss_nil)))), ?_⟩
    obtain ⟨dx, he⟩ := X.ins
    obtain ⟨hz1, hz2⟩ := hz
    obtain ⟨ls, hl, rl⟩ := X.lft
    rw [hl0] at rl
    have rl : ls = [] := rl
    subst rl
    refine ⟨_, rfl, A1.e, T.C_Execution, dx, _, _, rfl, he, T.cl_Execution, T.na_Execution_left, exf_left, .inl ⟨rfl, _, .inl (.inl hl)⟩, ?_⟩
    refine ⟨_, rfl, small100 (n := 0) (by decide), fun p1 np1 => ⟨small100 (n := 0) (by decide), fun p2 np2 => ⟨small100 (n := 2) (by decide), fun p3 np3 => ⟨small100 (n := 4) (by decide), fun u nu => ?_⟩⟩⟩⟩
    have s1 := same_upd (o := .lst []) np1
    have h1 : upd H p1 (.lst []) p1 = _ := upd_same
    have n1 := np1
    generalize upd H p1 _ = H1 at *
    have s2 := same_upd (o := .lst []) np2
    have h2 : upd H1 p2 (.lst []) p2 = _ := upd_same
    have n2 := s1.free np2
    generalize upd H1 p2 _ = H2 at *
    have s3 := same_upd (o := .lst [.ref p1, .ref p2]) np3
    have h3 : upd H2 p3 (.lst [.ref p1, .ref p2]) p3 = _ := upd_same
    have n3 := (s1.trans s2).free np3
    generalize upd H2 p3 _ = H3 at *
    have s4 := same_upd (o := .tup [.str "call", .int p, .bl false, .ref p3]) nu
    have h4 : upd H3 u (.tup [.str "call", .int p, .bl false, .ref p3]) u = _ := upd_same
    generalize upd H3 u _ = H4 at *
    have sA : Same H H4 := ((s1.trans s2).trans s3).trans s4
    have X4 := (X.same sA).grow X
    have hl4 := sA _ _ hl
    refine ⟨A1.aL, [], .ref u, rfl, rfl, hl4, (show 0 < sizeLine by decide), ?_⟩
    have tc : ThV (fun a => A1.S a ∨ H a = none) T.a_BACK H4 (.st (.call p false [] [])) (.ref u) := by
      refine ⟨u, _, rfl, h4, _, _, rfl, rfl, _, _, rfl, rfl, _, _, rfl, rfl, _, _, rfl, ⟨p3, _, rfl, .inr n3, s4 _ _ h3, _, _, rfl, ?_, _, _, rfl, ?_, rfl⟩, rfl⟩
      · exact ⟨p1, _, rfl, .inr n1, (s2.trans (s3.trans s4)) _ _ h1, rfl⟩
      · exact ⟨p2, _, rfl, .inr n2, (s3.trans s4) _ _ h2, rfl⟩
    obtain ⟨k5, X5⟩ := X4.setLeft (ls := [] ++ [V.ref u]) (xs := [.st (.call p false [] [])]) (by rw [List.reverse_singleton, List.nil_append]; exact AllR.one tc)
    have k5 : KpM A1.M H (upd H4 A1.aL (.lst ([] ++ [.ref u]))) := (KpM.of sA).trans k5
    generalize upd H4 A1.aL _ = H5 at *
    refine ⟨fun m σ H' => ∃ s1, σ = [some (.ref A1.e), some (.int p)] ∧ KpM A1.M H H' ∧ ExV T.C_Execution T.a_HOLD T.a_BACK { A1 with S := fun a => A1.S a ∨ H a = none } s1 H' ∧ (∀ x ∈ s1.left, x.ok) ∧ Szd (399999 - 12 * m) s1 ∧ m ≤ 20000 ∧ OutR T.C_NoRun T.C_Execution T.a_HOLD T.a_BACK A1 H Q E (finE A1.bits (runE A1.bs A1.bits m s1)), ⟨n, startE p s, rfl, k5, X5, fun x hx => ?_, ⟨?_, fun ns h => Nat.le_trans (hz2 ns h) (by omega)⟩, hn, q⟩, ?_⟩
    · have hx : x = .st (.call p false [] []) := by simpa [startE] using hx
      subst hx
      exact ⟨p + 1, 0, ⟨by decide, by omega, ⟨by simp, trivial⟩, by simp, trivial⟩, by decide⟩
    · rw [hl0] at hz1
      show 1 + s.deeds.length ≤ _
      simp at hz1
      omega
    rintro m σ H' ⟨s1, rfl, k6, X6, hok, hz, hm, q⟩
    obtain ⟨dx6, he6⟩ := X6.ins
    obtain ⟨ls6, hl6, rl6⟩ := X6.lft
    refine ⟨_, rfl, A1.e, T.C_Execution, dx6, _, _, rfl, he6, T.cl_Execution, T.na_Execution_left, exf_left, _, .inl ⟨ls6, SqL.of hl6, rfl⟩, ?_⟩
    cases hleft : s1.left with
    | nil =>
      rw [hleft] at rl6
      have rl6 : ls6 = [] := rl6
      subst rl6
      refine iteF ?_
      have er : runE A1.bs A1.bits m s1 = .go s1 := by
        cases m with
        | zero => unfold runE; rw [hleft]; rfl
        | succ m => unfold runE; rw [hleft]
      rw [er] at q
      have h6 : ∀ H', KpM A1.M H H' → ExV T.C_Execution T.a_HOLD T.a_BACK A1 s1 H' → H' = H' := fun _ _ _ => rfl
      refine ⟨_, rfl, A1.e, T.C_Execution, dx6, _, _, rfl, he6, T.cl_Execution, T.na_Execution_taken, exf_taken, ?_⟩
      refine ⟨_, rfl, A1.e, T.C_Execution, dx6, _, _, rfl, he6, T.cl_Execution, T.na_Execution_bits, exf_bits, _, _, rfl, .inl (SqL.of X6.bts), _, _, rfl, rfl, _, rfl, ?_⟩
      rw [List.length_map]
      unfold finE at q
      by_cases e : s1.taken < A1.bits.length
      · dsimp only at q
        rw [if_pos e] at q
        refine iteP (show (s1.taken : Int) < (A1.bits.length : Int) by omega) ?_
        refine ⟨_, rfl, A1.e, T.C_Execution, dx6, _, _, rfl, he6, T.cl_Execution, T.na_Execution_taken, exf_taken, ?_⟩
        exact ⟨by show 1 ≤ 1000; decide, made_NR q k6⟩
      · dsimp only at q
        rw [if_neg e] at q
        refine iteN (show ¬ (s1.taken : Int) < (A1.bits.length : Int) by omega) ?_
        exact q _ k6 (X6.shrink hleft X k6)
    | cons x r =>
      rw [hleft] at rl6 hok
      obtain ⟨us, v, rfl, ru, rv⟩ := pop_left rl6
      have ee : (!(us ++ [v]).isEmpty) = true := by cases us <;> rfl
      rw [ee]
      refine iteT ?_
      obtain ⟨k7, X7⟩ := X6.setLeft ru
      have rv7 := ThV.keep k7 X6.mut _ _ rv
      cases m with
      | zero =>
        have : runE A1.bs A1.bits 0 s1 = .bad := by unfold runE; rw [hleft]; rfl
        rw [this] at q
        exact q.elim
      | succ m =>
        refine ⟨fun σ H' => ∃ s1, σ = [some (.ref A1.e), some (.int p)] ∧ KpM A1.M H H' ∧ ExV T.C_Execution T.a_HOLD T.a_BACK { A1 with S := fun a => A1.S a ∨ H a = none } s1 H' ∧ (∀ x ∈ s1.left, x.ok) ∧ Szd (399999 - 12 * m) s1 ∧ m ≤ 20000 ∧ OutR T.C_NoRun T.C_Execution T.a_HOLD T.a_BACK A1 H Q E (finE A1.bits (runE A1.bs A1.bits m s1)), fun σ' H1 h => ⟨m, by omega, h⟩, ?_⟩
        refine ⟨_, rfl, A1.e, dx6, _, rfl, he6, exf_step, _, rfl, A1.e, T.C_Execution, dx6, _, _, rfl, he6, T.cl_Execution, T.na_Execution_left, exf_left, .inl ⟨rfl, _, .inl (.inl hl6)⟩, A1.aL, _, v, rfl, rfl, hl6, (pop_last us v).1, ?_⟩
        rw [(pop_last us v).2]
        have q2 : OutR T.C_NoRun T.C_Execution T.a_HOLD T.a_BACK A1 H Q E (finE A1.bits (match stepE A1.bs A1.bits x { s1 with left := r } with | .go s' => runE A1.bs A1.bits m s' | o => o)) := by
          have : runE A1.bs A1.bits (m + 1) s1 = match stepE A1.bs A1.bits x { s1 with left := r } with | .go s' => runE A1.bs A1.bits m s' | o => o := by
            conv => lhs; unfold runE
            rw [hleft]
            try rfl
          rw [← this]
          exact q
        have zr : Szd (399999 - 12 * (m + 1)) { s1 with left := r } := by
          obtain ⟨z1, z2⟩ := hz
          rw [hleft, List.length_cons] at z1
          exact ⟨by show r.length + s1.deeds.length ≤ _; omega, z2⟩
        refine ⟨{ A1 with S := fun a => A1.S a ∨ H a = none }, { s1 with left := r }, x, v, rfl, X7, rv7, hok _ List.mem_cons_self, fun y hy => hok _ (List.mem_cons_of_mem _ hy), hbs, ⟨Nat.le_trans zr.1 (by omega), fun ns h => Nat.le_trans (zr.2 ns h) (by omega)⟩, ?_⟩
        cases est : stepE A1.bs A1.bits x { s1 with left := r } with
        | bad => rw [est] at q2; exact q2.elim
        | no i => rw [est] at q2; exact ErrR.kp (k6.trans k7) q2
        | go s' =>
          rw [est] at q2
          obtain ⟨o1, o2⟩ := step_ok hbs est (hok _ List.mem_cons_self) (fun y hy => hok _ (List.mem_cons_of_mem _ hy)) zr
          exact fun H8 k8 X8 => ⟨s', rfl, (k6.trans k7).trans k8, X8, o1, ⟨Nat.le_trans o2.1 (by omega), fun ns h => Nat.le_trans (o2.2 ns h) (by omega)⟩, by omega, q2⟩

--SPLIT
/-! ### the bits, and the execution itself -/
/-- the index of the first value that is no bit, -1 for what is no list -/
def bitsFault : PyData → Option Int
  | .list ds => (List.range ds.length).findSome? fun i => if inD (ds.getD i .none) (0, 1) then none else some (i : Int)
  | _ => some (-1)
def bitD (b : Bool) : PyData := .int (if b then 1 else 0)
theorem bits_of {d : PyData} (h : bitsFault d = none) : ∃ bits : List Bool, d = .list (bits.map bitD) := by
  unfold bitsFault at h
  split at h
  · rename_i ds
    rw [List.findSome?_eq_none_iff] at h
    refine ⟨ds.map fun d => PyData.eqv d (.int 1), ?_⟩
    congr 1
    rw [List.map_map]
    conv => lhs; rw [← List.map_id ds]
    refine List.map_congr_left fun d hd => ?_
    obtain ⟨i, hi⟩ := List.getElem?_of_mem hd
    have hl := (List.getElem?_eq_some_iff.mp hi).1
    have q := h i (List.mem_range.mpr hl)
    rw [List.getD_eq_getElem?_getD, hi] at q
    have q2 : inD d (0, 1) = true := by
      cases e : inD d (0, 1) with
      | true => rfl
      | false => rw [show inD ((some d).getD PyData.none) (0, 1) = false from e] at q; cases q
    have : ∃ z : Int, d = .int z ∧ 0 ≤ z ∧ z ≤ 1 := by
      unfold inD at q2
      cases d with
      | int z =>
        simp [isI, isNum] at q2
        exact ⟨z, rfl, by omega, by omega⟩
      | _ => simp [isI, isNum] at q2
    obtain ⟨z, rfl, h0, h1⟩ := this
    have : z = 0 ∨ z = 1 := by omega
    rcases this with rfl | rfl <;> rfl
  · cases h

--SPLIT
theorem bf_lt {ds : List PyData} {i : Nat} {d : PyData} (h : ds[i]? = some d) (hd : inD d (0, 1) = false) (hb : ∀ j, j < i → ∀ e, ds[j]? = some e → inD e (0, 1) = true) : bitsFault (.list ds) = some (i : Int) := by
  have hl := (List.getElem?_eq_some_iff.mp h).1
  unfold bitsFault
  dsimp only
  have e1 : (List.range ds.length).findSome? (fun i => if inD (ds.getD i .none) (0, 1) then none else some (i : Int)) = some (i : Int) := by
    obtain ⟨k, hk⟩ : ∃ k, ds.length = i + 1 + k := ⟨ds.length - i - 1, by omega⟩
    have sp : List.range ds.length = List.range i ++ (i :: (List.range k).map (i + 1 + ·)) := by
      rw [hk, List.range_add, List.range_succ, List.append_assoc]
      rfl
    rw [sp, List.findSome?_append]
    have n1 : (List.range i).findSome? (fun i => if inD (ds.getD i .none) (0, 1) then none else some (i : Int)) = none := by
      rw [List.findSome?_eq_none_iff]
      intro j hj
      have hj := List.mem_range.mp hj
      have ej : ds[j]? = some ds[j] := List.getElem?_eq_getElem (by omega)
      rw [List.getD_eq_getElem?_getD, ej, show inD ((some ds[j]).getD PyData.none) (0, 1) = true from hb j hj _ ej]
      rfl
    rw [n1, List.findSome?_cons, List.getD_eq_getElem?_getD, h, show inD ((some d).getD PyData.none) (0, 1) = false from hd]
    rfl
  exact e1
theorem bf_none {ds : List PyData} (h : ∀ d ∈ ds, inD d (0, 1) = true) : bitsFault (.list ds) = none := by
  unfold bitsFault
  dsimp only
  rw [List.findSome?_eq_none_iff]
  intro j hj
  have hj := List.mem_range.mp hj
  have ej : ds[j]? = some ds[j] := List.getElem?_eq_getElem hj
  rw [List.getD_eq_getElem?_getD, ej, show inD ((some ds[j]).getD PyData.none) (0, 1) = true from h _ (List.getElem_mem hj)]
  rfl
def sp_check_bits (CE : Addr) : Sp := fun vs H Q E => ∃ (S : Addr → Prop) (d : PyData) (v : V), vs = [v] ∧ Tr S H d v ∧ (bitsFault d = none → ∀ H', Same H H' → Q .non H') ∧ ∀ i, bitsFault d = some i → ErrR CE (fun _ => False) H E i
theorem ok_check_bits (T : Top w K mg) : FnOk P w K mg base (L2.CX P w) 4 T.a_check_bits T.d_check_bits ["bits"] (sp_check_bits T.C_NoRun) := by
  refine T.F_check_bits.okX sc_check_bits (fun vs H Q E h => ?_) (fun cdv A outer sh H vs Q E hr h => ?_)
  · obtain ⟨S, d, v, rfl, _⟩ := h
    rfl
  · obtain ⟨S, d, v, rfl, hv, q, qe⟩ := h
    refine ⟨_, (pss_cons (ps_if (pt_not (pt_val (pe_callB (k_isi K) (by rfl) T.z_isinstance bt_isinstance (pa_cons (pv 0) (pa_cons (pe_bltn (v := .ty "list") (by rfl) T.z_list bt_list rfl) pa_nil))))) (pss_one (ps_raise rfl (takes_of rfl rfl rfl rfl) (pmk_oex T.O_NoRun T.io_NoRun T.to_NoRun (ok_NoRun___init__ T) (hr.mono (by decide)) (b_NoRun___init__ T) .nil pass0 (by rfl) T.g_NoRun (pa_cons (pe_un un_neg pe_int) pa_nil)))) pss_nil)
      (pss_one (ps_for (passes_of rfl) rfl (pi_enum (by rfl) T.z_enumerate (pa_cons (pv 0) pa_nil)) (pg_tup rfl (pgs_cons (pg_name (i := 1) sc_check_bits.nd rfl (Or.inl rfl)) (pgs_cons (pg_name (i := 2) sc_check_bits.nd rfl (Or.inl rfl)) pgs_nil))) (pss_one (ps_if (pt_not (pt_val (pe_call (ok_is_bit T) hr (by rfl) T.g_is_bit T.F_is_bit.kp (b_is_bit T) .nil pass0 (pa_cons (pv 2) pa_nil)))) (pss_one (ps_raise rfl (takes_of rfl rfl rfl rfl) (pmk_oex T.O_NoRun T.io_NoRun T.to_NoRun (ok_NoRun___init__ T) (hr.mono (by decide)) (b_NoRun___init__ T) .nil pass0 (by rfl) T.g_NoRun (pa_cons (pv 1) pa_nil)))) pss_nil))))), ?_⟩
    refine ⟨_, rfl, _, _, _, _, _, rfl, .ty _, tr_ty K hv, ki_list K _, _, rfl, ?_⟩
    cases d with
    | list ds =>
      obtain ⟨a, ys, rfl, sa, ha, hs⟩ := hv
      refine iteF ?_
      refine ⟨_, rfl, a, ys, rfl, SqL.of ha, ?_⟩
      refine for_it (walk_enum (xs := ys)) (fun i σ H' => ∃ y1 y2, σ = [some (.ref a), y1, y2] ∧ Same H H' ∧ ∀ j, j < i → ∀ e, ds[j]? = some e → inD e (0, 1) = true) ⟨_, _, rfl, Same.refl _, fun j hj => absurd hj (Nat.not_lt_zero _)⟩ (fun i σ H' _ h => ?_) (fun i x σ H' H2 hi h y => ?_) (fun σ H' h => ?_)
      · obtain ⟨_, _, _, sm, _⟩ := h
        exact SqL.of (sm _ _ ha)
      · obtain ⟨y1, y2, rfl, sm, hbs⟩ := h
        obtain ⟨u, x, y, rfl, nu, rfl, hx, hy⟩ := y
        cases hx
        have hy : ys[i]? = some y := hy
        obtain ⟨d, hd, tx⟩ := hs.get hy
        have s1 := sm.trans (same_upd (o := .tup [V.int (i : Int), y]) nu)
        have hu : (upd H' u (.tup [V.int (i : Int), y])) u = some (.tup [V.int (i : Int), y]) := upd_same
        generalize upd H' u (.tup [V.int (i : Int), y]) = H1 at *
        refine ⟨u, _, rfl, SqT.of hu, rfl, _, _, rfl, _, _, rfl, rfl, ?_⟩
        refine ⟨_, rfl, S, d, y, rfl, tx.same s1, fun H3 s3 => ?_⟩
        cases hin : inD d (0, 1) with
        | true =>
          refine ⟨_, rfl, iteF ⟨_, _, rfl, s1.trans s3, fun j hj e he => ?_⟩⟩
          rcases Nat.lt_succ_iff_lt_or_eq.mp hj with hj | rfl
          · exact hbs j hj e he
          · rw [hd] at he
            cases he
            exact hin
        | false =>
          refine ⟨_, rfl, iteT ⟨_, rfl, ?_⟩⟩
          exact ⟨by show 1 ≤ 1000; decide, made_NR (qe _ (bf_lt hd hin hbs)) (KpM.of (s1.trans s3))⟩
      · obtain ⟨y1, y2, rfl, sm, hbs⟩ := h
        refine q (bf_none fun d hd => ?_) _ sm
        obtain ⟨j, hj⟩ := List.getElem?_of_mem hd
        have := (List.getElem?_eq_some_iff.mp hj).1
        exact hbs j (by rw [hs.len]; exact this) d hj
    | _ =>
      refine iteT ⟨_, rfl, ?_⟩
      exact ⟨by show 1 ≤ 1000; decide, made_NR (qe (-1) rfl) (KpM.of (Same.refl _))⟩

--SPLIT
/-- an object under construction: its fields so far; all else is kept or new -/
structure FS (C : Addr) (e dx : Addr) (fs : List (Str × V)) (H H' : Hp) : Prop where
  at_ : H' e = some (.ins C dx fs)
  kp : ∀ b o, H b = some o → b ≠ e → H' b = some o
  nw : ∀ b, H' b = none → H b = none
theorem FS.put {C e dx : Addr} {fs gs : List (Str × V)} {H H' : Hp} (s : FS C e dx fs H H') : FS C e dx gs H (upd H' e (.ins C dx gs)) :=
  ⟨upd_same, fun b o h n => by rw [upd_ne n]; exact s.kp b o h n, fun b h => by
    by_cases z : b = e
    · rw [z, upd_same] at h; cases h
    · rw [upd_ne z] at h; exact s.nw b h⟩
theorem FS.new {C e dx : Addr} {fs : List (Str × V)} {H H' : Hp} (s : FS C e dx fs H H') {p : Addr} {o : HO} (n : H' p = none) : FS C e dx fs H (upd H' p o) :=
  ⟨by rw [upd_ne (ne_of_none s.at_ n)]; exact s.at_, fun b u h k => by have := s.kp b u h k; rw [upd_ne (ne_of_none this n)]; exact this, fun b h => by
    by_cases z : b = p
    · rw [z]; exact s.nw p n
    · rw [upd_ne z] at h; exact s.nw b h⟩
theorem FS.same {C e dx : Addr} {fs : List (Str × V)} {H H' H2 : Hp} (s : FS C e dx fs H H') (sm : Same H' H2) : FS C e dx fs H H2 :=
  ⟨sm _ _ s.at_, fun b u h k => sm _ _ (s.kp b u h k), fun b h => s.nw b (sm.free h)⟩
def sp_Execution_init (C : Addr) : Sp := fun vs H Q _ => ∃ (e dx aP aT : Addr) (ps : List V), vs = [.ref e, .ref aP, .ref aT] ∧ H e = some (.ins C dx []) ∧ H aP = some (.lst ps) ∧ ps.length ≤ 100 ∧
  ∀ (aL aG aD : Addr) (gs : List Addr) (H' : Hp), (∀ b o, H b = some o → b ≠ e → H' b = some o) → H' e = some (.ins C dx (exFs aP aT aL aG aD 0 0)) → H' aL = some (.lst []) → H' aG = some (.lst (gs.map V.ref)) → gs.length = ps.length → (∀ g ∈ gs, H' g = some (.lst [])) → H' aD = some (.lst []) → (aL :: aG :: aD :: gs).Nodup → (∀ a ∈ (aL :: aG :: aD :: gs), H a = none) → Q .non H'
theorem ok_Execution___init__ (T : Top w K mg) : FnOk P w K mg base CX0 1 T.a_Execution___init__ T.d_Execution___init__ ["self", "procedures", "bits"] (sp_Execution_init T.C_Execution) := by
  refine T.F_Execution___init__.ok sc_Execution___init__ (fun vs H Q E h => ?_) (fun cdv A outer sh H vs Q E hr h => ?_)
  · obtain ⟨e, dx, aP, aT, ps, rfl, _⟩ := h
    rfl
  · obtain ⟨e, dx, aP, aT, ps, rfl, he, hp, hl, q⟩ := h
    refine ⟨_, (pss_cons (ps_fld (pv 0) (pv 1) rfl)
      (pss_cons (ps_fld (pv 0) (pv 2) rfl)
      (pss_cons (ps_fld (pv 0) pe_int rfl)
      (pss_cons (ps_fld (pv 0) (pe_lst pa_nil) rfl)
      (pss_cons (ps_fld (pv 0) (pe_lc (own := [("_", 3)]) (g := (gName 3)) (tt := tYes) rfl sc_Execution___init__.nd (k_piL K (pv 1)) (blkOk_by (N := N_Execution___init__) (sc := defScope s_Execution___init__) (by decide +kernel)) (fun _ _ _ _ _ => (pg_name (i := 3) sc_Execution___init__.nd rfl (Or.inl rfl))) (fun _ _ _ _ _ => pts_nil) (fun _ _ _ _ _ => (pe_lst pa_nil))) rfl)
      (pss_cons (ps_fld (pv 0) (pe_lst pa_nil) rfl)
      (pss_one (ps_fld (pv 0) pe_int rfl)))))))), ?_⟩
    have nP : aP ≠ e := fun z => by
      rw [z, he] at hp
      cases hp
    refine ⟨_, rfl, _, rfl, e, T.C_Execution, dx, [], rfl, he, T.cl_Execution, T.na_Execution_procedures, (show 0 < 1000 by decide), ?_⟩
    have F0 : FS T.C_Execution e dx [] H H := ⟨he, fun b o h _ => h, fun b h => h⟩
    rw [(show putF "procedures" (V.ref aP) ([] : List (Str × V)) = ([("procedures", V.ref aP)] : List (Str × V)) from rfl)]
    have F1 := F0.put (gs := [("procedures", V.ref aP)])
    refine ⟨_, rfl, _, rfl, e, T.C_Execution, dx, _, rfl, F1.at_, T.cl_Execution, T.na_Execution_bits, (show 1 < 1000 by decide), ?_⟩
    rw [(show putF "bits" (V.ref aT) ([("procedures", V.ref aP)] : List (Str × V)) = ([("procedures", V.ref aP), ("bits", .ref aT)] : List (Str × V)) from rfl)]
    have F2 := F1.put (gs := [("procedures", V.ref aP), ("bits", .ref aT)])
    refine ⟨_, rfl, e, T.C_Execution, dx, _, rfl, F2.at_, T.cl_Execution, T.na_Execution_taken, (show 2 < 1000 by decide), ?_⟩
    rw [(show putF "taken" (V.int 0) ([("procedures", V.ref aP), ("bits", .ref aT)] : List (Str × V)) = ([("procedures", V.ref aP), ("bits", .ref aT), ("taken", natV 0)] : List (Str × V)) from rfl)]
    have F3 := F2.put (gs := [("procedures", V.ref aP), ("bits", .ref aT), ("taken", natV 0)])
    refine ⟨small100 (n := 0) (by decide), fun aL nL => ?_⟩
    have F4 := F3.new (o := .lst []) nL
    refine ⟨_, rfl, e, T.C_Execution, dx, _, rfl, F4.at_, T.cl_Execution, T.na_Execution_left, (show 3 < 1000 by decide), ?_⟩
    rw [(show putF "left" (V.ref aL) ([("procedures", V.ref aP), ("bits", .ref aT), ("taken", natV 0)] : List (Str × V)) = ([("procedures", V.ref aP), ("bits", .ref aT), ("taken", natV 0), ("left", .ref aL)] : List (Str × V)) from rfl)]
    have F5 := F4.put (gs := [("procedures", V.ref aP), ("bits", .ref aT), ("taken", natV 0), ("left", .ref aL)])
    have hL5 : upd (upd (upd (upd (upd H e (.ins T.C_Execution dx [("procedures", V.ref aP)])) e (.ins T.C_Execution dx [("procedures", V.ref aP), ("bits", .ref aT)])) e (.ins T.C_Execution dx [("procedures", V.ref aP), ("bits", .ref aT), ("taken", natV 0)])) aL (.lst [])) e (.ins T.C_Execution dx [("procedures", V.ref aP), ("bits", .ref aT), ("taken", natV 0), ("left", .ref aL)]) aL = some (.lst []) := by
      rw [upd_ne (Ne.symm (ne_of_none F3.at_ nL)), upd_same]
    have nL0 := F3.nw _ nL
    clear F0 F1 F2 F3 F4 nL
    generalize hH5 : upd (upd (upd (upd (upd H e (.ins T.C_Execution dx [("procedures", V.ref aP)])) e (.ins T.C_Execution dx [("procedures", V.ref aP), ("bits", .ref aT)])) e (.ins T.C_Execution dx [("procedures", V.ref aP), ("bits", .ref aT), ("taken", natV 0)])) aL (.lst [])) e (.ins T.C_Execution dx [("procedures", V.ref aP), ("bits", .ref aT), ("taken", natV 0), ("left", .ref aL)]) = H5 at *
    have hP5 := F5.kp _ _ hp nP
    refine ⟨_, rfl, aP, rfl, ⟨_, SqL.of hP5⟩, fun aG nG => ?_⟩
    refine lc_list (xs := ps) (fun i H' => ∃ gs : List Addr, gs.length = i ∧ H' aG = some (.lst (gs.map V.ref)) ∧ (∀ g ∈ gs, H' g = some (.lst [])) ∧ (aG :: gs).Nodup ∧ Same H5 H' ∧ ∀ g ∈ gs, H5 g = none) ⟨[], rfl, upd_same, (by intro g hg; cases hg), (by simp), same_upd nG, (by intro g hg; cases hg)⟩ (fun i H' _ h => ?_) (fun i x H' hx h => ?_) (fun H' h => ?_)
    · obtain ⟨gs, _, _, _, _, sm, _⟩ := h
      exact SqL.of (sm _ _ hP5)
    · obtain ⟨gs, hgl, hG, hgs, nd, sm, nn⟩ := h
      have hi := (List.getElem?_eq_some_iff.mp hx).1
      refine ⟨rfl, small100 (n := 0) (by decide), fun g ng => ⟨gs.map V.ref, ?_, ?_, gs ++ [g], ?_, ?_, ?_, ?_, ?_, ?_⟩⟩
      · rw [upd_ne (ne_of_none hG ng)]; exact hG
      · rw [List.length_map, hgl]
        exact small1000 (by omega)
      · rw [List.length_append, hgl]; rfl
      · rw [upd_same, List.map_append]; rfl
      · intro g' hg'
        rcases List.mem_append.mp hg' with h | h
        · have e1 := hgs g' h
          have n2 : g' ≠ aG := fun z => (List.nodup_cons.mp nd).1 (z ▸ h)
          rw [upd_ne n2, upd_ne (ne_of_none e1 ng)]
          exact e1
        · rw [List.mem_singleton.mp h, upd_ne (Ne.symm (ne_of_none hG ng)), upd_same]
      · rw [← List.cons_append, List.nodup_append]
        refine ⟨nd, by simp, fun a ha b hb => ?_⟩
        rw [List.mem_singleton.mp hb]
        rcases List.mem_cons.mp ha with h | h
        · rw [h]; exact ne_of_none hG ng
        · exact ne_of_none (hgs a h) ng
      · exact same_new (sm.trans (same_upd ng)) nG
      · intro g' hg'
        rcases List.mem_append.mp hg' with h | h
        · exact nn g' h
        · rw [List.mem_singleton.mp h]; exact sm.free ng
    · obtain ⟨gs, hgl, hG, hgs, nd, sm, nn⟩ := h
      have F6 := F5.same sm
      refine ⟨_, rfl, e, T.C_Execution, dx, _, rfl, F6.at_, T.cl_Execution, T.na_Execution_begun, (show 4 < 1000 by decide), ?_⟩
      rw [(show putF "begun" (V.ref aG) ([("procedures", V.ref aP), ("bits", .ref aT), ("taken", natV 0), ("left", .ref aL)] : List (Str × V)) = ([("procedures", V.ref aP), ("bits", .ref aT), ("taken", natV 0), ("left", .ref aL), ("begun", .ref aG)] : List (Str × V)) from rfl)]
      have F7 := F6.put (gs := [("procedures", V.ref aP), ("bits", .ref aT), ("taken", natV 0), ("left", .ref aL), ("begun", .ref aG)])
      refine ⟨small100 (n := 0) (by decide), fun aD nD => ?_⟩
      have F8 := F7.new (o := .lst []) nD
      refine ⟨_, rfl, e, T.C_Execution, dx, _, rfl, F8.at_, T.cl_Execution, T.na_Execution_deeds, (show 5 < 1000 by decide), ?_⟩
      rw [(show putF "deeds" (V.ref aD) ([("procedures", V.ref aP), ("bits", .ref aT), ("taken", natV 0), ("left", .ref aL), ("begun", .ref aG)] : List (Str × V)) = ([("procedures", V.ref aP), ("bits", .ref aT), ("taken", natV 0), ("left", .ref aL), ("begun", .ref aG), ("deeds", .ref aD)] : List (Str × V)) from rfl)]
      have F9 := F8.put (gs := [("procedures", V.ref aP), ("bits", .ref aT), ("taken", natV 0), ("left", .ref aL), ("begun", .ref aG), ("deeds", .ref aD)])
      refine ⟨_, rfl, e, T.C_Execution, dx, _, rfl, F9.at_, T.cl_Execution, T.na_Execution_way, (show 6 < 1000 by decide), ?_⟩
      rw [show putF "way" (V.int 0) ([("procedures", V.ref aP), ("bits", .ref aT), ("taken", natV 0), ("left", .ref aL), ("begun", .ref aG), ("deeds", .ref aD)] : List (Str × V)) = exFs aP aT aL aG aD 0 0 from rfl]
      have FX := F9.put (gs := exFs aP aT aL aG aD 0 0)
      have nDe : aD ≠ e := Ne.symm (ne_of_none F7.at_ nD)
      have nD1 : H' aD = none := by
        rw [upd_ne nDe] at nD
        exact nD
      have nLe : aL ≠ e := fun z => by rw [z, F5.at_] at hL5; cases hL5
      have hL6 := sm _ _ hL5
      have nGe : aG ≠ e := fun z => by rw [z, F6.at_] at hG; cases hG
      have other : ∀ b o, H' b = some o → b ≠ e → (upd (upd (upd (upd H' e (.ins T.C_Execution dx [("procedures", V.ref aP), ("bits", .ref aT), ("taken", natV 0), ("left", .ref aL), ("begun", .ref aG)])) aD (.lst [])) e (.ins T.C_Execution dx [("procedures", V.ref aP), ("bits", .ref aT), ("taken", natV 0), ("left", .ref aL), ("begun", .ref aG), ("deeds", .ref aD)])) e (.ins T.C_Execution dx (exFs aP aT aL aG aD 0 0))) b = some o := fun b o h n => by
        rw [upd_ne n, upd_ne n, upd_ne (ne_of_none h nD1), upd_ne n]
        exact h
      refine q aL aG aD gs _ FX.kp FX.at_ (other _ _ hL6 nLe) (other _ _ hG nGe) hgl (fun g hg => other _ _ (hgs g hg) fun z => ?_) ?_ ?_ ?_
      · have := nn g hg
        rw [z, F5.at_] at this
        cases this
      · rw [upd_ne nDe, upd_ne nDe, upd_same]
      · have hLG : aL ≠ aG := ne_of_none hL5 nG
        have hLD : aL ≠ aD := ne_of_none hL6 nD1
        have hGD : aG ≠ aD := ne_of_none hG nD1
        have hLg : aL ∉ gs := fun h => by have := nn _ h; rw [hL5] at this; cases this
        have hDg : aD ∉ gs := fun h => by have := hgs _ h; rw [nD1] at this; cases this
        obtain ⟨hGg, ndg⟩ := List.nodup_cons.mp nd
        simp only [List.nodup_cons, List.mem_cons, not_or]
        exact ⟨⟨hLG, hLD, hLg⟩, ⟨hGD, hGg⟩, hDg, ndg⟩
      · intro a ha
        simp only [List.mem_cons] at ha
        rcases ha with rfl | rfl | rfl | ha
        · exact nL0
        · exact F5.nw _ nG
        · exact F6.nw _ nD1
        · exact F5.nw _ (nn a ha)


--SPLIT
/-! ### executed -/
def initE (bs : List (List Stm)) : ESt := ⟨0, [], bs.map fun _ => [], [], 0⟩
theorem tr_tracked_all {S : Addr → Prop} {H : Hp} {ds : List PyData} {xs : List V} (t : TrAll S H ds xs) : TrAll (fun a => S a ∧ H a ≠ none) H ds xs := TrAll.tracked _ _ t
theorem made_ex {C aH aB : Addr} {S : Addr → Prop} {H : Hp} {p dx aP aT : Addr} {ps : List V} {bits : List Bool} {bs : List (List Stm)} {R : Hp → Prop} {E : XK} (hp : H aP = some (.lst ps)) (tp : TrAll S H (bs.map bD) ps) (ht : H aT = some (.lst (bits.map bitV))) (hne : aP ≠ aT) (hl : bs.length ≤ 100) (np : H p = none) (nd : H dx = none) (ne : dx ≠ p)
    (q : ∀ (A : ExA) (H' : Hp), A.e = p → Same H H' → A.bits = bits → A.bs = bs → ExV C aH aB A (initE bs) H' → (∀ a, A.M a → H a = none) → R H') :
    sp_Execution_init C [.ref p, .ref aP, .ref aT] (upd (upd H dx (.own p)) p (.ins C dx [])) (fun z H2 => z = .non ∧ R H2) E := by
  have s1 : Same H (upd (upd H dx (.own p)) p (.ins C dx [])) := fun b o e => by
    rw [upd_ne (ne_of_none e np), upd_ne (ne_of_none e nd)]
    exact e
  have ll := tp.len
  rw [List.length_map] at ll
  refine ⟨p, dx, aP, aT, ps, rfl, upd_same, s1 _ _ hp, by omega, fun aL aG aD gs H' k he hL hG hgl hgs hD nod nn => ⟨rfl, ?_⟩⟩
  have n0 : ∀ a ∈ (aL :: aG :: aD :: gs), H a = none ∧ a ≠ p := fun a ha => by
    have := nn a ha
    refine ⟨s1.free this, fun z => ?_⟩
    rw [z, upd_same] at this
    cases this
  have sm : Same H H' := fun b o e => k b o (s1 _ _ e) (ne_of_none e np)
  have nP : p ≠ aP := Ne.symm (ne_of_none hp np)
  have nT : p ≠ aT := Ne.symm (ne_of_none ht np)
  have nq : ∀ b o, H b = some o → ∀ a ∈ (aL :: aG :: aD :: gs), b ≠ a := fun b o e a ha => ne_of_none e (n0 a ha).1
  have nodX := nod
  simp only [List.nodup_cons, List.mem_cons, not_or] at nodX
  obtain ⟨⟨x1, x2, x3⟩, ⟨x4, x5⟩, x6, x7⟩ := nodX
  refine q ⟨p, aP, aT, aL, aG, aD, gs, fun a => S a ∧ H a ≠ none, bs, bits⟩ H' rfl sm rfl rfl ?_ ?_
  · refine ⟨⟨dx, he⟩, ⟨ps, sm _ _ hp, (tr_tracked_all tp).same sm⟩, sm _ _ ht, ⟨[], hL, rfl⟩, ⟨hG, ?_, fun i g ns hi hn => ?_⟩, ⟨[], hD, rfl⟩, ⟨?_, ?_⟩, Nat.zero_le _⟩
    · show gs.length = (bs.map _).length
      rw [List.length_map, hgl, ll]
    · have hn : (bs.map fun _ => ([] : List Nat))[i]? = some ns := hn
      rw [List.getElem?_map] at hn
      cases hb : bs[i]? with
      | none => rw [hb] at hn; cases hn
      | some b =>
        rw [hb] at hn
        cases hn
        exact hgs g (List.mem_of_getElem? hi)
    · simp only [List.nodup_cons, List.mem_cons, not_or]
      refine ⟨⟨nP, nT, fun z => (n0 aL (by simp)).2 z.symm, fun z => (n0 aG (by simp)).2 z.symm, fun z => (n0 aD (by simp)).2 z.symm, fun z => (n0 p (by simp [z])).2 rfl⟩, ⟨hne, nq _ _ hp _ (by simp), nq _ _ hp _ (by simp), nq _ _ hp _ (by simp), fun z => nq _ _ hp aP (by simp [z]) rfl⟩, ⟨nq _ _ ht _ (by simp), nq _ _ ht _ (by simp), nq _ _ ht _ (by simp), fun z => nq _ _ ht aT (by simp [z]) rfl⟩, ⟨x1, x2, x3⟩, ⟨x4, x5⟩, x6, x7⟩
    · intro a ha hs
      have : H a = none := by
        simp only [List.mem_cons] at ha
        rcases ha with rfl | rfl | rfl | ha
        · exact np
        · exact (n0 _ (by simp)).1
        · exact (n0 _ (by simp)).1
        · exact (n0 a (by simp [ha])).1
      exact hs.2 this
  · rintro a (rfl | rfl | rfl | ha)
    · exact np
    · exact (n0 _ (by simp)).1
    · exact (n0 _ (by simp)).1
    · exact (n0 a (by simp [show a ∈ gs from ha])).1
def runO (bs : List (List Stm)) (bits : List Bool) (n p : Nat) : Out := finE bits (runE bs bits n (startE p (initE bs)))
def ExR (CE C aH aB : Addr) (bs : List (List Stm)) (bits : List Bool) (H : Hp) (Q : VK) (E : XK) : Out → Prop
  | .go s => ∀ (A : ExA) (H' : Hp), Same H H' → A.bits = bits → A.bs = bs → ExV C aH aB A s H' → Q (.ref A.e) H'
  | .no i => ErrR CE (fun _ => False) H E i
  | .bad => False
theorem ErrR.of {CE : Addr} {M : Addr → Prop} {H H1 : Hp} {E : XK} {i : Int} (h : ErrR CE (fun _ => False) H E i) (s : Same H H1) (n : ∀ a, M a → H a = none) : ErrR CE M H1 E i := fun x H' k hx => h x H' (fun b o _ e => k b o (fun m => by rw [n b m] at e; cases e) (s _ _ e)) hx
def sp_executed (CB C aH aB CE NPr : Addr) : Sp := fun vs H Q E => ∃ (S S1 S2 : Addr → Prop) (a : Addr) (bs : List (List Stm)) (dp db : PyData) (vp vb : V) (n : Nat), vs = [.ref a, vp, vb] ∧ BookV S CB H a bs ∧ OkBook bs ∧ Tr S1 H dp vp ∧ Tr S2 H db vb ∧ n ≤ 20000 ∧
  (inD dp (0, (bs.length : Int) - 1) = false → ∀ H', Same H H' → E (.ref NPr) none H') ∧
  (∀ p : Nat, p < bs.length → dp = .int p → (∀ i, bitsFault db = some i → ErrR CE (fun _ => False) H E i) ∧ ∀ bits, db = .list (bits.map bitD) → ExR CE C aH aB bs bits H Q E (runO bs bits n p))
theorem inD_nat {d : PyData} {n : Nat} (h : inD d (0, (n : Int) - 1) = true) : ∃ p : Nat, p < n ∧ d = .int p := by
  unfold inD at h
  cases d with
  | int z =>
    simp [isI, isNum] at h
    exact ⟨z.toNat, by omega, by rw [show ((z.toNat : Nat) : Int) = z by omega]⟩
  | _ => simp [isI, isNum] at h
theorem bits_tr {S : Addr → Prop} {H : Hp} : ∀ {bits : List Bool} {xs : List V}, TrAll S H (bits.map bitD) xs → xs = bits.map bitV
  | [], _, e => e
  | b :: r, _, ⟨v, us, e, t, q⟩ => by
    have t : v = .int (if b then 1 else 0) := t
    subst e t
    rw [bits_tr q]
    rfl
theorem bodies_ok {bs : List (List Stm)} (h : OkBook bs) : BodiesOk bs := fun b m => ⟨(h.each b m).1, bs.length, (h.each b m).2.2⟩
theorem ok_executed (T : Top w K mg) : FnOk P w K mg base (L2.CX P w) 12 T.a_executed T.d_executed ["book", "procedure", "bits"] (sp_executed T.C_Book T.C_Execution T.a_HOLD T.a_BACK T.C_NoRun T.a_NoProcedure) := by
  refine T.F_executed.okX sc_executed (fun vs H Q E h => ?_) (fun cdv A outer sh H vs Q E hr h => ?_)
  · obtain ⟨S, S1, S2, a, bs, dp, db, vp, vb, n, rfl, _⟩ := h
    rfl
  · obtain ⟨S, S1, S2, a, bs, dp, db, vp, vb, n, rfl, hb, ho, hp, hv, hn, qn, q⟩ := h
    refine ⟨_, (pss_cons (ps_if (pt_not (pt_val (pe_call (ok_is_index T) (hr.mono (by decide)) (by rfl) T.g_is_index T.F_is_index.kp (b_is_index T) .nil pass0 (pa_cons (pv 1) (pa_cons (pe_callB (call_lenO (ok_Book___len__ T) T.m_Book___len__ (hr.mono (by decide)) (b_Book___len__ T) pass0) (by rfl) T.z_len bt_len (pa_cons (pv 0) pa_nil)) pa_nil))))) (pss_one (ps_own0 rfl (takes_of rfl rfl rfl rfl) T.X_NPr (by rfl))) pss_nil)
      (pss_cons (ps_expr (pe_callS (ok_check_bits T) (hr.mono (by decide)) (by rfl) T.g_check_bits T.F_check_bits.kp (b_check_bits T) (fun σ => passAt (takes_of rfl rfl rfl rfl) σ) (pa_cons (pv 2) pa_nil)))
      (pss_cons (ps_set (i := 3) sc_executed.nd rfl (Or.inl rfl) (pe_make T.mk_Execution (ok_Execution___init__ T) (hr.mono (by decide)) (by rfl) T.g_Execution (b_Execution___init__ T) .nil pass0 (pa_cons (pe_meth0 (pv 0) T.cl_Book T.m_Book_bodies (ok_Book_bodies T) (hr.mono (by decide)) (b_Book_bodies T) .nil pass0) (pa_cons (pv 2) pa_nil))))
      (pss_cons (ps_expr (pe_methR (pv 3) T.cl_Execution T.m_Execution_finish (ok_Execution_finish T) (hr.mono (by decide)) (b_Execution_finish T) (fun σ => passAt (takes_of rfl rfl rfl rfl) σ) (pa_cons (pv 1) pa_nil)))
      (pss_one (ps_ret (pv 3))))))), ?_⟩
    have hbl : bs.length ≤ 3 := ho.hi
    obtain ⟨dx, qa, hoa, hqa⟩ := id hb
    refine ⟨_, rfl, _, rfl, a, dx, _, rfl, hoa, S, a, bs, rfl, hb, _, rfl, ⟨by omega, by omega⟩, S1, dp, vp, bs.length, rfl, hp, fun H1 s1 => ?_⟩
    cases hin : inD dp (0, (bs.length : Int) - 1) with
    | false =>
      refine ⟨_, rfl, iteT ?_⟩
      exact qn hin _ s1
    | true =>
      refine ⟨_, rfl, iteF ?_⟩
      obtain ⟨p, hpl, rfl⟩ := inD_nat hin
      obtain ⟨qb, qg⟩ := q p hpl rfl
      have evp : vp = .int p := hp
      subst evp
      refine ⟨_, rfl, S2, db, vb, rfl, hv.same s1, fun hf H2 s2 => ?_, fun i hi => ErrR.kp (KpM.of s1) (qb i hi)⟩
      obtain ⟨bits, rfl⟩ := bits_of hf
      obtain ⟨aT, xs, rfl, sT, hT, ht⟩ := (hv.same s1).same s2
      rw [bits_tr ht] at hT
      have s02 := s1.trans s2
      refine ⟨_, rfl, a, dx, _, rfl, s02 _ _ hoa, bf_no _ (by decide), S, a, bs, rfl, hb.same s02, ho, fun r H3 s3 tr => ?_⟩
      obtain ⟨aP, ps, rfl, sP, hP, tP⟩ := tr
      have h3T := s3 _ _ hT
      have hne : aP ≠ aT := Ne.symm (ne_of_none hT sP)
      have s03 := s02.trans s3
      refine ⟨_, rfl, fun e dxe ne nd nn => made_ex (aH := T.a_HOLD) (aB := T.a_BACK) (bits := bits) hP tP h3T hne (by omega) ne nd nn fun A H4 hAe s4 hAbits hAbs X hM => ?_⟩
      subst hAe
      have qg := qg bits rfl
      have s04 := s03.trans s4
      have hM0 : ∀ x, A.M x → H x = none := fun x hx => s03.free (hM x hx)
      obtain ⟨dx4, he4⟩ := X.ins
      refine ⟨_, rfl, A.e, dx4, _, rfl, he4, exf_finish, _, rfl, A, initE bs, p, n, rfl, X, rfl, by rw [hAbs]; exact bodies_ok ho, ⟨Nat.zero_le _, fun ns hm => ?_⟩, hn, ?_⟩
      · obtain ⟨b, _, rfl⟩ := List.mem_map.mp hm
        exact Nat.zero_le _
      · rw [hAbs, hAbits]
        show OutR _ _ _ _ _ _ _ _ (runO bs bits n p)
        cases eo : runO bs bits n p with
        | bad => rw [eo] at qg; exact qg.elim
        | no i =>
          rw [eo] at qg
          exact ErrR.of qg s04 hM0
        | go s' =>
          rw [eo] at qg
          intro H5 k5 X5
          refine ⟨_, rfl, ?_⟩
          exact qg A H5 (fun b o e => k5 b o (fun m => by rw [hM0 b m] at e; cases e) (s04 _ _ e)) hAbits hAbs X5

--SPLIT
/-! ### a pen, of the heap or of the module; any other value -/
theorem sqT_ty {K : PySem.W.Frag} {H : Hp} {a : Addr} {xs : List V} (h : SqT K H a xs) : TyX K H (.ref a) (.type "tuple") := by
  rcases h with (h | ⟨o, h⟩) | ⟨o, its, n, e, c, _⟩
  · exact .base (.tup h)
  · exact .fTuple h
  · exact .kTuple e c
theorem sqL_ty {K : PySem.W.Frag} {H : Hp} {a : Addr} {xs : List V} (h : SqL K H a xs) : TyX K H (.ref a) (.type "list") := by
  rcases h with (h | ⟨o, h⟩) | ⟨o, its, n, e, c, _⟩
  · exact .base (.lst h)
  · exact .base (.frz h)
  · exact .kList e c
theorem sqT_same {K : PySem.W.Frag} {H H' : Hp} {a : Addr} {xs : List V} (h : SqT K H a xs) (s : Same H H') : SqT K H' a xs := by
  rcases h with (h | ⟨o, h⟩) | h
  · exact .inl (.inl (s _ _ h))
  · exact .inl (.inr ⟨o, s _ _ h⟩)
  · exact .inr h
/-- the value d at v; a pen may be an object of the module -/
def PV (K : PySem.W.Frag) (H : Hp) (d : PyData) (v : V) : Prop := (∃ S, Tr S H d v) ∨ ∃ (ps : List Int) (a : Addr), d = .tuple (ps.map .int) ∧ v = .ref a ∧ SqT K H a (ps.map V.int) ∧ ps.length ≤ 100
def penD (ps : List Int) : PyData := .tuple (ps.map .int)
def penOk : PyData → Bool
  | .tuple ds => decide (ds.length = 6) && ds.all isI
  | _ => false
theorem PV.same {K : PySem.W.Frag} {H H' : Hp} {d : PyData} {v : V} (h : PV K H d v) (s : Same H H') : PV K H' d v := by
  rcases h with ⟨S, h⟩ | ⟨ps, a, e, e2, h, l⟩
  · exact .inl ⟨S, h.same s⟩
  · exact .inr ⟨ps, a, e, e2, sqT_same h s, l⟩
theorem pv_tup {K : PySem.W.Frag} {H : Hp} {ds : List PyData} {v : V} (h : PV K H (.tuple ds) v) : ∃ (S : Addr → Prop) (a : Addr) (xs : List V), v = .ref a ∧ SqT K H a xs ∧ TrAll S H ds xs := by
  rcases h with ⟨S, a, xs, rfl, ha, hs⟩ | ⟨ps, a, e, e2, h, l⟩
  · exact ⟨S, a, xs, rfl, SqT.of ha, hs⟩
  · cases e
    exact ⟨fun _ => False, a, _, e2, h, TrAll.ofInts ps⟩
theorem pv_ty {K : PySem.W.Frag} {H : Hp} {d : PyData} {v : V} (h : PV K H d v) : TyX K H v (.type (clsN d)) := by
  rcases h with ⟨S, h⟩ | ⟨ps, a, rfl, rfl, h, l⟩
  · exact tr_ty K h
  · exact sqT_ty h
theorem penOk_ints {ps : List Int} (h : ps.length = 6) : penOk (penD ps) = true := by
  unfold penD penOk
  dsimp only
  rw [List.length_map, h, List.all_map]
  simp [Function.comp_def, isI, isNum]
theorem ints_pen {d : PyData} (h : penOk d = true) : ∃ ps : List Int, d = penD ps ∧ ps.length = 6 := by
  unfold penOk at h
  split at h
  · rename_i ds
    rw [Bool.and_eq_true, decide_eq_true_eq, List.all_eq_true] at h
    obtain ⟨hl, ha⟩ := h
    have : ∀ l : List PyData, (∀ d ∈ l, isI d = true) → ∃ ps : List Int, l = ps.map .int := by
      intro l
      induction l with
      | nil => intro _; exact ⟨[], rfl⟩
      | cons d r ih =>
        intro hh
        obtain ⟨ps, rfl⟩ := ih fun x hx => hh x (List.mem_cons_of_mem _ hx)
        have hd := hh d List.mem_cons_self
        cases d with
        | int z => exact ⟨z :: ps, rfl⟩
        | _ => simp [isI, isNum, isBl] at hd
    obtain ⟨ps, rfl⟩ := this ds ha
    rw [List.length_map] at hl
    exact ⟨ps, rfl, hl⟩
  · cases h
theorem pv_ints {K : PySem.W.Frag} {H : Hp} {ps : List Int} {v : V} (h : PV K H (penD ps) v) : ∃ a, v = .ref a ∧ SqT K H a (ps.map V.int) := by
  obtain ⟨S, a, xs, rfl, ha, hs⟩ := pv_tup h
  rw [TrAll.ints hs] at ha
  exact ⟨a, rfl, ha⟩
theorem pv_of {K : PySem.W.Frag} {H : Hp} {a : Addr} {ps : List Int} (h : SqT K H a (ps.map V.int)) (l : ps.length = 6) : PV K H (penD ps) (.ref a) := .inr ⟨ps, a, rfl, rfl, h, by omega⟩
def sp_is_pen (K : PySem.W.Frag) : Sp := fun vs H Q _ => ∃ (d : PyData) (v : V), vs = [v] ∧ PV K H d v ∧ ∀ H', Same H H' → Q (.bl (penOk d)) H'
theorem ok_is_pen (T : Top w K mg) : FnOk P w K mg base CX0 2 T.a_is_pen T.d_is_pen ["thing"] (sp_is_pen K) := by
  refine T.F_is_pen.ok sc_is_pen (fun vs H Q E h => ?_) (fun cdv A outer s H vs Q E hr h => ?_)
  · obtain ⟨d, v, rfl, _⟩ := h
    rfl
  · obtain ⟨d, v, rfl, hv, q⟩ := h
    refine ⟨_, (pss_one (ps_ret (pe_and (pe_callB (k_isi K) (by rfl) T.z_isinstance bt_isinstance (pa_cons (pv 0) (pa_cons (pe_bltn (v := .ty "tuple") (by rfl) T.z_tuple bt_tuple rfl) pa_nil))) (pe_and (pe_cmpR op_eq (pe_callB (k_len K) (by rfl) T.z_len bt_len (pa_cons (pv 0) pa_nil)) pe_int (nomark _)) (pe_one (pe_callB (k_all K) (by rfl) T.z_all bt_all (pa_cons (pe_lc (own := [("number", 1)]) (g := (gName 1)) (tt := tYes) rfl sc_is_pen.nd (k_piT K (pv 0)) (blkOk_by (N := N_is_pen) (sc := defScope s_is_pen) (by decide +kernel)) (fun _ _ _ _ _ => (pg_name (i := 1) sc_is_pen.nd rfl (Or.inl rfl))) (fun _ _ _ _ _ => pts_nil) (fun _ _ _ _ _ => (pe_call (ok_is_integer T) hr (by rfl) T.g_is_integer T.F_is_integer.kp (b_is_integer T) .nil pass0 (pa_cons (pv 1) pa_nil)))) pa_nil))))))), ?_⟩
    refine ⟨_, rfl, _, _, _, _, _, rfl, .ty _, pv_ty hv, ki_tuple K _, _, rfl, ?_⟩
    cases d with
    | tuple ds =>
      obtain ⟨S, a, xs, rfl, ha, hs⟩ := pv_tup hv
      have lx := hs.len
      refine ⟨_, rfl, a, _, rfl, .inr ha, rfl, _, rfl, ?_⟩
      by_cases l6 : ds.length = 6
      · refine iteP (by rw [lx, l6]; rfl) ?_
        refine ⟨_, rfl, a, rfl, ⟨_, ha⟩, fun D nD => lc_tup (xs := xs) (fun i H' => Same H H' ∧ H' D = some (.lst (((ds.map isI).take i).map V.bl))) ⟨same_upd nD, upd_same⟩ (fun i H' _ h => sqT_same ha h.1) (fun i x H' hx h => ?_) (fun H' h => ?_)⟩
        · obtain ⟨d, hd, tx⟩ := hs.get hx
          have hi := (List.getElem?_eq_some_iff.mp hx).1
          refine ⟨rfl, _, rfl, S, d, x, rfl, tx.same h.1, _, h.2, ?_, same_new h.1 nD, ?_⟩
          · rw [List.length_map, List.length_take]
            exact small1000 (by omega)
          · rw [upd_same, List.take_add_one, List.getElem?_map, hd, List.map_append]
            rfl
        · obtain ⟨h1, h2⟩ := h
          rw [show xs.length = (ds.map isI).length by rw [lx, List.length_map], List.take_length] at h2
          refine ⟨D, _, rfl, SqL.of h2, ?_⟩
          have e : penOk (.tuple ds) = (ds.map isI).all id := by
            unfold penOk
            dsimp only
            rw [decide_eq_true l6, Bool.true_and, List.all_map]
            rfl
          rw [← e]
          exact q _ h1
      · refine iteN (fun e => l6 (by have := V.int.inj e; omega)) ?_
        have e : penOk (.tuple ds) = false := by
          unfold penOk
          dsimp only
          rw [decide_eq_false l6, Bool.false_and]
        rw [← e]
        exact q H (Same.refl _)
    | _ => exact q H (Same.refl _)

/-! ### is_command of a deed: the two of the module are none -/
theorem fnOk_or {P : Program} {w : World} {K : PySem.W.Frag} {mg : Str → Option Value} {base : Heap} {CX : CXT} {k : Nat} {f : Addr} {fd : FuncData} {ps : List Str} {sp sp' : Sp} (F : FnOk P w K mg base CX k f fd ps sp) (F' : FnOk P w K mg base CX k f fd ps sp') :
    FnOk P w K mg base CX k f fd ps (fun vs H Q E => sp vs H Q E ∨ sp' vs H Q E) :=
  ⟨fun vs H Q E q => q.elim (F.len vs H Q E) (F'.len vs H Q E), fun A outer s H args us vs Q E hr he hb hv hs => hs.elim (F.run A outer s H args us vs Q E hr he hb hv) (F'.run A outer s H args us vs Q E hr he hb hv)⟩
theorem cmd_tr {S : Addr → Prop} {H : Hp} {b : Addr} {c : Cm} (h : H b = some (.tup c.vals)) : Tr S H c.d (.ref b) := ⟨b, _, rfl, h, .cons rfl (TrAll.ofInts _)⟩
theorem tr_cm {S : Addr → Prop} {H : Hp} {v : V} {c : Cm} (h : Tr S H c.d v) : ∃ b, v = .ref b ∧ H b = some (.tup c.vals) := by
  obtain ⟨b, xs, rfl, hb, x, us, rfl, hx, hu⟩ := h
  cases hx
  rw [TrAll.ints hu] at hb
  exact ⟨b, rfl, hb⟩
theorem WordOk.cm (c : Cm) : WordOk c.d := wordOk_d (.cmd c)
def sp_is_cmdW (K : PySem.W.Frag) (aB : Addr) : Sp := fun vs H Q _ => ∃ (a : Addr) (s : Str), vs = [.ref a] ∧ SqT K H a [.str s] ∧ PySem.W.nsIn K aB s = some none ∧ ∀ H', Same H H' → Q (.bl false) H'
theorem okw_is_command (T : Top w K mg) : FnOk P w K mg base CX0 3 T.a_is_command T.d_is_command ["thing"] (sp_is_cmdW K T.a_BOUNDS) := by
  refine T.F_is_command.ok sc_is_command (fun vs H Q E h => ?_) (fun cdv A outer s H vs Q E hr h => ?_)
  · obtain ⟨a, s, rfl, _⟩ := h
    rfl
  · obtain ⟨a, s, rfl, ha, hw, q⟩ := h
    refine ⟨_, (pss_cons (ps_if (PW.pt (pw_or (pt_not (pt_val (pe_callB (k_isi K) (by rfl) T.z_isinstance bt_isinstance (pa_cons (pv 0) (pa_cons (pe_bltn (v := .ty "tuple") (by rfl) T.z_tuple bt_tuple rfl) pa_nil))))) (pw_or1 (pt_cmpR op_eq (pe_callB (k_len K) (by rfl) T.z_len bt_len (pa_cons (pv 0) pa_nil)) pe_int (nomark _))))) (pss_one (ps_ret pe_bl)) pss_nil)
      (pss_cons (ps_asg (pv 0) (pg_star K rfl (pg_name (i := 1) sc_is_command.nd rfl (Or.inl rfl)) (pg_name (i := 2) sc_is_command.nd rfl (Or.inl rfl))))
      (pss_cons (ps_if (PW.pt (pw_or (pt_not (pt_val (pe_callB (k_isi K) (by rfl) T.z_isinstance bt_isinstance (pa_cons (pv 1) (pa_cons (pe_bltn (v := .ty "str") (by rfl) T.z_str bt_str rfl) pa_nil))))) (pw_or1 (pt_cmpR (op_notIn_kd T.D_B) (pv 1) (C8.pe_gc rfl T.c_BOUNDS) rfl)))) (pss_one (ps_ret pe_bl)) pss_nil)
      (pss_cons (ps_set (i := 3) sc_is_command.nd rfl (Or.inl rfl) (pe_ix ix_kdict (C8.pe_gc rfl T.c_BOUNDS) (pv 1) (fun _ _ => rfl)))
      (pss_cons (ps_if (pt_cmpR op_ne (pe_callB (k_len K) (by rfl) T.z_len bt_len (pa_cons (pv 2) pa_nil)) (pe_callB (k_len K) (by rfl) T.z_len bt_len (pa_cons (pv 3) pa_nil)) (nomark _)) (pss_one (ps_ret pe_bl)) pss_nil)
      (pss_one (ps_ret (pe_callB (k_all K) (by rfl) T.z_all bt_all (pa_cons (pe_lc (own := [("number", 4), ("pair", 5)]) (g := (gTup K 2 (gCons (gName 4) (gCons (gName 5) gNil)))) (tt := tYes) rfl sc_is_command.nd (pi_zipLT K (by rfl) T.z_zip (pa_cons (pv 2) (pa_cons (pv 3) pa_nil))) (blkOk_by (N := N_is_command) (sc := defScope s_is_command) (by decide +kernel)) (fun _ _ _ _ _ => (pg_tup rfl (pgs_cons (pg_name (i := 4) sc_is_command.nd rfl (Or.inl rfl)) (pgs_cons (pg_name (i := 5) sc_is_command.nd rfl (Or.inl rfl)) pgs_nil)))) (fun _ _ _ _ _ => pts_nil) (fun _ _ _ _ _ => (pe_call (ok_is_within T) hr (by rfl) T.g_is_within T.F_is_within.kp (b_is_within T) .nil pass0 (pa_cons (pv 4) (pa_cons (pv 5) pa_nil))))) pa_nil))))))))), ?_⟩
    refine ⟨_, rfl, _, _, _, _, _, rfl, .ty _, sqT_ty ha, ki_tuple K (.tuple []), _, rfl, ?_⟩
    refine ⟨_, rfl, a, _, rfl, .inr ha, rfl, _, rfl, iteN (fun e => by cases e) ?_⟩
    refine ⟨_, rfl, a, _, _, rfl, ha, fun b nb => ?_⟩
    have s1 := same_upd (o := .lst []) nb
    generalize upd H b (.lst []) = H1 at *
    refine ⟨_, rfl, _, _, _, _, _, rfl, .ty _, .base (.str s), ki_str K (.str s), _, rfl, ?_⟩
    refine ⟨_, rfl, _, none, rfl, rfl, hw, _, rfl, ?_⟩
    exact q _ s1
/-- is_command of a deed -/
def Dd.isC : Dd → Bool
  | .cmd _ => true
  | _ => false
def sp_is_cmdD (K : PySem.W.Frag) (aH aB : Addr) : Sp := fun vs H Q _ => ∃ (d : Dd) (v : V), vs = [v] ∧ DdV aH aB H d v ∧ d.ok ∧ ∀ H', Same H H' → Q (.bl d.isC) H'
theorem okg_is_command (T : Top w K mg) : FnOk P w K mg base CX0 3 T.a_is_command T.d_is_command ["thing"] (sp_is_cmdD K T.a_HOLD T.a_BACK) := by
  refine (fnOk_or (ok_is_command T) (okw_is_command T)).imp fun vs H Q E h => ?_
  obtain ⟨d, v, rfl, hv, ho, q⟩ := h
  cases d with
  | cmd c => exact .inl ⟨fun _ => False, c.d, v, rfl, hv, WordOk.cm c, by rw [cmdOk_ok ho]; exact q⟩
  | hold => cases hv; exact .inr ⟨T.a_HOLD, "hold", rfl, T.h_HOLD _, T.W_D0, q⟩
  | back => cases hv; exact .inr ⟨T.a_BACK, "back", rfl, T.h_BACK _, T.W_D1, q⟩

def sp_turned (K : PySem.W.Frag) : Sp := fun vs H Q _ => ∃ (u v n : Int), vs = [.int u, .int v, .int n] ∧ 0 ≤ n ∧ n ≤ 3 ∧
  ∀ (q : Addr) (H' : Hp), Same H H' → H q = none → H' q = some (.tup [.int (rot n.toNat (u, v)).1, .int (rot n.toNat (u, v)).2]) → Q (.ref q) H'
theorem ok_turned (T : Top w K mg) : FnOk P w K mg base CX0 1 T.a_turned T.d_turned ["u", "v", "times"] (sp_turned K) := by
  refine T.F_turned.ok sc_turned (fun vs H Q E h => ?_) (fun cdv A outer s H vs Q E hr h => ?_)
  · obtain ⟨u, v, n, rfl, _⟩ := h
    rfl
  · obtain ⟨u, v, n, rfl, h0, h3, q⟩ := h
    refine ⟨_, (pss_cons (ps_for PassesOwn.never rfl (pi_range1 (by rfl) T.z_range (pa_cons (pv 2) pa_nil)) (pg_name (i := 3) sc_turned.nd rfl (Or.inl rfl)) (pss_one (ps_par (i := 0) (j := 1) rfl sc_turned.nd rfl rfl (by decide) rfl rfl (pa_cons (pe_un un_neg (pv 1)) (pa_cons (pv 0) pa_nil)) (by rfl))))
      (pss_one (ps_ret (pe_tup (pa_cons (pv 0) (pa_cons (pv 1) pa_nil)))))), ?_⟩
    refine ⟨_, rfl, n, rfl, by omega, by omega, for_range (n := n.toNat) (fun i σ H' => ∃ y, σ = [some (.int (rot i (u, v)).1), some (.int (rot i (u, v)).2), some (.int n), y] ∧ H' = H) ⟨none, rfl, rfl⟩ (fun i σ H' hi h => ?_) (fun σ H' h => ?_)⟩
    · obtain ⟨y, rfl, rfl⟩ := h
      exact ⟨_, rfl, _, rfl, _, rfl, _, _, rfl, _, rfl, rfl⟩
    · obtain ⟨y, rfl, rfl⟩ := h
      exact ⟨_, rfl, _, rfl, small100 (n := 2) (by decide), fun p np => q p _ (same_upd np) np upd_same⟩

--SPLIT
theorem list6' {ps : List Int} (h : ps.length = 6) : ∃ x y u v p q, ps = [x, y, u, v, p, q] := by
  match ps, h with
  | [a, b, c, d, e, f], _ => exact ⟨a, b, c, d, e, f, rfl⟩
def sp_moved (K : PySem.W.Frag) : Sp := fun vs H Q _ => ∃ (a b : Addr) (ps : List Int) (c : Cm), vs = [.ref a, .ref b] ∧ SqT K H a (ps.map V.int) ∧ ps.length = 6 ∧ H b = some (.tup c.vals) ∧ c.ok ∧
  ∀ (q : Addr) (H' : Hp), Same H H' → H q = none → H' q = some (.tup ((c.mv ps).map V.int)) → Q (.ref q) H'
set_option maxHeartbeats 4000000 in
theorem ok_moved (T : Top w K mg) : FnOk P w K mg base CX0 4 T.a_moved T.d_moved ["pen", "command"] (sp_moved K) := by
  refine T.F_moved.ok sc_moved (fun vs H Q E h => ?_) (fun cdv A outer s H vs Q E hr h => ?_)
  · obtain ⟨a, b, ps, c, rfl, _⟩ := h
    rfl
  · obtain ⟨a, b, ps, c, rfl, ha, hl, hb, hok, q⟩ := h
    refine ⟨_, (pss_cons (ps_if (pt_not (pt_val (pe_call (ok_is_pen T) (hr.mono (by decide)) (by rfl) T.g_is_pen T.F_is_pen.kp (b_is_pen T) .nil pass0 (pa_cons (pv 0) pa_nil)))) (pss_one ps_never) pss_nil)
      (pss_cons (ps_if (pt_not (pt_val (pe_call (ok_is_command T) hr (by rfl) T.g_is_command T.F_is_command.kp (b_is_command T) .nil pass0 (pa_cons (pv 1) pa_nil)))) (pss_one ps_never) pss_nil)
      (pss_cons (ps_asg (pv 0) (pg_tup rfl (pgs_cons (pg_name (i := 2) sc_moved.nd rfl (Or.inl rfl)) (pgs_cons (pg_name (i := 3) sc_moved.nd rfl (Or.inl rfl)) (pgs_cons (pg_name (i := 4) sc_moved.nd rfl (Or.inl rfl)) (pgs_cons (pg_name (i := 5) sc_moved.nd rfl (Or.inl rfl)) (pgs_cons (pg_name (i := 6) sc_moved.nd rfl (Or.inl rfl)) (pgs_cons (pg_name (i := 7) sc_moved.nd rfl (Or.inl rfl)) pgs_nil))))))))
      (pss_cons (ps_set (i := 8) sc_moved.nd rfl (Or.inl rfl) (pe_ix (k_ixT K) (pv 1) pe_int (fun _ _ => rfl)))
      (pss_cons (ps_if (pt_cmpR op_eq (pv 8) pe_str (nomark _)) (pss_one (ps_ret (pe_tup (pa_cons (pe_op op_add (pv 2) (pe_op op_mul (pe_ix (k_ixT K) (pv 1) pe_int (fun _ _ => rfl)) (pv 4))) (pa_cons (pe_op op_add (pv 3) (pe_op op_mul (pe_ix (k_ixT K) (pv 1) pe_int (fun _ _ => rfl)) (pv 5))) (pa_cons (pv 4) (pa_cons (pv 5) (pa_cons (pv 6) (pa_cons (pv 7) pa_nil))))))))) pss_nil)
      (pss_cons (ps_if (pt_cmpR op_eq (pv 8) pe_str (nomark _)) (pss_one (ps_ret (pe_tup (pa_cons (pv 2) (pa_cons (pv 3) (k_star K (pe_call (ok_turned T) (hr.mono (by decide)) (by rfl) T.g_turned T.F_turned.kp (b_turned T) .nil pass0 (pa_cons (pv 4) (pa_cons (pv 5) (pa_cons (pe_ix (k_ixT K) (pv 1) pe_int (fun _ _ => rfl)) pa_nil)))) (pa_cons (pv 6) (pa_cons (pv 7) pa_nil)))))))) pss_nil)
      (pss_cons (ps_if (pt_cmpR op_eq (pv 8) pe_str (nomark _)) (pss_one (ps_ret (pe_tup (pa_cons (pv 2) (pa_cons (pv 3) (pa_cons (pv 4) (pa_cons (pe_un un_neg (pv 5)) (pa_cons (pv 6) (pa_cons (pv 7) pa_nil))))))))) pss_nil)
      (pss_cons (ps_if (pt_cmpR op_eq (pv 8) pe_str (nomark _)) (pss_one (ps_ret (pe_tup (pa_cons (pv 2) (pa_cons (pv 3) (pa_cons (pe_op op_mul (pe_ix (k_ixT K) (pv 1) pe_int (fun _ _ => rfl)) (pv 4)) (pa_cons (pe_op op_mul (pe_ix (k_ixT K) (pv 1) pe_int (fun _ _ => rfl)) (pv 5)) (pa_cons (pv 6) (pa_cons (pv 7) pa_nil))))))))) pss_nil)
      (pss_cons (ps_if (pt_cmpR op_eq (pv 8) pe_str (nomark _)) (pss_one (ps_ret (pe_tup (pa_cons (pv 2) (pa_cons (pv 3) (pa_cons (pe_ix (k_ixT K) (pv 1) pe_int (fun _ _ => rfl)) (pa_cons (pe_ix (k_ixT K) (pv 1) pe_int (fun _ _ => rfl)) (pa_cons (pv 6) (pa_cons (pv 7) pa_nil))))))))) pss_nil)
      (pss_cons (ps_if (pt_cmpR op_eq (pv 8) pe_str (nomark _)) (pss_one (ps_ret (pe_tup (pa_cons (pe_ix (k_ixT K) (pv 1) pe_int (fun _ _ => rfl)) (pa_cons (pe_ix (k_ixT K) (pv 1) pe_int (fun _ _ => rfl)) (pa_cons (pv 4) (pa_cons (pv 5) (pa_cons (pv 6) (pa_cons (pv 7) pa_nil))))))))) pss_nil)
      (pss_cons (ps_if (pt_cmpR op_eq (pv 8) pe_str (nomark _)) (pss_one (ps_ret (pe_tup (pa_cons (pv 2) (pa_cons (pv 3) (pa_cons (pv 4) (pa_cons (pv 5) (pa_cons (pv 2) (pa_cons (pv 3) pa_nil))))))))) pss_nil)
      (pss_cons (ps_if (pt_cmpR op_eq (pv 8) pe_str (nomark _)) (pss_one (ps_ret (pe_tup (pa_cons (pv 6) (pa_cons (pv 7) (pa_cons (pv 4) (pa_cons (pv 5) (pa_cons (pv 6) (pa_cons (pv 7) pa_nil))))))))) pss_nil)
      (pss_one (ps_ret (pe_tup (pa_cons (pv 6) (pa_cons (pv 7) (pa_cons (pv 4) (pa_cons (pv 5) (pa_cons (pv 2) (pa_cons (pv 3) pa_nil))))))))))))))))))))), ?_⟩
    obtain ⟨x, y, u, v, p, r, rfl⟩ := list6' hl
    refine ⟨_, rfl, penD [x, y, u, v, p, r], .ref a, rfl, pv_of ha hl, fun H1 s1 => ⟨true, congrArg V.bl (penOk_ints hl), ?_⟩⟩
    refine ⟨_, rfl, fun _ => False, c.d, .ref b, rfl, cmd_tr (s1 _ _ hb), WordOk.cm c, fun H2 s2 => ⟨true, congrArg V.bl (cmdOk_ok hok), ?_⟩⟩
    have s02 := s1.trans s2
    have hb2 := s02 _ _ hb
    refine ⟨_, rfl, a, _, rfl, sqT_same ha s02, rfl, _, _, rfl, _, _, rfl, _, _, rfl, _, _, rfl, _, _, rfl, _, _, rfl, rfl, ?_⟩
    refine ⟨_, rfl, b, _, 0, _, rfl, rfl, SqT.of hb2, atI_nat (j := 0) rfl, ?_⟩
    have lim : ∀ {i : Nat} {z : Int} {l : Int × Int}, c.nums[i]? = some z → c.lims[i]? = some l → l.1 ≤ z ∧ z ≤ l.2 := fun g1 g2 => hok _ _ _ g1 g2
    have done : ∀ {q : Addr} {J : Hp} {l : List Int}, Same H J → J q = none → l = c.mv [x, y, u, v, p, r] → Same H (upd J q (.tup (l.map V.int))) ∧ H q = none ∧ (upd J q (.tup (l.map V.int))) q = some (.tup ((c.mv [x, y, u, v, p, r]).map V.int)) := fun s n e => ⟨same_new s (s.free n), s.free n, by rw [upd_same, e]⟩
    cases c with
    | go k =>
      have h1 := lim (i := 0) rfl rfl
      dsimp only at h1
      refine ⟨_, rfl, rfl, _, rfl, iteP rfl ?_⟩
      refine ⟨_, rfl, _, rfl, b, _, 1, _, rfl, rfl, SqT.of hb2, atI_nat (j := 1) rfl, _, rfl, _, _, rfl, rfl, .inl ⟨by omega, by omega⟩, _, _, rfl, rfl, _, rfl, _, rfl, b, _, 1, _, rfl, rfl, SqT.of hb2, atI_nat (j := 1) rfl, _, rfl, _, _, rfl, rfl, .inl ⟨by omega, by omega⟩, _, _, rfl, rfl, _, rfl, _, rfl, _, rfl, _, rfl, small100 (n := 6) (by decide), fun t nt => ?_⟩
      exact q t _ (done (l := Cm.mv (.go k) [x, y, u, v, p, r]) s02 nt rfl).1 (done (l := Cm.mv (.go k) [x, y, u, v, p, r]) s02 nt rfl).2.1 (done (l := Cm.mv (.go k) [x, y, u, v, p, r]) s02 nt rfl).2.2
    | turn n =>
      have h1 := lim (i := 0) rfl rfl
      dsimp only at h1
      refine ⟨_, rfl, rfl, _, rfl, iteN (show ¬ V.str ("turn" : Str) = V.str ("go" : Str) by decide) ?_⟩
      refine ⟨_, rfl, rfl, _, rfl, iteP rfl ?_⟩
      refine ⟨_, rfl, _, rfl, _, rfl, _, rfl, _, rfl, b, _, 1, _, rfl, rfl, SqT.of hb2, atI_nat (j := 1) rfl, _, _, _, rfl, by omega, by omega, fun z H3 s3 nz hz => ⟨z, _, rfl, .inl (SqT.of hz), _, rfl, _, rfl, small100 (n := 6) (by decide), fun t nt => ?_⟩⟩
      exact q t _ (done (l := Cm.mv (.turn n) [x, y, u, v, p, r]) (s02.trans s3) nt rfl).1 (done (l := Cm.mv (.turn n) [x, y, u, v, p, r]) (s02.trans s3) nt rfl).2.1 (done (l := Cm.mv (.turn n) [x, y, u, v, p, r]) (s02.trans s3) nt rfl).2.2
    | mirror =>
      refine ⟨_, rfl, rfl, _, rfl, iteN (show ¬ V.str ("mirror" : Str) = V.str ("go" : Str) by decide) ?_⟩
      refine ⟨_, rfl, rfl, _, rfl, iteN (show ¬ V.str ("mirror" : Str) = V.str ("turn" : Str) by decide) ?_⟩
      refine ⟨_, rfl, rfl, _, rfl, iteP rfl ?_⟩
      refine ⟨_, rfl, _, rfl, _, rfl, _, rfl, _, rfl, _, rfl, _, rfl, small100 (n := 6) (by decide), fun t nt => ?_⟩
      exact q t _ (done (l := Cm.mv (.mirror) [x, y, u, v, p, r]) s02 nt rfl).1 (done (l := Cm.mv (.mirror) [x, y, u, v, p, r]) s02 nt rfl).2.1 (done (l := Cm.mv (.mirror) [x, y, u, v, p, r]) s02 nt rfl).2.2
    | scale k =>
      have h1 := lim (i := 0) rfl rfl
      dsimp only at h1
      refine ⟨_, rfl, rfl, _, rfl, iteN (show ¬ V.str ("scale" : Str) = V.str ("go" : Str) by decide) ?_⟩
      refine ⟨_, rfl, rfl, _, rfl, iteN (show ¬ V.str ("scale" : Str) = V.str ("turn" : Str) by decide) ?_⟩
      refine ⟨_, rfl, rfl, _, rfl, iteN (show ¬ V.str ("scale" : Str) = V.str ("mirror" : Str) by decide) ?_⟩
      refine ⟨_, rfl, rfl, _, rfl, iteP rfl ?_⟩
      refine ⟨_, rfl, _, rfl, _, rfl, b, _, 1, _, rfl, rfl, SqT.of hb2, atI_nat (j := 1) rfl, _, rfl, _, _, rfl, rfl, .inl ⟨by omega, by omega⟩, _, rfl, b, _, 1, _, rfl, rfl, SqT.of hb2, atI_nat (j := 1) rfl, _, rfl, _, _, rfl, rfl, .inl ⟨by omega, by omega⟩, _, rfl, _, rfl, small100 (n := 6) (by decide), fun t nt => ?_⟩
      exact q t _ (done (l := Cm.mv (.scale k) [x, y, u, v, p, r]) s02 nt rfl).1 (done (l := Cm.mv (.scale k) [x, y, u, v, p, r]) s02 nt rfl).2.1 (done (l := Cm.mv (.scale k) [x, y, u, v, p, r]) s02 nt rfl).2.2
    | aim a1 a2 =>
      refine ⟨_, rfl, rfl, _, rfl, iteN (show ¬ V.str ("aim" : Str) = V.str ("go" : Str) by decide) ?_⟩
      refine ⟨_, rfl, rfl, _, rfl, iteN (show ¬ V.str ("aim" : Str) = V.str ("turn" : Str) by decide) ?_⟩
      refine ⟨_, rfl, rfl, _, rfl, iteN (show ¬ V.str ("aim" : Str) = V.str ("mirror" : Str) by decide) ?_⟩
      refine ⟨_, rfl, rfl, _, rfl, iteN (show ¬ V.str ("aim" : Str) = V.str ("scale" : Str) by decide) ?_⟩
      refine ⟨_, rfl, rfl, _, rfl, iteP rfl ?_⟩
      refine ⟨_, rfl, _, rfl, _, rfl, b, _, 1, _, rfl, rfl, SqT.of hb2, atI_nat (j := 1) rfl, _, rfl, b, _, 2, _, rfl, rfl, SqT.of hb2, atI_nat (j := 2) rfl, _, rfl, _, rfl, small100 (n := 6) (by decide), fun t nt => ?_⟩
      exact q t _ (done (l := Cm.mv (.aim a1 a2) [x, y, u, v, p, r]) s02 nt rfl).1 (done (l := Cm.mv (.aim a1 a2) [x, y, u, v, p, r]) s02 nt rfl).2.1 (done (l := Cm.mv (.aim a1 a2) [x, y, u, v, p, r]) s02 nt rfl).2.2
    | place a1 a2 =>
      refine ⟨_, rfl, rfl, _, rfl, iteN (show ¬ V.str ("place" : Str) = V.str ("go" : Str) by decide) ?_⟩
      refine ⟨_, rfl, rfl, _, rfl, iteN (show ¬ V.str ("place" : Str) = V.str ("turn" : Str) by decide) ?_⟩
      refine ⟨_, rfl, rfl, _, rfl, iteN (show ¬ V.str ("place" : Str) = V.str ("mirror" : Str) by decide) ?_⟩
      refine ⟨_, rfl, rfl, _, rfl, iteN (show ¬ V.str ("place" : Str) = V.str ("scale" : Str) by decide) ?_⟩
      refine ⟨_, rfl, rfl, _, rfl, iteN (show ¬ V.str ("place" : Str) = V.str ("aim" : Str) by decide) ?_⟩
      refine ⟨_, rfl, rfl, _, rfl, iteP rfl ?_⟩
      refine ⟨_, rfl, b, _, 1, _, rfl, rfl, SqT.of hb2, atI_nat (j := 1) rfl, _, rfl, b, _, 2, _, rfl, rfl, SqT.of hb2, atI_nat (j := 2) rfl, _, rfl, _, rfl, _, rfl, _, rfl, small100 (n := 6) (by decide), fun t nt => ?_⟩
      exact q t _ (done (l := Cm.mv (.place a1 a2) [x, y, u, v, p, r]) s02 nt rfl).1 (done (l := Cm.mv (.place a1 a2) [x, y, u, v, p, r]) s02 nt rfl).2.1 (done (l := Cm.mv (.place a1 a2) [x, y, u, v, p, r]) s02 nt rfl).2.2
    | mark =>
      refine ⟨_, rfl, rfl, _, rfl, iteN (show ¬ V.str ("mark" : Str) = V.str ("go" : Str) by decide) ?_⟩
      refine ⟨_, rfl, rfl, _, rfl, iteN (show ¬ V.str ("mark" : Str) = V.str ("turn" : Str) by decide) ?_⟩
      refine ⟨_, rfl, rfl, _, rfl, iteN (show ¬ V.str ("mark" : Str) = V.str ("mirror" : Str) by decide) ?_⟩
      refine ⟨_, rfl, rfl, _, rfl, iteN (show ¬ V.str ("mark" : Str) = V.str ("scale" : Str) by decide) ?_⟩
      refine ⟨_, rfl, rfl, _, rfl, iteN (show ¬ V.str ("mark" : Str) = V.str ("aim" : Str) by decide) ?_⟩
      refine ⟨_, rfl, rfl, _, rfl, iteN (show ¬ V.str ("mark" : Str) = V.str ("place" : Str) by decide) ?_⟩
      refine ⟨_, rfl, rfl, _, rfl, iteP rfl ?_⟩
      refine ⟨_, rfl, _, rfl, _, rfl, _, rfl, _, rfl, _, rfl, small100 (n := 6) (by decide), fun t nt => ?_⟩
      exact q t _ (done (l := Cm.mv (.mark) [x, y, u, v, p, r]) s02 nt rfl).1 (done (l := Cm.mv (.mark) [x, y, u, v, p, r]) s02 nt rfl).2.1 (done (l := Cm.mv (.mark) [x, y, u, v, p, r]) s02 nt rfl).2.2
    | ret =>
      refine ⟨_, rfl, rfl, _, rfl, iteN (show ¬ V.str ("return" : Str) = V.str ("go" : Str) by decide) ?_⟩
      refine ⟨_, rfl, rfl, _, rfl, iteN (show ¬ V.str ("return" : Str) = V.str ("turn" : Str) by decide) ?_⟩
      refine ⟨_, rfl, rfl, _, rfl, iteN (show ¬ V.str ("return" : Str) = V.str ("mirror" : Str) by decide) ?_⟩
      refine ⟨_, rfl, rfl, _, rfl, iteN (show ¬ V.str ("return" : Str) = V.str ("scale" : Str) by decide) ?_⟩
      refine ⟨_, rfl, rfl, _, rfl, iteN (show ¬ V.str ("return" : Str) = V.str ("aim" : Str) by decide) ?_⟩
      refine ⟨_, rfl, rfl, _, rfl, iteN (show ¬ V.str ("return" : Str) = V.str ("place" : Str) by decide) ?_⟩
      refine ⟨_, rfl, rfl, _, rfl, iteN (show ¬ V.str ("return" : Str) = V.str ("mark" : Str) by decide) ?_⟩
      refine ⟨_, rfl, rfl, _, rfl, iteP rfl ?_⟩
      refine ⟨_, rfl, _, rfl, _, rfl, _, rfl, _, rfl, _, rfl, small100 (n := 6) (by decide), fun t nt => ?_⟩
      exact q t _ (done (l := Cm.mv (.ret) [x, y, u, v, p, r]) s02 nt rfl).1 (done (l := Cm.mv (.ret) [x, y, u, v, p, r]) s02 nt rfl).2.1 (done (l := Cm.mv (.ret) [x, y, u, v, p, r]) s02 nt rfl).2.2
    | exch =>
      refine ⟨_, rfl, rfl, _, rfl, iteN (show ¬ V.str ("exchange" : Str) = V.str ("go" : Str) by decide) ?_⟩
      refine ⟨_, rfl, rfl, _, rfl, iteN (show ¬ V.str ("exchange" : Str) = V.str ("turn" : Str) by decide) ?_⟩
      refine ⟨_, rfl, rfl, _, rfl, iteN (show ¬ V.str ("exchange" : Str) = V.str ("mirror" : Str) by decide) ?_⟩
      refine ⟨_, rfl, rfl, _, rfl, iteN (show ¬ V.str ("exchange" : Str) = V.str ("scale" : Str) by decide) ?_⟩
      refine ⟨_, rfl, rfl, _, rfl, iteN (show ¬ V.str ("exchange" : Str) = V.str ("aim" : Str) by decide) ?_⟩
      refine ⟨_, rfl, rfl, _, rfl, iteN (show ¬ V.str ("exchange" : Str) = V.str ("place" : Str) by decide) ?_⟩
      refine ⟨_, rfl, rfl, _, rfl, iteN (show ¬ V.str ("exchange" : Str) = V.str ("mark" : Str) by decide) ?_⟩
      refine ⟨_, rfl, rfl, _, rfl, iteN (show ¬ V.str ("exchange" : Str) = V.str ("return" : Str) by decide) ?_⟩
      refine ⟨_, rfl, _, rfl, _, rfl, _, rfl, _, rfl, _, rfl, small100 (n := 6) (by decide), fun t nt => ?_⟩
      exact q t _ (done (l := Cm.mv (.exch) [x, y, u, v, p, r]) s02 nt rfl).1 (done (l := Cm.mv (.exch) [x, y, u, v, p, r]) s02 nt rfl).2.1 (done (l := Cm.mv (.exch) [x, y, u, v, p, r]) s02 nt rfl).2.2

--SPLIT

/-! ### the pens behind the deeds -/
def holdD : PyData := .tuple [.str "hold"]
def Dd.d : Dd → PyData
  | .cmd c => c.d
  | .hold => holdD
  | .back => backD
def Dd.isH : Dd → Bool
  | .hold => true
  | _ => false
def Dd.isB : Dd → Bool
  | .back => true
  | _ => false
/-- a for over a list, within a generator def -/
theorem g3_walkL {K : PySem.W.Frag} {a : Addr} {zs : List V} {g : TG} {tb : TGn} {D : GEnds} {ys : List V} {σ : L2.St} {H : Hp} (I : Nat → List V → L2.St → Hp → Prop) (start : I 0 ys σ H) (list : ∀ i ys σ H, i ≤ zs.length → I i ys σ H → SqL K H a zs)
    (turn : ∀ i x ys σ H, zs[i]? = some x → I i ys σ H → g x σ H fun σ2 H2 => tb { D with nx := I (i + 1), ct := I (i + 1), bk := D.nx } ys σ2 H2) (done : ∀ ys σ H, I zs.length ys σ H → D.nx ys σ H) :
    ∃ W : Nat → Nat → List V → L2.St → Hp → Prop, (∃ m, W 0 m ys σ H) ∧ ∀ i m ys σ H, W i m ys σ H →
      ((Itl K a).stop i H ∧ D.nx ys σ H) ∨ ((Itl K a).go i H ∧ ∃ N : List V → L2.St → Hp → Prop, (∀ ys' σ' H', N ys' σ' H' → ∃ m', m' < m ∧ W (i + 1) m' ys' σ' H') ∧ ∀ x H', (Itl K a).yld i H x H' → g x σ H' fun σ2 H2 => tb { D with nx := N, ct := N, bk := D.nx } ys σ2 H2) := by
  have all : ∀ i m ys σ H, (m + i = zs.length ∧ I i ys σ H) → ((Itl K a).stop i H ∧ D.nx ys σ H) ∨ ((Itl K a).go i H ∧ ∃ N : List V → L2.St → Hp → Prop, (∀ ys' σ' H', N ys' σ' H' → ∃ m', m' < m ∧ (m' + (i + 1) = zs.length ∧ I (i + 1) ys' σ' H')) ∧ ∀ x H', (Itl K a).yld i H x H' → g x σ H' fun σ2 H2 => tb { D with nx := N, ct := N, bk := D.nx } ys σ2 H2) := by
    rintro i m ys σ H ⟨e, h⟩
    have sq := list i ys σ H (by omega) h
    cases m with
    | zero =>
      have e : i = zs.length := by omega
      subst e
      exact .inl ⟨⟨zs, sq, Nat.le_refl _⟩, done ys σ H h⟩
    | succ m =>
      have hi : i < zs.length := by omega
      refine .inr ⟨⟨zs, zs[i], sq, List.getElem?_eq_getElem hi⟩, I (i + 1), fun ys' σ' H' h' => ⟨m, Nat.lt_succ_self _, by omega, h'⟩, ?_⟩
      rintro x H' ⟨rfl, hx⟩
      exact turn i x ys σ _ (hx zs sq) h
  exact ⟨fun i m ys σ H => m + i = zs.length ∧ I i ys σ H, ⟨zs.length, rfl, start⟩, all⟩
def penR (K : PySem.W.Frag) (H : Hp) (q : List Int) (v : V) : Prop := ∃ c : Addr, v = .ref c ∧ SqT K H c (q.map V.int)
theorem sqT_put {K : PySem.W.Frag} {H : Hp} {a c : Addr} {xs ys zs : List V} (hc : SqT K H c xs) (ha : H a = some (.lst ys)) : SqT K (upd H a (.lst zs)) c xs := by
  rcases hc with (h | ⟨o, h⟩) | h
  · refine .inl (.inl ?_)
    rw [upd_ne (fun e => by rw [e, ha] at h; cases h)]
    exact h
  · refine .inl (.inr ⟨o, ?_⟩)
    rw [upd_ne (fun e => by rw [e, ha] at h; cases h)]
    exact h
  · exact .inr h
theorem penR.put {K : PySem.W.Frag} {H : Hp} {a : Addr} {ys zs : List V} (ha : H a = some (.lst ys)) (q : List Int) (v : V) : penR K H q v → penR K (upd H a (.lst zs)) q v := fun ⟨c, e, h⟩ => ⟨c, e, sqT_put h ha⟩
theorem penR.same {K : PySem.W.Frag} {H H' : Hp} (s : Same H H') (q : List Int) (v : V) : penR K H q v → penR K H' q v := fun ⟨c, e, h⟩ => ⟨c, e, sqT_same h s⟩
theorem hold_sh : SeqAt.shaped holdD = true := by decide +kernel
theorem ne_hold (c : Cm) : PyData.eqv c.d holdD = false := by
  show PyData.eqv (.tuple (.str c.word :: c.nums.map .int)) (.tuple [.str "hold"]) = false
  rw [PyData.eqv, PyData.eqvAll, cm_neB c "hold" (cm_neS (by decide))]
  rfl
theorem dd_dp {K : PySem.W.Frag} {aH aB : Addr} {H : Hp} (hH : ∀ H, SqT K H aH [V.str "hold"]) (hB : ∀ H, SqT K H aB [V.str "back"]) {d : Dd} {v : V} (t : DdV aH aB H d v) (o : d.ok) : Dp K H v d.d ∧ SeqAt.shaped d.d = true ∧ PyData.eqv d.d holdD = d.isH ∧ PyData.eqv d.d backD = d.isB := by
  cases d with
  | cmd c =>
    have sh := (fit_stm (.cmd c) 0 12 (show (Stm.cmd c).ok 0 0 from o) (by omega)).shaped (by decide)
    exact ⟨Tr.dp _ _ (canOf sh) t, sh, ne_hold c, ne_back (.cmd c)⟩
  | hold => cases t; exact ⟨.tup (hH H) (.cons (.str _) .nil), hold_sh, rfl, rfl⟩
  | back => cases t; exact ⟨.tup (hB H) (.cons (.str _) .nil), back_sh, rfl, rfl⟩
theorem DdV.same {aH aB : Addr} {H H' : Hp} (s : Same H H') (d : Dd) (v : V) : DdV aH aB H d v → DdV aH aB H' d v := DdV.keep (S := fun _ => False) (M := fun _ => False) (KpM.of s) (fun _ h => h.elim) d v
theorem AllR.get {α : Type} {R : α → V → Prop} : ∀ {as : List α} {vs : List V} {i : Nat} {v : V}, AllR R as vs → vs[i]? = some v → ∃ a, as[i]? = some a ∧ R a v
  | [], _, i, v, e, h => by have e : _ = [] := e; subst e; cases h
  | a :: r, _, 0, v, ⟨x, us, e, hx, q⟩, h => by subst e; cases h; exact ⟨a, rfl, hx⟩
  | a :: r, _, i + 1, v, ⟨x, us, e, hx, q⟩, h => by subst e; exact AllR.get (as := r) q h
theorem fold_le : ∀ (xs : List Dd) (z : List (List Int) × List Int), (penFold xs z).1.length ≤ z.1.length + xs.length
  | [], z => Nat.le_add_right _ _
  | .cmd c :: r, (h, p) => Nat.le_trans (fold_le r (h, c.mv p)) (by simp only [List.length_cons]; omega)
  | .hold :: r, (h, p) => Nat.le_trans (fold_le r (p :: h, p)) (by simp only [List.length_cons]; omega)
  | .back :: r, (q :: h, p) => Nat.le_trans (fold_le r (h, q.take 4 ++ p.drop 4)) (by simp only [List.length_cons]; omega)
  | .back :: r, ([], p) => Nat.le_trans (fold_le r ([], p)) (by simp only [List.length_cons]; omega)
theorem pop_pen {R : List Int → V → Prop} {x : List Int} {r : List (List Int)} {ls : List V} (h : AllR R (x :: r).reverse ls) : ∃ us v, ls = us ++ [v] ∧ AllR R r.reverse us ∧ R x v := by
  rw [List.reverse_cons] at h
  exact AllR.split h
theorem slice4 : ¬ (HT.sIx 6 0 none = 0 ∧ HT.sIx 6 6 (some 4) = 6) := by decide
theorem slice46 : ¬ (HT.sIx 6 0 (some 4) = 0 ∧ HT.sIx 6 6 none = 6) := by decide
/-- where the generator stands behind i deeds -/
def PensI (K : PySem.W.Frag) (H : Hp) (a l : Addr) (ds : List Dd) (ps : List Int) (i : Nat) (ys : List V) (σ : L2.St) (H' : Hp) : Prop := ∃ (c : Addr) (z : List (List Int) × List Int) (hvs : List V) (y : Option V), σ = [some (.ref a), some (.ref c), some (.ref l), y] ∧ Same H H' ∧ H' l = some (.lst hvs) ∧
  penFold (ds.take i) ([], ps) = z ∧ SqT K H' c (z.2.map V.int) ∧ AllR (penR K H') z.1.reverse hvs ∧ AllR (penR K H') (pensB (ds.take i) ps) ys
abbrev Sp_pens (K : PySem.W.Frag) (aH aB : Addr) : Sp3 := fun vs H cont => ∃ (a b : Addr) (vds : List V) (ds : List Dd) (ps : List Int), vs = [.ref a, .ref b] ∧ H a = some (.lst vds) ∧ AllR (DdV aH aB H) ds vds ∧ ds.length ≤ 900 ∧ (∀ d ∈ ds, d.ok) ∧ (∃ k, depD ds 0 = some k) ∧ SqT K H b (ps.map V.int) ∧ ps.length = 6 ∧
  ∀ (H' : Hp) (ys : List V), Same H H' → AllR (penR K H') (pensB ds ps) ys → cont ys H'
theorem ok_pens_behind (T : Top w K mg) : GFn3 P w K mg base 5 T.a_pens_behind T.d_pens_behind ["deeds", "pen"] (Sp_pens K T.a_HOLD T.a_BACK) := by
  refine fun_gen3 T.F_pens_behind sc_pens_behind (fun vs H Q h => ?_) (fun cdv A outer sh H vs Q pn hr h => ?_)
  · obtain ⟨a, b, vds, ds, ps, rfl, _⟩ := h
    rfl
  · obtain ⟨a, b, vds, ds, ps, rfl, ha, hds, hlen, hok, ⟨kd, hdep⟩, hb, hl, q⟩ := h
    refine ⟨_, (g3_cons (g3_ps fun _ => (ps_set (i := 2) sc_pens_behind.nd rfl (Or.inl rfl) (pe_lst pa_nil))) 
      (g3_cons (g3_for (fun _ => (k_piL K (pv 0))) (fun _ => (pg_name (i := 3) sc_pens_behind.nd rfl (Or.inl rfl))) (g3_cons (g3_ps fun _ => (ps_if (pt_cmpR (op_eqD (hu64 hr)) (pv 3) (C8.pe_gc rfl T.c_HOLD) (nomark _)) (pss_one (ps_expr (pe_bm PySem.F.plainAttrs_list PySem.F.slot_list_append PySem.F.type_list_append mt_append (pv 2) (pa_cons (pv 1) pa_nil)))) (pss_one (ps_if (pt_cmpR (op_eqD (hu64 hr)) (pv 3) (C8.pe_gc rfl T.c_BACK) (nomark _)) (pss_one (ps_set (i := 1) sc_pens_behind.nd rfl (Or.inl rfl) (pe_tup (k_star K (pe_slice (k_slT K) (pe_bm0 PySem.F.plainAttrs_list PySem.F.slot_list_pop PySem.F.type_list_pop mt_pop (pv 2)) po_none (po_some pe_int)) (k_star K (pe_slice (k_slT K) (pv 1) (po_some pe_int) po_none) pa_nil))))) (pss_one (ps_set (i := 1) sc_pens_behind.nd rfl (Or.inl rfl) (pe_call (ok_moved T) hr (by rfl) T.g_moved T.F_moved.kp (b_moved T) .nil pass0 (pa_cons (pv 1) (pa_cons (pv 3) pa_nil))))))))) 
        (g3_cons (g3_yield fun _ => (pv 1)) 
        g3_nil (by intros; rfl)) (by intros; rfl)) (by intros; rfl) (by intros; rfl)) 
      g3_nil (by intros; rfl)) (by intros; rfl)), ?_⟩
    have lv := hds.len
    refine ⟨small100 (n := 0) (by decide), fun l nl => ?_⟩
    refine ⟨_, rfl, a, rfl, ⟨vds, SqL.of (same_upd nl _ _ ha)⟩, ?_⟩
    refine g3_walkL (zs := vds) (PensI K H a l ds ps) ⟨b, ([], ps), [], none, rfl, same_upd nl, upd_same, rfl, sqT_same hb (same_upd nl), rfl, rfl⟩ (fun i ys σ H' _ h => ?_) (fun i x ys σ H' hx h => ?_) (fun ys σ H' h => ?_)
    · obtain ⟨_, _, _, _, _, sm, _⟩ := h
      exact SqL.of (sm _ _ ha)
    · obtain ⟨c, ⟨hs, cur⟩, hvs, y, rfl, sm, hL, hf, hc, hh, hy⟩ := h
      have fin : ∀ (D : GEnds) (c' : Addr) (z' : List (List Int) × List Int) (hvs' : List V) (H2 : Hp), D.nx = PensI K H a l ds ps (i + 1) → Same H H2 → H2 l = some (.lst hvs') → penFold (ds.take (i + 1)) ([], ps) = z' → SqT K H2 c' (z'.2.map V.int) → AllR (penR K H2) z'.1.reverse hvs' → AllR (penR K H2) (pensB (ds.take i) ps) ys →
          tGThen (tGYield (tVar 1)) tG0 D ys [some (.ref a), some (.ref c'), some (.ref l), some x] H2 := by
        intro D c' z' hvs' H2 eD s2 h2 ef hc' hh' hy'
        have ly := hy'.len
        have lb : (pensB (ds.take i) ps).length ≤ 900 := by
          unfold pensB
          rw [List.length_map, List.length_range, List.length_take]
          omega
        have hi := (List.getElem?_eq_some_iff.mp hx).1
        refine ⟨small1000 (by omega), _, rfl, ?_⟩
        show D.nx (ys ++ [.ref c']) _ H2
        rw [eD]
        refine ⟨c', z', hvs', some x, rfl, s2, h2, ef, hc', hh', ?_⟩
        rw [pensB_snoc ds i ps (by omega), ef]
        exact AllR.append hy' (AllR.one ⟨c', rfl, hc'⟩)
      obtain ⟨d, hd, tx⟩ := AllR.get hds hx
      have od := hok d (List.mem_of_getElem? hd)
      obtain ⟨p1, p2, p3, p4⟩ := dd_dp (K := K) T.h_HOLD T.h_BACK (DdV.same sm _ _ tx) od
      have es := penFold_snoc hd ([], ps)
      rw [hf] at es
      obtain ⟨k1, hk1⟩ := depD_take hdep (i + 1)
      refine ⟨_, rfl, d.d, holdD, p1, .tup (T.h_HOLD _) (.cons (.str _) .nil), p2, hold_sh, _, rfl, ?_⟩
      rw [p3]
      cases d with
      | hold =>
        refine iteT ?_
        have lh := hh.len
        rw [List.length_reverse] at lh
        have le := fold_le (ds.take i) ([], ps)
        rw [hf, List.length_take] at le
        have le : hs.length ≤ 0 + min i ds.length := le
        refine ⟨_, rfl, .inl ⟨rfl, _, SqL.of hL⟩, _, rfl, l, hvs, _, rfl, rfl, hL, small1000 (by rw [lh]; show hs.length ≤ 1000; omega), ?_⟩
        have pu := fun q v => penR.put (K := K) (zs := hvs ++ [.ref c]) hL q v
        refine fin _ c (cur :: hs, cur) (hvs ++ [.ref c]) _ rfl (same_new sm nl) upd_same es (sqT_put hc hL) ?_ (AllR.imp pu hy)
        show AllR _ (cur :: hs).reverse _
        rw [List.reverse_cons]
        exact AllR.append (AllR.imp pu hh) (AllR.one ⟨c, rfl, sqT_put hc hL⟩)
      | back =>
        refine iteF ?_
        refine ⟨_, rfl, Dd.back.d, backD, p1, .tup (T.h_BACK _) (.cons (.str _) .nil), p2, back_sh, _, rfl, ?_⟩
        rw [p4]
        refine iteT ?_
        rw [List.take_add_one, hd] at hk1
        rw [show (some Dd.back).toList = [Dd.back] from rfl, depD_append] at hk1
        obtain ⟨m, hm⟩ := depD_take hdep i
        rw [hm] at hk1
        have hl2 := dep_len (xs := ds.take i) (z := ([], ps)) hm
        rw [hf] at hl2
        have six := six_fold (xs := ds.take i) (z := ([], ps)) (fun _ h => by cases h) hl
        rw [hf] at six
        cases m with
        | zero => cases hk1
        | succ m =>
          cases hs with
          | nil => cases hl2
          | cons q0 hs =>
            obtain ⟨us, v, rfl, ru, c0, rfl, h0⟩ := pop_pen hh
            have l0 : q0.length = 6 := six.1 q0 List.mem_cons_self
            have lc : cur.length = 6 := six.2
            obtain ⟨x0, x1, x2, x3, x4, x5, rfl⟩ := list6' l0
            obtain ⟨y0, y1, y2, y3, y4, y5, rfl⟩ := list6' lc
            refine ⟨_, rfl, .inl ⟨rfl, _, SqL.of hL⟩, l, _, _, rfl, rfl, hL, (pop_last us _).1, ?_⟩
            rw [(pop_last us _).2]
            have pu := fun q v => penR.put (K := K) (zs := us) hL q v
            have sm1 := same_new (o := .lst us) sm nl
            have hc1 := sqT_put (zs := us) hc hL
            have h01 := sqT_put (zs := us) h0 hL
            have hL1 : (upd H' l (.lst us)) l = some (.lst us) := upd_same
            have ru1 := AllR.imp pu ru
            have hy1 := AllR.imp pu hy
            generalize upd H' l (.lst us) = H1 at *
            refine ⟨4, rfl, c0, _, rfl, h01, slice4, fun p np => ?_⟩
            rw [show cutV ([x0, x1, x2, x3, x4, x5].map V.int) none (some 4) = [V.int x0, .int x1, .int x2, .int x3] from rfl]
            have s2 := same_upd (o := .tup [V.int x0, .int x1, .int x2, .int x3]) np
            have hp2 : (upd H1 p (.tup [V.int x0, .int x1, .int x2, .int x3])) p = some (.tup [V.int x0, .int x1, .int x2, .int x3]) := upd_same
            generalize upd H1 p _ = H2 at *
            refine ⟨p, _, rfl, .inl (SqT.of hp2), _, rfl, 4, rfl, c, _, rfl, sqT_same hc1 s2, slice46, fun p2 np2 => ?_⟩
            rw [show cutV ([y0, y1, y2, y3, y4, y5].map V.int) (some 4) none = [V.int y4, .int y5] from rfl]
            have s3 := same_upd (o := .tup [V.int y4, .int y5]) np2
            have hp3 : (upd H2 p2 (.tup [V.int y4, .int y5])) p2 = some (.tup [V.int y4, .int y5]) := upd_same
            generalize upd H2 p2 _ = H3 at *
            refine ⟨p2, _, rfl, .inl (SqT.of hp3), small100 (n := 6) (by decide), fun t nt => ?_⟩
            have s4 := same_upd (o := .tup ([V.int x0, .int x1, .int x2, .int x3] ++ ([V.int y4, .int y5] ++ []))) nt
            have ht : (upd H3 t (.tup ([V.int x0, .int x1, .int x2, .int x3] ++ ([V.int y4, .int y5] ++ [])))) t = some (.tup ([x0, x1, x2, x3, y4, y5].map V.int)) := upd_same
            generalize upd H3 t _ = H4 at *
            have s14 := (s2.trans s3).trans s4
            exact fin _ t (hs, [x0, x1, x2, x3, y4, y5]) us H4 rfl (sm1.trans s14) (s14 _ _ hL1) es (SqT.of ht) (AllR.imp (penR.same s14) ru1) (AllR.imp (penR.same s14) hy1)
      | cmd cm =>
        refine iteF ?_
        refine ⟨_, rfl, _, backD, p1, .tup (T.h_BACK _) (.cons (.str _) .nil), p2, back_sh, _, rfl, ?_⟩
        rw [p4]
        refine iteF ?_
        have six := six_fold (xs := ds.take i) (z := ([], ps)) (fun _ h => by cases h) hl
        rw [hf] at six
        obtain ⟨b2, rfl, hb2⟩ := tr_cm (DdV.same sm _ _ tx)
        refine ⟨_, rfl, _, rfl, c, b2, cur, cm, rfl, hc, six.2, hb2, od, fun t H2 s2 nt ht => ?_⟩
        exact fin _ t (hs, cm.mv cur) hvs H2 rfl (sm.trans s2) (s2 _ _ hL) es (SqT.of ht) (AllR.imp (penR.same s2) hh) (AllR.imp (penR.same s2) hy)
    · obtain ⟨c, z, hvs, y, rfl, sm, hL, hf, hc, hh, hy⟩ := h
      rw [lv, List.take_length] at hy
      exact q H' ys sm hy

--SPLIT
/-! ### the pen behind all deeds -/
def sp_end_of (K : PySem.W.Frag) (aH aB : Addr) : Sp := fun vs H Q _ => ∃ (a b : Addr) (vds : List V) (ds : List Dd) (ps : List Int), vs = [.ref a, .ref b] ∧ H a = some (.lst vds) ∧ AllR (DdV aH aB H) ds vds ∧ ds.length ≤ 900 ∧ (∀ d ∈ ds, d.ok) ∧ (∃ k, depD ds 0 = some k) ∧ SqT K H b (ps.map V.int) ∧ ps.length = 6 ∧
  ∀ (H' : Hp) (c : Addr), Same H H' → SqT K H' c ((penEnd ds ps).map V.int) → Q (.ref c) H'
theorem ok_end_of (T : Top w K mg) : FnOk P w K mg base CX0 8 T.a_end_of T.d_end_of ["deeds", "pen"] (sp_end_of K T.a_HOLD T.a_BACK) := by
  refine T.F_end_of.ok sc_end_of (fun vs H Q E h => ?_) (fun cdv A outer sh H vs Q E hr h => ?_)
  · obtain ⟨a, b, vds, ds, ps, rfl, _⟩ := h
    rfl
  · obtain ⟨a, b, vds, ds, ps, rfl, ha, hds, hlen, hok, hdep, hb, hl, q⟩ := h
    refine ⟨_, (pss_cons (ps_set (i := 2) sc_end_of.nd rfl (Or.inl rfl) (pv 1))
      (pss_cons (ps_for3 (i := 3) (j := 2) (pgen3_call (ok_pens_behind T) (hr.mono (by decide)) (by rfl) T.g_pens_behind T.F_pens_behind.kp (b_pens_behind T) (pa_cons (pv 0) (pa_cons (pv 1) pa_nil))) (hr.mono (by decide)) sc_end_of.nd rfl rfl rfl rfl (fun _ => rfl) rfl rfl rfl PassesOwn.never)
      (pss_one (ps_ret (pv 2))))), ?_⟩
    refine ⟨_, rfl, _, rfl, _, rfl, a, b, vds, ds, ps, rfl, ha, hds, hlen, hok, hdep, hb, hl, fun H' ys sm hy => ?_⟩
    by_cases e : ds = []
    · subst e
      have hy : ys = [] := hy
      subst hy
      exact ⟨_, rfl, q H' b sm (sqT_same hb sm)⟩
    · have el := pensB_last ds ps
      rw [if_neg e] at el
      obtain ⟨ini, ei⟩ := List.getLast?_eq_some_iff.mp el
      rw [ei] at hy
      obtain ⟨us, v, rfl, _, c, rfl, hc⟩ := AllR.split hy
      have last : ∀ σ : L2.St, lastS 3 2 σ (us ++ [.ref c]) = lastS 3 2 σ [.ref c] := fun σ => by
        unfold lastS
        rw [List.getLast?_concat]
        rfl
      dsimp only
      rw [last]
      exact ⟨_, rfl, q H' c sm hc⟩
/-! ### the number of commands -/
def sp_length_of (aH aB : Addr) : Sp := fun vs H Q _ => ∃ (a : Addr) (vds : List V) (ds : List Dd), vs = [.ref a] ∧ H a = some (.lst vds) ∧ AllR (DdV aH aB H) ds vds ∧ ds.length ≤ 900 ∧ (∀ d ∈ ds, d.ok) ∧ ∀ H', Same H H' → Q (.int (ds.filter Dd.isC).length) H'
theorem ok_length_of (T : Top w K mg) : FnOk P w K mg base CX0 4 T.a_length_of T.d_length_of ["deeds"] (sp_length_of T.a_HOLD T.a_BACK) := by
  refine T.F_length_of.ok sc_length_of (fun vs H Q E h => ?_) (fun cdv A outer sh H vs Q E hr h => ?_)
  · obtain ⟨a, vds, ds, rfl, _⟩ := h
    rfl
  · obtain ⟨a, vds, ds, rfl, ha, hds, hlen, hok, q⟩ := h
    refine ⟨_, (pss_one (ps_ret (pe_callB (k_len K) (by rfl) T.z_len bt_len (pa_cons (pe_lc (own := [("deed", 1)]) (g := (gName 1)) rfl sc_length_of.nd (k_piL K (pv 0)) (blkOk_by (N := N_length_of) (sc := defScope s_length_of) (by decide +kernel)) (fun _ _ _ _ _ => (pg_name (i := 1) sc_length_of.nd rfl (Or.inl rfl))) (fun _ _ _ _ _ => (pts_one (pt_val (pe_call (okg_is_command T) hr (by rfl) T.g_is_command T.F_is_command.kp (b_is_command T) .nil pass0 (pa_cons (pv 1) pa_nil))))) (fun _ _ _ _ _ => (pv 1))) pa_nil)))), ?_⟩
    have lv := hds.len
    refine ⟨_, rfl, a, rfl, ⟨_, SqL.of ha⟩, fun D nD => ?_⟩
    refine lc_list (xs := vds) (fun i H' => Same H H' ∧ ∃ zs : List V, H' D = some (.lst zs) ∧ zs.length = ((ds.take i).filter Dd.isC).length) ⟨same_upd nD, [], upd_same, rfl⟩ (fun i H' _ h => SqL.of (h.1 _ _ ha)) (fun i x H' hx h => ?_) (fun H' h => ?_)
    · obtain ⟨sm, zs, hD, lz⟩ := h
      obtain ⟨d, hd, tx⟩ := AllR.get hds hx
      have hi := (List.getElem?_eq_some_iff.mp hx).1
      have et : ((ds.take (i + 1)).filter Dd.isC).length = ((ds.take i).filter Dd.isC).length + if d.isC then 1 else 0 := by
        rw [List.take_add_one, hd, List.filter_append, List.length_append]
        congr 1
        cases e : d.isC <;> simp [e]
      refine ⟨rfl, _, rfl, d, x, rfl, DdV.same sm _ _ tx, hok d (List.mem_of_getElem? hd), fun H2 s2 => ⟨_, rfl, ?_⟩⟩
      have hD2 := s2 _ _ hD
      have sm2 := sm.trans s2
      cases e : d.isC with
      | false =>
        rw [e] at et
        exact ⟨sm2, zs, hD2, lz.trans et.symm⟩
      | true =>
        rw [e] at et
        refine ⟨_, rfl, zs, hD2, small1000 ?_, same_new sm2 nD, zs ++ [x], upd_same, ?_⟩
        · have : ((ds.take i).filter Dd.isC).length ≤ (ds.take i).length := List.length_filter_le _ _
          rw [List.length_take] at this
          omega
        · rw [List.length_append, lz, et]
          rfl
    · obtain ⟨sm, zs, hD, lz⟩ := h
      rw [lv, List.take_length] at lz
      refine ⟨D, zs, rfl, .inl (SqL.of hD), ?_⟩
      rw [lz]
      exact q _ sm

--SPLIT
/-! ### ran -/
/-- what a run may end with, and what is asked of its deeds -/
structure GoodE (s : ESt) : Prop where
  len : s.deeds.length ≤ 900
  ok : ∀ d ∈ s.deeds, d.ok
  dep : ∃ k, depD s.deeds 0 = some k
def cmdsN (s : ESt) : Nat := (s.deeds.filter Dd.isC).length
def RanR (K : PySem.W.Frag) (CE NP : Addr) (dp : PyData) (H : Hp) (Q : VK) (E : XK) : Out → Prop
  | .go s => GoodE s ∧ (penOk dp = false → ∀ H', Same H H' → E (.ref NP) none H') ∧ ∀ ps, dp = penD ps → ps.length = 6 → ∀ (t c : Addr) (H' : Hp), Same H H' → H t = none → H' t = some (.tup [.int s.way, .ref c, natV (cmdsN s)]) → SqT K H' c ((penEnd s.deeds ps).map V.int) → Q (.ref t) H'
  | .no i => ErrR CE (fun _ => False) H E i
  | .bad => False
def sp_ran (K : PySem.W.Frag) (CB CE NPr NP : Addr) : Sp := fun vs H Q E => ∃ (S S1 S2 : Addr → Prop) (a : Addr) (bs : List (List Stm)) (dp db de : PyData) (vp vb ve : V) (n : Nat), vs = [.ref a, vp, vb, ve] ∧ BookV S CB H a bs ∧ OkBook bs ∧ Tr S1 H dp vp ∧ Tr S2 H db vb ∧ PV K H de ve ∧ n ≤ 20000 ∧
  (inD dp (0, (bs.length : Int) - 1) = false → ∀ H', Same H H' → E (.ref NPr) none H') ∧
  (∀ p : Nat, p < bs.length → dp = .int p → (∀ i, bitsFault db = some i → ErrR CE (fun _ => False) H E i) ∧ ∀ bits, db = .list (bits.map bitD) → RanR K CE NP de H Q E (runO bs bits n p))
theorem ok_ran (T : Top w K mg) : FnOk P w K mg base (L2.CX P w) 13 T.a_ran T.d_ran ["book", "procedure", "bits", "pen"] (sp_ran K T.C_Book T.C_NoRun T.a_NoProcedure T.a_NoPen) := by
  refine T.F_ran.okX sc_ran (fun vs H Q E h => ?_) (fun cdv A outer sh H vs Q E hr h => ?_)
  · obtain ⟨S, S1, S2, a, bs, dp, db, de, vp, vb, ve, n, rfl, _⟩ := h
    rfl
  · obtain ⟨S, S1, S2, a, bs, dp, db, de, vp, vb, ve, n, rfl, hb, ho, hp, hv, he, hn, qn, q⟩ := h
    refine ⟨_, (pss_cons (ps_set (i := 4) sc_ran.nd rfl (Or.inl rfl) (pe_callS (ok_executed T) hr (by rfl) T.g_executed T.F_executed.kp (b_executed T) (fun σ => passAt (takes_of rfl rfl rfl rfl) σ) (pa_cons (pv 0) (pa_cons (pv 1) (pa_cons (pv 2) pa_nil)))))
      (pss_cons (ps_if (pt_not (pt_val (pe_call (ok_is_pen T) (hr.mono (by decide)) (by rfl) T.g_is_pen T.F_is_pen.kp (b_is_pen T) .nil pass0 (pa_cons (pv 3) pa_nil)))) (pss_one (ps_own0 rfl (takes_of rfl rfl rfl rfl) T.X_NP (by rfl))) pss_nil)
      (pss_one (ps_ret (pe_tup (pa_cons (pe_fld (pv 4) rfl) (pa_cons (pe_call (ok_end_of T) (hr.mono (by decide)) (by rfl) T.g_end_of T.F_end_of.kp (b_end_of T) .nil pass0 (pa_cons (pe_fld (pv 4) rfl) (pa_cons (pv 3) pa_nil))) (pa_cons (pe_call (ok_length_of T) (hr.mono (by decide)) (by rfl) T.g_length_of T.F_length_of.kp (b_length_of T) .nil pass0 (pa_cons (pe_fld (pv 4) rfl) pa_nil)) pa_nil)))))))), ?_⟩
    refine ⟨_, rfl, _, rfl, _, rfl, S, S1, S2, a, bs, dp, db, vp, vb, n, rfl, hb, ho, hp, hv, hn, fun h H' s => qn h H' s, fun p hpl e => ⟨fun i hi => (q p hpl e).1 i hi, fun bits eb => ?_⟩⟩
    have q := (q p hpl e).2 bits eb
    cases eo : runO bs bits n p with
    | bad => rw [eo] at q; exact q.elim
    | no i => rw [eo] at q; exact q
    | go s =>
      rw [eo] at q
      intro A H1 s1 _ _ X
      obtain ⟨gd, qp, q⟩ := q
      have he2 := he.same (s1.trans (Same.refl _))
      refine ⟨_, rfl, de, ve, rfl, he2, fun H2 s2 => ⟨_, rfl, ?_⟩⟩
      have s02 := s1.trans s2
      cases hpo : penOk de with
      | false => exact iteT (qp hpo H2 s02)
      | true =>
        refine iteF ?_
        obtain ⟨ps, rfl, hl⟩ := ints_pen hpo
        obtain ⟨c0, rfl, hc⟩ := pv_ints (he.same s02)
        have X2 := X.same s2
        obtain ⟨dx2, hi2⟩ := X2.ins
        obtain ⟨dsv, hd2, rd2⟩ := X2.dds
        refine ⟨_, rfl, A.e, T.C_Execution, dx2, _, _, rfl, hi2, T.cl_Execution, T.na_Execution_way, exf_way, ?_⟩
        refine ⟨_, rfl, A.e, T.C_Execution, dx2, _, _, rfl, hi2, T.cl_Execution, T.na_Execution_deeds, exf_deeds, _, rfl, A.aD, c0, dsv, s.deeds, ps, rfl, hd2, rd2, gd.len, gd.ok, gd.dep, hc, hl, fun H3 c s3 hc3 => ?_⟩
        have X3 := X2.same s3
        obtain ⟨dx3, hi3⟩ := X3.ins
        obtain ⟨dsv3, hd3, rd3⟩ := X3.dds
        refine ⟨_, rfl, A.e, T.C_Execution, dx3, _, _, rfl, hi3, T.cl_Execution, T.na_Execution_deeds, exf_deeds, A.aD, dsv3, s.deeds, rfl, hd3, rd3, gd.len, gd.ok, fun H4 s4 => ⟨small100 (n := 3) (by decide), fun t nt => ?_⟩⟩
        have s5 := same_upd (o := .tup [V.int s.way, .ref c, natV (cmdsN s)]) nt
        exact q ps rfl hl t c _ (((s02.trans s3).trans s4).trans s5) (((s02.trans s3).trans s4).free nt) upd_same (sqT_same hc3 (s4.trans s5))

--SPLIT
def sp__law_pool (K : PySem.W.Frag) : Sp := fun vs H Q _ => ∃ (a : Addr) (ns : List Int), vs = [.ref a] ∧ SqL K H a (ns.map V.int) ∧ ns.length ≤ 63 ∧
  ∀ (H' : Hp) (p : Addr) (L : Nat), Same H H' → H p = none → Pool H' p L → 2 ≤ L → L ≤ 64 → Q (.ref p) H'
theorem cut63 {ns : List Int} (h : ns.length ≤ 63) : cutV (ns.map V.int) none (some 63) = ns.map V.int := by
  unfold cutV
  rw [HT.sIx_none, show HT.sIx (ns.map V.int).length (ns.map V.int).length (some 63) = min 63 (ns.map V.int).length from HT.sIx_nat _ _ 63, List.drop_zero, Nat.sub_zero]
  refine List.take_of_length_le ?_
  rw [List.length_map]
  omega
theorem ok__law_pool (T : Top w K mg) : FnOk P w K mg base CX0 1 T.a__law_pool T.d__law_pool ["_law_script"] (sp__law_pool K) := by
  refine T.F__law_pool.ok sc__law_pool (fun vs H Q E h => ?_) (fun cdv A outer s H vs Q E hr h => ?_)
  · obtain ⟨a, ns, rfl, _⟩ := h
    rfl
  · obtain ⟨a, ns, rfl, hS, hlen, q⟩ := h
    refine ⟨_, (pss_one (ps_ret (pe_op op_cat (pe_lst (pa_cons pe_int pa_nil)) (pe_orT (pe_lc (own := [("_law_cell", 1)]) (g := (gName 1)) (tt := tYes) rfl sc__law_pool.nd (k_piL K (pe_slice (k_slL K) (pv 0) po_none (po_some pe_int))) (blkOk_by (N := N__law_pool) (sc := defScope s__law_pool) (by decide +kernel)) (fun _ _ _ _ _ => (pg_name (i := 1) sc__law_pool.nd rfl (Or.inl rfl))) (fun _ _ _ _ _ => pts_nil) (fun _ _ _ _ _ => (pe_callTy call_intI (by rfl) T.z_int bt_int (pa_cons (pv 1) pa_nil)))) (pe_one (pe_lst (pa_cons pe_int pa_nil))))))), ?_⟩
    refine ⟨small100 (n := 1) (by decide), fun l0 n0 => ?_⟩
    have s1 : Same H (upd H l0 (.lst [.int 0])) := same_upd n0
    refine ⟨_, rfl, 63, rfl, a, _, rfl, s1.seq hS, fun c nc => ?_⟩
    rw [cut63 hlen]
    have s2 := s1.trans (same_upd (o := .lst (ns.map V.int)) nc)
    have hl0 : (upd (upd H l0 (.lst [.int 0])) c (.lst (ns.map V.int))) l0 = some (.lst [.int 0]) := by
      rw [upd_ne (ne_of_none upd_same nc), upd_same]
    refine ⟨c, rfl, ⟨_, SqL.of upd_same⟩, fun D nD => ?_⟩
    refine lc_list (xs := ns.map V.int) (fun i H' => Same (upd (upd H l0 (.lst [.int 0])) c (.lst (ns.map V.int))) H' ∧ H' D = some (.lst ((ns.take i).map V.int))) ⟨same_upd nD, ?_⟩ (fun i H' _ h => h.1.seq (SqL.of upd_same)) (fun i x H' hx h => ?_) (fun H' h => ?_)
    · rw [upd_same]
      rfl
    · obtain ⟨hs, hD⟩ := h
      rw [List.getElem?_map] at hx
      cases e : ns[i]? with
      | none =>
        rw [e] at hx
        cases hx
      | some n =>
        rw [e] at hx
        cases hx
        refine ⟨rfl, _, rfl, n, rfl, _, hD, ?_, same_new hs nD, ?_⟩
        · rw [List.length_map, List.length_take]
          exact small1000 (by omega)
        · rw [upd_same, List.take_add_one, e, List.map_append]
          rfl
    · obtain ⟨hs, hD⟩ := h
      rw [len_map, List.take_length] at hD
      have hl0' := hs _ _ hl0
      have hD0 : H D = none := s2.free nD
      refine ⟨!(ns.map V.int).isEmpty, .inl ⟨_, SqL.of hD, rfl⟩, ?_⟩
      have hne : D ≠ l0 := (ne_of_none hl0 nD).symm
      cases ns with
      | nil =>
        refine ⟨small100 (n := 1) (by decide), fun l2 n2 => ?_⟩
        have hl2 : (upd H' l2 (.lst [.int 0])) l0 = some (.lst [.int 0]) := by
          rw [upd_ne (ne_of_none hl0' n2)]
          exact hl0'
        refine ⟨l0, l2, _, _, rfl, rfl, hl2, upd_same, small100 (n := 2) (by decide), fun p np => ?_⟩
        have s3 := same_new (s2.trans hs) (o := .lst [.int 0]) ((s2.trans hs).free n2)
        exact q _ p 2 (same_new s3 (s3.free np)) (s3.free np) ⟨[0, 0], upd_same, rfl⟩ (by decide) (by decide)
      | cons n r =>
        refine ⟨l0, D, _, _, rfl, rfl, hl0', hD, ?_, fun p np => ?_⟩
        · show 1 + ((n :: r).map V.int).length ≤ sizeLine
          rw [len_map]
          exact small100 (by omega)
        · have s3 := s2.trans hs
          refine q _ p (1 + (n :: r).length) (same_new s3 (s3.free np)) (s3.free np) ⟨0 :: n :: r, upd_same, ?_⟩ ?_ ?_
          · rw [List.length_cons]
            omega
          · rw [List.length_cons]
            omega
          · omega
def sp__law_draw (K : PySem.W.Frag) : Sp := fun vs H Q _ => ∃ (p : Addr) (L : Nat) (m : Int), vs = [.ref p, .int m] ∧ Pool H p L ∧ 2 ≤ L ∧ L ≤ 64 ∧ 0 < m ∧ m ≤ 1000 ∧
  ∀ (r : Int) (H' : Hp), 0 ≤ r → r < m → Kp p H H' → Pool H' p L → Q (.int r) H'
theorem ok__law_draw (T : Top w K mg) : FnOk P w K mg base CX0 1 T.a__law_draw T.d__law_draw ["_law_pool_here", "_law_many"] (sp__law_draw K) := by
  refine T.F__law_draw.ok sc__law_draw (fun vs H Q E h => ?_) (fun cdv A outer s H vs Q E hr h => ?_)
  · obtain ⟨p, L, m, rfl, _⟩ := h
    rfl
  · obtain ⟨p, L, m, rfl, ⟨ns, hp, hL⟩, h2, h64, hm0, hm1, q⟩ := h
    refine ⟨_, (pss_cons (ps_augS (pv 0) pe_int (k_getL K) pe_int ip_add set_list)
      (pss_cons (ps_set (i := 2) sc__law_draw.nd rfl (Or.inl rfl) (pe_op op_add pe_int (pe_op op_mod (pe_callTy call_intI (by rfl) T.z_int bt_int (pa_cons (pe_ix (k_ixL K) (pv 0) pe_int (fun _ _ => rfl)) pa_nil)) (pe_op op_sub (pe_callB (k_len K) (by rfl) T.z_len bt_len (pa_cons (pv 0) pa_nil)) pe_int))))
      (pss_cons (ps_set (i := 3) sc__law_draw.nd rfl (Or.inl rfl) (pe_callTy call_intI (by rfl) T.z_int bt_int (pa_cons (pe_ix (k_ixL K) (pv 0) (pv 2) (fun _ _ => rfl)) pa_nil)))
      (pss_cons (ps_if (pt_cmpR op_ge (pv 3) (pe_op op_pow pe_int pe_int) (nomark _)) (pss_cons (ps_asg (pe_op op_fdiv (pv 3) (pv 1)) (pg_sub (pv 0) (pv 2) set_list))
        (pss_one (ps_ret (pe_op op_mod (pv 3) (pv 1))))) pss_nil)
      (pss_cons (ps_set (i := 4) sc__law_draw.nd rfl (Or.inl rfl) (pe_op op_mod (pe_op op_mul (pe_callTy call_intI (by rfl) T.z_int bt_int (pa_cons (pe_op op_add (pe_op op_add (pv 3) (pe_op op_mul pe_int (pe_ix (k_ixL K) (pv 0) pe_int (fun _ _ => rfl)))) pe_int) pa_nil)) pe_int) pe_int))
      (pss_cons (ps_set (i := 4) sc__law_draw.nd rfl (Or.inl rfl) (pe_op op_mod (pe_op op_mul (pv 4) (pe_op op_add (pe_op op_fdiv (pv 4) pe_int) pe_int)) pe_int))
      (pss_cons (ps_set (i := 4) sc__law_draw.nd rfl (Or.inl rfl) (pe_op op_mod (pe_op op_mul (pv 4) (pe_op op_add (pe_op op_fdiv (pv 4) pe_int) pe_int)) pe_int))
      (pss_one (ps_ret (pe_op op_mod (pe_op op_fdiv (pv 4) pe_int) (pv 1))))))))))), ?_⟩
    obtain ⟨c0, g0, _⟩ := at_map (ns := ns) (i := 0) (by decide) (by omega)
    refine ⟨_, rfl, p, ns.map V.int, 0, .int c0, rfl, rfl, by decide, SqL.of hp, get_map g0, c0, 1, rfl, rfl, p, _, 0, 0, rfl, rfl, hp, ixN_in (by decide) (by rw [len_map]; omega), ?_⟩
    rw [set_map]
    generalize e1 : ns.set 0 (c0 + 1) = ms
    have hms : ms.length = L := by
      rw [← e1, List.length_set]
      exact hL
    clear e1
    have k1 : Kp p H (upd H p (.lst (ms.map V.int))) := Kp.upd
    have hp1 : (upd H p (.lst (ms.map V.int))) p = some (.lst (ms.map V.int)) := upd_same
    generalize upd H p (.lst (ms.map V.int)) = H1 at *
    obtain ⟨c1, _, g1⟩ := at_map (ns := ms) (i := 0) (by decide) (by omega)
    have hL1 : (0 : Int) < ((ms.map V.int).length : Int) - 1 := by
      rw [len_map]
      omega
    refine ⟨_, rfl, p, _, 0, _, rfl, rfl, SqL.of hp1, g1, c1, rfl, _, rfl, p, _, rfl, .inl (SqL.of hp1), _, _, rfl, rfl, _, _, rfl, rfl, hL1, _, _, rfl, rfl, ?_⟩
    have b0 : 0 ≤ 1 + c1 % (((ms.map V.int).length : Int) - 1) := by
      have := Int.emod_nonneg c1 (Int.ne_of_gt hL1)
      omega
    have b1 : 1 + c1 % (((ms.map V.int).length : Int) - 1) < ms.length := by
      have := Int.emod_lt_of_pos c1 hL1
      rw [len_map] at this ⊢
      omega
    dsimp only
    generalize 1 + c1 % (((ms.map V.int).length : Int) - 1) = j at *
    obtain ⟨c2, _, g2⟩ := at_map (ns := ms) (i := j) b0 b1
    refine ⟨_, rfl, _, rfl, p, _, j, _, rfl, rfl, SqL.of hp1, g2, c2, rfl, ?_⟩
    refine ⟨_, rfl, 10, 18, rfl, rfl, ⟨by decide, by decide, by decide⟩, _, _, rfl, rfl, _, rfl, ite2 (fun _ => ?_) (fun _ => ?_)⟩
    · refine ⟨_, rfl, _, rfl, _, _, rfl, rfl, ⟨hm0, by omega⟩, _, rfl, _, rfl, p, _, j, j.toNat, rfl, rfl, hp1, ixN_in b0 (by rw [len_map]; exact b1), ?_⟩
      rw [set_map]
      refine ⟨_, rfl, _, rfl, _, _, rfl, rfl, hm0, ?_⟩
      exact q _ _ (Int.emod_nonneg _ (Int.ne_of_gt hm0)) (Int.emod_lt_of_pos _ hm0) (k1.trans Kp.upd) ⟨_, upd_same, by rw [List.length_set]; exact hms⟩
    · obtain ⟨c3, _, g3⟩ := at_map (ns := ms) (i := 0) (by decide) (by omega)
      refine ⟨_, rfl, _, rfl, p, _, 0, _, rfl, rfl, SqL.of hp1, g3, _, c3, rfl, rfl, .inl ⟨by decide, by decide⟩, _, _, rfl, rfl, _, _, rfl, rfl, _, rfl, _, _, rfl, rfl, .inr ⟨by decide, by decide⟩, _, _, rfl, rfl, (show (0 : Int) < 2147483647 by decide), ?_⟩
      dsimp only
      generalize ez : (c2 + 7919 * c3 + 1) * 48271 % 2147483647 = z
      have z0 : 0 ≤ z := by rw [← ez]; exact Int.emod_nonneg _ (by decide)
      have z1 : z < 2147483647 := by rw [← ez]; exact Int.emod_lt_of_pos _ (by decide)
      refine ⟨_, rfl, _, rfl, _, _, rfl, rfl, ⟨by decide, by decide⟩, _, _, rfl, rfl, _, _, rfl, rfl, .inl ⟨by omega, by omega⟩, _, _, rfl, rfl, (show (0 : Int) < 2147483647 by decide), ?_⟩
      dsimp only
      generalize ey : z * (z / 1009 + 69621) % 2147483647 = y
      have y0 : 0 ≤ y := by rw [← ey]; exact Int.emod_nonneg _ (by decide)
      have y1 : y < 2147483647 := by rw [← ey]; exact Int.emod_lt_of_pos _ (by decide)
      refine ⟨_, rfl, _, rfl, _, _, rfl, rfl, ⟨by decide, by decide⟩, _, _, rfl, rfl, _, _, rfl, rfl, .inl ⟨by omega, by omega⟩, _, _, rfl, rfl, (show (0 : Int) < 2147483399 by decide), ?_⟩
      refine ⟨_, rfl, _, _, rfl, rfl, ⟨by decide, by decide⟩, _, rfl, _, _, rfl, rfl, hm0, ?_⟩
      exact q _ _ (Int.emod_nonneg _ (Int.ne_of_gt hm0)) (Int.emod_lt_of_pos _ hm0) k1 ⟨_, hp1, hms⟩

def Bd (n : Int) : Prop := -(2 ^ 133) < n ∧ n < 2 ^ 133
def sp__law_number (K : PySem.W.Frag) : Sp := fun vs H Q _ => ∃ (p : Addr) (L : Nat), vs = [.ref p] ∧ Pool H p L ∧ 2 ≤ L ∧ L ≤ 64 ∧
  ∀ (r : Int) (H' : Hp), Bd r → Kp p H H' → Pool H' p L → Q (.int r) H'
theorem ok__law_number (T : Top w K mg) : FnOk P w K mg base CX0 2 T.a__law_number T.d__law_number ["_law_pool_here"] (sp__law_number K) := by
  refine T.F__law_number.ok sc__law_number (fun vs H Q E h => ?_) (fun cdv A outer s H vs Q E hr h => ?_)
  · obtain ⟨p, L, rfl, _⟩ := h
    rfl
  · obtain ⟨p, L, rfl, pl, h2, h64, q⟩ := h
    refine ⟨_, (pss_cons (ps_set (i := 1) sc__law_number.nd rfl (Or.inl rfl) (pe_call (ok__law_draw T) hr (by rfl) T.g__law_draw T.F__law_draw.kp (b__law_draw T) .nil pass0 (pa_cons (pv 0) (pa_cons pe_int pa_nil))))
      (pss_cons (ps_if (pt_cmpR op_eq (pv 1) pe_int (nomark _)) (pss_one (ps_ret (pe_op op_sub (pe_call (ok__law_draw T) hr (by rfl) T.g__law_draw T.F__law_draw.kp (b__law_draw T) .nil pass0 (pa_cons (pv 0) (pa_cons pe_int pa_nil))) pe_int))) pss_nil)
      (pss_cons (ps_augS (pv 0) pe_int (k_getL K) pe_int ip_add set_list)
      (pss_cons (ps_set (i := 2) sc__law_number.nd rfl (Or.inl rfl) (pe_op op_add pe_int (pe_op op_mod (pe_callTy call_intI (by rfl) T.z_int bt_int (pa_cons (pe_ix (k_ixL K) (pv 0) pe_int (fun _ _ => rfl)) pa_nil)) (pe_op op_sub (pe_callB (k_len K) (by rfl) T.z_len bt_len (pa_cons (pv 0) pa_nil)) pe_int))))
      (pss_cons (ps_set (i := 3) sc__law_number.nd rfl (Or.inl rfl) (pe_op op_mod (pe_callTy call_intI (by rfl) T.z_int bt_int (pa_cons (pe_op op_add (pe_op op_mul (pe_ix (k_ixL K) (pv 0) (pv 2) (fun _ _ => rfl)) pe_int) (pe_op op_mul (pe_ix (k_ixL K) (pv 0) pe_int (fun _ _ => rfl)) pe_int)) pa_nil)) (pe_op op_pow pe_int pe_int)))
      (pss_cons (ps_if (pt_cmpR op_eq (pe_call (ok__law_draw T) hr (by rfl) T.g__law_draw T.F__law_draw.kp (b__law_draw T) .nil pass0 (pa_cons (pv 0) (pa_cons pe_int pa_nil))) pe_int (nomark _)) (pss_one (ps_ret (pv 3))) pss_nil)
      (pss_one (ps_ret (pe_op op_sub pe_int (pv 3)))))))))), ?_⟩
    refine ⟨_, rfl, p, L, 3, rfl, pl, h2, h64, by decide, by decide, fun r1 H1 _ _ k1 pl1 => ?_⟩
    refine ⟨_, rfl, rfl, _, rfl, ite2 (fun _ => ?_) (fun _ => ?_)⟩
    · refine ⟨_, rfl, p, L, 9, rfl, pl1, h2, h64, by decide, by decide, fun r2 H2 a1 a2 k2 pl2 => ?_⟩
      refine ⟨_, _, rfl, rfl, ?_⟩
      exact q _ _ ⟨by omega, by omega⟩ (k1.trans k2) pl2
    · obtain ⟨ns, hp, hL⟩ := pl1
      obtain ⟨c0, g0, _⟩ := at_map (ns := ns) (i := 0) (by decide) (by omega)
      refine ⟨_, rfl, p, ns.map V.int, 0, .int c0, rfl, rfl, by decide, SqL.of hp, get_map g0, c0, 1, rfl, rfl, p, _, 0, 0, rfl, rfl, hp, ixN_in (by decide) (by rw [len_map]; omega), ?_⟩
      rw [set_map]
      generalize e1 : ns.set 0 (c0 + 1) = ms
      have hms : ms.length = L := by
        rw [← e1, List.length_set]
        exact hL
      clear e1
      have k2 : Kp p H (upd H1 p (.lst (ms.map V.int))) := k1.trans Kp.upd
      have hp1 : (upd H1 p (.lst (ms.map V.int))) p = some (.lst (ms.map V.int)) := upd_same
      generalize upd H1 p (.lst (ms.map V.int)) = H2 at *
      obtain ⟨c1, _, g1⟩ := at_map (ns := ms) (i := 0) (by decide) (by omega)
      have hL1 : (0 : Int) < ((ms.map V.int).length : Int) - 1 := by
        rw [len_map]
        omega
      refine ⟨_, rfl, p, _, 0, _, rfl, rfl, SqL.of hp1, g1, c1, rfl, _, rfl, p, _, rfl, .inl (SqL.of hp1), _, _, rfl, rfl, _, _, rfl, rfl, hL1, _, _, rfl, rfl, ?_⟩
      have b0 : 0 ≤ 1 + c1 % (((ms.map V.int).length : Int) - 1) := by
        have := Int.emod_nonneg c1 (Int.ne_of_gt hL1)
        omega
      have b1 : 1 + c1 % (((ms.map V.int).length : Int) - 1) < ms.length := by
        have := Int.emod_lt_of_pos c1 hL1
        rw [len_map] at this ⊢
        omega
      dsimp only
      generalize 1 + c1 % (((ms.map V.int).length : Int) - 1) = j at *
      obtain ⟨c2, _, g2⟩ := at_map (ns := ms) (i := j) b0 b1
      obtain ⟨c3, _, g3⟩ := at_map (ns := ms) (i := 0) (by decide) (by omega)
      refine ⟨_, rfl, _, rfl, p, _, j, _, rfl, rfl, SqL.of hp1, g2, _, _, rfl, rfl, .inr ⟨by decide, by decide⟩, _, rfl, p, _, 0, _, rfl, rfl, SqL.of hp1, g3, _, _, rfl, rfl, .inr ⟨by decide, by decide⟩, _, _, rfl, rfl, _, rfl, 10, 40, rfl, rfl, ⟨by decide, by decide, by decide⟩, _, _, rfl, rfl, (show (0 : Int) < 10 ^ 40 by decide), ?_⟩
      dsimp only
      generalize ez : (c2 * 48271 + c3 * 69621) % 10 ^ (40 : Int).toNat = z
      have z0 : 0 ≤ z := by rw [← ez]; exact Int.emod_nonneg _ (by decide)
      have z1 : z < 10 ^ 40 := by rw [← ez]; exact Int.emod_lt_of_pos _ (by decide)
      refine ⟨_, rfl, p, L, 2, rfl, ⟨_, hp1, hms⟩, h2, h64, by decide, by decide, fun r3 H3 _ _ k3 pl3 => ?_⟩
      refine ⟨rfl, _, rfl, ite2 (fun _ => ?_) (fun _ => ?_)⟩
      · exact ⟨_, rfl, q _ _ ⟨by omega, by omega⟩ (k2.trans k3) pl3⟩
      · exact ⟨_, rfl, _, _, rfl, rfl, q _ _ ⟨by omega, by omega⟩ (k2.trans k3) pl3⟩

theorem getD_get {ns : List Int} {t : Nat} (h : t < ns.length) : ns[t]? = some (ns.getD t 0) := by
  rw [List.getD_eq_getElem?_getD, List.getElem?_eq_getElem h]
  rfl
theorem at_nat {ns : List Int} {i : Int} {t : Nat} (e : i = (t : Int)) (h : t < ns.length) : atI (ns.map V.int) i = some (.int (ns.getD t 0)) := by
  rw [e]
  exact atI_nat (get_map (getD_get h))
theorem range_snoc (f : Nat → Int) (n : Nat) : ((List.range n).map f).map V.int ++ [.int (f n)] = ((List.range (n + 1)).map f).map V.int := by
  rw [List.range_succ, List.map_append, List.map_append]
  rfl
theorem list49 {ns : List Int} (h : ns.length = 49) : ns = (List.range 49).map fun t => ns.getD t 0 := by
  refine List.ext_getElem? fun t => ?_
  rw [List.getElem?_map]
  by_cases ht : t < 49
  · rw [List.getElem?_range ht, getD_get (by omega)]
    rfl
  · rw [List.getElem?_eq_none (by omega), List.getElem?_eq_none (by rw [List.length_range]; omega)]
    rfl

def S (n : Nat) (f : Nat → Int) : Int := ((List.range n).map f).sum
theorem S_zero (f : Nat → Int) : S 0 f = 0 := rfl
theorem sum_snoc (l : List Int) (z : Int) : (l ++ [z]).sum = l.sum + z := by
  rw [List.sum_append, List.sum_cons, List.sum_nil, Int.add_zero]
theorem S_succ (n : Nat) (f : Nat → Int) : S (n + 1) f = S n f + f n := by
  unfold S
  rw [List.range_succ, List.map_append, List.map_cons, List.map_nil, sum_snoc]
theorem S_congr {n : Nat} {f g : Nat → Int} (h : ∀ k, k < n → f k = g k) : S n f = S n g := by
  unfold S
  rw [List.map_congr_left fun k hk => h k (List.mem_range.mp hk)]
theorem S_left (n : Nat) (c : Int) (f : Nat → Int) : c * S n f = S n fun k => c * f k := by
  induction n with
  | zero => rw [S_zero, S_zero, Int.mul_zero]
  | succ n ih => rw [S_succ, S_succ, Int.mul_add, ih]
theorem S_right (n : Nat) (c : Int) (f : Nat → Int) : S n f * c = S n fun k => f k * c := by
  induction n with
  | zero => rw [S_zero, S_zero, Int.zero_mul]
  | succ n ih => rw [S_succ, S_succ, Int.add_mul, ih]
theorem S_add (n : Nat) (f g : Nat → Int) : (S n fun k => f k + g k) = S n f + S n g := by
  induction n with
  | zero => rfl
  | succ n ih =>
    rw [S_succ, S_succ, S_succ, ih]
    omega
theorem S_const0 (n : Nat) : (S n fun _ => 0) = 0 := by
  induction n with
  | zero => rfl
  | succ n ih => rw [S_succ, ih, Int.add_zero]
theorem S_comm (n m : Nat) (f : Nat → Nat → Int) : (S n fun i => S m fun j => f i j) = S m fun j => S n fun i => f i j := by
  induction n with
  | zero => rw [S_zero]; exact (S_const0 m).symm
  | succ n ih =>
    rw [S_succ, ih, ← S_add]
    refine S_congr fun j _ => ?_
    rw [S_succ]
theorem S_single {n i : Nat} {f : Nat → Int} (hi : i < n) (h : ∀ k, k < n → k ≠ i → f k = 0) : S n f = f i := by
  induction n with
  | zero => omega
  | succ n ih =>
    rw [S_succ]
    by_cases e : i = n
    · subst e
      rw [show S i f = 0 from (S_congr fun k hk => h k (by omega) (by omega)).trans (S_const0 i), Int.zero_add]
    · rw [ih (by omega) (fun k hk hne => h k (by omega) hne), h n (by omega) (by omega), Int.add_zero]
theorem S_bound {n b : Nat} {f : Nat → Int} (h : ∀ k, k < n → (f k).natAbs < 2 ^ b) : (S n f).natAbs ≤ n * 2 ^ b := by
  induction n with
  | zero => rw [S_zero]; simp
  | succ n ih =>
    rw [S_succ, Nat.succ_mul]
    have h1 := ih fun k hk => h k (by omega)
    have h2 := h n (by omega)
    have h3 := Int.natAbs_add_le (S n f) (f n)
    omega
/-- all numbers below 2 ^ b -/
def Bw (b : Nat) (ns : List Int) : Prop := ∀ t, (ns.getD t 0).natAbs < 2 ^ b
theorem Bw.mono {a b : Nat} {ns : List Int} (h : Bw a ns) (hab : a ≤ b) : Bw b ns := fun t => Nat.lt_of_lt_of_le (h t) (Nat.pow_le_pow_right (by decide) hab)
theorem getD_mem {ns : List Int} {P : Int → Prop} (h : ∀ n ∈ ns, P n) (h0 : P 0) (t : Nat) : P (ns.getD t 0) := by
  rw [List.getD_eq_getElem?_getD]
  cases e : ns[t]? with
  | none => exact h0
  | some n => exact h n (List.mem_of_getElem? e)
theorem Bd.bw {ns : List Int} (h : ∀ n ∈ ns, Bd n) : Bw 133 ns := fun t => by
  have := getD_mem h ⟨by decide, by decide⟩ t
  have h1 : -(2 ^ 133) < ns.getD t 0 := this.1
  have h2 : ns.getD t 0 < 2 ^ 133 := this.2
  generalize ns.getD t 0 = z at *
  omega
theorem bw_mul {a b : Nat} {x y : Int} (hx : x.natAbs < 2 ^ a) (hy : y.natAbs < 2 ^ b) (ha : 0 < a) (hb : 0 < b) (h : a + b ≤ 1000000) : CMulW x y := wide_mul hx hy ha hb h
def row (ns : List Int) (i : Nat) : List Int := (List.range 7).map fun t => ns.getD (7 * i + t) 0
def col (ns : List Int) (j : Nat) : List Int := (List.range 7).map fun t => ns.getD (7 * t + j) 0
theorem row_len (ns : List Int) (i : Nat) : (row ns i).length = 7 := by unfold row; rw [List.length_map, List.length_range]
theorem col_len (ns : List Int) (i : Nat) : (col ns i).length = 7 := by unfold col; rw [List.length_map, List.length_range]
theorem getD7 {g : Nat → Int} {t : Nat} : ((List.range 7).map g).getD t 0 = if t < 7 then g t else 0 := by
  rw [List.getD_eq_getElem?_getD, List.getElem?_map]
  by_cases ht : t < 7
  · rw [List.getElem?_range ht, if_pos ht]
    rfl
  · rw [List.getElem?_eq_none (by rw [List.length_range]; omega), if_neg ht]
    rfl
theorem row_bw {b : Nat} {ns : List Int} (h : Bw b ns) (i : Nat) : Bw b (row ns i) := fun t => by
  unfold row
  rw [getD7]
  split
  · exact h _
  · exact Nat.two_pow_pos b
theorem col_bw {b : Nat} {ns : List Int} (h : Bw b ns) (i : Nat) : Bw b (col ns i) := fun t => by
  unfold col
  rw [getD7]
  split
  · exact h _
  · exact Nat.two_pow_pos b
theorem cut_row {ns : List Int} {i : Nat} (hl : ns.length = 49) (hi : i < 7) : cutV (ns.map V.int) (some (7 * (i : Int))) (some (7 * (i : Int) + 7)) = (row ns i).map V.int := by
  have e1 : (7 * (i : Int)) = ((7 * i : Nat) : Int) := by omega
  have e2 : (7 * (i : Int) + 7) = ((7 * i + 7 : Nat) : Int) := by omega
  rw [e1, show (((7 * i : Nat) : Int) + 7) = ((7 * i + 7 : Nat) : Int) by omega]
  have h : cutV (ns.map V.int) (some ((7 * i : Nat) : Int)) (some ((7 * i + 7 : Nat) : Int)) = ((ns.map V.int).drop (7 * i)).take (7 * i + 7 - 7 * i) := by
    unfold cutV
    rw [HT.sIx_nat, HT.sIx_nat, Nat.min_eq_left (by rw [len_map]; omega), Nat.min_eq_left (by rw [len_map]; omega)]
  rw [h, ← List.map_drop, ← List.map_take]
  refine congrArg (List.map V.int) (List.ext_getElem? fun t => ?_)
  unfold row
  rw [List.getElem?_take, List.getElem?_drop, List.getElem?_map]
  by_cases ht : t < 7
  · rw [if_pos (by omega), List.getElem?_range ht, getD_get (by omega)]
    rfl
  · rw [if_neg (by omega), List.getElem?_eq_none (by rw [List.length_range]; omega)]
    rfl

/-! ### a list of lists -/
def Rows (H : Hp) (D : Addr) (ps : List Addr) (F : Nat → List Int) : Prop := H D = some (.lst (ps.map V.ref)) ∧ ∀ (j : Nat) (a : Addr), ps[j]? = some a → a ≠ D ∧ H a = some (.lst ((F j).map V.int))
theorem Rows.push {H' J : Hp} {D q : Addr} {ps : List Addr} {F : Nat → List Int} (h : Rows H' D ps F) (sm : Same H' J) (nq : H' q = none) (hq : J q = some (.lst ((F ps.length).map V.int))) : Rows (upd J D (.lst (ps.map V.ref ++ [.ref q]))) D (ps ++ [q]) F := by
  have nqD : q ≠ D := (ne_of_none h.1 nq).symm
  refine ⟨by rw [upd_same, List.map_append]; rfl, fun j a e => ?_⟩
  rw [List.getElem?_append] at e
  split at e
  · obtain ⟨n, h2⟩ := h.2 j a e
    exact ⟨n, by rw [upd_ne n]; exact sm _ _ h2⟩
  · rename_i hj
    have hj2 := (List.getElem?_eq_some_iff.mp e).1
    have ej : j = ps.length := by
      rw [List.length_cons, List.length_nil] at hj2
      omega
    subst ej
    rw [Nat.sub_self] at e
    cases e
    exact ⟨nqD, by rw [upd_ne nqD]; exact hq⟩
theorem Rows.same {H' J : Hp} {D : Addr} {ps : List Addr} {F : Nat → List Int} (h : Rows H' D ps F) (sm : Same H' J) : Rows J D ps F := ⟨sm _ _ h.1, fun j a e => ⟨(h.2 j a e).1, sm _ _ (h.2 j a e).2⟩⟩
theorem Rows.nil {H : Hp} {D : Addr} {F : Nat → List Int} : Rows (upd H D (.lst [])) D [] F := ⟨upd_same, fun j a e => by simp at e⟩
theorem getRef {ps : List Addr} {i : Nat} (h : i < ps.length) : ∃ a, ps[i]? = some a ∧ (ps.map V.ref)[i]? = some (.ref a) := ⟨ps[i], List.getElem?_eq_getElem h, by rw [List.getElem?_map, List.getElem?_eq_getElem h]; rfl⟩


--SPLIT
def sp_vector (K : PySem.W.Frag) : Sp := fun vs H Q _ => ∃ (a : Addr) (ps : List Int), vs = [.ref a] ∧ SqT K H a (ps.map V.int) ∧ ps.length = 6 ∧
  ∀ (q : Addr) (H' : Hp), Same H H' → H q = none → H' q = some (.lst ((1 :: ps).map V.int)) → Q (.ref q) H'
theorem ok_vector (T : Top w K mg) : FnOk P w K mg base CX0 3 T.a_vector T.d_vector ["pen"] (sp_vector K) := by
  refine T.F_vector.ok sc_vector (fun vs H Q E h => ?_) (fun cdv A outer s H vs Q E hr h => ?_)
  · obtain ⟨a, ps, rfl, _⟩ := h
    rfl
  · obtain ⟨a, ps, rfl, ha, hl, q⟩ := h
    refine ⟨_, (pss_cons (ps_if (pt_not (pt_val (pe_call (ok_is_pen T) hr (by rfl) T.g_is_pen T.F_is_pen.kp (b_is_pen T) .nil pass0 (pa_cons (pv 0) pa_nil)))) (pss_one ps_never) pss_nil)
      (pss_one (ps_ret (pe_lst (pa_cons pe_int (k_star K (pv 0) pa_nil)))))), ?_⟩
    refine ⟨_, rfl, penD ps, .ref a, rfl, pv_of ha hl, fun H1 s1 => ⟨true, congrArg V.bl (penOk_ints hl), ?_⟩⟩
    refine ⟨_, rfl, a, _, rfl, .inl (sqT_same ha s1), ?_, fun p np => ?_⟩
    · simp only [List.length_cons, List.length_append, List.length_map, List.length_nil]
      exact small100 (by omega)
    · refine q p _ (same_new s1 (s1.free np)) (s1.free np) ?_
      rw [upd_same, List.append_nil]
      rfl

def Z6 : List Int := [0, 0, 0, 0, 0, 0]
def E6 (j : Nat) : List Int := (List.range 6).map fun i => if i = j then 1 else 0
def mcell (f : List Int → List Int) (i j : Nat) : Int := if j = 0 then (1 :: f Z6).getD i 0 else (1 :: f (E6 (j - 1))).getD i 0 - (1 :: f Z6).getD i 0
def matL (f : List Int → List Int) : List Int := (List.range 49).map fun t => mcell f (t / 7) (t % 7)
def colF (f : List Int → List Int) (j : Nat) : List Int := (List.range 7).map fun i => mcell f i j
theorem E6_len (j : Nat) : (E6 j).length = 6 := by unfold E6; rw [List.length_map, List.length_range]
theorem colF_len (f : List Int → List Int) (j : Nat) : (colF f j).length = 7 := by unfold colF; rw [List.length_map, List.length_range]
theorem list7 {ns : List Int} (h : ns.length = 7) : (List.range 7).map (fun t => ns.getD t 0) = ns := by
  match ns, h with
  | [a, b, c, d, e, f, g], _ => rfl
def sp_unit_pen (K : PySem.W.Frag) : Sp := fun vs H Q _ => ∃ (z : Int) (j : Nat), vs = [.int z] ∧ z = (j : Int) ∧
  ∀ (q : Addr) (H' : Hp), Same H H' → H q = none → H' q = some (.tup ((E6 j).map V.int)) → Q (.ref q) H'
theorem eqI_if (i j : Nat) (a b : Int) (ha : a = (i : Int)) (hb : b = (j : Int)) : (if decide (V.int a = V.int b) = true then (1 : Int) else 0) = if i = j then 1 else 0 := by
  subst ha hb
  by_cases e : i = j
  · subst e
    rw [decide_eq_true rfl, if_pos rfl, if_pos rfl]
  · rw [decide_eq_false (fun h => e (by have := V.int.inj h; omega)), if_neg Bool.false_ne_true, if_neg e]
theorem ok_unit_pen (T : Top w K mg) : FnOk P w K mg base CX0 1 T.a_unit_pen T.d_unit_pen ["at"] (sp_unit_pen K) := by
  refine T.F_unit_pen.ok sc_unit_pen (fun vs H Q E h => ?_) (fun cdv A outer s H vs Q E hr h => ?_)
  · obtain ⟨z, j, rfl, _⟩ := h
    rfl
  · obtain ⟨z, j, rfl, hz, q⟩ := h
    refine ⟨_, (pss_one (ps_ret (pe_callTy (k_tuple K) (by rfl) T.z_tuple bt_tuple (pa_cons (pe_lc (own := [("i", 1)]) (g := (gName 1)) (tt := tYes) rfl sc_unit_pen.nd (pi_range1 (by rfl) T.z_range (pa_cons pe_int pa_nil)) (blkOk_by (N := N_unit_pen) (sc := defScope s_unit_pen) (by decide +kernel)) (fun _ _ _ _ _ => (pg_name (i := 1) sc_unit_pen.nd rfl (Or.inl rfl))) (fun _ _ _ _ _ => pts_nil) (fun _ _ _ _ _ => (pe_callTy call_intB (by rfl) T.z_int bt_int (pa_cons (pe_cmpR op_eq (pv 1) (pv 0) (nomark _)) pa_nil)))) pa_nil)))), ?_⟩
    refine ⟨6, rfl, by decide, by decide, fun D nD => lc_range (n := 6) (fun i H' => Same H H' ∧ H' D = some (.lst (((List.range i).map fun i => if i = j then (1 : Int) else 0).map V.int))) ⟨same_upd nD, upd_same⟩ (fun i H' hi h => ?_) (fun H1 h => ?_)⟩
    · obtain ⟨sm, hD⟩ := h
      refine ⟨rfl, _, rfl, _, rfl, rfl, _, rfl, _, hD, ?_, same_new sm nD, ?_⟩
      · rw [List.length_map, List.length_map, List.length_range]
        exact small1000 (by omega)
      · rw [upd_same, eqI_if i j _ _ (by omega) hz]
        exact congrArg (fun z => some (HO.lst z)) (range_snoc (fun i => if i = j then (1 : Int) else 0) i)
    · obtain ⟨s1, hD⟩ := h
      exact ⟨D, _, rfl, SqL.of hD, fun t nt => q t _ (same_new s1 (s1.free nt)) (s1.free nt) upd_same⟩
theorem mv_len {c : Cm} {ps : List Int} (h : ps.length = 6) : (c.mv ps).length = 6 := by
  obtain ⟨x, y, u, v, p, q, rfl⟩ := list6' h
  cases c <;> rfl
/-! ### the matrix from the ends of the probes -/
def probeF (j : Nat) : List Int := if j = 0 then Z6 else E6 (j - 1)
def gcell (F : Nat → List Int) (i j : Nat) : Int := if j = 0 then (1 :: F 0).getD i 0 else (1 :: F j).getD i 0 - (1 :: F 0).getD i 0
def matG (F : Nat → List Int) : List Int := (List.range 49).map fun t => gcell F (t / 7) (t % 7)
def colG (F : Nat → List Int) (j : Nat) : List Int := (List.range 7).map fun i => gcell F i j
theorem colG_len (F : Nat → List Int) (j : Nat) : (colG F j).length = 7 := by unfold colG; rw [List.length_map, List.length_range]
theorem probeF_len (j : Nat) : (probeF j).length = 6 := by
  unfold probeF
  split
  · rfl
  · exact E6_len _
theorem matL_G (f : List Int → List Int) : matL f = matG fun j => f (probeF j) := by
  unfold matL matG
  refine List.map_congr_left fun t _ => ?_
  unfold mcell gcell probeF
  by_cases h : t % 7 = 0
  · rw [if_pos h, if_pos h]
    rfl
  · rw [if_neg h, if_neg h]
    dsimp only
    rw [if_neg h, if_pos rfl]
/-- a list of tuples -/
def TRows (H : Hp) (D : Addr) (ps : List Addr) (F : Nat → List Int) : Prop := H D = some (.lst (ps.map V.ref)) ∧ ∀ (j : Nat) (a : Addr), ps[j]? = some a → H a = some (.tup ((F j).map V.int))
theorem TRows.push {H' J : Hp} {D q : Addr} {ps : List Addr} {F : Nat → List Int} (h : TRows H' D ps F) (sm : Same H' J) (hq : J q = some (.tup ((F ps.length).map V.int))) : TRows (upd J D (.lst (ps.map V.ref ++ [.ref q]))) D (ps ++ [q]) F := by
  have hD := sm _ _ h.1
  have ne : ∀ {a : Addr} {xs : List V}, J a = some (.tup xs) → a ≠ D := fun h e => by
    rw [e, hD] at h
    cases h
  refine ⟨by rw [upd_same, List.map_append]; rfl, fun j a e => ?_⟩
  rw [List.getElem?_append] at e
  split at e
  · have h2 := sm _ _ (h.2 j a e)
    rw [upd_ne (ne h2)]
    exact h2
  · rename_i hj
    have hj2 := (List.getElem?_eq_some_iff.mp e).1
    have ej : j = ps.length := by
      rw [List.length_cons, List.length_nil] at hj2
      omega
    subst ej
    rw [Nat.sub_self] at e
    cases e
    rw [upd_ne (ne hq)]
    exact hq
theorem TRows.same {H' J : Hp} {D : Addr} {ps : List Addr} {F : Nat → List Int} (h : TRows H' D ps F) (sm : Same H' J) : TRows J D ps F := ⟨sm _ _ h.1, fun j a e => sm _ _ (h.2 j a e)⟩
theorem TRows.nil {H : Hp} {D : Addr} {F : Nat → List Int} : TRows (upd H D (.lst [])) D [] F := ⟨upd_same, fun j a e => by simp at e⟩
/-- one more in front, in a new list -/
theorem TRows.cons {H : Hp} {D q z : Addr} {ps : List Addr} {F G : Nat → List Int} (h : TRows H D ps F) (hz : H z = some (.tup ((G 0).map V.int))) (e : ∀ j, G (j + 1) = F j) (nq : H q = none) : TRows (upd H q (.lst ((z :: ps).map V.ref))) q (z :: ps) G := by
  refine ⟨upd_same, fun j a ea => ?_⟩
  cases j with
  | zero =>
    cases ea
    rw [upd_ne (ne_of_none hz nq)]
    exact hz
  | succ j =>
    have := h.2 j a ea
    rw [upd_ne (ne_of_none this nq), e]
    exact this
theorem Rows.cons {H : Hp} {D q z : Addr} {ps : List Addr} {F G : Nat → List Int} (h : Rows H D ps F) (hz : H z = some (.lst ((G 0).map V.int))) (e : ∀ j, G (j + 1) = F j) (nq : H q = none) : Rows (upd H q (.lst ((z :: ps).map V.ref))) q (z :: ps) G := by
  refine ⟨upd_same, fun j a ea => ?_⟩
  cases j with
  | zero =>
    cases ea
    have n := ne_of_none hz nq
    rw [upd_ne n]
    exact ⟨n, hz⟩
  | succ j =>
    have := (h.2 j a ea).2
    have n := ne_of_none this nq
    rw [upd_ne n, e]
    exact ⟨n, this⟩
def sp_probes : Sp := fun vs H Q _ => vs = [] ∧ ∀ (q : Addr) (ps : List Addr) (H' : Hp), Same H H' → H q = none → ps.length = 7 → TRows H' q ps probeF → Q (.ref q) H'
theorem ok_probes (T : Top w K mg) : FnOk P w K mg base CX0 2 T.a_probes T.d_probes [] sp_probes := by
  refine T.F_probes.ok sc_probes (fun vs H Q E h => ?_) (fun cdv A outer s H vs Q E hr h => ?_)
  · obtain ⟨rfl, _⟩ := h
    rfl
  · obtain ⟨rfl, q⟩ := h
    refine ⟨_, (pss_one (ps_ret (pe_lst (pa_cons (pe_tup (pa_cons pe_int (pa_cons pe_int (pa_cons pe_int (pa_cons pe_int (pa_cons pe_int (pa_cons pe_int pa_nil))))))) (k_star K (pe_lc (own := [("at", 0)]) (g := (gName 0)) (tt := tYes) rfl sc_probes.nd (pi_range1 (by rfl) T.z_range (pa_cons pe_int pa_nil)) (blkOk_by (N := N_probes) (sc := defScope s_probes) (by decide +kernel)) (fun _ _ _ _ _ => (pg_name (i := 0) sc_probes.nd rfl (Or.inl rfl))) (fun _ _ _ _ _ => pts_nil) (fun _ _ _ _ _ => (pe_call (ok_unit_pen T) hr (by rfl) T.g_unit_pen T.F_unit_pen.kp (b_unit_pen T) .nil pass0 (pa_cons (pv 0) pa_nil)))) pa_nil))))), ?_⟩
    refine ⟨small100 (n := 6) (by decide), fun z nz => ?_⟩
    have s1 := same_upd (o := .tup (Z6.map V.int)) nz
    have hz : (upd H z (.tup (Z6.map V.int))) z = some (.tup (Z6.map V.int)) := upd_same
    have ez : (HO.tup [V.int 0, .int 0, .int 0, .int 0, .int 0, .int 0]) = .tup (Z6.map V.int) := rfl
    rw [ez]
    generalize upd H z (.tup (Z6.map V.int)) = H1 at *
    refine ⟨6, rfl, by decide, by decide, fun D nD => lc_range (n := 6) (fun i J => Same H1 J ∧ ∃ ps : List Addr, ps.length = i ∧ TRows J D ps E6) ⟨same_upd nD, [], rfl, TRows.nil⟩ (fun i J hi h => ?_) (fun J h => ?_)⟩
    · obtain ⟨sm, ps, hl, hR⟩ := h
      refine ⟨rfl, _, rfl, _, i, rfl, by omega, fun e J2 t2 ne he => ?_⟩
      have hR2 := hR.same t2
      refine ⟨_, hR2.1, ?_, same_new (sm.trans t2) nD, ps ++ [e], by rw [List.length_append, hl]; rfl, hR.push t2 (by rw [hl]; exact he)⟩
      rw [List.length_map, hl]
      exact small1000 (by omega)
    · obtain ⟨sm, ps, hl, hR⟩ := h
      refine ⟨D, _, rfl, .inr (SqL.of hR.1), ?_, fun r nr => ?_⟩
      · rw [List.append_nil, List.length_cons, List.length_map, hl]
        exact small100 (by decide)
      · have s3 := s1.trans sm
        have hc := hR.cons (q := r) (z := z) (G := probeF) (sm _ _ hz) (fun j => by unfold probeF; rw [if_neg (by omega)]; rfl) nr
        rw [List.append_nil]
        exact q r (z :: ps) _ (same_new s3 (s3.free nr)) (s3.free nr) (by rw [List.length_cons, hl]) hc

/-- a list of pens -/
def TRowsQ (K : PySem.W.Frag) (H : Hp) (D : Addr) (ps : List Addr) (F : Nat → List Int) : Prop := H D = some (.lst (ps.map V.ref)) ∧ ∀ (j : Nat) (a : Addr), ps[j]? = some a → SqT K H a ((F j).map V.int)
theorem TRowsQ.same {K : PySem.W.Frag} {H H' : Hp} {D : Addr} {ps : List Addr} {F : Nat → List Int} (h : TRowsQ K H D ps F) (s : Same H H') : TRowsQ K H' D ps F := ⟨s _ _ h.1, fun j a e => sqT_same (h.2 j a e) s⟩
theorem TRowsQ.push {K : PySem.W.Frag} {J : Hp} {D q : Addr} {ps : List Addr} {F : Nat → List Int} (h : TRowsQ K J D ps F) (hq : SqT K J q ((F ps.length).map V.int)) : TRowsQ K (upd J D (.lst (ps.map V.ref ++ [.ref q]))) D (ps ++ [q]) F := by
  refine ⟨by rw [upd_same, List.map_append]; rfl, fun j a e => ?_⟩
  by_cases hj : j < ps.length
  · rw [List.getElem?_append_left hj] at e
    exact sqT_put (h.2 j a e) h.1
  · have := (List.getElem?_eq_some_iff.mp e).1
    rw [List.length_append, List.length_singleton] at this
    have ej : j = ps.length := by omega
    subst ej
    rw [List.getElem?_append_right (Nat.le_refl _), Nat.sub_self] at e
    cases e
    exact sqT_put hq h.1
def sp_matrix_from (K : PySem.W.Frag) : Sp := fun vs H Q _ => ∃ (D : Addr) (ps : List Addr) (F : Nat → List Int), vs = [.ref D] ∧ ps.length = 7 ∧ TRowsQ K H D ps F ∧ (∀ j, (F j).length = 6) ∧
  ∀ (q : Addr) (H' : Hp), Same H H' → H q = none → H' q = some (.lst ((matG F).map V.int)) → Q (.ref q) H'
theorem ok_matrix_from (T : Top w K mg) : FnOk P w K mg base CX0 4 T.a_matrix_from T.d_matrix_from ["ends"] (sp_matrix_from K) := by
  refine T.F_matrix_from.ok sc_matrix_from (fun vs H Q E h => ?_) (fun cdv A outer s H vs Q E hr h => ?_)
  · obtain ⟨D, ps, F, rfl, _⟩ := h
    rfl
  · obtain ⟨D, ps, F, rfl, hl, hR, hF, q⟩ := h
    refine ⟨_, (pss_cons (ps_asg (pe_lc (own := [("end", 4)]) (g := (gName 4)) (tt := tYes) rfl sc_matrix_from.nd (k_piL K (pv 0)) (blkOk_by (N := N_matrix_from) (sc := defScope s_matrix_from) (by decide +kernel)) (fun _ _ _ _ _ => (pg_name (i := 4) sc_matrix_from.nd rfl (Or.inl rfl))) (fun _ _ _ _ _ => pts_nil) (fun _ _ _ _ _ => (pe_call (ok_vector T) hr (by rfl) T.g_vector T.F_vector.kp (b_vector T) .nil pass0 (pa_cons (pv 4) pa_nil)))) (pg_starL K rfl (pg_name (i := 1) sc_matrix_from.nd rfl (Or.inr rfl)) (pg_name (i := 2) sc_matrix_from.nd rfl (Or.inl rfl))))
      (pss_cons (ps_set (i := 3) sc_matrix_from.nd rfl (Or.inr rfl) (pe_lst (pa_cons (pv 1) (k_star K (pe_lc (own := [("other", 7)]) (g := (gName 7)) (tt := tYes) rfl sc_matrix_from.nd (k_piL K (pv 2)) (blkOk_by (N := N_matrix_from) (sc := defScope s_matrix_from) (by decide +kernel)) (fun _ _ _ _ _ => (pg_name (i := 7) sc_matrix_from.nd rfl (Or.inl rfl))) (fun _ _ _ _ _ => pts_nil) (fun _ _ _ _ _ => (pe_lc (own := [("a", 8), ("b", 9)]) (g := (gTup K 2 (gCons (gName 8) (gCons (gName 9) gNil)))) (tt := tYes) rfl sc_matrix_from.nd (k_zip K (by rfl) T.z_zip (pa_cons (pv 7) (pa_cons (pv 1) pa_nil))) (blkOk_by (N := N_matrix_from) (sc := (relS ({ kind := .function, names := [(".0", .local), ("other", .local), ("zip", .globalImplicit), ("start", .free)], isGenerator := false, isCoroutine := false } : Scope) (defScope s_matrix_from))) (by decide +kernel)) (fun _ _ _ _ _ => (pg_tup rfl (pgs_cons (pg_name (i := 8) sc_matrix_from.nd rfl (Or.inl rfl)) (pgs_cons (pg_name (i := 9) sc_matrix_from.nd rfl (Or.inl rfl)) pgs_nil)))) (fun _ _ _ _ _ => pts_nil) (fun _ _ _ _ _ => (pe_op op_sub (pv 8) (pv 9)))))) pa_nil))))
      (pss_one (ps_ret (pe_lc2 (own := [("i", 5), ("column", 6)]) (vs1 := [6]) (g := (gName 5)) (g1 := (gName 6)) (tt := tYes) (tt1 := tYes) rfl sc_matrix_from.nd (pi_range1 (by rfl) T.z_range (pa_cons pe_int pa_nil)) (blkOk_by (N := N_matrix_from) (sc := defScope s_matrix_from) (by decide +kernel)) (by decide) (fun _ _ _ _ _ => (pg_name (i := 5) sc_matrix_from.nd rfl (Or.inl rfl))) (fun _ _ _ _ _ => pts_nil) (fun _ _ _ _ _ => (k_piL K (pv 3))) (fun _ _ _ _ _ => (pg_name (i := 6) sc_matrix_from.nd rfl (Or.inl rfl))) (fun _ _ _ _ _ => pts_nil) (fun _ _ _ _ _ => (pe_ix (k_ixL K) (pv 6) (pv 5) (fun _ _ => rfl)))))))), ?_⟩
    refine ⟨_, rfl, D, rfl, ⟨_, SqL.of hR.1⟩, fun D2 nD2 => ?_⟩
    refine lc_list (xs := ps.map V.ref) (fun j J => Same H J ∧ ∃ es : List Addr, es.length = j ∧ Rows J D2 es fun j => 1 :: F j) ⟨same_upd nD2, [], rfl, Rows.nil⟩ (fun j J _ h => SqL.of (h.1 _ _ hR.1)) (fun j x J hx h => ?_) (fun J h => ?_)
    · obtain ⟨sm, es, he, hE⟩ := h
      obtain ⟨a, ea, rfl⟩ : ∃ a, ps[j]? = some a ∧ x = .ref a := by
        rw [List.getElem?_map] at hx
        cases h : ps[j]? with
        | none => rw [h] at hx; cases hx
        | some a => rw [h] at hx; cases hx; exact ⟨a, rfl, rfl⟩
      have hj := (List.getElem?_eq_some_iff.mp ea).1
      refine ⟨rfl, _, rfl, a, F j, rfl, sqT_same (hR.2 j a ea) sm, hF j, fun m J2 t2 nm hm => ?_⟩
      have hE2 := hE.same t2
      refine ⟨_, hE2.1, ?_, same_new (sm.trans t2) nD2, es ++ [m], by rw [List.length_append, he]; rfl, hE.push t2 nm (by rw [he]; exact hm)⟩
      rw [List.length_map, he]
      exact small1000 (by omega)
    · obtain ⟨sm, es, he, hE⟩ := h
      rw [List.length_map, hl] at he
      have nD2 : H D2 = none := nD2
      obtain ⟨e0, er, rfl⟩ : ∃ a r, es = a :: r := by
        cases es with
        | nil => cases he
        | cons a r => exact ⟨a, r, rfl⟩
      have h0 := (hE.2 0 e0 rfl).2
      refine ⟨D2, .ref e0, er.map V.ref, rfl, SqL.of hE.1, fun o no => ?_⟩
      have w1 := same_upd (o := .lst (er.map V.ref)) no
      have ho : (upd J o (.lst (er.map V.ref))) o = some (.lst (er.map V.ref)) := upd_same
      have s1 := sm.trans w1
      have hE1 := hE.same w1
      have h0 := w1 _ _ h0
      generalize upd J o _ = J1 at *
      have her : er.length = 6 := by rw [List.length_cons] at he; omega
      refine ⟨_, rfl, _, rfl, o, rfl, ⟨_, SqL.of ho⟩, fun D3 nD3 => ?_⟩
      refine lc_list (xs := er.map V.ref) (fun j J => Same J1 J ∧ ∃ cs : List Addr, cs.length = j ∧ Rows J D3 cs fun j => colG F (j + 1)) ⟨same_upd nD3, [], rfl, Rows.nil⟩ (fun j J _ h => SqL.of (h.1 _ _ ho)) (fun j x J hx h => ?_) (fun J h => ?_)
      · obtain ⟨sm3, cs, hc, hC⟩ := h
        obtain ⟨a, ea, rfl⟩ : ∃ a, er[j]? = some a ∧ x = .ref a := by
          rw [List.getElem?_map] at hx
          cases h : er[j]? with
          | none => rw [h] at hx; cases hx
          | some a => rw [h] at hx; cases hx; exact ⟨a, rfl, rfl⟩
        have hj := (List.getElem?_eq_some_iff.mp ea).1
        have ha := sm3 _ _ (hE1.2 (j + 1) a ea).2
        have hb := sm3 _ _ h0
        have l1 := hF (j + 1)
        have l0 := hF 0
        refine ⟨rfl, _, rfl, _, rfl, a, e0, _, _, rfl, SqL.of ha, SqL.of hb, fun C nC => ?_⟩
        refine lc_it (walk_zip (n := 7) (xs := (1 :: F (j + 1)).map V.int) (ys := (1 :: F 0).map V.int) (by rw [len_map, len_map, List.length_cons, List.length_cons, l1, l0]; rfl)) (fun i L => Same J L ∧ L C = some (.lst (((List.range i).map fun i => gcell F i (j + 1)).map V.int))) ⟨same_upd nC, upd_same⟩ (fun i L _ h => ⟨SqL.of (h.1 _ _ ha), SqL.of (h.1 _ _ hb)⟩) (fun i x L L2 hi h y => ?_) (fun L h => ?_)
        · obtain ⟨sm, hC⟩ := h
          obtain ⟨t, x, y, rfl, nt, rfl, hx, hy⟩ := y
          have hx : ((1 :: F (j + 1)).map V.int)[i]? = some x := hx
          have hy : ((1 :: F 0).map V.int)[i]? = some y := hy
          rw [get_map (getD_get (ns := 1 :: F (j + 1)) (t := i) (by rw [List.length_cons, l1]; omega))] at hx
          rw [get_map (getD_get (ns := 1 :: F 0) (t := i) (by rw [List.length_cons, l0]; omega))] at hy
          cases hx
          cases hy
          have sm2 := sm.trans (same_upd (o := .tup [V.int ((1 :: F (j + 1)).getD i 0), V.int ((1 :: F 0).getD i 0)]) nt)
          have hC2 := same_upd (o := .tup [V.int ((1 :: F (j + 1)).getD i 0), V.int ((1 :: F 0).getD i 0)]) nt _ _ hC
          refine ⟨t, [V.int ((1 :: F (j + 1)).getD i 0), V.int ((1 :: F 0).getD i 0)], rfl, SqT.of upd_same, rfl, _, _, rfl, _, _, rfl, rfl, rfl, _, rfl, _, rfl, _, _, rfl, rfl, _, hC2, ?_, same_new sm2 nC, ?_⟩
          · rw [List.length_map, List.length_map, List.length_range]
            exact small1000 (by omega)
          · rw [upd_same]
            exact congrArg (fun z => some (HO.lst z)) (range_snoc (fun i => gcell F i (j + 1)) i)
        · obtain ⟨smL, hL⟩ := h
          have hC8 := hC.same smL
          refine ⟨_, hC8.1, ?_, same_new (sm3.trans smL) nD3, cs ++ [C], by rw [List.length_append, hc]; rfl, hC.push smL nC (by rw [hL, hc]; rfl)⟩
          rw [List.length_map, hc]
          exact small1000 (by omega)
      · obtain ⟨sm3, cs, hc, hC⟩ := h
        rw [List.length_map, her] at hc
        have ec : 1 :: F 0 = colG F 0 := (list7 (ns := 1 :: F 0) (by rw [List.length_cons, hF 0])).symm
        have h0 : J1 e0 = some (.lst ((1 :: F 0).map V.int)) := h0
        rw [ec] at h0
        refine ⟨D3, _, rfl, .inr (SqL.of hC.1), ?_, fun D nD => ?_⟩
        · rw [List.append_nil, List.length_cons, List.length_map, hc]
          exact small100 (by decide)
        · have hR := hC.cons (q := D) (z := e0) (G := colG F) (sm3 _ _ h0) (fun j => rfl) nD
          have sH := (s1.trans sm3).trans (same_upd (o := .lst ((e0 :: cs).map V.ref)) nD)
          have hl : (e0 :: cs).length = 7 := by rw [List.length_cons, hc]
          rw [List.append_nil]
          have eo : V.ref e0 :: cs.map V.ref = (e0 :: cs).map V.ref := rfl
          rw [eo]
          generalize e0 :: cs = ps at *
          generalize upd J D _ = H' at *
          let f : Nat → Int := fun t => gcell F (t / 7) (t % 7)
          refine ⟨7, rfl, by decide, by decide, fun B nB => ?_⟩
          refine ⟨fun i m J => m = 7 - i ∧ i ≤ 7 ∧ Same H' J ∧ J B = some (.lst (((List.range (7 * i)).map f).map V.int)), ⟨7, rfl, by decide, same_upd nB, upd_same⟩, fun i m J h => ?_⟩
          obtain ⟨rfl, hi, sm, hB⟩ := h
          by_cases h7 : i < 7
          · refine .inr ⟨h7, fun J => Same H' J ∧ J B = some (.lst (((List.range (7 * i + 7)).map f).map V.int)), fun J h => ⟨7 - (i + 1), by omega, rfl, h7, h.1, by rw [h.2, Nat.mul_succ]⟩, fun x J y => ?_⟩
            obtain ⟨rfl, rfl⟩ := y
            refine ⟨rfl, _, rfl, D, rfl, ⟨_, SqL.of (hR.same sm).1⟩, ?_⟩
            refine ⟨fun j k J => k = 7 - j ∧ j ≤ 7 ∧ Same H' J ∧ J B = some (.lst (((List.range (7 * i + j)).map f).map V.int)), ⟨7, rfl, by decide, sm, hB⟩, fun j k J h => ?_⟩
            obtain ⟨rfl, hj, sm, hB⟩ := h
            have hr := hR.same sm
            by_cases j7 : j < 7
            · obtain ⟨a, ea, ea2⟩ := getRef (ps := ps) (i := j) (by omega)
              refine .inr ⟨⟨_, _, SqL.of hr.1, ea2⟩, fun J => Same H' J ∧ J B = some (.lst (((List.range (7 * i + (j + 1))).map f).map V.int)), fun J h => ⟨7 - (j + 1), by omega, rfl, j7, h.1, h.2⟩, fun x J y => ?_⟩
              obtain ⟨rfl, hy⟩ := y
              have hy := hy _ (SqL.of hr.1)
              rw [ea2] at hy
              cases hy
              refine ⟨rfl, _, rfl, _, rfl, a, _, _, _, rfl, rfl, SqL.of (hr.2 _ _ ea).2, at_nat (t := i) (by omega) (by rw [colG_len]; exact h7), _, hB, ?_, same_new sm nB, ?_⟩
              · rw [List.length_map, List.length_map, List.length_range]
                exact small1000 (by omega)
              · have ef : f (7 * i + j) = (colG F j).getD i 0 := by
                  unfold colG
                  rw [getD7, if_pos h7]
                  show gcell F ((7 * i + j) / 7) ((7 * i + j) % 7) = _
                  rw [show (7 * i + j) / 7 = i by omega, show (7 * i + j) % 7 = j by omega]
                rw [upd_same, ← ef, range_snoc, Nat.add_assoc]
            · refine .inl ⟨⟨_, SqL.of hr.1, by rw [List.length_map]; omega⟩, sm, ?_⟩
              rw [hB, show j = 7 by omega]
          · have e : i = 7 := by omega
            subst e
            exact .inl ⟨Nat.le_refl _, q B J (sH.trans sm) (sH.free nB) hB⟩

--SPLIT
/-! ### run_matrix -/
def RmxR (CE : Addr) (H : Hp) (Q : VK) (E : XK) : Out → Prop
  | .go s => GoodE s ∧ ∀ (t c : Addr) (H' : Hp), Same H H' → H t = none → H c = none → H' t = some (.tup [.int s.way, .ref c, natV (cmdsN s)]) → H' c = some (.lst ((matL (penEnd s.deeds)).map V.int)) → Q (.ref t) H'
  | .no i => ErrR CE (fun _ => False) H E i
  | .bad => False
def sp_run_matrix (CB CE NPr : Addr) : Sp := fun vs H Q E => ∃ (S S1 S2 : Addr → Prop) (a : Addr) (bs : List (List Stm)) (dp db : PyData) (vp vb : V) (n : Nat), vs = [.ref a, vp, vb] ∧ BookV S CB H a bs ∧ OkBook bs ∧ Tr S1 H dp vp ∧ Tr S2 H db vb ∧ n ≤ 20000 ∧
  (inD dp (0, (bs.length : Int) - 1) = false → ∀ H', Same H H' → E (.ref NPr) none H') ∧
  (∀ p : Nat, p < bs.length → dp = .int p → (∀ i, bitsFault db = some i → ErrR CE (fun _ => False) H E i) ∧ ∀ bits, db = .list (bits.map bitD) → RmxR CE H Q E (runO bs bits n p))
theorem ok_run_matrix (T : Top w K mg) : FnOk P w K mg base (L2.CX P w) 13 T.a_run_matrix T.d_run_matrix ["book", "procedure", "bits"] (sp_run_matrix T.C_Book T.C_NoRun T.a_NoProcedure) := by
  refine T.F_run_matrix.okX sc_run_matrix (fun vs H Q E h => ?_) (fun cdv A outer sh H vs Q E hr h => ?_)
  · obtain ⟨S, S1, S2, a, bs, dp, db, vp, vb, n, rfl, _⟩ := h
    rfl
  · obtain ⟨S, S1, S2, a, bs, dp, db, vp, vb, n, rfl, hb, ho, hp, hv, hn, qn, q⟩ := h
    refine ⟨_, (pss_cons (ps_set (i := 3) sc_run_matrix.nd rfl (Or.inl rfl) (pe_callS (ok_executed T) hr (by rfl) T.g_executed T.F_executed.kp (b_executed T) (fun σ => passAt (takes_of rfl rfl rfl rfl) σ) (pa_cons (pv 0) (pa_cons (pv 1) (pa_cons (pv 2) pa_nil)))))
      (pss_cons (ps_set (i := 4) sc_run_matrix.nd rfl (Or.inr rfl) (pe_fld (pv 3) rfl))
      (pss_cons (ps_set (i := 5) sc_run_matrix.nd rfl (Or.inl rfl) (pe_call (ok_matrix_from T) (hr.mono (by decide)) (by rfl) T.g_matrix_from T.F_matrix_from.kp (b_matrix_from T) .nil pass0 (pa_cons (pe_lc (own := [("pen", 6)]) (g := (gName 6)) (tt := tYes) rfl sc_run_matrix.nd (k_piL K (pe_call0 (ok_probes T) (hr.mono (by decide)) (by rfl) T.g_probes T.F_probes.kp (b_probes T) .nil pass0)) (blkOk_by (N := N_run_matrix) (sc := defScope s_run_matrix) (by decide +kernel)) (fun _ _ _ _ _ => (pg_name (i := 6) sc_run_matrix.nd rfl (Or.inl rfl))) (fun _ _ _ _ _ => pts_nil) (fun _ _ _ _ _ => (pe_call (ok_end_of T) (hr.mono (by decide)) (by rfl) T.g_end_of T.F_end_of.kp (b_end_of T) .nil pass0 (pa_cons (pv 4) (pa_cons (pv 6) pa_nil))))) pa_nil)))
      (pss_one (ps_ret (pe_tup (pa_cons (pe_fld (pv 3) rfl) (pa_cons (pv 5) (pa_cons (pe_call (ok_length_of T) (hr.mono (by decide)) (by rfl) T.g_length_of T.F_length_of.kp (b_length_of T) .nil pass0 (pa_cons (pv 4) pa_nil)) pa_nil))))))))), ?_⟩
    refine ⟨_, rfl, _, rfl, _, rfl, S, S1, S2, a, bs, dp, db, vp, vb, n, rfl, hb, ho, hp, hv, hn, fun h H' s => qn h H' s, fun p hpl e => ⟨fun i hi => (q p hpl e).1 i hi, fun bits eb => ?_⟩⟩
    have q := (q p hpl e).2 bits eb
    cases eo : runO bs bits n p with
    | bad => rw [eo] at q; exact q.elim
    | no i => rw [eo] at q; exact q
    | go s =>
      rw [eo] at q
      intro A H1 s1 _ _ X
      obtain ⟨gd, q⟩ := q
      obtain ⟨dx, hi⟩ := X.ins
      refine ⟨_, rfl, A.e, T.C_Execution, dx, _, _, rfl, hi, T.cl_Execution, T.na_Execution_deeds, exf_deeds, ?_⟩
      refine ⟨rfl, fun qp pas H2 s2 nq hpl hR => ?_⟩
      refine ⟨qp, rfl, ⟨_, SqL.of hR.1⟩, fun D nD => ?_⟩
      refine lc_list (xs := pas.map V.ref) (fun j J => Same H2 J ∧ ∃ es : List Addr, es.length = j ∧ TRowsQ K J D es fun j => penEnd s.deeds (probeF j)) ⟨same_upd nD, [], rfl, upd_same, fun j a e => by simp at e⟩ (fun j J _ h => SqL.of (h.1 _ _ hR.1)) (fun j x J hx h => ?_) (fun J h => ?_)
      · obtain ⟨sm, es, he, hE⟩ := h
        obtain ⟨b, eb, rfl⟩ : ∃ b, pas[j]? = some b ∧ x = .ref b := by
          rw [List.getElem?_map] at hx
          cases h : pas[j]? with
          | none => rw [h] at hx; cases hx
          | some b => rw [h] at hx; cases hx; exact ⟨b, rfl, rfl⟩
        have hj := (List.getElem?_eq_some_iff.mp eb).1
        have XJ := X.same (s2.trans sm)
        obtain ⟨dsv, hd, rd⟩ := XJ.dds
        refine ⟨rfl, _, rfl, _, rfl, A.aD, b, dsv, s.deeds, probeF j, rfl, hd, rd, gd.len, gd.ok, gd.dep, SqT.of (sm _ _ (hR.2 j b eb)), probeF_len j, fun J2 c sJ hc => ?_⟩
        have hE2 := hE.same sJ
        refine ⟨_, hE2.1, ?_, same_new (sm.trans sJ) nD, es ++ [c], by rw [List.length_append, he]; rfl, hE2.push (by rw [he]; exact hc)⟩
        rw [List.length_map, he]
        exact small1000 (by omega)
      · obtain ⟨sm, es, he, hE⟩ := h
        rw [List.length_map, hpl] at he
        refine ⟨D, es, _, rfl, he, hE, fun j => (six_fold (xs := s.deeds) (z := ([], probeF j)) (fun _ h => by cases h) (probeF_len j)).2, fun m J2 sJ nm hm => ?_⟩
        have XJ := X.same ((s2.trans sm).trans sJ)
        obtain ⟨dxJ, hiJ⟩ := XJ.ins
        obtain ⟨dsv, hd, rd⟩ := XJ.dds
        refine ⟨_, rfl, A.e, T.C_Execution, dxJ, _, _, rfl, hiJ, T.cl_Execution, T.na_Execution_way, exf_way, _, rfl, _, rfl, A.aD, dsv, s.deeds, rfl, hd, rd, gd.len, gd.ok, fun H4 s4 => ⟨small100 (n := 3) (by decide), fun t nt => ?_⟩⟩
        have s5 := same_upd (o := .tup [V.int s.way, .ref m, natV (cmdsN s)]) nt
        have s03 := ((s1.trans s2).trans sm)
        have s05 := (s03.trans sJ).trans s4
        exact q t m _ (s05.trans s5) (s05.free nt) (s03.free nm) upd_same ((s4.trans s5) _ _ (by rw [matL_G]; exact hm))

--SPLIT
/-! ### data whose tuples and lists may be objects of the module -/
theorem sqL_same {K : PySem.W.Frag} {H H' : Hp} {a : Addr} {xs : List V} (h : SqL K H a xs) (s : Same H H') : SqL K H' a xs := by
  rcases h with (h | ⟨o, h⟩) | h
  · exact .inl (.inl (s _ _ h))
  · exact .inl (.inr ⟨o, s _ _ h⟩)
  · exact .inr h
section
variable (K : PySem.W.Frag) (H : Hp)
mutual
def TQ : PyData → V → Prop
  | .none, v => v = .non
  | .bool b, v => v = .bl b
  | .int z, v => v = .int z
  | .str s, v => v = .str s
  | .list ds, v => ∃ a xs, v = .ref a ∧ SqL K H a xs ∧ TQAll ds xs
  | .tuple ds, v => ∃ a xs, v = .ref a ∧ SqT K H a xs ∧ TQAll ds xs
  | .dict _, _ => False
def TQAll : List PyData → List V → Prop
  | [], xs => xs = []
  | d :: r, xs => ∃ x us, xs = x :: us ∧ TQ d x ∧ TQAll r us
end
end
section
variable {K : PySem.W.Frag} {H H' : Hp}
mutual
theorem TQ.same (s : Same H H') : ∀ {d : PyData} {v : V}, TQ K H d v → TQ K H' d v
  | .none, _, h => h
  | .bool _, _, h => h
  | .int _, _, h => h
  | .str _, _, h => h
  | .list ds, v, ⟨a, xs, e, l, t⟩ => ⟨a, xs, e, sqL_same l s, TQAll.same s t⟩
  | .tuple ds, v, ⟨a, xs, e, l, t⟩ => ⟨a, xs, e, sqT_same l s, TQAll.same s t⟩
  | .dict _, _, h => h.elim
theorem TQAll.same (s : Same H H') : ∀ {ds : List PyData} {vs : List V}, TQAll K H ds vs → TQAll K H' ds vs
  | [], _, h => h
  | d :: r, _, ⟨x, us, e, t, u⟩ => ⟨x, us, e, TQ.same s t, TQAll.same s u⟩
end
mutual
theorem TQ.dp : ∀ (d : PyData) (v : V), TQ K H d v → Dp K H v d
  | .none, _, h => by cases h; exact .non
  | .bool b, _, h => by cases h; exact .bl b
  | .int b, _, h => by cases h; exact .int b
  | .str b, _, h => by cases h; exact .str b
  | .list ds, v, ⟨a, xs, e, l, t⟩ => by subst e; exact .lst l (TQAll.dp ds xs t)
  | .tuple ds, v, ⟨a, xs, e, l, t⟩ => by subst e; exact .tup l (TQAll.dp ds xs t)
  | .dict _, _, h => h.elim
theorem TQAll.dp : ∀ (ds : List PyData) (xs : List V), TQAll K H ds xs → DpAll K H xs ds
  | [], _, h => by cases h; exact .nil
  | d :: r, _, ⟨x, us, e, t, u⟩ => by subst e; exact .cons (TQ.dp d x t) (TQAll.dp r us u)
end
theorem tq_ty : ∀ {d : PyData} {v : V}, TQ K H d v → TyX K H v (.type (clsN d))
  | .none, v, e => by cases e; exact .base .non
  | .bool b, v, e => by cases e; exact .base (.bl b)
  | .int b, v, e => by cases e; exact .base (.int b)
  | .str b, v, e => by cases e; exact .base (.str b)
  | .list _, v, ⟨a, xs, e, l, _⟩ => by cases e; exact sqL_ty l
  | .tuple _, v, ⟨a, xs, e, l, _⟩ => by cases e; exact sqT_ty l
  | .dict _, v, h => h.elim
theorem TQAll.len : ∀ {ds : List PyData} {xs : List V}, TQAll K H ds xs → xs.length = ds.length
  | [], _, h => by cases h; rfl
  | d :: r, _, ⟨x, us, e, _, q⟩ => by subst e; rw [List.length_cons, List.length_cons, TQAll.len q]
theorem TQAll.get : ∀ {ds : List PyData} {xs : List V} {i : Nat} {x : V}, TQAll K H ds xs → xs[i]? = some x → ∃ d, ds[i]? = some d ∧ TQ K H d x
  | [], _, i, x, h, e => by cases h; cases e
  | d :: r, _, 0, x, ⟨y, us, e, t, _⟩, g => by subst e; cases g; exact ⟨d, rfl, t⟩
  | d :: r, _, i + 1, x, ⟨y, us, e, t, q⟩, g => by subst e; exact TQAll.get (ds := r) q g
mutual
theorem Tr.tq {S : Addr → Prop} : ∀ {d : PyData} {v : V}, PyData.canLay0 d = true → Tr S H d v → TQ K H d v
  | .none, _, _, h => h
  | .bool _, _, _, h => h
  | .int _, _, _, h => h
  | .str _, _, _, h => h
  | .list ds, v, c, ⟨a, xs, e, _, l, t⟩ => ⟨a, xs, e, SqL.of l, TrAll.tq (by simpa [PyData.canLay0] using c) t⟩
  | .tuple ds, v, c, ⟨a, xs, e, l, t⟩ => ⟨a, xs, e, SqT.of l, TrAll.tq (by simpa [PyData.canLay0] using c) t⟩
  | .dict _, _, c, h => by simp [PyData.canLay0] at c
theorem TrAll.tq {S : Addr → Prop} : ∀ {ds : List PyData} {vs : List V}, PyData.canLayAll0 ds = true → TrAll S H ds vs → TQAll K H ds vs
  | [], _, _, h => h
  | d :: r, _, c, ⟨x, us, e, t, u⟩ => ⟨x, us, e, Tr.tq (by simp only [PyData.canLayAll0, Bool.and_eq_true] at c; exact c.1) t, TrAll.tq (by simp only [PyData.canLayAll0, Bool.and_eq_true] at c; exact c.2) u⟩
end
theorem TQAll.ofInts : ∀ (ns : List Int), TQAll K H (ns.map PyData.int) (ns.map V.int)
  | [] => rfl
  | n :: r => ⟨_, _, rfl, rfl, TQAll.ofInts r⟩
theorem tq_pen {a : Addr} {ps : List Int} (h : SqT K H a (ps.map V.int)) : TQ K H (penD ps) (.ref a) := ⟨a, _, rfl, h, TQAll.ofInts ps⟩
theorem tq_lst {a : Addr} {ps : List Int} (h : SqL K H a (ps.map V.int)) : TQ K H (.list (ps.map .int)) (.ref a) := ⟨a, _, rfl, h, TQAll.ofInts ps⟩
end
section
variable (K : PySem.W.Frag) {X : Cx}
theorem ki_lt (d : PyData) : PySem.W.kitAny K (.type (clsN d)) [.type "list", .type "tuple"] = some (isLs d || isTp d) := by
  unfold PySem.W.kitAny
  rw [ki_list K d]
  cases h : isLs d
  · unfold PySem.W.kitAny
    rw [ki_tuple K d]
    cases h2 : isTp d
    · rfl
    · rfl
  · rfl
end
/-- a list's or a tuple's items -/
def itemsD : PyData → List PyData
  | .list ds => ds
  | .tuple ds => ds
  | _ => []
theorem seq_of {K : PySem.W.Frag} {H : Hp} {d : PyData} {v : V} (t : TQ K H d v) (h : (isLs d || isTp d) = true) : ∃ a xs, v = .ref a ∧ (SqL K H a xs ∨ SqT K H a xs) ∧ TQAll K H (itemsD d) xs := by
  cases d with
  | list ds =>
    obtain ⟨a, xs, e, l, q⟩ := t
    exact ⟨a, xs, e, .inl l, q⟩
  | tuple ds =>
    obtain ⟨a, xs, e, l, q⟩ := t
    exact ⟨a, xs, e, .inr l, q⟩
  | _ => cases h
theorem fit_items {d : PyData} {n : Nat} (h : Fit d (n + 1)) (g : (isLs d || isTp d) = true) : (itemsD d).length ≤ 100 ∧ FitAll (itemsD d) n := by
  cases d with
  | list ds => exact h
  | tuple ds => exact h
  | _ => cases g
theorem same_items {d e : PyData} (h : isLs d = isLs e) (h2 : isTp d = isTp e) (g : (isLs d || isTp d) = true) : sameD d e = sameAll (itemsD d) (itemsD e) := by
  cases d <;> cases e <;> simp_all [isLs, isTp, sameD, itemsD]
theorem same_kinds {d e : PyData} (h : isLs d ≠ isLs e ∨ isTp d ≠ isTp e) (g : (isLs d || isTp d) = true) : sameD d e = false := by
  cases d <;> cases e <;> simp_all [isLs, isTp, sameD]
theorem same_leafL {d e : PyData} (g : (isLs d || isTp d) = false) (h : (isLs e || isTp e) = true) : sameD d e = false := by
  cases d <;> cases e <;> simp_all [isLs, isTp, sameD]
theorem same_leafB {d e : PyData} (g : (isLs d || isTp d) = false) (h : (isLs e || isTp e) = false) (b : isBl d ≠ isBl e) : sameD d e = false := by
  cases d <;> cases e <;> simp_all [isLs, isTp, isBl, sameD]
theorem same_leaf {d e : PyData} (g : (isLs d || isTp d) = false) (h : (isLs e || isTp e) = false) (b : isBl d = isBl e) : sameD d e = (decide (isNum d = isNum e) && PyData.eqv d e) := by
  cases d <;> cases e <;> simp_all [isLs, isTp, isBl, isNum, sameD, PyData.eqv]
def sp__law_same (K : PySem.W.Frag) (n : Nat) : Sp := fun vs H Q _ => ∃ (d e : PyData) (v u : V), vs = [v, u] ∧ TQ K H d v ∧ TQ K H e u ∧ Fit d n ∧ Fit e n ∧ n ≤ 60 ∧ ∀ H', Same H H' → Q (.bl (sameD d e)) H'
theorem ok_same_step (T : Top w K mg) (n : Nat) (G__law_same : FnOk P w K mg base CX0 (n + 1) T.a__law_same T.d__law_same ["_law_one", "_law_other"] (sp__law_same K n)) :
    FnOk P w K mg base CX0 (n + 2) T.a__law_same T.d__law_same ["_law_one", "_law_other"] (sp__law_same K (n + 1)) := by
  refine T.F__law_same.ok sc__law_same (fun vs H Q E h => ?_) (fun cdv A outer s H vs Q E hr h => ?_)
  · obtain ⟨d, e, v, u, rfl, _⟩ := h
    rfl
  · obtain ⟨d, e, v, u, rfl, hv, hu, fd, fe, hn, q⟩ := h
    refine ⟨_, (pss_cons (ps_if (pt_val (pe_callB (k_isiT K) (by rfl) T.z_isinstance bt_isinstance (pa_cons (pv 0) (pa_cons (pe_tup (pa_cons (pe_bltn (v := .ty "list") (by rfl) T.z_list bt_list rfl) (pa_cons (pe_bltn (v := .ty "tuple") (by rfl) T.z_tuple bt_tuple rfl) pa_nil))) pa_nil)))) (pss_cons (ps_if (PW.pt (pw_or (pt_cmpR op_ne (pe_callB (k_isi K) (by rfl) T.z_isinstance bt_isinstance (pa_cons (pv 0) (pa_cons (pe_bltn (v := .ty "list") (by rfl) T.z_list bt_list rfl) pa_nil))) (pe_callB (k_isi K) (by rfl) T.z_isinstance bt_isinstance (pa_cons (pv 1) (pa_cons (pe_bltn (v := .ty "list") (by rfl) T.z_list bt_list rfl) pa_nil))) (nomark _)) (pw_or1 (pt_cmpR op_ne (pe_callB (k_isi K) (by rfl) T.z_isinstance bt_isinstance (pa_cons (pv 0) (pa_cons (pe_bltn (v := .ty "tuple") (by rfl) T.z_tuple bt_tuple rfl) pa_nil))) (pe_callB (k_isi K) (by rfl) T.z_isinstance bt_isinstance (pa_cons (pv 1) (pa_cons (pe_bltn (v := .ty "tuple") (by rfl) T.z_tuple bt_tuple rfl) pa_nil))) (nomark _))))) (pss_one (ps_ret pe_bl)) pss_nil)
        (pss_one (ps_ret (pe_and (pe_cmpR op_eq (pe_callB (k_len K) (by rfl) T.z_len bt_len (pa_cons (pv 0) pa_nil)) (pe_callB (k_len K) (by rfl) T.z_len bt_len (pa_cons (pv 1) pa_nil)) (nomark _)) (pe_one (pe_callB (k_all K) (by rfl) T.z_all bt_all (pa_cons (pe_lc (own := [("_law_k", 2)]) (g := (gName 2)) (tt := tYes) rfl sc__law_same.nd (pi_range1 (by rfl) T.z_range (pa_cons (pe_callB (k_len K) (by rfl) T.z_len bt_len (pa_cons (pv 0) pa_nil)) pa_nil)) (blkOk_by (N := N__law_same) (sc := defScope s__law_same) (by decide +kernel)) (fun _ _ _ _ _ => (pg_name (i := 2) sc__law_same.nd rfl (Or.inl rfl))) (fun _ _ _ _ _ => pts_nil) (fun _ _ _ _ _ => (pe_call G__law_same (hr.mono (by omega)) (by rfl) T.g__law_same T.F__law_same.kp (b__law_same T) .nil pass0 (pa_cons (pe_ix (k_ixQ K) (pv 0) (pv 2) (fun _ _ => rfl)) (pa_cons (pe_ix (k_ixQ K) (pv 1) (pv 2) (fun _ _ => rfl)) pa_nil))))) pa_nil))))))) pss_nil)
      (pss_cons (ps_if (PW.pt (pw_or (pt_val (pe_callB (k_isiT K) (by rfl) T.z_isinstance bt_isinstance (pa_cons (pv 1) (pa_cons (pe_tup (pa_cons (pe_bltn (v := .ty "list") (by rfl) T.z_list bt_list rfl) (pa_cons (pe_bltn (v := .ty "tuple") (by rfl) T.z_tuple bt_tuple rfl) pa_nil))) pa_nil)))) (pw_or1 (pt_cmpR op_ne (pe_callB (k_isi K) (by rfl) T.z_isinstance bt_isinstance (pa_cons (pv 0) (pa_cons (pe_bltn (v := .ty "bool") (by rfl) T.z_bool bt_bool rfl) pa_nil))) (pe_callB (k_isi K) (by rfl) T.z_isinstance bt_isinstance (pa_cons (pv 1) (pa_cons (pe_bltn (v := .ty "bool") (by rfl) T.z_bool bt_bool rfl) pa_nil))) (nomark _))))) (pss_one (ps_ret pe_bl)) pss_nil)
      (pss_one (ps_ret (pe_and (pe_cmpR op_eq (pe_callB (k_isi K) (by rfl) T.z_isinstance bt_isinstance (pa_cons (pv 0) (pa_cons (pe_bltn (v := .ty "int") (by rfl) T.z_int bt_int rfl) pa_nil))) (pe_callB (k_isi K) (by rfl) T.z_isinstance bt_isinstance (pa_cons (pv 1) (pa_cons (pe_bltn (v := .ty "int") (by rfl) T.z_int bt_int rfl) pa_nil))) (nomark _)) (pe_one (pe_cmpR (op_eqD (hu64 hr)) (pv 0) (pv 1) (nomark _)))))))), ?_⟩
    refine ⟨_, rfl, small100 (n := 2) (by decide), fun t nt => ?_⟩
    have s1 := same_upd (o := .tup [V.ty "list", V.ty "tuple"]) nt
    have ht : (upd H t (.tup [V.ty "list", V.ty "tuple"])) t = some (.tup [V.ty "list", V.ty "tuple"]) := upd_same
    have hv := hv.same s1
    have hu := hu.same s1
    generalize upd H t _ = H1 at *
    refine ⟨_, t, _, _, _, _, rfl, ht, .cons (.ty _) (.cons (.ty _) .nil), tq_ty hv, ki_lt K d, _, rfl, ifB (fun g => ?_) (fun g => ?_)⟩
    · obtain ⟨fl, fa⟩ := fit_items fd g
      have decB : ∀ {a b : Bool}, (!decide (V.bl a = V.bl b)) = true → a ≠ b := fun h e => by
        rw [e, decide_eq_true rfl] at h
        cases h
      have decB' : ∀ {a b : Bool}, (!decide (V.bl a = V.bl b)) = false → a = b := fun {a b} h => by
        by_cases e : V.bl a = V.bl b
        · exact V.bl.inj e
        · rw [decide_eq_false e] at h
          cases h
      refine ⟨_, rfl, _, _, _, _, _, rfl, .ty _, tq_ty hv, ki_list K d, _, rfl, _, _, _, _, _, rfl, .ty _, tq_ty hu, ki_list K e, rfl, _, rfl, ifB (fun c => ?_) (fun c => ?_)⟩
      · rw [same_kinds (.inl (decB c)) g] at q
        exact q _ s1
      have c1 := decB' c
      refine ⟨_, rfl, _, _, _, _, _, rfl, .ty _, tq_ty hv, ki_tuple K d, _, rfl, _, _, _, _, _, rfl, .ty _, tq_ty hu, ki_tuple K e, rfl, _, rfl, ifB (fun c => ?_) (fun c => ?_)⟩
      · rw [same_kinds (.inr (decB c)) g] at q
        exact q _ s1
      have c2 := decB' c
      have g2 : (isLs e || isTp e) = true := by rw [← c1, ← c2]; exact g
      obtain ⟨fl2, fa2⟩ := fit_items fe g2
      rw [same_items c1 c2 g] at q
      obtain ⟨a, xs, rfl, ha, hs⟩ := seq_of hv g
      obtain ⟨b, ys, rfl, hb, hs2⟩ := seq_of hu g2
      have lx := hs.len
      have ly := hs2.len
      have sqa : ∀ {J : Hp}, Same H1 J → SqL K J a xs ∨ SqT K J a xs := fun s => ha.elim (fun h => .inl (sqL_same h s)) fun h => .inr (sqT_same h s)
      have sqb : ∀ {J : Hp}, Same H1 J → SqL K J b ys ∨ SqT K J b ys := fun s => hb.elim (fun h => .inl (sqL_same h s)) fun h => .inr (sqT_same h s)
      refine ⟨_, rfl, a, _, rfl, sqa (Same.refl _), _, rfl, b, _, rfl, sqb (Same.refl _), rfl, _, rfl, ?_⟩
      by_cases el : (itemsD d).length = (itemsD e).length
      · refine iteP (by rw [lx, ly, el]) ?_
        rw [sameAll_zip _ _ el] at q
        refine ⟨_, rfl, a, _, rfl, sqa (Same.refl _), ((xs.length : Nat) : Int), rfl, by omega, by omega, fun D nD => ?_⟩
        have lz : (List.zipWith sameD (itemsD d) (itemsD e)).length = xs.length := by rw [List.length_zipWith, ← el, lx]; omega
        refine lc_range (n := ((xs.length : Nat) : Int).toNat) (fun i H' => Same H1 H' ∧ H' D = some (.lst (((List.zipWith sameD (itemsD d) (itemsD e)).take i).map V.bl))) ⟨same_upd nD, upd_same⟩ (fun i H' hi h => ?_) (fun H' h => ?_)
        · obtain ⟨sm, hD⟩ := h
          have hi1 : i < xs.length := by omega
          have hi2 : i < ys.length := by omega
          have gx : xs[i]? = some xs[i] := List.getElem?_eq_getElem hi1
          have gy : ys[i]? = some ys[i] := List.getElem?_eq_getElem hi2
          obtain ⟨dx, hdx, tx⟩ := hs.get gx
          obtain ⟨dy, hdy, ty⟩ := hs2.get gy
          have ax : atI xs (0 + (i : Int)) = some xs[i] := at_of (j := i) (by omega) gx
          have ay : atI ys (0 + (i : Int)) = some ys[i] := at_of (j := i) (by omega) gy
          have rix : ∀ {J : Hp} {p : Addr} {zs : List V} {z : V} {Q' : VK}, (SqL K J p zs ∨ SqT K J p zs) → atI zs (0 + (i : Int)) = some z → Q' z J → rIx K (.ref p) (.int (0 + (i : Int))) J Q' := fun h1 h2 h3 => h1.elim (fun h => .inl ⟨_, _, _, _, rfl, rfl, h, h2, h3⟩) fun h => .inr (.inl ⟨_, _, _, _, rfl, rfl, h, h2, h3⟩)
          refine ⟨rfl, _, rfl, _, rfl, rix (sqa sm) ax ⟨_, rfl, _, rfl, rix (sqb sm) ay ?_⟩⟩
          refine ⟨dx, dy, _, _, rfl, tx.same sm, ty.same sm, fa.get hdx, fa2.get hdy, by omega, fun J sJ => ⟨_, sJ _ _ hD, ?_, same_new (sm.trans sJ) nD, ?_⟩⟩
          · rw [List.length_map, List.length_take]
            exact small1000 (by omega)
          · rw [upd_same, List.take_add_one, List.getElem?_zipWith, hdx, hdy, List.map_append]
            rfl
        · rw [show ((xs.length : Nat) : Int).toNat = xs.length by omega, ← lz, List.take_length] at h
          exact ⟨D, _, rfl, SqL.of h.2, q _ (s1.trans h.1)⟩
      · refine iteN (fun z => el (by have := V.int.inj z; omega)) ?_
        rw [sameAll_len _ _ el] at q
        exact q _ s1
    · refine ⟨_, rfl, small100 (n := 2) (by decide), fun t2 nt2 => ?_⟩
      have s2 := s1.trans (same_upd (o := .tup [V.ty "list", V.ty "tuple"]) nt2)
      have ht2 : (upd H1 t2 (.tup [V.ty "list", V.ty "tuple"])) t2 = some (.tup [V.ty "list", V.ty "tuple"]) := upd_same
      have hv := hv.same (same_upd (o := .tup [V.ty "list", V.ty "tuple"]) nt2)
      have hu := hu.same (same_upd (o := .tup [V.ty "list", V.ty "tuple"]) nt2)
      generalize upd H1 t2 _ = H2 at *
      refine ⟨_, t2, _, _, _, _, rfl, ht2, .cons (.ty _) (.cons (.ty _) .nil), tq_ty hu, ki_lt K e, _, rfl, ifB (fun g2 => ?_) (fun g2 => ?_)⟩
      · rw [same_leafL g g2] at q
        exact q _ s2
      refine ⟨_, rfl, _, _, _, _, _, rfl, .ty _, tq_ty hv, ki_bool K d, _, rfl, _, _, _, _, _, rfl, .ty _, tq_ty hu, ki_bool K e, rfl, _, rfl, ifB (fun c => ?_) (fun c => ?_)⟩
      · rw [same_leafB g g2 (fun e => by rw [e, decide_eq_true rfl] at c; cases c)] at q
        exact q _ s2
      have c1 : isBl d = isBl e := by
        by_cases h : V.bl (isBl d) = V.bl (isBl e)
        · exact V.bl.inj h
        · rw [decide_eq_false h] at c
          cases c
      rw [same_leaf g g2 c1] at q
      refine ⟨_, rfl, _, _, _, _, _, rfl, .ty _, tq_ty hv, ki_int K d, _, rfl, _, _, _, _, _, rfl, .ty _, tq_ty hu, ki_int K e, rfl, _, rfl, ?_⟩
      by_cases c3 : isNum d = isNum e
      · refine iteP (by rw [c3]) ?_
        rw [decide_eq_true c3, Bool.true_and] at q
        have sd := fd.shaped (by omega)
        have se := fe.shaped (by omega)
        exact ⟨_, rfl, _, rfl, d, e, TQ.dp _ _ hv, TQ.dp _ _ hu, sd, se, q _ s2⟩
      · refine iteN (fun z => c3 (V.bl.inj z)) ?_
        rw [decide_eq_false c3, Bool.false_and] at q
        exact q _ s2
theorem none_same (T : Top w K mg) : FnOk P w K mg base CX0 1 T.a__law_same T.d__law_same ["_law_one", "_law_other"] (sp__law_same K 0) := by
  have no : ∀ vs H Q E, ¬ sp__law_same K 0 vs H Q E := fun vs H Q E ⟨d, _, _, _, _, _, _, h, _⟩ => by cases d <;> exact h.elim
  exact ⟨fun vs H Q E h => absurd h (no vs H Q E), fun A outer s H args us vs Q E _ _ _ _ h => absurd h (no vs H Q E)⟩
theorem all_same (T : Top w K mg) : ∀ n : Nat, FnOk P w K mg base CX0 (n + 1) T.a__law_same T.d__law_same ["_law_one", "_law_other"] (sp__law_same K n)
  | 0 => none_same T
  | n + 1 => ok_same_step T n (all_same T n)
theorem ok__law_same (T : Top w K mg) : FnOk P w K mg base CX0 17 T.a__law_same T.d__law_same ["_law_one", "_law_other"] (sp__law_same K 16) := all_same T 16

--SPLIT
theorem ok0 {c : Cm} (h : c.nums = []) : c.ok := fun i z l e => by
  rw [h] at e
  cases e
theorem ok1 {c : Cm} {z : Int} {l : Int × Int} (h : c.nums = [z]) (hl : c.lims = [l]) (h1 : l.1 ≤ z) (h2 : z ≤ l.2) : c.ok := fun i y k e f => by
  rw [h] at e
  rw [hl] at f
  match i, e, f with
  | 0, e, f =>
    cases e
    cases f
    exact ⟨h1, h2⟩
theorem ok2 {c : Cm} {z y : Int} {l : Int × Int} (h : c.nums = [z, y]) (hl : c.lims = [l, l]) (h1 : l.1 ≤ z) (h2 : z ≤ l.2) (h3 : l.1 ≤ y) (h4 : y ≤ l.2) : c.ok := fun i x k e f => by
  rw [h] at e
  rw [hl] at f
  match i, e, f with
  | 0, e, f =>
    cases e
    cases f
    exact ⟨h1, h2⟩
  | 1, e, f =>
    cases e
    cases f
    exact ⟨h3, h4⟩

def sp__law_any_command (K : PySem.W.Frag) : Sp := fun vs H Q _ => ∃ (p : Addr) (L : Nat), vs = [.ref p] ∧ Pool H p L ∧ 2 ≤ L ∧ L ≤ 64 ∧
  ∀ (q : Addr) (c : Cm) (H' : Hp), c.ok → Kp p H H' → Pool H' p L → H q = none → H' q = some (.tup c.vals) → Q (.ref q) H'
set_option maxHeartbeats 1000000 in
theorem ok__law_any_command (T : Top w K mg) : FnOk P w K mg base CX0 2 T.a__law_any_command T.d__law_any_command ["_law_pool_here"] (sp__law_any_command K) := by
  refine T.F__law_any_command.ok sc__law_any_command (fun vs H Q E h => ?_) (fun cdv A outer s H vs Q E hr h => ?_)
  · obtain ⟨p, L, rfl, _⟩ := h
    rfl
  · obtain ⟨p, L, rfl, pl, h2, h64, q⟩ := h
    refine ⟨_, (pss_cons (ps_set (i := 1) sc__law_any_command.nd rfl (Or.inl rfl) (pe_call (ok__law_draw T) hr (by rfl) T.g__law_draw T.F__law_draw.kp (b__law_draw T) .nil pass0 (pa_cons (pv 0) (pa_cons pe_int pa_nil))))
      (pss_cons (ps_if (pt_cmpR op_eq (pv 1) pe_int (nomark _)) (pss_one (ps_ret (pe_tup (pa_cons pe_str (pa_cons (pe_op op_sub (pe_call (ok__law_draw T) hr (by rfl) T.g__law_draw T.F__law_draw.kp (b__law_draw T) .nil pass0 (pa_cons (pv 0) (pa_cons pe_int pa_nil))) pe_int) pa_nil))))) pss_nil)
      (pss_cons (ps_if (pt_cmpR op_eq (pv 1) pe_int (nomark _)) (pss_one (ps_ret (pe_tup (pa_cons pe_str (pa_cons (pe_op op_add pe_int (pe_call (ok__law_draw T) hr (by rfl) T.g__law_draw T.F__law_draw.kp (b__law_draw T) .nil pass0 (pa_cons (pv 0) (pa_cons pe_int pa_nil)))) pa_nil))))) pss_nil)
      (pss_cons (ps_if (pt_cmpR op_eq (pv 1) pe_int (nomark _)) (pss_one (ps_ret (pe_tup (pa_cons pe_str (pa_cons (pe_op op_sub (pe_call (ok__law_draw T) hr (by rfl) T.g__law_draw T.F__law_draw.kp (b__law_draw T) .nil pass0 (pa_cons (pv 0) (pa_cons pe_int pa_nil))) pe_int) pa_nil))))) pss_nil)
      (pss_cons (ps_if (pt_cmpR op_lt (pv 1) pe_int (nomark _)) (pss_one (ps_ret (pe_tup (pa_cons (pe_ix (k_ixT K) (pe_tup (pa_cons pe_str (pa_cons pe_str pa_nil))) (pe_op op_sub (pv 1) pe_int) (fun _ _ => rfl)) (pa_cons (pe_op op_sub (pe_call (ok__law_draw T) hr (by rfl) T.g__law_draw T.F__law_draw.kp (b__law_draw T) .nil pass0 (pa_cons (pv 0) (pa_cons pe_int pa_nil))) pe_int) (pa_cons (pe_op op_sub (pe_call (ok__law_draw T) hr (by rfl) T.g__law_draw T.F__law_draw.kp (b__law_draw T) .nil pass0 (pa_cons (pv 0) (pa_cons pe_int pa_nil))) pe_int) pa_nil)))))) pss_nil)
      (pss_one (ps_ret (pe_tup (pa_cons (pe_ix (k_ixT K) (pe_tup (pa_cons pe_str (pa_cons pe_str (pa_cons pe_str (pa_cons pe_str pa_nil))))) (pe_op op_sub (pv 1) pe_int) (fun _ _ => rfl)) pa_nil))))))))), ?_⟩
    refine ⟨_, rfl, p, L, 9, rfl, pl, h2, h64, by decide, by decide, fun k H1 k0 k9 e1 pl1 => ?_⟩
    have fin : ∀ {c : Cm} {t : Addr} {J : Hp}, c.ok → Kp p H J → Pool J p L → J t = none → Q (.ref t) (upd J t (.tup c.vals)) := fun ok kp pl nt =>
      q _ _ _ ok (kp.new (kp.none nt (pl.ne nt))) (pl.new nt) (kp.none nt (pl.ne nt)) upd_same
    refine ⟨_, rfl, rfl, _, rfl, ite2 (fun _ => ?_) (fun n0 => ?_)⟩
    · refine ⟨_, rfl, p, L, 19, rfl, pl1, h2, h64, by decide, by decide, fun r H2 r0 r1 e2 pl2 => ?_⟩
      refine ⟨_, _, rfl, rfl, small100 (n := 2) (by decide), fun t nt => ?_⟩
      exact fin (c := .go (r - 9)) (ok1 rfl rfl (by show (-9 : Int) ≤ r - 9; omega) (by show r - 9 ≤ (9 : Int); omega)) (e1.trans e2) pl2 nt
    refine ⟨_, rfl, rfl, _, rfl, ite2 (fun _ => ?_) (fun n1 => ?_)⟩
    · refine ⟨_, rfl, p, L, 3, rfl, pl1, h2, h64, by decide, by decide, fun r H2 r0 r1 e2 pl2 => ?_⟩
      refine ⟨_, _, rfl, rfl, small100 (n := 2) (by decide), fun t nt => ?_⟩
      exact fin (c := .turn (1 + r)) (ok1 rfl rfl (by show (1 : Int) ≤ 1 + r; omega) (by show 1 + r ≤ (3 : Int); omega)) (e1.trans e2) pl2 nt
    refine ⟨_, rfl, rfl, _, rfl, ite2 (fun _ => ?_) (fun n2 => ?_)⟩
    · refine ⟨_, rfl, p, L, 7, rfl, pl1, h2, h64, by decide, by decide, fun r H2 r0 r1 e2 pl2 => ?_⟩
      refine ⟨_, _, rfl, rfl, small100 (n := 2) (by decide), fun t nt => ?_⟩
      exact fin (c := .scale (r - 3)) (ok1 rfl rfl (by show (-3 : Int) ≤ r - 3; omega) (by show r - 3 ≤ (3 : Int); omega)) (e1.trans e2) pl2 nt
    have n0 := dec_int n0
    have n1 := dec_int n1
    have n2 := dec_int n2
    refine ⟨_, rfl, _, _, rfl, rfl, _, rfl, ite2 (fun h5 => ?_) (fun h5 => ?_)⟩
    · have h5 := of_decide_eq_true h5
      refine ⟨small100 (n := 2) (by decide), fun m nm => ?_⟩
      have nmp := pl1.ne nm
      have em : Kp p H (upd H1 m (.tup [.str "aim", .str "place"])) := e1.new (e1.none nm nmp)
      have plm : Pool (upd H1 m (.tup [.str "aim", .str "place"])) p L := pl1.new nm
      have hm : (upd H1 m (.tup [.str "aim", .str "place"])) m = some (.tup [.str "aim", .str "place"]) := upd_same
      generalize upd H1 m (.tup [.str "aim", .str "place"]) = J at *
      rcases (show k = 3 ∨ k = 4 by omega) with rfl | rfl
      · refine ⟨_, rfl, _, _, rfl, rfl, m, _, _, _, rfl, rfl, SqT.of hm, at_of (j := 0) (by decide) rfl, ?_⟩
        refine ⟨_, rfl, p, L, 19, rfl, plm, h2, h64, by decide, by decide, fun r H2 r0 r1 e2 pl2 => ?_⟩
        refine ⟨_, _, rfl, rfl, _, rfl, p, L, 19, rfl, pl2, h2, h64, by decide, by decide, fun r' H3 r0' r1' e3 pl3 => ?_⟩
        refine ⟨_, _, rfl, rfl, small100 (n := 3) (by decide), fun t nt => ?_⟩
        exact fin (c := .aim (r - 9) (r' - 9)) (ok2 (l := (-9, 9)) rfl rfl (by show (-9 : Int) ≤ r - 9; omega) (by show r - 9 ≤ (9 : Int); omega) (by show (-9 : Int) ≤ r' - 9; omega) (by show r' - 9 ≤ (9 : Int); omega)) (em.trans (e2.trans e3)) pl3 nt
      · refine ⟨_, rfl, _, _, rfl, rfl, m, _, _, _, rfl, rfl, SqT.of hm, at_of (j := 1) (by decide) rfl, ?_⟩
        refine ⟨_, rfl, p, L, 19, rfl, plm, h2, h64, by decide, by decide, fun r H2 r0 r1 e2 pl2 => ?_⟩
        refine ⟨_, _, rfl, rfl, _, rfl, p, L, 19, rfl, pl2, h2, h64, by decide, by decide, fun r' H3 r0' r1' e3 pl3 => ?_⟩
        refine ⟨_, _, rfl, rfl, small100 (n := 3) (by decide), fun t nt => ?_⟩
        exact fin (c := .place (r - 9) (r' - 9)) (ok2 (l := (-9, 9)) rfl rfl (by show (-9 : Int) ≤ r - 9; omega) (by show r - 9 ≤ (9 : Int); omega) (by show (-9 : Int) ≤ r' - 9; omega) (by show r' - 9 ≤ (9 : Int); omega)) (em.trans (e2.trans e3)) pl3 nt
    · have h5 : ¬ k < 5 := fun h => h5 (decide_eq_true h)
      refine ⟨small100 (n := 4) (by decide), fun m nm => ?_⟩
      have nmp := pl1.ne nm
      have em : Kp p H (upd H1 m (.tup [.str "mirror", .str "mark", .str "return", .str "exchange"])) := e1.new (e1.none nm nmp)
      have plm : Pool (upd H1 m (.tup [.str "mirror", .str "mark", .str "return", .str "exchange"])) p L := pl1.new nm
      have hm : (upd H1 m (.tup [.str "mirror", .str "mark", .str "return", .str "exchange"])) m = some (.tup [.str "mirror", .str "mark", .str "return", .str "exchange"]) := upd_same
      generalize upd H1 m (.tup [.str "mirror", .str "mark", .str "return", .str "exchange"]) = J at *
      rcases (show k = 5 ∨ k = 6 ∨ k = 7 ∨ k = 8 by omega) with rfl | rfl | rfl | rfl
      · refine ⟨_, rfl, _, _, rfl, rfl, m, _, _, _, rfl, rfl, SqT.of hm, at_of (j := 0) (by decide) rfl, small100 (n := 1) (by decide), fun t nt => ?_⟩
        exact fin (c := .mirror) (ok0 rfl) em plm nt
      · refine ⟨_, rfl, _, _, rfl, rfl, m, _, _, _, rfl, rfl, SqT.of hm, at_of (j := 1) (by decide) rfl, small100 (n := 1) (by decide), fun t nt => ?_⟩
        exact fin (c := .mark) (ok0 rfl) em plm nt
      · refine ⟨_, rfl, _, _, rfl, rfl, m, _, _, _, rfl, rfl, SqT.of hm, at_of (j := 2) (by decide) rfl, small100 (n := 1) (by decide), fun t nt => ?_⟩
        exact fin (c := .ret) (ok0 rfl) em plm nt
      · refine ⟨_, rfl, _, _, rfl, rfl, m, _, _, _, rfl, rfl, SqT.of hm, at_of (j := 3) (by decide) rfl, small100 (n := 1) (by decide), fun t nt => ?_⟩
        exact fin (c := .exch) (ok0 rfl) em plm nt

--SPLIT
def Cm.k (c : Cm) : Int := c.nums.headD 0
def sp__law_move (K : PySem.W.Frag) : Sp := fun vs H Q _ => ∃ (a b : Addr) (ps : List Int) (c : Cm), vs = [.ref a, .ref b] ∧ H a = some (.tup (ps.map V.int)) ∧ ps.length = 6 ∧ H b = some (.tup c.vals) ∧ c.ok ∧
  ∀ (q : Addr) (H' : Hp), Same H H' → H q = none → H' q = some (.tup ((c.mv ps).map V.int)) → Q (.ref q) H'
set_option maxHeartbeats 4000000 in
theorem ok__law_move (T : Top w K mg) : FnOk P w K mg base CX0 1 T.a__law_move T.d__law_move ["_law_begin", "_law_command"] (sp__law_move K) := by
  refine T.F__law_move.ok sc__law_move (fun vs H Q E h => ?_) (fun cdv A outer s H vs Q E hr h => ?_)
  · obtain ⟨a, b, ps, c, rfl, _⟩ := h
    rfl
  · obtain ⟨a, b, ps, c, rfl, ha, hl, hb, hok, q⟩ := h
    refine ⟨_, (pss_cons (ps_asg (pv 0) (pg_tup rfl (pgs_cons (pg_name (i := 2) sc__law_move.nd rfl (Or.inl rfl)) (pgs_cons (pg_name (i := 3) sc__law_move.nd rfl (Or.inl rfl)) (pgs_cons (pg_name (i := 4) sc__law_move.nd rfl (Or.inl rfl)) (pgs_cons (pg_name (i := 5) sc__law_move.nd rfl (Or.inl rfl)) (pgs_cons (pg_name (i := 6) sc__law_move.nd rfl (Or.inl rfl)) (pgs_cons (pg_name (i := 7) sc__law_move.nd rfl (Or.inl rfl)) pgs_nil))))))))
      (pss_cons (ps_set (i := 8) sc__law_move.nd rfl (Or.inl rfl) (pe_ix (k_ixT K) (pv 1) pe_int (fun _ _ => rfl)))
      (pss_cons (ps_set (i := 9) sc__law_move.nd rfl (Or.inl rfl) (pe_ix (k_ixT K) (pe_op op_catT (pv 1) (pe_tup (pa_cons pe_int pa_nil))) pe_int (fun _ _ => rfl)))
      (pss_cons (ps_if (pt_cmpR op_eq (pv 8) pe_str (nomark _)) (pss_one (ps_ret (pe_tup (pa_cons (pe_op op_add (pv 2) (pe_op op_mul (pv 9) (pv 4))) (pa_cons (pe_op op_add (pv 3) (pe_op op_mul (pv 9) (pv 5))) (pa_cons (pv 4) (pa_cons (pv 5) (pa_cons (pv 6) (pa_cons (pv 7) pa_nil))))))))) pss_nil)
      (pss_cons (ps_if (pt_cmpR op_eq (pv 8) pe_str (nomark _)) (pss_cons (ps_set (i := 10) sc__law_move.nd rfl (Or.inl rfl) (pe_ix (k_ixL K) (pe_lst (pa_cons (pe_tup (pa_cons (pe_un un_neg (pv 5)) (pa_cons (pv 4) pa_nil))) (pa_cons (pe_tup (pa_cons (pe_un un_neg (pv 4)) (pa_cons (pe_un un_neg (pv 5)) pa_nil))) (pa_cons (pe_tup (pa_cons (pv 5) (pa_cons (pe_un un_neg (pv 4)) pa_nil))) pa_nil)))) (pe_op op_sub (pv 9) pe_int) (fun _ _ => rfl)))
        (pss_one (ps_ret (pe_tup (pa_cons (pv 2) (pa_cons (pv 3) (pa_cons (pe_ix (k_ixT K) (pv 10) pe_int (fun _ _ => rfl)) (pa_cons (pe_ix (k_ixT K) (pv 10) pe_int (fun _ _ => rfl)) (pa_cons (pv 6) (pa_cons (pv 7) pa_nil)))))))))) pss_nil)
      (pss_cons (ps_if (pt_cmpR op_eq (pv 8) pe_str (nomark _)) (pss_one (ps_ret (pe_tup (pa_cons (pv 2) (pa_cons (pv 3) (pa_cons (pv 4) (pa_cons (pe_un un_neg (pv 5)) (pa_cons (pv 6) (pa_cons (pv 7) pa_nil))))))))) pss_nil)
      (pss_cons (ps_if (pt_cmpR op_eq (pv 8) pe_str (nomark _)) (pss_one (ps_ret (pe_tup (pa_cons (pv 2) (pa_cons (pv 3) (pa_cons (pe_op op_mul (pv 4) (pv 9)) (pa_cons (pe_op op_mul (pv 5) (pv 9)) (pa_cons (pv 6) (pa_cons (pv 7) pa_nil))))))))) pss_nil)
      (pss_cons (ps_if (pt_cmpR op_eq (pv 8) pe_str (nomark _)) (pss_one (ps_ret (pe_tup (pa_cons (pv 2) (pa_cons (pv 3) (pa_cons (pv 9) (pa_cons (pe_ix (k_ixT K) (pv 1) pe_int (fun _ _ => rfl)) (pa_cons (pv 6) (pa_cons (pv 7) pa_nil))))))))) pss_nil)
      (pss_cons (ps_if (pt_cmpR op_eq (pv 8) pe_str (nomark _)) (pss_one (ps_ret (pe_tup (pa_cons (pv 9) (pa_cons (pe_ix (k_ixT K) (pv 1) pe_int (fun _ _ => rfl)) (pa_cons (pv 4) (pa_cons (pv 5) (pa_cons (pv 6) (pa_cons (pv 7) pa_nil))))))))) pss_nil)
      (pss_cons (ps_if (pt_cmpR op_eq (pv 8) pe_str (nomark _)) (pss_one (ps_ret (pe_tup (pa_cons (pv 2) (pa_cons (pv 3) (pa_cons (pv 4) (pa_cons (pv 5) (pa_cons (pv 2) (pa_cons (pv 3) pa_nil))))))))) pss_nil)
      (pss_cons (ps_if (pt_cmpR op_eq (pv 8) pe_str (nomark _)) (pss_one (ps_ret (pe_tup (pa_cons (pv 6) (pa_cons (pv 7) (pa_cons (pv 4) (pa_cons (pv 5) (pa_cons (pv 6) (pa_cons (pv 7) pa_nil))))))))) pss_nil)
      (pss_one (ps_ret (pe_tup (pa_cons (pv 6) (pa_cons (pv 7) (pa_cons (pv 4) (pa_cons (pv 5) (pa_cons (pv 2) (pa_cons (pv 3) pa_nil)))))))))))))))))))), ?_⟩
    obtain ⟨x, y, u, v, p, r, rfl⟩ := list6' hl
    refine ⟨_, rfl, a, _, rfl, SqT.of ha, rfl, _, _, rfl, _, _, rfl, _, _, rfl, _, _, rfl, _, _, rfl, _, _, rfl, rfl, ?_⟩
    refine ⟨_, rfl, b, _, 0, _, rfl, rfl, SqT.of hb, atI_nat (j := 0) rfl, ?_⟩
    have hk : (c.vals ++ [V.int 0])[1]? = some (.int c.k) := by cases c <;> rfl
    have hcl : c.vals.length ≤ 3 := by cases c <;> simp [Cm.vals, Cm.nums]
    refine ⟨_, rfl, small100 (n := 1) (by decide), fun z nz => ?_⟩
    have s1 := same_upd (o := .tup [.int 0]) nz
    have hz : (upd H z (.tup [.int 0])) z = some (.tup [.int 0]) := upd_same
    generalize upd H z (.tup [.int 0]) = H1 at *
    refine ⟨b, z, c.vals, [.int 0], rfl, rfl, SqT.of (s1 _ _ hb), SqT.of hz, (fun e => nomatch e), small100 (n := c.vals.length + 1) (by omega), (fun e => nomatch e), fun _ o no => ?_⟩
    have s2 := same_upd (o := .tup (c.vals ++ [.int 0])) no
    have ho : (upd H1 o (.tup (c.vals ++ [.int 0]))) o = some (.tup (c.vals ++ [.int 0])) := upd_same
    generalize upd H1 o (.tup (c.vals ++ [.int 0])) = H2 at *
    refine ⟨o, _, 1, _, rfl, rfl, SqT.of ho, atI_nat (j := 1) hk, ?_⟩
    have s02 := s1.trans s2
    have hb2 := s02 _ _ hb
    have lim : ∀ {i : Nat} {z : Int} {l : Int × Int}, c.nums[i]? = some z → c.lims[i]? = some l → l.1 ≤ z ∧ z ≤ l.2 := fun g1 g2 => hok _ _ _ g1 g2
    have done : ∀ {q : Addr} {J : Hp} {l : List Int}, Same H J → J q = none → l = c.mv [x, y, u, v, p, r] → Same H (upd J q (.tup (l.map V.int))) ∧ H q = none ∧ (upd J q (.tup (l.map V.int))) q = some (.tup ((c.mv [x, y, u, v, p, r]).map V.int)) := fun s n e => ⟨same_new s (s.free n), s.free n, by rw [upd_same, e]⟩
    cases c with
    | go k =>
      have h1 := lim (i := 0) rfl rfl
      dsimp only at h1
      have ek : (Cm.go k).k = k := rfl
      rw [ek] at *
      refine ⟨_, rfl, rfl, _, rfl, iteP rfl ?_⟩
      refine ⟨_, rfl, _, rfl, _, rfl, _, _, rfl, rfl, .inl ⟨by omega, by omega⟩, _, _, rfl, rfl, _, rfl, _, rfl, _, rfl, _, _, rfl, rfl, .inl ⟨by omega, by omega⟩, _, _, rfl, rfl, _, rfl, _, rfl, _, rfl, _, rfl, small100 (n := 6) (by decide), fun t nt => ?_⟩
      have d := done (l := Cm.mv (.go k) [x, y, u, v, p, r]) s02 nt (rfl)
      exact q t _ d.1 d.2.1 d.2.2
    | turn n =>
      have h1 := lim (i := 0) rfl rfl
      dsimp only at h1
      have ek : (Cm.turn n).k = n := rfl
      rw [ek] at *
      refine ⟨_, rfl, rfl, _, rfl, iteN (show ¬ V.str ("turn" : Str) = V.str ("go" : Str) by decide) ?_⟩
      refine ⟨_, rfl, rfl, _, rfl, iteP rfl ?_⟩
      refine ⟨_, rfl, _, rfl, _, rfl, small100 (n := 2) (by decide), fun t1 m1 => ?_⟩
      have j1 := same_upd (o := .tup [.int (-v), .int u]) m1
      have g1 : (upd H2 t1 (.tup [.int (-v), .int u])) t1 = some (.tup [.int (-v), .int u]) := upd_same
      generalize upd H2 t1 (.tup [.int (-v), .int u]) = J1 at *
      refine ⟨_, rfl, _, rfl, _, rfl, _, rfl, small100 (n := 2) (by decide), fun t2 m2 => ?_⟩
      have j2 := same_upd (o := .tup [.int (-u), .int (-v)]) m2
      have g2 : (upd J1 t2 (.tup [.int (-u), .int (-v)])) t2 = some (.tup [.int (-u), .int (-v)]) := upd_same
      generalize upd J1 t2 (.tup [.int (-u), .int (-v)]) = J2 at *
      refine ⟨_, rfl, _, rfl, _, rfl, small100 (n := 2) (by decide), fun t3 m3 => ?_⟩
      have j3 := same_upd (o := .tup [.int v, .int (-u)]) m3
      have g3 : (upd J2 t3 (.tup [.int v, .int (-u)])) t3 = some (.tup [.int v, .int (-u)]) := upd_same
      generalize upd J2 t3 (.tup [.int v, .int (-u)]) = J3 at *
      refine ⟨small100 (n := 3) (by decide), fun l ml => ?_⟩
      have j4 := same_upd (o := .lst [.ref t1, .ref t2, .ref t3]) ml
      have gl : (upd J3 l (.lst [.ref t1, .ref t2, .ref t3])) l = some (.lst [.ref t1, .ref t2, .ref t3]) := upd_same
      generalize upd J3 l (.lst [.ref t1, .ref t2, .ref t3]) = J4 at *
      have g3 := j4 _ _ g3
      have g2 := j4 _ _ (j3 _ _ g2)
      have g1 := j4 _ _ (j3 _ _ (j2 _ _ g1))
      have s06 := s02.trans (j1.trans (j2.trans (j3.trans j4)))
      rcases (show n = 1 ∨ n = 2 ∨ n = 3 by omega) with rfl | rfl | rfl
      · refine ⟨_, rfl, _, _, rfl, rfl, l, _, _, _, rfl, rfl, SqL.of gl, at_of (j := 0) (by decide) rfl, ?_⟩
        refine ⟨_, rfl, _, rfl, _, rfl, t1, _, 0, _, rfl, rfl, SqT.of g1, atI_nat (j := 0) rfl, _, rfl, t1, _, 1, _, rfl, rfl, SqT.of g1, atI_nat (j := 1) rfl, _, rfl, _, rfl, small100 (n := 6) (by decide), fun t nt => ?_⟩
        have d := done (l := [x, y, -v, u, p, r]) s06 nt (rfl)
        exact q t _ d.1 d.2.1 d.2.2
      · refine ⟨_, rfl, _, _, rfl, rfl, l, _, _, _, rfl, rfl, SqL.of gl, at_of (j := 1) (by decide) rfl, ?_⟩
        refine ⟨_, rfl, _, rfl, _, rfl, t2, _, 0, _, rfl, rfl, SqT.of g2, atI_nat (j := 0) rfl, _, rfl, t2, _, 1, _, rfl, rfl, SqT.of g2, atI_nat (j := 1) rfl, _, rfl, _, rfl, small100 (n := 6) (by decide), fun t nt => ?_⟩
        have d := done (l := [x, y, -u, -v, p, r]) s06 nt (rfl)
        exact q t _ d.1 d.2.1 d.2.2
      · refine ⟨_, rfl, _, _, rfl, rfl, l, _, _, _, rfl, rfl, SqL.of gl, at_of (j := 2) (by decide) rfl, ?_⟩
        refine ⟨_, rfl, _, rfl, _, rfl, t3, _, 0, _, rfl, rfl, SqT.of g3, atI_nat (j := 0) rfl, _, rfl, t3, _, 1, _, rfl, rfl, SqT.of g3, atI_nat (j := 1) rfl, _, rfl, _, rfl, small100 (n := 6) (by decide), fun t nt => ?_⟩
        have d := done (l := [x, y, v, -u, p, r]) s06 nt (by show [x, y, v, -u, p, r] = [x, y, -(-v), -u, p, r]; rw [Int.neg_neg])
        exact q t _ d.1 d.2.1 d.2.2
    | mirror =>
      refine ⟨_, rfl, rfl, _, rfl, iteN (show ¬ V.str ("mirror" : Str) = V.str ("go" : Str) by decide) ?_⟩
      refine ⟨_, rfl, rfl, _, rfl, iteN (show ¬ V.str ("mirror" : Str) = V.str ("turn" : Str) by decide) ?_⟩
      refine ⟨_, rfl, rfl, _, rfl, iteP rfl ?_⟩
      refine ⟨_, rfl, _, rfl, _, rfl, _, rfl, _, rfl, _, rfl, _, rfl, small100 (n := 6) (by decide), fun t nt => ?_⟩
      have d := done (l := Cm.mv (.mirror) [x, y, u, v, p, r]) s02 nt (rfl)
      exact q t _ d.1 d.2.1 d.2.2
    | scale k =>
      have h1 := lim (i := 0) rfl rfl
      dsimp only at h1
      have ek : (Cm.scale k).k = k := rfl
      rw [ek] at *
      refine ⟨_, rfl, rfl, _, rfl, iteN (show ¬ V.str ("scale" : Str) = V.str ("go" : Str) by decide) ?_⟩
      refine ⟨_, rfl, rfl, _, rfl, iteN (show ¬ V.str ("scale" : Str) = V.str ("turn" : Str) by decide) ?_⟩
      refine ⟨_, rfl, rfl, _, rfl, iteN (show ¬ V.str ("scale" : Str) = V.str ("mirror" : Str) by decide) ?_⟩
      refine ⟨_, rfl, rfl, _, rfl, iteP rfl ?_⟩
      refine ⟨_, rfl, _, rfl, _, rfl, _, rfl, _, _, rfl, rfl, .inr ⟨by omega, by omega⟩, _, rfl, _, rfl, _, _, rfl, rfl, .inr ⟨by omega, by omega⟩, _, rfl, _, rfl, small100 (n := 6) (by decide), fun t nt => ?_⟩
      have d := done (l := [x, y, u * k, v * k, p, r]) s02 nt (by rw [Int.mul_comm u k, Int.mul_comm v k]; rfl)
      exact q t _ d.1 d.2.1 d.2.2
    | aim a1 a2 =>
      refine ⟨_, rfl, rfl, _, rfl, iteN (show ¬ V.str ("aim" : Str) = V.str ("go" : Str) by decide) ?_⟩
      refine ⟨_, rfl, rfl, _, rfl, iteN (show ¬ V.str ("aim" : Str) = V.str ("turn" : Str) by decide) ?_⟩
      refine ⟨_, rfl, rfl, _, rfl, iteN (show ¬ V.str ("aim" : Str) = V.str ("mirror" : Str) by decide) ?_⟩
      refine ⟨_, rfl, rfl, _, rfl, iteN (show ¬ V.str ("aim" : Str) = V.str ("scale" : Str) by decide) ?_⟩
      refine ⟨_, rfl, rfl, _, rfl, iteP rfl ?_⟩
      refine ⟨_, rfl, _, rfl, _, rfl, _, rfl, b, _, 2, _, rfl, rfl, SqT.of hb2, atI_nat (j := 2) rfl, _, rfl, _, rfl, small100 (n := 6) (by decide), fun t nt => ?_⟩
      have d := done (l := Cm.mv (.aim a1 a2) [x, y, u, v, p, r]) s02 nt (rfl)
      exact q t _ d.1 d.2.1 d.2.2
    | place a1 a2 =>
      refine ⟨_, rfl, rfl, _, rfl, iteN (show ¬ V.str ("place" : Str) = V.str ("go" : Str) by decide) ?_⟩
      refine ⟨_, rfl, rfl, _, rfl, iteN (show ¬ V.str ("place" : Str) = V.str ("turn" : Str) by decide) ?_⟩
      refine ⟨_, rfl, rfl, _, rfl, iteN (show ¬ V.str ("place" : Str) = V.str ("mirror" : Str) by decide) ?_⟩
      refine ⟨_, rfl, rfl, _, rfl, iteN (show ¬ V.str ("place" : Str) = V.str ("scale" : Str) by decide) ?_⟩
      refine ⟨_, rfl, rfl, _, rfl, iteN (show ¬ V.str ("place" : Str) = V.str ("aim" : Str) by decide) ?_⟩
      refine ⟨_, rfl, rfl, _, rfl, iteP rfl ?_⟩
      refine ⟨_, rfl, _, rfl, b, _, 2, _, rfl, rfl, SqT.of hb2, atI_nat (j := 2) rfl, _, rfl, _, rfl, _, rfl, _, rfl, small100 (n := 6) (by decide), fun t nt => ?_⟩
      have d := done (l := Cm.mv (.place a1 a2) [x, y, u, v, p, r]) s02 nt (rfl)
      exact q t _ d.1 d.2.1 d.2.2
    | mark =>
      refine ⟨_, rfl, rfl, _, rfl, iteN (show ¬ V.str ("mark" : Str) = V.str ("go" : Str) by decide) ?_⟩
      refine ⟨_, rfl, rfl, _, rfl, iteN (show ¬ V.str ("mark" : Str) = V.str ("turn" : Str) by decide) ?_⟩
      refine ⟨_, rfl, rfl, _, rfl, iteN (show ¬ V.str ("mark" : Str) = V.str ("mirror" : Str) by decide) ?_⟩
      refine ⟨_, rfl, rfl, _, rfl, iteN (show ¬ V.str ("mark" : Str) = V.str ("scale" : Str) by decide) ?_⟩
      refine ⟨_, rfl, rfl, _, rfl, iteN (show ¬ V.str ("mark" : Str) = V.str ("aim" : Str) by decide) ?_⟩
      refine ⟨_, rfl, rfl, _, rfl, iteN (show ¬ V.str ("mark" : Str) = V.str ("place" : Str) by decide) ?_⟩
      refine ⟨_, rfl, rfl, _, rfl, iteP rfl ?_⟩
      refine ⟨_, rfl, _, rfl, _, rfl, _, rfl, _, rfl, _, rfl, small100 (n := 6) (by decide), fun t nt => ?_⟩
      have d := done (l := Cm.mv (.mark) [x, y, u, v, p, r]) s02 nt (rfl)
      exact q t _ d.1 d.2.1 d.2.2
    | ret =>
      refine ⟨_, rfl, rfl, _, rfl, iteN (show ¬ V.str ("return" : Str) = V.str ("go" : Str) by decide) ?_⟩
      refine ⟨_, rfl, rfl, _, rfl, iteN (show ¬ V.str ("return" : Str) = V.str ("turn" : Str) by decide) ?_⟩
      refine ⟨_, rfl, rfl, _, rfl, iteN (show ¬ V.str ("return" : Str) = V.str ("mirror" : Str) by decide) ?_⟩
      refine ⟨_, rfl, rfl, _, rfl, iteN (show ¬ V.str ("return" : Str) = V.str ("scale" : Str) by decide) ?_⟩
      refine ⟨_, rfl, rfl, _, rfl, iteN (show ¬ V.str ("return" : Str) = V.str ("aim" : Str) by decide) ?_⟩
      refine ⟨_, rfl, rfl, _, rfl, iteN (show ¬ V.str ("return" : Str) = V.str ("place" : Str) by decide) ?_⟩
      refine ⟨_, rfl, rfl, _, rfl, iteN (show ¬ V.str ("return" : Str) = V.str ("mark" : Str) by decide) ?_⟩
      refine ⟨_, rfl, rfl, _, rfl, iteP rfl ?_⟩
      refine ⟨_, rfl, _, rfl, _, rfl, _, rfl, _, rfl, _, rfl, small100 (n := 6) (by decide), fun t nt => ?_⟩
      have d := done (l := Cm.mv (.ret) [x, y, u, v, p, r]) s02 nt (rfl)
      exact q t _ d.1 d.2.1 d.2.2
    | exch =>
      refine ⟨_, rfl, rfl, _, rfl, iteN (show ¬ V.str ("exchange" : Str) = V.str ("go" : Str) by decide) ?_⟩
      refine ⟨_, rfl, rfl, _, rfl, iteN (show ¬ V.str ("exchange" : Str) = V.str ("turn" : Str) by decide) ?_⟩
      refine ⟨_, rfl, rfl, _, rfl, iteN (show ¬ V.str ("exchange" : Str) = V.str ("mirror" : Str) by decide) ?_⟩
      refine ⟨_, rfl, rfl, _, rfl, iteN (show ¬ V.str ("exchange" : Str) = V.str ("scale" : Str) by decide) ?_⟩
      refine ⟨_, rfl, rfl, _, rfl, iteN (show ¬ V.str ("exchange" : Str) = V.str ("aim" : Str) by decide) ?_⟩
      refine ⟨_, rfl, rfl, _, rfl, iteN (show ¬ V.str ("exchange" : Str) = V.str ("place" : Str) by decide) ?_⟩
      refine ⟨_, rfl, rfl, _, rfl, iteN (show ¬ V.str ("exchange" : Str) = V.str ("mark" : Str) by decide) ?_⟩
      refine ⟨_, rfl, rfl, _, rfl, iteN (show ¬ V.str ("exchange" : Str) = V.str ("return" : Str) by decide) ?_⟩
      refine ⟨_, rfl, _, rfl, _, rfl, _, rfl, _, rfl, _, rfl, small100 (n := 6) (by decide), fun t nt => ?_⟩
      have d := done (l := Cm.mv (.exch) [x, y, u, v, p, r]) s02 nt (rfl)
      exact q t _ d.1 d.2.1 d.2.2

--SPLIT
def sp__law_is_integer (K : PySem.W.Frag) : Sp := fun vs H Q _ => ∃ z : Int, vs = [.int z] ∧ ∀ H', Same H H' → Q (.bl true) H'
theorem list6 {ps : List Int} (h : ps.length = 6) : [ps.getD 0 0, ps.getD 1 0, ps.getD 2 0, ps.getD 3 0, ps.getD 4 0, ps.getD 5 0] = ps := by
  match ps, h with
  | [a, b, c, d, e, f], _ => rfl
def sp__law_pen (K : PySem.W.Frag) : Sp := fun vs H Q _ => ∃ (p : Addr) (L : Nat), vs = [.ref p] ∧ Pool H p L ∧ 2 ≤ L ∧ L ≤ 64 ∧
  ∀ (q : Addr) (ps : List Int) (H' : Hp), ps.length = 6 → (∀ n ∈ ps, Bd n) → Kp p H H' → Pool H' p L → H q = none → H' q = some (.tup (ps.map V.int)) → Q (.ref q) H'
theorem ok__law_pen (T : Top w K mg) : FnOk P w K mg base CX0 3 T.a__law_pen T.d__law_pen ["_law_pool_here"] (sp__law_pen K) := by
  refine T.F__law_pen.ok sc__law_pen (fun vs H Q E h => ?_) (fun cdv A outer s H vs Q E hr h => ?_)
  · obtain ⟨p, L, rfl, _⟩ := h
    rfl
  · obtain ⟨p, L, rfl, pl, h2, h64, q⟩ := h
    refine ⟨_, (pss_cons (ps_setLc (i := 1) (own := [("_law_k", 2)]) (g := (gName 2)) (tt := tYes) rfl sc__law_pen.nd rfl rfl (sw_true rfl rfl rfl (by decide +kernel)) (pi_range1 (by rfl) T.z_range (pa_cons pe_int pa_nil)) (blkOk_by (N := N__law_pen) (sc := defScope s__law_pen) (by decide +kernel)) (fun _ _ _ _ _ => (pg_name (i := 2) sc__law_pen.nd rfl (Or.inl rfl))) (fun _ _ _ _ _ => pts_nil) (fun _ _ _ _ _ => (pe_call (ok__law_number T) hr (by rfl) T.g__law_number T.F__law_number.kp (b__law_number T) .nil pass0 (pa_cons (pv 0) pa_nil))))
      (pss_one (ps_ret (pe_tup (pa_cons (pe_ix (k_ixL K) (pv 1) pe_int (fun _ _ => rfl)) (pa_cons (pe_ix (k_ixL K) (pv 1) pe_int (fun _ _ => rfl)) (pa_cons (pe_ix (k_ixL K) (pv 1) pe_int (fun _ _ => rfl)) (pa_cons (pe_ix (k_ixL K) (pv 1) pe_int (fun _ _ => rfl)) (pa_cons (pe_ix (k_ixL K) (pv 1) pe_int (fun _ _ => rfl)) (pa_cons (pe_ix (k_ixL K) (pv 1) pe_int (fun _ _ => rfl)) pa_nil)))))))))), ?_⟩
    refine ⟨6, rfl, by decide, by decide, fun D nD => ?_⟩
    have hDp : D ≠ p := pl.ne nD
    refine lc_range (n := 6) (fun i H' => ∃ ps : List Int, ps.length = i ∧ (∀ n ∈ ps, Bd n) ∧ Kp p H H' ∧ Pool H' p L ∧ H' D = some (.lst (ps.map V.int))) ⟨[], rfl, (by intro n hn; cases hn), (Kp.refl p H).new nD, pl.new nD, upd_same⟩ (fun i H' hi h => ?_) (fun H1 h => ?_)
    · obtain ⟨ps, hl, hb, k, pl1, hD⟩ := h
      refine ⟨rfl, _, rfl, p, L, rfl, pl1, h2, h64, fun r J br kJ plJ => ⟨_, kJ _ _ hDp hD, ?_, ps ++ [r], by rw [List.length_append, hl]; rfl, ?_, (k.trans kJ).new nD, plJ.keep hDp, ?_⟩⟩
      · rw [len_map, hl]
        exact small1000 (by omega)
      · intro n hn
        rcases List.mem_append.mp hn with hn | hn
        · exact hb n hn
        · rw [List.mem_singleton.mp hn]
          exact br
      · rw [upd_same, List.map_append]
        rfl
    · obtain ⟨ps, hl, hb, k, pl1, hD⟩ := h
      have at6 : ∀ {t : Nat} {z : Int}, z = (t : Int) → t < 6 → atI (ps.map V.int) z = some (.int (ps.getD t 0)) := fun e ht => at_nat e (by omega)
      have hd := SqL.of (K := K) hD
      refine ⟨_, rfl, D, _, _, _, rfl, rfl, hd, at6 (t := 0) rfl (by decide), _, rfl, D, _, _, _, rfl, rfl, hd, at6 (t := 1) rfl (by decide), _, rfl, D, _, _, _, rfl, rfl, hd, at6 (t := 2) rfl (by decide),
        _, rfl, D, _, _, _, rfl, rfl, hd, at6 (t := 3) rfl (by decide), _, rfl, D, _, _, _, rfl, rfl, hd, at6 (t := 4) rfl (by decide), _, rfl, D, _, _, _, rfl, rfl, hd, at6 (t := 5) rfl (by decide), small100 (n := 6) (by decide), fun t nt => ?_⟩
      have nt0 : H t = none := k.none nt (pl1.ne nt)
      refine q t ps _ hl hb (k.new nt0) (pl1.new nt) nt0 ?_
      rw [upd_same]
      exact congrArg (fun z => some (HO.tup (z.map V.int))) (list6 hl)

--SPLIT
def run (cs : List Cm) (ps : List Int) : List Int := cs.foldl (fun ps c => c.mv ps) ps
theorem run_len : ∀ (cs : List Cm) {ps : List Int}, ps.length = 6 → (run cs ps).length = 6
  | [], _, h => h
  | c :: cs, _, h => run_len cs (mv_len (c := c) h)
/-- a list of commands -/
def Deeds (K : PySem.W.Frag) (H : Hp) (d : Addr) (cs : List Cm) : Prop := ∃ as : List Addr, as.length = cs.length ∧ SqL K H d (as.map V.ref) ∧ ∀ (i : Nat) (a : Addr) (c : Cm), as[i]? = some a → cs[i]? = some c → H a = some (.tup c.vals) ∧ c.ok
theorem Deeds.same {K : PySem.W.Frag} {H J : Hp} {d : Addr} {cs : List Cm} (h : Deeds K H d cs) (s : Same H J) : Deeds K J d cs := by
  obtain ⟨as, hl, hd, ha⟩ := h
  exact ⟨as, hl, s.seq hd, fun i a c e1 e2 => ⟨s _ _ (ha i a c e1 e2).1, (ha i a c e1 e2).2⟩⟩
theorem Deeds.at {K : PySem.W.Frag} {H : Hp} {d : Addr} {cs : List Cm} (h : Deeds K H d cs) : ∃ as : List Addr, as.length = cs.length ∧ SqL K H d (as.map V.ref) ∧ ∀ (i : Nat) (x : V), (as.map V.ref)[i]? = some x → ∃ a c, x = .ref a ∧ cs[i]? = some c ∧ H a = some (.tup c.vals) ∧ c.ok := by
  obtain ⟨as, hl, hd, ha⟩ := h
  refine ⟨as, hl, hd, fun i x e => ?_⟩
  have hi := (List.getElem?_eq_some_iff.mp e).1
  rw [List.length_map] at hi
  rw [List.getElem?_map, List.getElem?_eq_getElem hi] at e
  cases e
  have e2 : cs[i]? = some cs[i] := List.getElem?_eq_getElem (by omega)
  exact ⟨_, _, rfl, e2, ha i _ _ (List.getElem?_eq_getElem hi) e2⟩
theorem run_snoc (cs : List Cm) {i : Nat} {c : Cm} (h : cs[i]? = some c) (ps : List Int) : run (cs.take (i + 1)) ps = c.mv (run (cs.take i) ps) := by
  unfold run
  rw [List.take_add_one, h, List.foldl_append]
  rfl
theorem word_ne (c : Cm) : c.word ≠ ("hold" : Str) ∧ c.word ≠ ("shut" : Str) := by
  cases c <;> (simp only [Cm.word]; exact ⟨by decide, by decide⟩)
def sp__law_pens (K : PySem.W.Frag) : Sp := fun vs H Q _ => ∃ (d b : Addr) (cs : List Cm) (ps : List Int), vs = [.ref d, .ref b] ∧ Deeds K H d cs ∧ cs.length ≤ 100 ∧ H b = some (.tup (ps.map V.int)) ∧ ps.length = 6 ∧
  ∀ (q : Addr) (x : V) (b' : Addr) (H' : Hp), Same H H' → H q = none → H' q = some (.lst [x, .ref b']) → H' b' = some (.tup ((run cs ps).map V.int)) → Q (.ref q) H'
theorem ok__law_pens (T : Top w K mg) : FnOk P w K mg base CX0 2 T.a__law_pens T.d__law_pens ["_law_deeds", "_law_begin"] (sp__law_pens K) := by
  refine T.F__law_pens.ok sc__law_pens (fun vs H Q E h => ?_) (fun cdv A outer s H vs Q E hr h => ?_)
  · obtain ⟨d, b, cs, ps, rfl, _⟩ := h
    rfl
  · obtain ⟨d, b, cs, ps, rfl, hd, hcl, hb, hl, q⟩ := h
    refine ⟨_, (pss_cons (ps_set (i := 2) sc__law_pens.nd rfl (Or.inl rfl) (pe_lst pa_nil))
      (pss_cons (ps_set (i := 3) sc__law_pens.nd rfl (Or.inl rfl) (pe_lst pa_nil))
      (pss_cons (ps_for PassesOwn.never rfl (k_piL K (pv 0)) (pg_name (i := 4) sc__law_pens.nd rfl (Or.inl rfl)) (pss_one (ps_if (pt_cmpR op_eq (pe_ix (k_ixT K) (pv 4) pe_int (fun _ _ => rfl)) pe_str (nomark _)) (pss_one (ps_expr (pe_bm PySem.F.plainAttrs_list PySem.F.slot_list_append PySem.F.type_list_append mt_append (pv 3) (pa_cons (pv 1) pa_nil)))) (pss_one (ps_if (pt_cmpR op_eq (pe_ix (k_ixT K) (pv 4) pe_int (fun _ _ => rfl)) pe_str (nomark _)) (pss_one ps_never) (pss_cons (ps_set (i := 1) sc__law_pens.nd rfl (Or.inl rfl) (pe_call (ok__law_move T) hr (by rfl) T.g__law_move T.F__law_move.kp (b__law_move T) .nil pass0 (pa_cons (pv 1) (pa_cons (pv 4) pa_nil))))
            (pss_one (ps_expr (pe_bm PySem.F.plainAttrs_list PySem.F.slot_list_append PySem.F.type_list_append mt_append (pv 2) (pa_cons (pv 1) pa_nil))))))))))
      (pss_one (ps_ret (pe_lst (pa_cons (pv 2) (pa_cons (pv 1) pa_nil)))))))), ?_⟩
    refine ⟨Nat.zero_le _, fun A1 n1 => ?_⟩
    have s1 := same_upd (o := .lst []) n1
    have h1 : (upd H A1 (.lst [])) A1 = some (.lst []) := upd_same
    generalize upd H A1 (.lst []) = H1 at *
    refine ⟨Nat.zero_le _, fun A2 n2 => ?_⟩
    have s2 := same_upd (o := .lst []) n2
    have h1 := s2 _ _ h1
    have s02 := s1.trans s2
    generalize upd H1 A2 (.lst []) = H2 at *
    obtain ⟨as, hal, hds, hat⟩ := hd.at
    refine ⟨_, rfl, d, rfl, ⟨_, s02.seq hds⟩, for_list (xs := as.map V.ref) (fun i σ H' => ∃ (b' : Addr) (y : Option V) (zs : List V), σ = [some (.ref d), some (.ref b'), some (.ref A1), some (.ref A2), y] ∧ Same H H' ∧ zs.length = i ∧ H' A1 = some (.lst zs) ∧ H' b' = some (.tup ((run (cs.take i) ps).map V.int))) ?_ (fun i σ H' hi h => ?_) (fun i x σ H' hx h => ?_) (fun σ H' h => ?_)⟩
    · exact ⟨b, none, [], rfl, s02, rfl, h1, s02 _ _ hb⟩
    · obtain ⟨b', y, zs, rfl, sm, _⟩ := h
      exact sm.seq hds
    · obtain ⟨b', y, zs, rfl, sm, hzl, hz, hb'⟩ := h
      obtain ⟨a, c, rfl, hc, ha, ok⟩ := hat i x hx
      have hi := (List.getElem?_eq_some_iff.mp hc).1
      have ha := sm _ _ ha
      refine ⟨_, rfl, a, _, 0, _, rfl, rfl, SqT.of ha, atI_nat (j := 0) rfl, rfl, _, rfl, iteN (fun e => (word_ne c).1 (V.str.inj e)) ?_⟩
      refine ⟨_, rfl, a, _, 0, _, rfl, rfl, SqT.of ha, atI_nat (j := 0) rfl, rfl, _, rfl, iteN (fun e => (word_ne c).2 (V.str.inj e)) ?_⟩
      refine ⟨_, rfl, _, rfl, b', a, _, c, rfl, hb', run_len _ hl, ha, ok, fun r J s nr hr => ?_⟩
      have nr1 : r ≠ A1 := (ne_of_none hz nr).symm
      have hz := s _ _ hz
      refine ⟨_, rfl, .inl ⟨rfl, _, SqL.of hz⟩, _, rfl, A1, _, _, rfl, rfl, hz, by rw [hzl]; exact small1000 (by omega), ?_⟩
      refine ⟨r, _, zs ++ [.ref r], rfl, same_new (sm.trans s) n1, by rw [List.length_append, hzl]; rfl, upd_same, ?_⟩
      rw [upd_ne nr1, run_snoc cs hc]
      exact hr
    · obtain ⟨b', y, zs, rfl, sm, hzl, hz, hb'⟩ := h
      refine ⟨_, rfl, _, rfl, small100 (n := 2) (by decide), fun t nt => ?_⟩
      have e : cs.take (as.map V.ref).length = cs := List.take_of_length_le (by rw [List.length_map]; omega)
      rw [e] at hb'
      exact q t _ b' _ (same_new sm (sm.free nt)) (sm.free nt) upd_same (by rw [upd_ne (ne_of_none hb' nt)]; exact hb')

def sp__law_probe (K : PySem.W.Frag) : Sp := fun vs H Q _ => ∃ (d : Addr) (cs : List Cm), vs = [.ref d] ∧ Deeds K H d cs ∧ cs.length ≤ 100 ∧
  ∀ (q : Addr) (H' : Hp), Same H H' → H q = none → H' q = some (.lst ((matL (run cs)).map V.int)) → Q (.ref q) H'
def Imgs (H : Hp) (D : Addr) (bs : List Addr) (F : Nat → List Int) : Prop := H D = some (.lst (bs.map V.ref)) ∧ ∀ (j : Nat) (b : Addr), bs[j]? = some b → H b = some (.tup ((F j).map V.int))
theorem Imgs.same {H J : Hp} {D : Addr} {bs : List Addr} {F : Nat → List Int} (h : Imgs H D bs F) (s : Same H J) : Imgs J D bs F := ⟨s _ _ h.1, fun j b e => s _ _ (h.2 j b e)⟩
theorem Imgs.push {J : Hp} {D q : Addr} {bs : List Addr} {F : Nat → List Int} (h : Imgs J D bs F) (hq : J q = some (.tup ((F bs.length).map V.int))) : Imgs (upd J D (.lst (bs.map V.ref ++ [.ref q]))) D (bs ++ [q]) F := by
  refine ⟨by rw [upd_same, List.map_append]; rfl, fun j b e => ?_⟩
  have nD : ∀ {b : Addr} {l : List V}, J b = some (.tup l) → b ≠ D := fun hb => ne_of hb h.1 (fun z => nomatch z)
  rw [List.getElem?_append] at e
  split at e
  · have hb := h.2 j b e
    rw [upd_ne (nD hb)]
    exact hb
  · rename_i hj
    have hj2 := (List.getElem?_eq_some_iff.mp e).1
    have ej : j = bs.length := by
      rw [List.length_cons, List.length_nil] at hj2
      omega
    subst ej
    rw [Nat.sub_self] at e
    cases e
    rw [upd_ne (nD hq)]
    exact hq
theorem ok__law_probe (T : Top w K mg) : FnOk P w K mg base CX0 3 T.a__law_probe T.d__law_probe ["_law_deeds"] (sp__law_probe K) := by
  refine T.F__law_probe.ok sc__law_probe (fun vs H Q E h => ?_) (fun cdv A outer s H vs Q E hr h => ?_)
  · obtain ⟨d, cs, rfl, _⟩ := h
    rfl
  · obtain ⟨d, cs, rfl, hd, hcl, q⟩ := h
    refine ⟨_, (pss_cons (ps_set (i := 1) sc__law_probe.nd rfl (Or.inl rfl) (pe_ix (k_ixL K) (pe_call (ok__law_pens T) hr (by rfl) T.g__law_pens T.F__law_pens.kp (b__law_pens T) .nil pass0 (pa_cons (pv 0) (pa_cons (pe_tup (pa_cons pe_int (pa_cons pe_int (pa_cons pe_int (pa_cons pe_int (pa_cons pe_int (pa_cons pe_int pa_nil))))))) pa_nil))) pe_int (fun _ _ => rfl)))
      (pss_cons (ps_setLc (i := 3) (own := [("_law_j", 2)]) (g := (gName 2)) (tt := tYes) rfl sc__law_probe.nd rfl rfl (sw_true rfl rfl rfl (by decide +kernel)) (pi_range1 (by rfl) T.z_range (pa_cons pe_int pa_nil)) (blkOk_by (N := N__law_probe) (sc := defScope s__law_probe) (by decide +kernel)) (fun _ _ _ _ _ => (pg_name (i := 2) sc__law_probe.nd rfl (Or.inr rfl))) (fun _ _ _ _ _ => pts_nil) (fun _ _ _ _ _ => (pe_ix (k_ixL K) (pe_call (ok__law_pens T) hr (by rfl) T.g__law_pens T.F__law_pens.kp (b__law_pens T) .nil pass0 (pa_cons (pv 0) (pa_cons (pe_callTy (k_tuple K) (by rfl) T.z_tuple bt_tuple (pa_cons (pe_lc (own := [("_law_k", 6)]) (g := (gName 6)) (tt := tYes) rfl sc__law_probe.nd (pi_range1 (by rfl) T.z_range (pa_cons pe_int pa_nil)) (blkOk_by (N := N__law_probe) (sc := (relS ({ kind := .function, names := [(".0", .local), ("_law_j", .cell), ("_law_pens", .globalImplicit), ("tuple", .globalImplicit), ("range", .globalImplicit), ("_law_deeds", .free)], isGenerator := false, isCoroutine := false } : Scope) (defScope s__law_probe))) (by decide +kernel)) (fun _ _ _ _ _ => (pg_name (i := 6) sc__law_probe.nd rfl (Or.inl rfl))) (fun _ _ _ _ _ => pts_nil) (fun _ _ _ _ _ => (pe_callTy call_intB (by rfl) T.z_int bt_int (pa_cons (pe_cmpR op_eq (pv 6) (pv 2) (nomark _)) pa_nil)))) pa_nil)) pa_nil))) pe_int (fun _ _ => rfl))))
      (pss_cons (ps_set (i := 4) sc__law_probe.nd rfl (Or.inl rfl) (pe_lst (pa_cons pe_int (pa_cons pe_int (pa_cons pe_int (pa_cons pe_int (pa_cons pe_int (pa_cons pe_int (pa_cons pe_int pa_nil)))))))))
      (pss_cons (ps_for PassesOwn.never rfl (pi_range1 (by rfl) T.z_range (pa_cons pe_int pa_nil)) (pg_name (i := 5) sc__law_probe.nd rfl (Or.inl rfl)) (pss_cons (ps_expr (pe_bm PySem.F.plainAttrs_list PySem.F.slot_list_append PySem.F.type_list_append mt_append (pv 4) (pa_cons (pe_ix (k_ixT K) (pv 1) (pv 5) (fun _ _ => rfl)) pa_nil)))
        (pss_one (ps_for PassesOwn.never rfl (pi_range1 (by rfl) T.z_range (pa_cons pe_int pa_nil)) (pg_name (i := 2) sc__law_probe.nd rfl (Or.inl rfl)) (pss_one (ps_expr (pe_bm PySem.F.plainAttrs_list PySem.F.slot_list_append PySem.F.type_list_append mt_append (pv 4) (pa_cons (pe_op op_sub (pe_ix (k_ixT K) (pe_ix (k_ixL K) (pv 3) (pv 2) (fun _ _ => rfl)) (pv 5) (fun _ _ => rfl)) (pe_ix (k_ixT K) (pv 1) (pv 5) (fun _ _ => rfl))) pa_nil))))))))
      (pss_one (ps_ret (pv 4))))))), ?_⟩
    refine ⟨_, rfl, small100 (n := 6) (by decide), fun z nz => ?_⟩
    have ez : (HO.tup [V.int 0, .int 0, .int 0, .int 0, .int 0, .int 0]) = .tup (Z6.map V.int) := rfl
    rw [ez]
    have s1 := same_upd (o := .tup (Z6.map V.int)) nz
    have hz : (upd H z (.tup (Z6.map V.int))) z = some (.tup (Z6.map V.int)) := upd_same
    generalize upd H z (.tup (Z6.map V.int)) = H1 at *
    refine ⟨d, z, cs, Z6, rfl, hd.same s1, hcl, hz, rfl, fun l x o H2 s2 nl hl ho => ?_⟩
    refine ⟨l, _, 1, _, rfl, rfl, SqL.of hl, atI_nat (j := 1) rfl, ?_⟩
    have s02 := s1.trans s2
    have lo : (run cs Z6).length = 6 := run_len cs rfl
    refine ⟨6, rfl, by decide, by decide, fun D nD => lc_range (n := 6) (fun i H' => Same H2 H' ∧ ∃ bs : List Addr, bs.length = i ∧ Imgs H' D bs (fun j => run cs (E6 j))) ⟨same_upd nD, [], rfl, upd_same, fun j b e => by simp at e⟩ (fun i H' hi h => ?_) (fun H3 h => ?_)⟩
    · obtain ⟨sm, bs, hbl, hI⟩ := h
      refine ⟨rfl, _, rfl, 6, rfl, by decide, by decide, fun C nC => lc_range (n := 6) (fun k J => Same H' J ∧ J C = some (.lst (((List.range k).map fun k => if k = i then (1 : Int) else 0).map V.int))) ⟨same_upd nC, upd_same⟩ (fun k J hk h => ?_) (fun J h => ?_)⟩
      · obtain ⟨sJ, hC⟩ := h
        refine ⟨rfl, _, rfl, _, rfl, rfl, _, rfl, _, hC, ?_, same_new sJ nC, ?_⟩
        · rw [List.length_map, List.length_map, List.length_range]
          exact small1000 (by omega)
        · rw [upd_same, eqI_if k i _ _ (by omega) (by omega)]
          exact congrArg (fun z => some (HO.lst z)) (range_snoc (fun k => if k = i then (1 : Int) else 0) k)
      · obtain ⟨sJ, hC⟩ := h
        refine ⟨C, _, rfl, SqL.of hC, fun t nt => ?_⟩
        have st := same_upd (o := .tup ((E6 i).map V.int)) nt
        have ht : (upd J t (.tup ((E6 i).map V.int))) t = some (.tup ((E6 i).map V.int)) := upd_same
        have et : (HO.tup (((List.range 6).map fun k => if k = i then (1 : Int) else 0).map V.int)) = .tup ((E6 i).map V.int) := rfl
        rw [et]
        generalize upd J t (.tup ((E6 i).map V.int)) = J2 at *
        have s3 := sm.trans (sJ.trans st)
        refine ⟨d, t, cs, E6 i, rfl, hd.same (s02.trans s3), hcl, ht, E6_len i, fun l2 x2 b2 J3 s4 nl2 hl2 hb2 => ?_⟩
        have sJ3 := sJ.trans (st.trans s4)
        have hI3 := hI.same sJ3
        refine ⟨l2, _, 1, _, rfl, rfl, SqL.of hl2, atI_nat (j := 1) rfl, _, hI3.1, ?_, same_new (sm.trans sJ3) nD, bs ++ [b2], by rw [List.length_append, hbl]; rfl, hI3.push (by rw [hbl]; exact hb2)⟩
        rw [List.length_map, hbl]
        exact small1000 (by omega)
    · obtain ⟨s3, bs, hbl, hI⟩ := h
      have s03 := s02.trans s3
      have ho := s3 _ _ ho
      let g : Nat → Int := fun t => mcell (run cs) (t / 7) (t % 7)
      refine ⟨small100 (n := 7) (by decide), fun M nM => ?_⟩
      have e7 : [V.int 1, .int 0, .int 0, .int 0, .int 0, .int 0, .int 0] = ((List.range 7).map g).map V.int := rfl
      rw [e7]
      refine ⟨6, rfl, by decide, by decide, for_range (n := 6) (fun i σ H' => ∃ (y z : Option V), σ = [some (.ref d), some (.ref o), y, some (.ref D), some (.ref M), z, none] ∧ Same H3 H' ∧ H' M = some (.lst (((List.range (7 * (i + 1))).map g).map V.int))) ?_ (fun i σ H' hi h => ?_) (fun σ H' h => ?_)⟩
      · exact ⟨none, none, rfl, same_upd nM, upd_same⟩
      · obtain ⟨y, zz, rfl, sm, hM⟩ := h
        have hsz : ∀ n, n ≤ 60 → (((List.range n).map g).map V.int).length < sizeLine := fun n hn => by
          rw [List.length_map, List.length_map, List.length_range]
          exact small1000 (by omega)
        refine ⟨_, rfl, .inl ⟨rfl, _, SqL.of hM⟩, _, rfl, _, rfl, o, _, _, _, rfl, rfl, SqT.of (sm _ _ ho), at_nat (t := i) (by omega) (by omega), M, _, _, rfl, rfl, hM, hsz _ (by omega), ?_⟩
        have eg0 : g (7 * (i + 1)) = (run cs Z6).getD i 0 := by
          show mcell (run cs) (7 * (i + 1) / 7) (7 * (i + 1) % 7) = _
          rw [show 7 * (i + 1) / 7 = i + 1 by omega, show 7 * (i + 1) % 7 = 0 by omega]
          rfl
        rw [← eg0, range_snoc]
        refine ⟨6, rfl, by decide, by decide, for_range (n := 6) (fun j σ H' => ∃ (y : Option V), σ = [some (.ref d), some (.ref o), y, some (.ref D), some (.ref M), some (.int (0 + i)), none] ∧ Same H3 H' ∧ H' M = some (.lst (((List.range (7 * (i + 1) + 1 + j)).map g).map V.int))) ?_ (fun j σ H' hj h => ?_) (fun σ H' h => ?_)⟩
        · exact ⟨y, rfl, same_new sm nM, upd_same⟩
        · obtain ⟨y, rfl, sm, hM⟩ := h
          obtain ⟨b, eb, eb2⟩ := getRef (ps := bs) (i := j) (by omega)
          have hI' := hI.same sm
          have lb : (run cs (E6 j)).length = 6 := run_len cs (E6_len j)
          refine ⟨_, rfl, .inl ⟨rfl, _, SqL.of hM⟩, _, rfl, _, rfl, D, _, _, _, rfl, rfl, SqL.of hI'.1, at_of (j := j) (by omega) eb2, _, rfl, b, _, _, _, rfl, rfl, SqT.of (hI'.2 _ _ eb), at_nat (t := i) (by omega) (by rw [lb]; exact hi), _, rfl, _, rfl, o, _, _, _, rfl, rfl, SqT.of (sm _ _ ho), at_nat (t := i) (by omega) (by omega), _, _, rfl, rfl, M, _, _, rfl, rfl, hM, hsz _ (by omega), ?_⟩
          have eg : g (7 * (i + 1) + 1 + j) = (run cs (E6 j)).getD i 0 - (run cs Z6).getD i 0 := by
            show mcell (run cs) ((7 * (i + 1) + 1 + j) / 7) ((7 * (i + 1) + 1 + j) % 7) = _
            rw [show (7 * (i + 1) + 1 + j) / 7 = i + 1 by omega, show (7 * (i + 1) + 1 + j) % 7 = j + 1 by omega]
            rfl
          dsimp only
          rw [← eg, range_snoc]
          exact ⟨_, rfl, same_new sm nM, upd_same⟩
        · obtain ⟨y, rfl, sm, hM⟩ := h
          exact ⟨_, _, rfl, sm, by rw [hM]; rfl⟩
      · obtain ⟨y, zz, rfl, sm, hM⟩ := h
        exact ⟨_, rfl, q M H' (s03.trans sm) (s03.free nM) hM⟩

--SPLIT
/-! ### runs of plain bodies -/
theorem runE_done {bs : List (List Stm)} {bits : List Bool} {s : ESt} (h : s.left = []) : ∀ n, runE bs bits n s = .go s
  | 0 => by unfold runE; rw [h]; rfl
  | n + 1 => by unfold runE; rw [h]
theorem runE_cons {bs : List (List Stm)} {bits : List Bool} {s s' : ESt} {x : Th} {r : List Th} {n : Nat} (h : s.left = x :: r) (e : stepE bs bits x { s with left := r } = .go s') : runE bs bits (n + 1) s = runE bs bits n s' := by
  conv => lhs; unfold runE
  rw [h]
  dsimp only
  rw [e]
theorem runE_cmds {bs : List (List Stm)} {bits : List Bool} : ∀ (cs : List Cm) (n : Nat) (s : ESt) (r : List Th), s.left = (cs.map Stm.cmd).map Th.st ++ r → runE bs bits (cs.length + n) s = runE bs bits n { s with left := r, deeds := s.deeds ++ cs.map Dd.cmd }
  | [], n, s, r, h => by
    have h : s.left = r := h
    rw [List.length_nil, Nat.zero_add, List.map_nil, List.append_nil, ← h]
  | c :: cs, n, s, r, h => by
    rw [List.length_cons, show cs.length + 1 + n = (cs.length + n) + 1 by omega, runE_cons (s' := { s with left := (cs.map Stm.cmd).map Th.st ++ r, deeds := s.deeds ++ [.cmd c] }) h rfl, runE_cmds cs n _ r rfl]
    dsimp only
    rw [List.append_assoc]
    rfl
theorem unwL_sts : ∀ (r : List Stm) (q : List Th) (ds : List Dd), unwL (r.map Th.st ++ q) ds = unwL q ds
  | [], q, ds => rfl
  | z :: r, q, ds => unwL_sts r q ds
/-- the end, if there is one, and what stands behind it -/
def tailS : Option (Bool × List Stm) → List Stm
  | none => []
  | some (w, r) => .fin w :: r
def tailW : Option (Bool × List Stm) → Int
  | none => 0
  | some (w, _) => wayN w
theorem runO_plain (cs : List Cm) (o : Option (Bool × List Stm)) (bits : List Bool) : runO [cs.map Stm.cmd ++ tailS o] bits (cs.length + 3) 0 = finE bits (.go ⟨0, [], [[]], cs.map Dd.cmd, tailW o⟩) := by
  unfold runO
  congr 1
  have e1 : stepE [cs.map Stm.cmd ++ tailS o] bits (.st (.call 0 false [] [])) { startE 0 (initE [cs.map Stm.cmd ++ tailS o]) with left := [] } = .go ⟨0, (cs.map Stm.cmd ++ tailS o).map Th.st ++ [.beh 0 false [] []], [[0]], [], 0⟩ := rfl
  rw [show cs.length + 3 = (cs.length + 2) + 1 by omega, runE_cons rfl e1]
  rw [runE_cmds cs 2 _ ((tailS o).map Th.st ++ [.beh 0 false [] []]) (by simp)]
  dsimp only
  match o with
  | none =>
    rw [show (2 : Nat) = 1 + 1 from rfl, runE_cons (s' := ⟨0, [], [[]], cs.map Dd.cmd, 0⟩) rfl (by simp [stepE, leaveE, wayN]), runE_done rfl]
    rfl
  | some (w, r) =>
    rw [show (2 : Nat) = 1 + 1 from rfl, runE_cons (s' := ⟨0, [], [[]], cs.map Dd.cmd, wayN w⟩) rfl ?_, runE_done rfl]
    · rfl
    · show unwindE w _ = _
      unfold unwindE
      dsimp only
      rw [show (r.map Th.st).append [Th.beh 0 false [] []] = r.map Th.st ++ [Th.beh 0 false [] []] from rfl, unwL_sts]
      simp [unwL, leaveE]
theorem penFold_cmds : ∀ (cs : List Cm) (h : List (List Int)) (p : List Int), penFold (cs.map Dd.cmd) (h, p) = (h, run cs p)
  | [], h, p => rfl
  | c :: cs, h, p => penFold_cmds cs h (c.mv p)
theorem penEnd_cmds (cs : List Cm) (p : List Int) : penEnd (cs.map Dd.cmd) p = run cs p := by
  unfold penEnd
  rw [penFold_cmds]
theorem dep_cmds : ∀ (cs : List Cm) (n : Nat), depD (cs.map Dd.cmd) n = some n
  | [], n => rfl
  | c :: cs, n => dep_cmds cs n
theorem good_cmds {cs : List Cm} (hl : cs.length ≤ 900) (ok : ∀ c ∈ cs, c.ok) (t : Nat) (l : List Th) (b : List (List Nat)) (w : Int) : GoodE ⟨t, l, b, cs.map Dd.cmd, w⟩ := by
  refine ⟨by show (cs.map Dd.cmd).length ≤ 900; rw [List.length_map]; exact hl, fun d hd => ?_, 0, dep_cmds cs 0⟩
  obtain ⟨c, hc, rfl⟩ := List.mem_map.mp hd
  exact ok c hc
theorem cmdsN_cmds (cs : List Cm) (t : Nat) (l : List Th) (b : List (List Nat)) (w : Int) : cmdsN ⟨t, l, b, cs.map Dd.cmd, w⟩ = cs.length := by
  unfold cmdsN
  dsimp only
  rw [List.filter_map, List.length_map, show cs.filter (Dd.isC ∘ Dd.cmd) = cs from List.filter_eq_self.mpr fun c _ => rfl]

--SPLIT
/-! ### the law's list of commands -/
def BareV (H : Hp) (q : Addr) (cs : List Cm) : Prop := ∃ xs, H q = some (.lst xs) ∧ TrAll (fun _ => False) H (cs.map Cm.d) xs ∧ ∀ c ∈ cs, c.ok
theorem pool_tr {H H' : Hp} {p : Addr} {L : Nat} (pl : Pool H p L) (k : Kp p H H') {ds : List PyData} {xs : List V} (t : TrAll (fun _ => False) H ds xs) : TrAll (fun _ => False) H' ds xs := by
  obtain ⟨n, hp, _⟩ := pl
  exact TrAll.kpl (KpL.kp (M := fun a => a = p) k rfl ⟨_, hp⟩) (fun _ h => h.elim) _ _ t
theorem BareV.kp {H H' : Hp} {p q : Addr} {L : Nat} {cs : List Cm} (pl : Pool H p L) (k : Kp p H H') (n : q ≠ p) (b : BareV H q cs) : BareV H' q cs := by
  obtain ⟨xs, h, t, o⟩ := b
  exact ⟨xs, k _ _ n h, pool_tr pl k t, o⟩
theorem BareV.same {H H' : Hp} {q : Addr} {cs : List Cm} (s : Same H H') (b : BareV H q cs) : BareV H' q cs := by
  obtain ⟨xs, h, t, o⟩ := b
  exact ⟨xs, s _ _ h, t.same s, o⟩
theorem BareV.deeds {K : PySem.W.Frag} {H : Hp} {q : Addr} {cs : List Cm} (b : BareV H q cs) : Deeds K H q cs := by
  obtain ⟨xs, h, t, o⟩ := b
  have all : ∀ (cs : List Cm) (xs : List V), TrAll (fun _ => False) H (cs.map Cm.d) xs → ∃ as : List Addr, as.length = cs.length ∧ xs = as.map V.ref ∧ ∀ (i : Nat) (a : Addr) (c : Cm), as[i]? = some a → cs[i]? = some c → H a = some (.tup c.vals) := by
    intro cs
    induction cs with
    | nil => intro xs h; cases h; exact ⟨[], rfl, rfl, fun i a c e _ => by cases e⟩
    | cons c r ih =>
      rintro _ ⟨x, us, rfl, tx, tu⟩
      obtain ⟨as, l, e, h⟩ := ih us tu
      obtain ⟨b, rfl, hb⟩ := tr_cm tx
      subst e
      refine ⟨b :: as, by rw [List.length_cons, List.length_cons, l], rfl, fun i a c' e1 e2 => ?_⟩
      cases i with
      | zero => cases e1; cases e2; exact hb
      | succ i => exact h i a c' e1 e2
  obtain ⟨as, l, e, h2⟩ := all cs xs t
  subst e
  exact ⟨as, l, SqL.of h, fun i a c e1 e2 => ⟨h2 i a c e1 e2, o c (List.mem_of_getElem? e2)⟩⟩
def sp__law_bare (K : PySem.W.Frag) : Sp := fun vs H Q _ => ∃ (p : Addr) (L : Nat), vs = [.ref p] ∧ Pool H p L ∧ 2 ≤ L ∧ L ≤ 64 ∧
  ∀ (q : Addr) (cs : List Cm) (H' : Hp), cs.length ≤ 8 → Kp p H H' → Pool H' p L → H q = none → BareV H' q cs → Q (.ref q) H'
theorem ok__law_bare (T : Top w K mg) : FnOk P w K mg base CX0 3 T.a__law_bare T.d__law_bare ["_law_pool_here"] (sp__law_bare K) := by
  refine T.F__law_bare.ok sc__law_bare (fun vs H Q E h => ?_) (fun cdv A outer s H vs Q E hr h => ?_)
  · obtain ⟨p, L, rfl, _⟩ := h
    rfl
  · obtain ⟨p, L, rfl, pl, h2, h64, q⟩ := h
    refine ⟨_, (pss_cons (ps_set (i := 1) sc__law_bare.nd rfl (Or.inl rfl) (pe_call (ok__law_draw T) (hr.mono (by decide)) (by rfl) T.g__law_draw T.F__law_draw.kp (b__law_draw T) .nil pass0 (pa_cons (pv 0) (pa_cons pe_int pa_nil))))
      (pss_one (ps_ret (pe_lc (own := [("_law_k", 2)]) (g := (gName 2)) (tt := tYes) rfl sc__law_bare.nd (pi_range1 (by rfl) T.z_range (pa_cons (pv 1) pa_nil)) (blkOk_by (N := N__law_bare) (sc := defScope s__law_bare) (by decide +kernel)) (fun _ _ _ _ _ => (pg_name (i := 2) sc__law_bare.nd rfl (Or.inl rfl))) (fun _ _ _ _ _ => pts_nil) (fun _ _ _ _ _ => (pe_call (ok__law_any_command T) hr (by rfl) T.g__law_any_command T.F__law_any_command.kp (b__law_any_command T) .nil pass0 (pa_cons (pv 0) pa_nil))))))), ?_⟩
    refine ⟨_, rfl, p, L, 9, rfl, pl, h2, h64, by decide, by decide, fun k H1 k0 k9 e1 pl1 => ?_⟩
    refine ⟨_, rfl, k, rfl, by omega, by omega, fun D nD => ?_⟩
    have nDp : D ≠ p := pl1.ne nD
    refine lc_range (n := k.toNat) (fun i H' => ∃ cs : List Cm, cs.length = i ∧ Kp p H H' ∧ Pool H' p L ∧ BareV H' D cs) ⟨[], rfl, e1.new (e1.none nD nDp), pl1.new nD, [], upd_same, rfl, fun c h => by cases h⟩ (fun i H' hi h => ?_) (fun H' h => ?_)
    · obtain ⟨cs, hl, e2, pl2, bv⟩ := h
      refine ⟨rfl, _, rfl, p, L, rfl, pl2, h2, h64, fun q c J ok e3 pl3 nq hq => ?_⟩
      obtain ⟨xs, hD, t, o⟩ := bv.kp pl2 e3 nDp
      have lx := t.len
      rw [List.length_map] at lx
      have nqD : q ≠ D := fun e => by rw [e, hD] at hq; cases hq
      refine ⟨xs, hD, small1000 (by omega), cs ++ [c], by rw [List.length_append, hl]; rfl, (e2.trans e3).new (e1.none nD nDp), pl3.keep nDp, xs ++ [.ref q], upd_same, ?_, fun c' h => ?_⟩
      · have up : ∀ b o', ((∃ xs, o' = HO.lst xs) ∧ False) ∨ (∃ xs, o' = HO.tup xs) ∨ (∃ kvs, o' = HO.dK kvs) → J b = some o' → (upd J D (.lst (xs ++ [.ref q]))) b = some o' := fun b o' h e => by
          rw [upd_ne (fun z => ?_)]
          · exact e
          · rw [z, hD] at e
            cases e
            rcases h with ⟨_, h⟩ | ⟨_, h⟩ | ⟨_, h⟩
            · exact h
            · cases h
            · cases h
        rw [List.map_append]
        exact TrAll.hold up _ _ (t.append (TrAll.one (cmd_tr hq)))
      · rcases List.mem_append.mp h with h | h
        · exact o c' h
        · rw [List.mem_singleton.mp h]; exact ok
    · obtain ⟨cs, hl, e2, pl2, bv⟩ := h
      exact q D cs H' (by omega) e2 pl2 (e1.none nD nDp) bv

--SPLIT
theorem passX0 {X : Cx} : Passes (L2.CX X.prog X.w) X E0 := fun _ _ _ _ _ _ _ ⟨_, _, _, _, _, _, _, _, _, _, _, _, h⟩ => h.elim
def sp__law_refused (CB : Addr) : Sp := fun vs H Q _ => ∃ (S S2 : Addr → Prop) (a : Addr) (bs : List (List Stm)) (bits : List Bool) (vb : V) (n : Nat) (i : Int), vs = [.ref a, vb] ∧ BookV S CB H a bs ∧ OkBook bs ∧ Tr S2 H (.list (bits.map bitD)) vb ∧ n ≤ 20000 ∧ runO bs bits n 0 = .no i ∧
  ∀ (q : Addr) (H' : Hp), Same H H' → H q = none → H' q = some (.tup [.str "NoRun", .int i]) → Q (.ref q) H'
theorem ok__law_refused (T : Top w K mg) : FnOk P w K mg base CX0 14 T.a__law_refused T.d__law_refused ["_law_book", "_law_bits"] (sp__law_refused T.C_Book) := by
  refine T.F__law_refused.ok sc__law_refused (fun vs H Q E h => ?_) (fun cdv A outer sh H vs Q E hr h => ?_)
  · obtain ⟨S, S2, a, bs, bits, vb, n, i, rfl, _⟩ := h
    rfl
  · obtain ⟨S, S2, a, bs, bits, vb, n, i, rfl, hb, ho, hv, hn, er, q⟩ := h
    refine ⟨_, (pss_cons (ps_try_as (i := 3) (tb := fun W => tAsg (tCallSD (sp_ran K T.C_Book T.C_NoRun T.a_NoProcedure T.a_NoPen) [.ref T.a_HOME] (WE W) (tCons (tVar 0) (tCons (tC (.int 0)) (tCons (tVar 1) tNil)))) (gName 2)) (ts := fun a cls d => tRet (tTup (tCons (tC (.str "NoRun")) (tCons (tXf a cls d T.C_NoRun "index" (tVar 3)) tNil)))) rfl rfl sc__law_refused.nd rfl rfl ⟨rfl, by decide, Or.inl T.g_NoRun⟩ takes0 (fun W pn xe tk _ => pss_one (ps_set (i := 2) sc__law_refused.nd rfl (Or.inl rfl) ((bd_ran T).elim fun ds h => pe_callSD (ok_ran T) hr (by rfl) T.g_ran T.F_ran.kp h.2 h.1 (fun σ => passAt tk σ) (pa_cons (pv 0) (pa_cons pe_int (pa_cons (pv 1) pa_nil)))))) (fun a oe cls d pn hz hf => pss_one (ps_ret (pe_tup (pa_cons pe_str (pa_cons (pe_xf T.xf_NoRun T.no_NoRun_index hz hf (pv 3)) pa_nil))))))
      (pss_one (ps_ret (pe_tup (pa_cons pe_str (pa_cons (pv 2) pa_nil)))))), ?_⟩
    have hlo := ho.lo
    refine ⟨_, rfl, _, rfl, S, fun _ => False, S2, a, bs, .int 0, .list (bits.map bitD), penD [0, 0, 1, 0, 0, 0], .int 0, vb, .ref T.a_HOME, n, rfl, hb, ho, rfl, hv, pv_of (T.h_HOME H) rfl, hn, fun h => ?_, fun p hpl e => ⟨fun j hj => ?_, fun bits2 eb => ?_⟩⟩
    · have : inD (.int 0) (0, (bs.length : Int) - 1) = true := by
        unfold inD
        simp [isI, isNum]
        omega
      rw [this] at h
      cases h
    · rw [bf_none fun d hd => ?_] at hj
      · cases hj
      · obtain ⟨b, _, rfl⟩ := List.mem_map.mp hd
        cases b <;> rfl
    · cases e
      have e2 : bits2 = bits := by
        have e3 := PyData.list.inj eb
        have inj : ∀ (x y : List Bool), x.map bitD = y.map bitD → x = y := by
          intro x
          induction x with
          | nil => intro y h; cases y with
            | nil => rfl
            | cons => cases h
          | cons b r ih => intro y h; cases y with
            | nil => cases h
            | cons c q =>
              rw [List.map_cons, List.map_cons] at h
              obtain ⟨h1, h2⟩ := List.cons.inj h
              rw [ih q h2]
              cases b <;> cases c <;> first | rfl | cases h1
        exact (inj _ _ e3).symm
      subst e2
      rw [er]
      intro x H' k hx
      have sm : Same H H' := fun b o e => k b o (fun h => h) e
      refine ⟨true, T.x_NoRun, fun _ a0 na => ?_, fun z => Bool.noConfusion z⟩
      exact ⟨_, rfl, rfl, rfl, x, _, .int i, rfl, hx, rfl, small100 (n := 2) (by decide), fun r nr => q r _ (sm.trans (same_upd nr)) (sm.free nr) upd_same⟩

--SPLIT
/-! ### what the program says of a plain body -/
theorem okB_cmds {n l : Nat} : ∀ {cs : List Cm}, (∀ c ∈ cs, c.ok) → okB n (cs.map Stm.cmd) l
  | [], _ => trivial
  | c :: r, h => ⟨h c List.mem_cons_self, okB_cmds fun x hx => h x (List.mem_cons_of_mem _ hx)⟩
theorem cntB_cmds : ∀ cs : List Cm, cntB (cs.map Stm.cmd) = cs.length
  | [] => rfl
  | c :: r => by rw [List.map_cons, cntB, cntB_cmds r, List.length_cons]; show 1 + _ = _; omega
theorem blkD_cmds (cs : List Cm) : blkD (cs.map Stm.cmd) = cs.map Cm.d := by rw [blkD_map, List.map_map]; rfl
/-- the body that the law makes -/
structure Body15 (cs : List Cm) (o : Option (Bool × List Stm)) : Prop where
  ok : ∀ c ∈ cs, c.ok
  len : cs.length ≤ 8
  okb : okB 1 (cs.map Stm.cmd ++ tailS o) 0
  lenb : (cs.map Stm.cmd ++ tailS o).length ≤ 8
  cnt : cntB (cs.map Stm.cmd ++ tailS o) ≤ 12
theorem body_none {cs : List Cm} (ok : ∀ c ∈ cs, c.ok) (hl : cs.length ≤ 8) : Body15 cs none := by
  refine ⟨ok, hl, ?_, ?_, ?_⟩
  · show okB 1 (cs.map Stm.cmd ++ []) 0
    rw [List.append_nil]
    exact okB_cmds ok
  · show (cs.map Stm.cmd ++ []).length ≤ 8
    rw [List.append_nil, List.length_map]
    exact hl
  · show cntB (cs.map Stm.cmd ++ []) ≤ 12
    rw [List.append_nil, cntB_cmds]
    omega
theorem body_some {cs ds : List Cm} (w : Bool) (ok : ∀ c ∈ cs, c.ok) (ok2 : ∀ c ∈ ds, c.ok) (hl : cs.length + ds.length ≤ 7) : Body15 cs (some (w, ds.map Stm.cmd)) := by
  refine ⟨ok, by omega, okB_append (okB_cmds ok) ⟨trivial, okB_cmds ok2⟩, ?_, ?_⟩
  · show (cs.map Stm.cmd ++ .fin w :: ds.map Stm.cmd).length ≤ 8
    rw [List.length_append, List.length_cons, List.length_map, List.length_map]
    omega
  · show cntB (cs.map Stm.cmd ++ .fin w :: ds.map Stm.cmd) ≤ 12
    rw [cntB_append, cntB_cmds, cntB, cntB_cmds]
    show _ + (1 + _) ≤ _
    omega
theorem penD_inj {ps qs : List Int} (h : penD ps = penD qs) : ps = qs := by
  have h := PyData.tuple.inj h
  have inj : ∀ (x y : List Int), x.map PyData.int = y.map PyData.int → x = y := by
    intro x
    induction x with
    | nil => intro y h; cases y with
      | nil => rfl
      | cons => cases h
    | cons b r ih => intro y h; cases y with
      | nil => cases h
      | cons c q =>
        rw [List.map_cons, List.map_cons] at h
        obtain ⟨h1, h2⟩ := List.cons.inj h
        rw [ih q h2, PyData.int.inj h1]
  exact inj _ _ h
theorem bits_nil {bits : List Bool} (h : (PyData.list [] : PyData) = .list (bits.map bitD)) : bits = [] := by
  have := PyData.list.inj h
  cases bits with
  | nil => rfl
  | cons => cases this
theorem in0 (z : List Stm) : inD (.int 0) (0, (([z].length : Nat) : Int) - 1) = true := rfl
theorem book15 {cs : List Cm} {o : Option (Bool × List Stm)} (B : Body15 cs o) : OkBook [cs.map Stm.cmd ++ tailS o] := by
  refine ⟨Nat.le_refl 1, (by decide : 1 ≤ 3), fun b hb => ?_⟩
  rw [List.mem_singleton.mp hb]
  exact ⟨B.lenb, B.cnt, B.okb⟩
theorem ran_plain {K : PySem.W.Frag} {CB CE NPr NP : Addr} {S : Addr → Prop} {J : Hp} {b bl : Addr} {cs : List Cm} {o : Option (Bool × List Stm)} {ve : V} {ps : List Int} {Q : VK} {E : XK} (hb : BookV S CB J b [cs.map Stm.cmd ++ tailS o]) (B : Body15 cs o) (hbl : J bl = some (.lst [])) (hp : PV K J (penD ps) ve) (hl : ps.length = 6)
    (q : ∀ (t c : Addr) (H' : Hp), Same J H' → H' t = some (.tup [.int (tailW o), .ref c, natV cs.length]) → SqT K H' c ((run cs ps).map V.int) → Q (.ref t) H') : sp_ran K CB CE NPr NP [.ref b, .int 0, .ref bl, ve] J Q E := by
  have lc := B.len
  refine ⟨S, fun _ => False, fun _ => True, b, _, .int 0, .list [], penD ps, .int 0, .ref bl, ve, cs.length + 3, rfl, hb, book15 B, rfl, ⟨bl, [], rfl, trivial, hbl, rfl⟩, hp, by omega, fun h => ?_, fun p hpl e => ⟨fun i hi => ?_, fun bits eb => ?_⟩⟩
  · rw [in0] at h
    cases h
  · cases hi
  · have e0 : p = 0 := by have := PyData.int.inj e; omega
    subst e0
    rw [bits_nil eb, runO_plain]
    refine ⟨good_cmds (by omega) B.ok _ _ _ _, fun h => ?_, fun ps' e2 hl' t c H' s nt ht hc => ?_⟩
    · rw [penOk_ints hl] at h
      cases h
    · have e2 := penD_inj e2
      subst e2
      rw [cmdsN_cmds] at ht
      rw [show penEnd _ ps = run cs ps from penEnd_cmds cs ps] at hc
      exact q t c H' s ht hc
theorem mat_plain {CB CE NPr : Addr} {S : Addr → Prop} {J : Hp} {b bl : Addr} {cs : List Cm} {o : Option (Bool × List Stm)} {Q : VK} {E : XK} (hb : BookV S CB J b [cs.map Stm.cmd ++ tailS o]) (B : Body15 cs o) (hbl : J bl = some (.lst []))
    (q : ∀ (t c : Addr) (H' : Hp), Same J H' → H' t = some (.tup [.int (tailW o), .ref c, natV cs.length]) → H' c = some (.lst ((matL (run cs)).map V.int)) → Q (.ref t) H') : sp_run_matrix CB CE NPr [.ref b, .int 0, .ref bl] J Q E := by
  have lc := B.len
  refine ⟨S, fun _ => False, fun _ => True, b, _, .int 0, .list [], .int 0, .ref bl, cs.length + 3, rfl, hb, book15 B, rfl, ⟨bl, [], rfl, trivial, hbl, rfl⟩, by omega, fun h => ?_, fun p hpl e => ⟨fun i hi => ?_, fun bits eb => ?_⟩⟩
  · rw [in0] at h
    cases h
  · cases hi
  · have e0 : p = 0 := by have := PyData.int.inj e; omega
    subst e0
    rw [bits_nil eb, runO_plain]
    refine ⟨good_cmds (by omega) B.ok _ _ _ _, fun t c H' s nt nc ht hc => ?_⟩
    rw [cmdsN_cmds] at ht
    rw [show penEnd (cs.map Dd.cmd) = run cs from funext fun ps => penEnd_cmds cs ps] at hc
    exact q t c H' s ht hc
theorem tr_bits {J : Hp} : ∀ bits : List Bool, TrAll (fun _ => True) J (bits.map bitD) (bits.map bitV)
  | [] => rfl
  | _ :: r => ⟨_, _, rfl, rfl, tr_bits r⟩
theorem run_refused (cs : List Cm) (o : Option (Bool × List Stm)) {bits : List Bool} (h : 0 < bits.length) : runO [cs.map Stm.cmd ++ tailS o] bits (cs.length + 3) 0 = .no 0 := by
  rw [runO_plain]
  show (if 0 < bits.length then Out.no 0 else _) = _
  rw [if_pos h]
/-- what the law compares -/
theorem fit_ints : ∀ (ps : List Int) (n : Nat), FitAll (ps.map PyData.int) (n + 1)
  | [], _ => trivial
  | p :: r, n => ⟨trivial, fit_ints r n⟩
theorem fit_ans {d : PyData} {w n : Int} (h : Fit d 15) : Fit (.tuple [.int w, d, .int n]) 16 := ⟨(by decide : 3 ≤ 100), trivial, h, trivial, trivial⟩
theorem fit_pen {ps : List Int} (h : ps.length ≤ 100) : Fit (penD ps) 15 := ⟨by rw [List.length_map]; exact h, fit_ints ps 13⟩
theorem fit_lst {ps : List Int} (h : ps.length ≤ 100) : Fit (.list (ps.map .int)) 15 := ⟨by rw [List.length_map]; exact h, fit_ints ps 13⟩
theorem tq_ans {K : PySem.W.Frag} {H : Hp} {t : Addr} {w n : Int} {d : PyData} {v : V} (h : H t = some (.tup [.int w, v, .int n])) (hd : TQ K H d v) : TQ K H (.tuple [.int w, d, .int n]) (.ref t) := ⟨t, _, rfl, SqT.of h, _, _, rfl, rfl, _, _, rfl, hd, _, _, rfl, rfl, rfl⟩
theorem same_ans {K : PySem.W.Frag} {J : Hp} {t u : Addr} {w n : Int} {d : PyData} {v z : V} {Q : VK} {E : XK} (h : J t = some (.tup [.int w, v, .int n])) (hd : TQ K J d v) (h2 : J u = some (.tup [.int w, z, .int n])) (hd2 : TQ K J d z) (fd : Fit d 15) (q : ∀ H', Same J H' → Q (.bl true) H') : sp__law_same K 16 [.ref t, .ref u] J Q E := by
  refine ⟨_, _, .ref t, .ref u, rfl, tq_ans h hd, tq_ans h2 hd2, fit_ans fd, fit_ans fd, by decide, fun H' s => ?_⟩
  rw [same_refl _ _ (fit_ans fd)]
  exact q H' s

--SPLIT
def spLaw (K : PySem.W.Frag) : Sp := fun vs H Q _ => ∃ (a : Addr) (ns : List Int), vs = [.ref a] ∧ SqL K H a (ns.map V.int) ∧ ns.length ≤ 63 ∧ ∀ H', Q (.bl true) H'
def noRunD : PyData := .tuple [.str "NoRun", .int 0]
theorem noRun_sh : SeqAt.shaped noRunD = true := by decide +kernel
theorem noRun_eq : PyData.eqv noRunD noRunD = true := by decide +kernel
theorem noRun_dp {K : PySem.W.Frag} {H : Hp} {t : Addr} (h : H t = some (.tup [V.str "NoRun", .int 0])) : Dp K H (.ref t) noRunD := .tup (SqT.of h) (.cons (.str _) (.cons (.int _) .nil))
/-- what stands behind the if -/
def Mid15 (a p qp : Addr) (en : Int) (ps : List Int) (σ : L2.St) (J : Hp) : Prop := ∃ (cs : List Cm) (o : Option (Bool × List Stm)) (c bd : Addr) (y : Option V) (xs : List V), σ = [some (.ref a), some (.ref p), some (.int en), some (.ref c), some (.ref qp), some (.ref bd), some (.int (tailW o)), y, none, none, none] ∧
  Body15 cs o ∧ BareV J c cs ∧ J bd = some (.lst xs) ∧ TrAll (fun _ => False) J (blkD (cs.map Stm.cmd ++ tailS o)) xs ∧ J qp = some (.tup (ps.map V.int))
set_option maxHeartbeats 4000000 in
theorem ok_law (T : Top w K mg) : FnOk P w K mg base CX0 18 T.a_law T.d_law ["_law_script"] (spLaw K) := by
  refine T.F_law.ok sc_law (fun vs H Q E h => ?_) (fun cdv A outer s H vs Q E hr h => ?_)
  · obtain ⟨a, ns, rfl, _⟩ := h
    rfl
  · obtain ⟨a, ns, rfl, hS, hlen, q⟩ := h
    refine ⟨_, (pss_cons (ps_set (i := 1) sc_law.nd rfl (Or.inl rfl) (pe_call (ok__law_pool T) (hr.mono (by decide)) (by rfl) T.g__law_pool T.F__law_pool.kp (b__law_pool T) .nil pass0 (pa_cons (pv 0) pa_nil)))
      (pss_cons (ps_set (i := 2) sc_law.nd rfl (Or.inl rfl) (pe_call (ok__law_draw T) (hr.mono (by decide)) (by rfl) T.g__law_draw T.F__law_draw.kp (b__law_draw T) .nil pass0 (pa_cons (pv 1) (pa_cons pe_int pa_nil))))
      (pss_cons (ps_set (i := 3) sc_law.nd rfl (Or.inl rfl) (pe_call (ok__law_bare T) (hr.mono (by decide)) (by rfl) T.g__law_bare T.F__law_bare.kp (b__law_bare T) .nil pass0 (pa_cons (pv 1) pa_nil)))
      (pss_cons (ps_set (i := 4) sc_law.nd rfl (Or.inl rfl) (pe_call (ok__law_pen T) (hr.mono (by decide)) (by rfl) T.g__law_pen T.F__law_pen.kp (b__law_pen T) .nil pass0 (pa_cons (pv 1) pa_nil)))
      (pss_cons (ps_set (i := 5) sc_law.nd rfl (Or.inl rfl) (pe_callTy (k_list K) (by rfl) T.z_list bt_list (pa_cons (pv 3) pa_nil)))
      (pss_cons (ps_set (i := 6) sc_law.nd rfl (Or.inl rfl) pe_int)
      (C8.pss_cut (ps_if (pt_cmpR op_gt (pv 2) pe_int (nomark _)) (pss_cons (ps_set (i := 7) sc_law.nd rfl (Or.inl rfl) (pe_call (ok__law_draw T) (hr.mono (by decide)) (by rfl) T.g__law_draw T.F__law_draw.kp (b__law_draw T) .nil pass0 (pa_cons (pv 1) (pa_cons (pe_op op_add (pe_callB (k_len K) (by rfl) T.z_len bt_len (pa_cons (pv 3) pa_nil)) pe_int) pa_nil))))
        (pss_cons (ps_set (i := 6) sc_law.nd rfl (Or.inl rfl) (pe_op op_sub (pv 2) pe_int))
        (pss_cons (ps_set (i := 5) sc_law.nd rfl (Or.inl rfl) (pe_op op_cat (pe_op op_cat (pe_slice (k_slL K) (pv 3) po_none (po_some (pv 7))) (pe_lst (pa_cons (pe_tup (pa_cons pe_str (pa_cons (pv 6) pa_nil))) pa_nil))) (pe_slice (k_slL K) (pv 3) (po_some (pv 7)) po_none)))
        (pss_cons (ps_set (i := 5) sc_law.nd rfl (Or.inl rfl) (pe_slice (k_slL K) (pv 5) po_none (po_some pe_int)))
        (pss_cons (ps_set (i := 3) sc_law.nd rfl (Or.inl rfl) (pe_slice (k_slL K) (pv 3) po_none (po_some (pv 7))))
        (pss_one (ps_if (pt_cmpR op_eq (pv 7) pe_int (nomark _)) (pss_one (ps_set (i := 6) sc_law.nd rfl (Or.inl rfl) pe_int)) pss_nil))))))) pss_nil)
      (pss_cons (ps_set (i := 8) sc_law.nd rfl (Or.inl rfl) (pe_make T.mk_Book (ok_Book___init__ T) (hr.mono (by decide)) (by rfl) T.g_Book (b_Book___init__ T) .nil pass0 (pa_cons (pe_lst (pa_cons (pv 5) pa_nil)) pa_nil)))
      (pss_cons (ps_set (i := 9) sc_law.nd rfl (Or.inl rfl) (pe_ix (k_ixL K) (pe_call (ok__law_pens T) (hr.mono (by decide)) (by rfl) T.g__law_pens T.F__law_pens.kp (b__law_pens T) .nil pass0 (pa_cons (pv 3) (pa_cons (pv 4) pa_nil))) pe_int (fun _ _ => rfl)))
      (pss_cons (ps_set (i := 10) sc_law.nd rfl (Or.inl rfl) (pe_ix (k_ixL K) (pe_call (ok__law_pens T) (hr.mono (by decide)) (by rfl) T.g__law_pens T.F__law_pens.kp (b__law_pens T) .nil pass0 (pa_cons (pv 3) (pa_cons (pe_tup (pa_cons pe_int (pa_cons pe_int (pa_cons pe_int (pa_cons pe_int (pa_cons pe_int (pa_cons pe_int pa_nil))))))) pa_nil))) pe_int (fun _ _ => rfl)))
      (pss_cons (ps_if (pt_not (pt_val (pe_call (ok__law_same T) hr (by rfl) T.g__law_same T.F__law_same.kp (b__law_same T) .nil pass0 (pa_cons (pe_callN (ok_ran T) (hr.mono (by decide)) (by rfl) T.g_ran T.F_ran.kp (bk_ran T) passX0 (pa_cons (pv 8) (pa_cons pe_int (pa_cons (pe_lst pa_nil) pa_nil))) (pk_cons (pv 4) pk_nil)) (pa_cons (pe_tup (pa_cons (pv 6) (pa_cons (pv 9) (pa_cons (pe_callB (k_len K) (by rfl) T.z_len bt_len (pa_cons (pv 3) pa_nil)) pa_nil)))) pa_nil))))) (pss_one (ps_ret pe_bl)) pss_nil)
      (pss_cons (ps_if (pt_not (pt_val (pe_call (ok__law_same T) hr (by rfl) T.g__law_same T.F__law_same.kp (b__law_same T) .nil pass0 (pa_cons ((bd_ran T).elim fun ds h => pe_call (ok_ran T) (hr.mono (by decide)) (by rfl) T.g_ran T.F_ran.kp h.2 h.1 passX0 (pa_cons (pv 8) (pa_cons pe_int (pa_cons (pe_lst pa_nil) pa_nil)))) (pa_cons (pe_tup (pa_cons (pv 6) (pa_cons (pv 10) (pa_cons (pe_callB (k_len K) (by rfl) T.z_len bt_len (pa_cons (pv 3) pa_nil)) pa_nil)))) pa_nil))))) (pss_one (ps_ret pe_bl)) pss_nil)
      (pss_cons (ps_if (pt_not (pt_val (pe_call (ok__law_same T) hr (by rfl) T.g__law_same T.F__law_same.kp (b__law_same T) .nil pass0 (pa_cons (pe_call (ok_run_matrix T) (hr.mono (by decide)) (by rfl) T.g_run_matrix T.F_run_matrix.kp (b_run_matrix T) .nil passX0 (pa_cons (pv 8) (pa_cons pe_int (pa_cons (pe_lst pa_nil) pa_nil)))) (pa_cons (pe_tup (pa_cons (pv 6) (pa_cons (pe_call (ok__law_probe T) (hr.mono (by decide)) (by rfl) T.g__law_probe T.F__law_probe.kp (b__law_probe T) .nil pass0 (pa_cons (pv 3) pa_nil)) (pa_cons (pe_callB (k_len K) (by rfl) T.z_len bt_len (pa_cons (pv 3) pa_nil)) pa_nil)))) pa_nil))))) (pss_one (ps_ret pe_bl)) pss_nil)
      (pss_one (ps_ret (pe_and (pe_cmpR (op_eqD (hu64 hr)) (pe_call (ok__law_refused T) (hr.mono (by decide)) (by rfl) T.g__law_refused T.F__law_refused.kp (b__law_refused T) .nil pass0 (pa_cons (pv 8) (pa_cons (pe_lst (pa_cons pe_int pa_nil)) pa_nil))) (pe_tup (pa_cons pe_str (pa_cons pe_int pa_nil))) (nomark _)) (pe_one (pe_cmpR (op_eqD (hu64 hr)) (pe_call (ok__law_refused T) (hr.mono (by decide)) (by rfl) T.g__law_refused T.F__law_refused.kp (b__law_refused T) .nil pass0 (pa_cons (pv 8) (pa_cons (pe_lst (pa_cons pe_int (pa_cons pe_int pa_nil))) pa_nil))) (pe_tup (pa_cons pe_str (pa_cons pe_int pa_nil))) (nomark _))))))))))))))))))), ?_⟩
    refine ⟨_, rfl, a, ns, rfl, hS, hlen, fun H1 p L s1 np pl h2 h64 => ?_⟩
    refine ⟨_, rfl, p, L, 4, rfl, pl, h2, h64, by decide, by decide, fun en H2 en0 en4 k2 pl2 => ?_⟩
    refine ⟨_, rfl, p, L, rfl, pl2, h2, h64, fun qc cs H3 hcl k3 pl3 nqc bv => ?_⟩
    have nqcp : qc ≠ p := pl2.ne nqc
    refine ⟨_, rfl, p, L, rfl, pl3, h2, h64, fun qp ps H4 hpl hbd k4 pl4 nqp hqp => ?_⟩
    have nqpp : qp ≠ p := pl3.ne nqp
    have bv4 := bv.kp pl3 k4 nqcp
    obtain ⟨xs4, hqc4, t4, ok4⟩ := bv4
    refine ⟨_, rfl, qc, _, rfl, .inl (SqL.of hqc4), fun bd nbd => ?_⟩
    have s5 := same_upd (o := .lst xs4) nbd
    have hbd5 : (upd H4 bd (.lst xs4)) bd = some (.lst xs4) := upd_same
    have hqc5 := s5 _ _ hqc4
    have t5 := t4.same s5
    have hqp5 := s5 _ _ hqp
    have pl5 : Pool (upd H4 bd (.lst xs4)) p L := pl4.new nbd
    generalize upd H4 bd (.lst xs4) = H5 at *
    refine ⟨Mid15 a p qp en ps, ?_, fun σ J hm => ?_⟩
    · refine ⟨_, rfl, _, _, rfl, rfl, _, rfl, ?_⟩
      refine ite2 (fun g => ?_) (fun g => ?_)
      · have lx4 := t4.len
        rw [List.length_map] at lx4
        refine ⟨_, rfl, _, rfl, qc, _, rfl, .inl (SqL.of hqc5), _, _, rfl, rfl, p, L, _, rfl, pl5, h2, h64, by omega, by omega, fun at_ H6 a0 a1 k6 pl6 => ?_⟩
        obtain ⟨n, rfl⟩ : ∃ n : Nat, at_ = (n : Int) := ⟨at_.toNat, by omega⟩
        have hn : n ≤ cs.length := by omega
        have nbdp : bd ≠ p := pl4.ne nbd
        have hqc6 := k6 _ _ nqcp hqc5
        have hbd6 := k6 _ _ nbdp hbd5
        have hqp6 := k6 _ _ nqpp hqp5
        have t6 := pool_tr pl5 k6 t5
        refine ⟨_, rfl, _, _, rfl, rfl, ?_⟩
        refine ⟨_, rfl, _, rfl, n, rfl, qc, _, rfl, SqL.of hqc6, fun u nu => ?_⟩
        rw [cut_to]
        have z1 := same_upd (o := .lst (xs4.take n)) nu
        have hu : (upd H6 u (.lst (xs4.take n))) u = some (.lst (xs4.take n)) := upd_same
        generalize upd H6 u _ = H7 at *
        refine ⟨_, rfl, small100 (n := 2) (by decide), fun e ne => ⟨small100 (n := 1) (by decide), fun l nl => ?_⟩⟩
        have z2 := same_upd (o := .tup [V.str "end", .int (en - 2)]) ne
        have he : (upd H7 e (.tup [V.str "end", .int (en - 2)])) e = some (.tup [V.str "end", .int (en - 2)]) := upd_same
        have hu := z2 _ _ hu
        generalize upd H7 e _ = H8 at *
        have z3 := same_upd (o := .lst [V.ref e]) nl
        have hl : (upd H8 l (.lst [V.ref e])) l = some (.lst [V.ref e]) := upd_same
        have hu := z3 _ _ hu
        have he := z3 _ _ he
        generalize upd H8 l _ = H9 at *
        have ltk : (xs4.take n).length ≤ 8 := by rw [List.length_take]; omega
        refine ⟨u, l, _, _, rfl, rfl, hu, hl, Nat.le_of_lt (small1000 (n := (xs4.take n).length + [V.ref e].length) (by rw [List.length_singleton]; omega)), fun v nv => ?_⟩
        have z4 := same_upd (o := .lst (xs4.take n ++ [V.ref e])) nv
        have hv : (upd H9 v (.lst (xs4.take n ++ [V.ref e]))) v = some (.lst (xs4.take n ++ [V.ref e])) := upd_same
        have he := z4 _ _ he
        generalize upd H9 v _ = H10 at *
        have z14 := ((z1.trans z2).trans z3).trans z4
        refine ⟨_, rfl, _, rfl, n, rfl, qc, _, rfl, SqL.of (z14 _ _ hqc6), fun u2 nu2 => ?_⟩
        rw [cut_from]
        have z5 := same_upd (o := .lst (xs4.drop n)) nu2
        have hu2 : (upd H10 u2 (.lst (xs4.drop n))) u2 = some (.lst (xs4.drop n)) := upd_same
        have he := z5 _ _ he
        have hv := z5 _ _ hv
        generalize upd H10 u2 _ = H11 at *
        refine ⟨v, u2, _, _, rfl, rfl, hv, hu2, Nat.le_of_lt (small1000 (n := (xs4.take n ++ [V.ref e]).length + (xs4.drop n).length) (by rw [List.length_append, List.length_singleton, List.length_drop]; omega)), fun b1 nb1 => ?_⟩
        have z6 := same_upd (o := .lst (xs4.take n ++ [V.ref e] ++ xs4.drop n)) nb1
        have hb1 : (upd H11 b1 (.lst (xs4.take n ++ [V.ref e] ++ xs4.drop n))) b1 = some (.lst (xs4.take n ++ [V.ref e] ++ xs4.drop n)) := upd_same
        have he := z6 _ _ he
        generalize upd H11 b1 _ = H12 at *
        refine ⟨_, rfl, 8, rfl, b1, _, rfl, SqL.of hb1, fun b2 nb2 => ?_⟩
        rw [show (8 : Int) = ((8 : Nat) : Int) from rfl, cut_to]
        have z7 := same_upd (o := .lst ((xs4.take n ++ [V.ref e] ++ xs4.drop n).take 8)) nb2
        have hb2 : (upd H12 b2 (.lst ((xs4.take n ++ [V.ref e] ++ xs4.drop n).take 8))) b2 = some (.lst ((xs4.take n ++ [V.ref e] ++ xs4.drop n).take 8)) := upd_same
        have he := z7 _ _ he
        generalize upd H12 b2 _ = H13 at *
        have z17 := ((z14.trans z5).trans z6).trans z7
        refine ⟨_, rfl, _, rfl, n, rfl, qc, _, rfl, SqL.of (z17 _ _ hqc6), fun c2 nc2 => ?_⟩
        rw [cut_to]
        have z8 := same_upd (o := .lst (xs4.take n)) nc2
        have hc2 : (upd H13 c2 (.lst (xs4.take n))) c2 = some (.lst (xs4.take n)) := upd_same
        have he := z8 _ _ he
        have hb2 := z8 _ _ hb2
        generalize upd H13 c2 _ = H14 at *
        have z18 := z17.trans z8
        have t14 := t6.same z18
        have hqp14 := z18 _ _ hqp6
        have tn : TrAll (fun _ => False) H14 ((cs.take n).map Cm.d) (xs4.take n) := by
          rw [List.map_take]
          exact t14.take n
        have okn : ∀ c ∈ cs.take n, c.ok := fun c h => ok4 c (List.mem_of_mem_take h)
        have lcn : (cs.take n).length = n := by rw [List.length_take]; omega
        have bvn : BareV H14 c2 (cs.take n) := ⟨_, hc2, tn, okn⟩
        refine ⟨_, rfl, rfl, _, rfl, ?_⟩
        by_cases h8 : n = 8
        · subst h8
          refine iteP rfl ?_
          refine ⟨cs.take 8, none, c2, b2, some (.int ((8 : Nat) : Int)), _, rfl, body_none okn (by omega), bvn, hb2, ?_, hqp14⟩
          show TrAll _ _ (blkD ((cs.take 8).map Stm.cmd ++ [])) _
          have l8 : (xs4.take 8).length = 8 := by rw [List.length_take]; omega
          have e8 : (xs4.take 8 ++ [V.ref e] ++ xs4.drop 8).take 8 = xs4.take 8 := by
            rw [List.append_assoc, List.take_append_of_le_length (by omega), List.take_of_length_le (by omega)]
          rw [List.append_nil, blkD_cmds, e8]
          exact tn
        · refine iteN (fun z => h8 (by have := V.int.inj z; omega)) ?_
          have g := of_decide_eq_true g
          have ew : en - 2 = wayN (decide (en = 3)) := by
            have : en = 2 ∨ en = 3 := by omega
            rcases this with rfl | rfl <;> rfl
          have okd : ∀ c ∈ (cs.drop n).take (7 - n), c.ok := fun c h => ok4 c (List.mem_of_mem_drop (List.mem_of_mem_take h))
          have ld : ((cs.drop n).take (7 - n)).length ≤ 7 - n := by rw [List.length_take]; omega
          refine ⟨cs.take n, some (decide (en = 3), ((cs.drop n).take (7 - n)).map Stm.cmd), c2, b2, some (.int (n : Int)), _, ?_, body_some _ okn okd (by omega), bvn, hb2, ?_, hqp14⟩
          · show _ = [some (V.ref a), some (.ref p), some (.int en), some (.ref c2), some (.ref qp), some (.ref b2), some (.int (wayN (decide (en = 3)))), _, none, none, none]
            rw [← ew]
            rfl
          · show TrAll _ _ (blkD ((cs.take n).map Stm.cmd ++ .fin (decide (en = 3)) :: ((cs.drop n).take (7 - n)).map Stm.cmd)) _
            have e8 : (xs4.take n ++ [V.ref e] ++ xs4.drop n).take 8 = xs4.take n ++ V.ref e :: (xs4.drop n).take (7 - n) := by
              have ln : (xs4.take n).length = n := by rw [List.length_take]; omega
              rw [List.append_assoc, List.take_append, ln, List.take_of_length_le (by omega), show 8 - n = (7 - n) + 1 by omega]
              rfl
            rw [e8, blkD_append, blkD_cmds, blkD, blkD_cmds]
            refine tn.append (.cons ?_ ?_)
            · refine ⟨e, _, rfl, he, .cons rfl (.cons ?_ .nil)⟩
              rw [ew]
              rfl
            · rw [List.map_take, List.map_drop]
              exact (t14.drop n).take (7 - n)
      · refine ⟨cs, none, qc, bd, none, xs4, rfl, body_none ok4 hcl, ⟨xs4, hqc5, t5, ok4⟩, hbd5, ?_, hqp5⟩
        show TrAll _ _ (blkD (cs.map Stm.cmd ++ [])) _
        rw [List.append_nil, blkD_cmds]
        exact t5
    · obtain ⟨cs, o, c, bd, y, xs, rfl, B, bv, hbd, tb, hqp⟩ := hm
      refine ⟨_, rfl, small100 (n := 1) (by decide), fun lb nlb => ?_⟩
      have z1 := same_upd (o := .lst [V.ref bd]) nlb
      have hlb : (upd J lb (.lst [V.ref bd])) lb = some (.lst [V.ref bd]) := upd_same
      have bv1 := bv.same z1
      have hqp1 := z1 _ _ hqp
      have tbk : Tr (fun _ => True) (upd J lb (.lst [V.ref bd])) (bookD [cs.map Stm.cmd ++ tailS o]) (.ref lb) := by
        refine ⟨lb, _, rfl, trivial, hlb, _, _, rfl, ⟨bd, xs, rfl, trivial, z1 _ _ hbd, ?_⟩, rfl⟩
        exact TrAll.mono (fun _ h => h.elim) _ _ (tb.same z1)
      generalize upd J lb _ = J1 at *
      refine fun b dx nb nd ne => made tbk (book15 B) nb nd ne fun J2 z2 hB => ?_
      have bv2 := bv1.same z2
      have hqp2 := z2 _ _ hqp1
      have lc := B.len
      refine ⟨_, rfl, _, rfl, c, qp, cs, ps, rfl, bv2.deeds, by omega, hqp2, hpl, fun q1 x1 d1 J3 z3 nq1 hq1 hd1 => ⟨q1, _, 1, _, rfl, rfl, SqL.of hq1, atI_nat (j := 1) rfl, ?_⟩⟩
      have bv3 := bv2.same z3
      have hqp3 := z3 _ _ hqp2
      have hB3 := hB.same z3
      refine ⟨_, rfl, small100 (n := 6) (by decide), fun z nz => ?_⟩
      have z4 := same_upd (o := .tup [V.int 0, .int 0, .int 1, .int 0, .int 0, .int 0]) nz
      have hz : (upd J3 z (.tup [V.int 0, .int 0, .int 1, .int 0, .int 0, .int 0])) z = some (.tup (([0, 0, 1, 0, 0, 0] : List Int).map V.int)) := upd_same
      have bv4 := bv3.same z4
      have hqp4 := z4 _ _ hqp3
      have hd1 := z4 _ _ hd1
      have hB4 := hB3.same z4
      generalize upd J3 z _ = J4 at *
      refine ⟨c, z, cs, [0, 0, 1, 0, 0, 0], rfl, bv4.deeds, by omega, hz, rfl, fun q2 x2 d2 J5 z5 nq2 hq2 hd2 => ⟨q2, _, 1, _, rfl, rfl, SqL.of hq2, atI_nat (j := 1) rfl, ?_⟩⟩
      have bv5 := bv4.same z5
      have hqp5 := z5 _ _ hqp4
      have hd1 := z5 _ _ hd1
      have hB5 := hB4.same z5
      clear bv bv1 bv2 bv3 bv4 hB hB3 hB4 hqp hqp1 hqp2 hqp3 hqp4 tb tbk hlb hbd
      obtain ⟨xc, hxc, txc, _⟩ := id bv5
      have lxc := txc.len
      rw [List.length_map] at lxc
      have lr : ∀ ps : List Int, ps.length = 6 → (run cs ps).length ≤ 100 := fun ps h => by rw [run_len cs h]; decide
      -- the pen passed
      refine ⟨_, rfl, small100 (n := 0) (by decide), fun e1 ne1 => ⟨_, rfl, rfl, rfl, ?_⟩⟩
      have z6 := same_upd (o := .lst []) ne1
      have he1 : (upd J5 e1 (.lst [])) e1 = some (.lst []) := upd_same
      have hB6 := hB5.same z6
      have hqp6 := z6 _ _ hqp5
      have hxc6 := z6 _ _ hxc
      have hd1 := z6 _ _ hd1
      have hd2 := z6 _ _ hd2
      have bv6 := bv5.same z6
      generalize upd J5 e1 _ = J6 at *
      refine ran_plain hB6 B he1 (pv_of (SqT.of hqp6) hpl) hpl fun t1 c1 J7 z7 ht1 hc1 => ?_
      have hxc7 := z7 _ _ hxc6
      refine ⟨_, rfl, _, rfl, _, rfl, c, _, rfl, .inl (SqL.of hxc7), small100 (n := 3) (by decide), fun u1 nu1 => ?_⟩
      rw [lxc]
      have z8 := same_upd (o := .tup [V.int (tailW o), .ref d1, .int ((cs.length : Nat) : Int)]) nu1
      have hu1 : (upd J7 u1 (.tup [V.int (tailW o), .ref d1, .int ((cs.length : Nat) : Int)])) u1 = some (.tup [V.int (tailW o), .ref d1, .int ((cs.length : Nat) : Int)]) := upd_same
      have ht1 := z8 _ _ ht1
      have hc1 := sqT_same hc1 z8
      generalize upd J7 u1 _ = J8 at *
      have z68 := z7.trans z8
      refine ⟨_, _, .ref t1, .ref u1, rfl, tq_ans ht1 (tq_pen hc1), tq_ans hu1 (tq_pen (SqT.of (z68 _ _ hd1))), fit_ans (fit_pen (lr ps hpl)), fit_ans (fit_pen (lr ps hpl)), by decide, fun J9 z9 => ⟨_, rfl, ?_⟩⟩
      rw [same_refl _ _ (fit_ans (fit_pen (lr ps hpl)))]
      refine iteF ?_
      have z69 := z68.trans z9
      have hB9 := hB6.same z69
      have hxc9 := z69 _ _ hxc6
      have hd2 := z69 _ _ hd2
      have bv9 := bv6.same z69
      clear hB5 hB6 hqp5 hqp6 hxc hxc6 hxc7 bv5 bv6 hd1 hc1 ht1 hu1 z68 z69 he1
      -- from HOME
      refine ⟨_, rfl, small100 (n := 0) (by decide), fun e2 ne2 => ?_⟩
      have z10 := same_upd (o := .lst []) ne2
      have he2 : (upd J9 e2 (.lst [])) e2 = some (.lst []) := upd_same
      have hB10 := hB9.same z10
      have hxc10 := z10 _ _ hxc9
      have hd2 := z10 _ _ hd2
      have bv10 := bv9.same z10
      generalize upd J9 e2 _ = J10 at *
      refine ran_plain hB10 B he2 (pv_of (T.h_HOME J10) rfl) rfl fun t2 c2 J11 z11 ht2 hc2 => ?_
      have hxc11 := z11 _ _ hxc10
      refine ⟨_, rfl, _, rfl, _, rfl, c, _, rfl, .inl (SqL.of hxc11), small100 (n := 3) (by decide), fun u2 nu2 => ?_⟩
      rw [lxc]
      have z12 := same_upd (o := .tup [V.int (tailW o), .ref d2, .int ((cs.length : Nat) : Int)]) nu2
      have hu2 : (upd J11 u2 (.tup [V.int (tailW o), .ref d2, .int ((cs.length : Nat) : Int)])) u2 = some (.tup [V.int (tailW o), .ref d2, .int ((cs.length : Nat) : Int)]) := upd_same
      have ht2 := z12 _ _ ht2
      have hc2 := sqT_same hc2 z12
      generalize upd J11 u2 _ = J12 at *
      have z1012 := z11.trans z12
      refine ⟨_, _, .ref t2, .ref u2, rfl, tq_ans ht2 (tq_pen hc2), tq_ans hu2 (tq_pen (SqT.of (z1012 _ _ hd2))), fit_ans (fit_pen (lr _ rfl)), fit_ans (fit_pen (lr _ rfl)), by decide, fun J13 z13 => ⟨_, rfl, ?_⟩⟩
      rw [same_refl _ _ (fit_ans (fit_pen (lr _ rfl)))]
      refine iteF ?_
      have z1013 := z1012.trans z13
      have hB13 := hB10.same z1013
      have hxc13 := z1013 _ _ hxc10
      have bv13 := bv10.same z1013
      clear hB9 hB10 hxc9 hxc10 hxc11 bv9 bv10 hd2 hc2 ht2 hu2 z1012 z1013 he2
      -- the matrix
      refine ⟨_, rfl, small100 (n := 0) (by decide), fun e3 ne3 => ?_⟩
      have z14 := same_upd (o := .lst []) ne3
      have he3 : (upd J13 e3 (.lst [])) e3 = some (.lst []) := upd_same
      have hB14 := hB13.same z14
      have hxc14 := z14 _ _ hxc13
      have bv14 := bv13.same z14
      generalize upd J13 e3 _ = J14 at *
      refine mat_plain hB14 B he3 fun t3 c3 J15 z15 ht3 hc3 => ?_
      have bv15 := bv14.same z15
      refine ⟨_, rfl, _, rfl, c, cs, rfl, bv15.deeds, by omega, fun m3 J16 z16 nm3 hm3 => ?_⟩
      have hxc16 := (z15.trans z16) _ _ hxc14
      refine ⟨_, rfl, c, _, rfl, .inl (SqL.of hxc16), small100 (n := 3) (by decide), fun u3 nu3 => ?_⟩
      rw [lxc]
      have z17 := same_upd (o := .tup [V.int (tailW o), .ref m3, .int ((cs.length : Nat) : Int)]) nu3
      have hu3 : (upd J16 u3 (.tup [V.int (tailW o), .ref m3, .int ((cs.length : Nat) : Int)])) u3 = some (.tup [V.int (tailW o), .ref m3, .int ((cs.length : Nat) : Int)]) := upd_same
      have ht3 := (z16.trans z17) _ _ ht3
      have hc3 := (z16.trans z17) _ _ hc3
      have hm3 := z17 _ _ hm3
      generalize upd J16 u3 _ = J17 at *
      refine ⟨_, _, .ref t3, .ref u3, rfl, tq_ans ht3 (tq_lst (SqL.of hc3)), tq_ans hu3 (tq_lst (SqL.of hm3)), fit_ans (fit_lst (by unfold matL; rw [List.length_map, List.length_range]; decide)), fit_ans (fit_lst (by unfold matL; rw [List.length_map, List.length_range]; decide)), by decide, fun J18 z18 => ⟨_, rfl, ?_⟩⟩
      rw [same_refl _ _ (fit_ans (fit_lst (by unfold matL; rw [List.length_map, List.length_range]; decide)))]
      refine iteF ?_
      have hB18 := hB14.same (((z15.trans z16).trans z17).trans z18)
      clear hB13 hB14 hxc13 hxc14 hxc16 bv13 bv14 bv15 hc3 hm3 ht3 hu3 he3
      refine ⟨_, rfl, small100 (n := 1) (by decide), fun e4 ne4 => ?_⟩
      have z19 := same_upd (o := .lst [V.int 1]) ne4
      have he4 : (upd J18 e4 (.lst [V.int 1])) e4 = some (.lst (([true] : List Bool).map bitV)) := upd_same
      have hB19 := hB18.same z19
      generalize upd J18 e4 _ = J19 at *
      refine ⟨_, fun _ => True, b, _, [true], .ref e4, cs.length + 3, 0, rfl, hB19, book15 B, ⟨e4, _, rfl, trivial, he4, tr_bits _⟩, by omega, run_refused cs o (by decide), fun t4 J20 z20 _ ht4 => ?_⟩
      refine ⟨small100 (n := 2) (by decide), fun u4 nu4 => ?_⟩
      have z21 := same_upd (o := .tup [V.str "NoRun", .int 0]) nu4
      have hu4 : (upd J20 u4 (.tup [V.str "NoRun", .int 0])) u4 = some (.tup [V.str "NoRun", .int 0]) := upd_same
      have ht4 := z21 _ _ ht4
      have hB21 := (hB19.same z20).same z21
      generalize upd J20 u4 _ = J21 at *
      refine ⟨noRunD, noRunD, noRun_dp ht4, noRun_dp hu4, noRun_sh, noRun_sh, true, congrArg V.bl noRun_eq, ?_⟩
      refine iteT ?_
      refine ⟨_, rfl, small100 (n := 2) (by decide), fun e5 ne5 => ?_⟩
      have z22 := same_upd (o := .lst [V.int 0, V.int 1]) ne5
      have he5 : (upd J21 e5 (.lst [V.int 0, V.int 1])) e5 = some (.lst (([false, true] : List Bool).map bitV)) := upd_same
      have hB22 := hB21.same z22
      generalize upd J21 e5 _ = J22 at *
      refine ⟨_, fun _ => True, b, _, [false, true], .ref e5, cs.length + 3, 0, rfl, hB22, book15 B, ⟨e5, _, rfl, trivial, he5, tr_bits _⟩, by omega, run_refused cs o (by decide), fun t5 J23 z23 _ ht5 => ?_⟩
      refine ⟨small100 (n := 2) (by decide), fun u5 nu5 => ?_⟩
      have z24 := same_upd (o := .tup [V.str "NoRun", .int 0]) nu5
      have hu5 : (upd J23 u5 (.tup [V.str "NoRun", .int 0])) u5 = some (.tup [V.str "NoRun", .int 0]) := upd_same
      have ht5 := z24 _ _ ht5
      generalize upd J23 u5 _ = J24 at *
      refine ⟨noRunD, noRunD, noRun_dp ht5, noRun_dp hu5, noRun_sh, noRun_sh, ?_⟩
      rw [noRun_eq]
      exact q J24
end
theorem all_mk {l : PySem.W.OpenLaw} {w : World} {K : PySem.W.Frag} {h : Heap} {mg : Str → Option Value} {fa f0 f1 f2 f3 f4 f5 f6 f7 f8 f9 f10 f11 f12 f13 f14 f15 f16 f17 f18 f19 f20 f21 f22 f23 f24 f25 f26 f27 f28 f29 f30 f31 f32 f33 f34 f35 f36 f37 f38 f39 f40 f41 f42 f43 f44 f45 f46 f47 f48 f49 f50 f51 : Addr} (X : K.In h) (G : h.Ns mainGlobals mg) (hfa : mg "law" = some (.ref fa))
    {od0 an0 od1 an1 od2 an2 od3 an3 od4 an4 od5 an5 od6 an6 od7 an7 od8 an8 od9 an9 od10 an10 od11 an11 od12 an12 od13 an13 od14 an14 od15 an15 od16 an16 od17 an17 od18 an18 od19 an19 od20 an20 od21 an21 od22 an22 od23 an23 od24 an24 od25 an25 od26 an26 od27 an27 od28 an28 od29 an29 od30 an30 od31 an31 od32 an32 od33 an33 od34 an34 od35 an35 od36 an36 od37 an37 od38 an38 od39 an39 od40 an40 od41 an41 od42 an42 od43 an43 od44 an44 od45 an45 od46 an46 od47 an47 od48 an48 od49 an49 od50 an50 od51 an51 : Option Addr} {sl0 sl1 sl2 sl3 sl4 sl5 sl6 sl7 sl8 sl9 sl10 sl11 sl12 sl13 sl14 sl15 sl16 sl17 sl18 sl19 sl20 sl21 sl22 sl23 sl24 sl25 sl26 sl27 sl28 sl29 sl30 sl31 sl32 sl33 sl34 sl35 sl36 sl37 sl38 sl39 sl40 sl41 sl42 sl43 sl44 sl45 sl46 sl47 sl48 sl49 sl50 sl51 : Array (Option Value)}
    {oc0 dc0 pm0 cd0 ct0 kV0 oc1 dc1 pm1 cd1 ct1 kV1 oc2 dc2 pm2 cd2 ct2 kV2 oc3 dc3 pm3 cd3 ct3 kV3 oc4 dc4 pm4 cd4 ct4 kV4 oc5 dc5 pm5 cd5 ct5 kV5 oc6 dc6 pm6 cd6 ct6 kV6 oc7 dc7 pm7 cd7 ct7 kV7 oc8 dc8 pm8 cd8 ct8 kV8 oc9 dc9 pm9 cd9 ct9 kV9 oc10 dc10 pm10 cd10 ct10 kV10 oc11 dc11 pm11 cd11 ct11 kV11 oc12 dc12 pm12 cd12 ct12 kV12 oc13 dc13 pm13 cd13 ct13 kV13 oc14 dc14 pm14 cd14 ct14 kV14 oc15 dc15 pm15 cd15 ct15 kV15 oc16 dc16 pm16 cd16 ct16 kV16 oc17 dc17 pm17 cd17 ct17 kV17 oc18 dc18 pm18 cd18 ct18 kV18 oc19 dc19 pm19 cd19 ct19 kV19 oc20 dc20 pm20 cd20 ct20 kV20 oc21 dc21 pm21 cd21 ct21 kV21 oc22 dc22 pm22 cd22 ct22 kV22 oc23 dc23 pm23 cd23 ct23 kV23 oc24 dc24 pm24 cd24 ct24 kV24 oc25 dc25 pm25 cd25 ct25 kV25 oc26 dc26 pm26 cd26 ct26 kV26 oc27 dc27 pm27 cd27 ct27 kV27 oc28 dc28 pm28 cd28 ct28 kV28 oc29 dc29 pm29 cd29 ct29 kV29 oc30 dc30 pm30 cd30 ct30 kV30 oc31 dc31 pm31 cd31 ct31 kV31 oc32 dc32 pm32 cd32 ct32 kV32 oc33 dc33 pm33 cd33 ct33 kV33 oc34 dc34 pm34 cd34 ct34 kV34 oc35 dc35 pm35 cd35 ct35 kV35 oc36 dc36 pm36 cd36 ct36 kV36 oc37 dc37 pm37 cd37 ct37 kV37 oc38 dc38 pm38 cd38 ct38 oc39 dc39 pm39 cd39 ct39 kV39 oc40 dc40 pm40 cd40 ct40 kV40 oc41 dc41 pm41 cd41 ct41 kV41 oc42 dc42 pm42 cd42 ct42 kV42 oc43 dc43 pm43 cd43 ct43 kV43 oc44 dc44 pm44 cd44 ct44 kV44 oc45 dc45 pm45 cd45 ct45 kV45 oc46 dc46 pm46 cd46 ct46 kV46 oc47 dc47 pm47 cd47 ct47 kV47 oc48 dc48 pm48 cd48 ct48 kV48 oc49 dc49 pm49 cd49 ct49 kV49 oc50 dc50 pm50 cd50 ct50 kV50 oc51 dc51 pm51 cd51 ct51 kV51 : Value}
    {CC0 CC1 : Addr}
    {ti0 ti1 ti2 ti3 : Tok}
    (qa0 : PySem.W.nsIn K mainGlobals "Book" = some (some (.ref CC0)))
    (qg0 : PySem.W.plainGet K CC0 Str.empty = true)
    (qh0 : PySem.W.hasDictIn K CC0 = true)
    (qp0 : PySem.W.plainOver K CC0 = true)
    (qs0 : PySem.W.findIn K (.ref CC0) "__setattr__" = some (some (.builtin "object.__setattr__")))
    (qm0 : PySem.W.makesIn K CC0 = true)
    (qk0 : PySem.W.keepIn K (.ref CC0) = true)
    (qn0_0 : PySem.W.findIn K (.ref CC0) "_bodies" = some none)
    (qa1 : PySem.W.nsIn K mainGlobals "Execution" = some (some (.ref CC1)))
    (qg1 : PySem.W.plainGet K CC1 Str.empty = true)
    (qh1 : PySem.W.hasDictIn K CC1 = true)
    (qp1 : PySem.W.plainOver K CC1 = true)
    (qs1 : PySem.W.findIn K (.ref CC1) "__setattr__" = some (some (.builtin "object.__setattr__")))
    (qm1 : PySem.W.makesIn K CC1 = true)
    (qk1 : PySem.W.keepIn K (.ref CC1) = true)
    (qn1_0 : PySem.W.findIn K (.ref CC1) "procedures" = some none)
    (qn1_1 : PySem.W.findIn K (.ref CC1) "bits" = some none)
    (qn1_2 : PySem.W.findIn K (.ref CC1) "taken" = some none)
    (qn1_3 : PySem.W.findIn K (.ref CC1) "left" = some none)
    (qn1_4 : PySem.W.findIn K (.ref CC1) "begun" = some none)
    (qn1_5 : PySem.W.findIn K (.ref CC1) "deeds" = some none)
    (qn1_6 : PySem.W.findIn K (.ref CC1) "way" = some none)
    {HE : Addr} {CE0 : Addr}

    (ea0 : PySem.W.nsIn K mainGlobals "NoRun" = some (some (.ref CE0)))
    (el0 : ∃ nm q N bs sn sub ab col dd k0 k1 k2 k3 k5, K.lookup CE0 = some (excClassObj nm q CE0 N bs [.ref HE, .type "ValueError", .type "Exception", .type "BaseException", .type "object"] true sn sub ab col dd k0 k1 k2 k3 k5 "ValueError.__new__"))
    (es0 : PySem.W.findIn K (.ref CE0) "__setattr__" = some (some (.builtin "object.__setattr__")))
    (eb0 : PySem.W.subIn K (.ref CE0) (.type "BaseException") = some true)
    (et0 : PySem.W.typeIn K (.ref CE0) = some (.type "type"))
    (ek0 : PySem.W.keepIn K (.ref CE0) = true)
    (ec0 : PySem.W.isClsIn K CE0 = true)
    (eg0 : PySem.W.findIn K (.ref CE0) "__getattribute__" = some (some (.builtin "BaseException.__getattribute__")))
    (eh0 : PySem.W.findIn K (.ref CE0) "__getattr__" = some none)
    (ed0 : PySem.W.hasDictIn K CE0 = true)
    (eS0 : PySem.W.subIn K (.ref CE0) (.ref CE0) = some true)
    (en0_0 : PySem.W.findIn K (.ref CE0) "index" = some none)
    (a0 : PySem.W.findIn K (.ref CE0) "__init__" = some (some (.ref f0)))
    (i0 : PySem.W.typeIn K (.ref f0) = some (.type "function"))
    (l0 : K.lookup f0 = some ⟨oc0, od0, .func (PySem.W.fnOf "__init__" "NoRun.__init__" (defArgs s_NoRun___init__) (defBody s_NoRun___init__) (defScope s_NoRun___init__) .none kV0 dc0 pm0 an0 cd0 ct0), sl0⟩)
    (c0 : PySem.W.codeIn K cd0 "NoRun.__init__" = true)
    (k0 : PySem.W.keepIn K (.ref f0) = true)
    (a1 : PySem.W.nsIn K mainGlobals "is_integer" = some (some (.ref f1)))
    (l1 : K.lookup f1 = some ⟨oc1, od1, .func (PySem.W.fnOf "is_integer" "is_integer" (defArgs s_is_integer) (defBody s_is_integer) (defScope s_is_integer) .none kV1 dc1 pm1 an1 cd1 ct1), sl1⟩)
    (c1 : PySem.W.codeIn K cd1 "is_integer" = true)
    (k1 : PySem.W.keepIn K (.ref f1) = true)
    (a2 : PySem.W.nsIn K mainGlobals "is_pen" = some (some (.ref f2)))
    (l2 : K.lookup f2 = some ⟨oc2, od2, .func (PySem.W.fnOf "is_pen" "is_pen" (defArgs s_is_pen) (defBody s_is_pen) (defScope s_is_pen) .none kV2 dc2 pm2 an2 cd2 ct2), sl2⟩)
    (c2 : PySem.W.codeIn K cd2 "is_pen" = true)
    (k2 : PySem.W.keepIn K (.ref f2) = true)
    (a3 : PySem.W.nsIn K mainGlobals "is_within" = some (some (.ref f3)))
    (l3 : K.lookup f3 = some ⟨oc3, od3, .func (PySem.W.fnOf "is_within" "is_within" (defArgs s_is_within) (defBody s_is_within) (defScope s_is_within) .none kV3 dc3 pm3 an3 cd3 ct3), sl3⟩)
    (c3 : PySem.W.codeIn K cd3 "is_within" = true)
    (k3 : PySem.W.keepIn K (.ref f3) = true)
    (a4 : PySem.W.nsIn K mainGlobals "is_bit" = some (some (.ref f4)))
    (l4 : K.lookup f4 = some ⟨oc4, od4, .func (PySem.W.fnOf "is_bit" "is_bit" (defArgs s_is_bit) (defBody s_is_bit) (defScope s_is_bit) .none kV4 dc4 pm4 an4 cd4 ct4), sl4⟩)
    (c4 : PySem.W.codeIn K cd4 "is_bit" = true)
    (k4 : PySem.W.keepIn K (.ref f4) = true)
    (a5 : PySem.W.nsIn K mainGlobals "is_command" = some (some (.ref f5)))
    (l5 : K.lookup f5 = some ⟨oc5, od5, .func (PySem.W.fnOf "is_command" "is_command" (defArgs s_is_command) (defBody s_is_command) (defScope s_is_command) .none kV5 dc5 pm5 an5 cd5 ct5), sl5⟩)
    (c5 : PySem.W.codeIn K cd5 "is_command" = true)
    (k5 : PySem.W.keepIn K (.ref f5) = true)
    (a6 : PySem.W.nsIn K mainGlobals "turned" = some (some (.ref f6)))
    (l6 : K.lookup f6 = some ⟨oc6, od6, .func (PySem.W.fnOf "turned" "turned" (defArgs s_turned) (defBody s_turned) (defScope s_turned) .none kV6 dc6 pm6 an6 cd6 ct6), sl6⟩)
    (c6 : PySem.W.codeIn K cd6 "turned" = true)
    (k6 : PySem.W.keepIn K (.ref f6) = true)
    (a7 : PySem.W.nsIn K mainGlobals "moved" = some (some (.ref f7)))
    (l7 : K.lookup f7 = some ⟨oc7, od7, .func (PySem.W.fnOf "moved" "moved" (defArgs s_moved) (defBody s_moved) (defScope s_moved) .none kV7 dc7 pm7 an7 cd7 ct7), sl7⟩)
    (c7 : PySem.W.codeIn K cd7 "moved" = true)
    (k7 : PySem.W.keepIn K (.ref f7) = true)
    (a8 : PySem.W.nsIn K mainGlobals "is_index" = some (some (.ref f8)))
    (l8 : K.lookup f8 = some ⟨oc8, od8, .func (PySem.W.fnOf "is_index" "is_index" (defArgs s_is_index) (defBody s_is_index) (defScope s_is_index) .none kV8 dc8 pm8 an8 cd8 ct8), sl8⟩)
    (c8 : PySem.W.codeIn K cd8 "is_index" = true)
    (k8 : PySem.W.keepIn K (.ref f8) = true)
    (a9 : PySem.W.nsIn K mainGlobals "are_blocks" = some (some (.ref f9)))
    (l9 : K.lookup f9 = some ⟨oc9, od9, .func (PySem.W.fnOf "are_blocks" "are_blocks" (defArgs s_are_blocks) (defBody s_are_blocks) (defScope s_are_blocks) .none kV9 dc9 pm9 an9 cd9 ct9), sl9⟩)
    (c9 : PySem.W.codeIn K cd9 "are_blocks" = true)
    (k9 : PySem.W.keepIn K (.ref f9) = true)
    (a10 : PySem.W.nsIn K mainGlobals "is_call" = some (some (.ref f10)))
    (l10 : K.lookup f10 = some ⟨oc10, od10, .func (PySem.W.fnOf "is_call" "is_call" (defArgs s_is_call) (defBody s_is_call) (defScope s_is_call) .none kV10 dc10 pm10 an10 cd10 ct10), sl10⟩)
    (c10 : PySem.W.codeIn K cd10 "is_call" = true)
    (k10 : PySem.W.keepIn K (.ref f10) = true)
    (a11 : PySem.W.nsIn K mainGlobals "is_statement" = some (some (.ref f11)))
    (l11 : K.lookup f11 = some ⟨oc11, od11, .func (PySem.W.fnOf "is_statement" "is_statement" (defArgs s_is_statement) (defBody s_is_statement) (defScope s_is_statement) .none kV11 dc11 pm11 an11 cd11 ct11), sl11⟩)
    (c11 : PySem.W.codeIn K cd11 "is_statement" = true)
    (k11 : PySem.W.keepIn K (.ref f11) = true)
    (a12 : PySem.W.nsIn K mainGlobals "blocks_of" = some (some (.ref f12)))
    (l12 : K.lookup f12 = some ⟨oc12, od12, .func (PySem.W.fnOf "blocks_of" "blocks_of" (defArgs s_blocks_of) (defBody s_blocks_of) (defScope s_blocks_of) .none kV12 dc12 pm12 an12 cd12 ct12), sl12⟩)
    (c12 : PySem.W.codeIn K cd12 "blocks_of" = true)
    (k12 : PySem.W.keepIn K (.ref f12) = true)
    (a13 : PySem.W.nsIn K mainGlobals "with_blocks" = some (some (.ref f13)))
    (l13 : K.lookup f13 = some ⟨oc13, od13, .func (PySem.W.fnOf "with_blocks" "with_blocks" (defArgs s_with_blocks) (defBody s_with_blocks) (defScope s_with_blocks) .none kV13 dc13 pm13 an13 cd13 ct13), sl13⟩)
    (c13 : PySem.W.codeIn K cd13 "with_blocks" = true)
    (k13 : PySem.W.keepIn K (.ref f13) = true)
    (a14 : PySem.W.nsIn K mainGlobals "copied_statement" = some (some (.ref f14)))
    (l14 : K.lookup f14 = some ⟨oc14, od14, .func (PySem.W.fnOf "copied_statement" "copied_statement" (defArgs s_copied_statement) (defBody s_copied_statement) (defScope s_copied_statement) .none kV14 dc14 pm14 an14 cd14 ct14), sl14⟩)
    (c14 : PySem.W.codeIn K cd14 "copied_statement" = true)
    (k14 : PySem.W.keepIn K (.ref f14) = true)
    (a15 : PySem.W.nsIn K mainGlobals "copied" = some (some (.ref f15)))
    (l15 : K.lookup f15 = some ⟨oc15, od15, .func (PySem.W.fnOf "copied" "copied" (defArgs s_copied) (defBody s_copied) (defScope s_copied) .none kV15 dc15 pm15 an15 cd15 ct15), sl15⟩)
    (c15 : PySem.W.codeIn K cd15 "copied" = true)
    (k15 : PySem.W.keepIn K (.ref f15) = true)
    (a16 : PySem.W.nsIn K mainGlobals "check_block" = some (some (.ref f16)))
    (l16 : K.lookup f16 = some ⟨oc16, od16, .func (PySem.W.fnOf "check_block" "check_block" (defArgs s_check_block) (defBody s_check_block) (defScope s_check_block) .none kV16 dc16 pm16 an16 cd16 ct16), sl16⟩)
    (c16 : PySem.W.codeIn K cd16 "check_block" = true)
    (k16 : PySem.W.keepIn K (.ref f16) = true)
    (a17 : PySem.W.nsIn K mainGlobals "check_bodies" = some (some (.ref f17)))
    (l17 : K.lookup f17 = some ⟨oc17, od17, .func (PySem.W.fnOf "check_bodies" "check_bodies" (defArgs s_check_bodies) (defBody s_check_bodies) (defScope s_check_bodies) .none kV17 dc17 pm17 an17 cd17 ct17), sl17⟩)
    (c17 : PySem.W.codeIn K cd17 "check_bodies" = true)
    (k17 : PySem.W.keepIn K (.ref f17) = true)
    (a18 : PySem.W.findIn K (.ref CC0) "__init__" = some (some (.ref f18)))
    (i18 : PySem.W.isFn K (.ref f18) = true)
    (l18 : K.lookup f18 = some ⟨oc18, od18, .func (PySem.W.fnOf "__init__" "Book.__init__" (defArgs s_Book___init__) (defBody s_Book___init__) (defScope s_Book___init__) .none kV18 dc18 pm18 an18 cd18 ct18), sl18⟩)
    (c18 : PySem.W.codeIn K cd18 "Book.__init__" = true)
    (k18 : PySem.W.keepIn K (.ref f18) = true)
    (a19 : PySem.W.findIn K (.ref CC0) "__len__" = some (some (.ref f19)))
    (i19 : PySem.W.isFn K (.ref f19) = true)
    (l19 : K.lookup f19 = some ⟨oc19, od19, .func (PySem.W.fnOf "__len__" "Book.__len__" (defArgs s_Book___len__) (defBody s_Book___len__) (defScope s_Book___len__) .none kV19 dc19 pm19 an19 cd19 ct19), sl19⟩)
    (c19 : PySem.W.codeIn K cd19 "Book.__len__" = true)
    (k19 : PySem.W.keepIn K (.ref f19) = true)
    (a20 : PySem.W.findIn K (.ref CC0) "bodies" = some (some (.ref f20)))
    (i20 : PySem.W.isFn K (.ref f20) = true)
    (l20 : K.lookup f20 = some ⟨oc20, od20, .func (PySem.W.fnOf "bodies" "Book.bodies" (defArgs s_Book_bodies) (defBody s_Book_bodies) (defScope s_Book_bodies) .none kV20 dc20 pm20 an20 cd20 ct20), sl20⟩)
    (c20 : PySem.W.codeIn K cd20 "Book.bodies" = true)
    (k20 : PySem.W.keepIn K (.ref f20) = true)
    (a21 : PySem.W.nsIn K mainGlobals "vector" = some (some (.ref f21)))
    (l21 : K.lookup f21 = some ⟨oc21, od21, .func (PySem.W.fnOf "vector" "vector" (defArgs s_vector) (defBody s_vector) (defScope s_vector) .none kV21 dc21 pm21 an21 cd21 ct21), sl21⟩)
    (c21 : PySem.W.codeIn K cd21 "vector" = true)
    (k21 : PySem.W.keepIn K (.ref f21) = true)
    (a22 : PySem.W.nsIn K mainGlobals "unit_pen" = some (some (.ref f22)))
    (l22 : K.lookup f22 = some ⟨oc22, od22, .func (PySem.W.fnOf "unit_pen" "unit_pen" (defArgs s_unit_pen) (defBody s_unit_pen) (defScope s_unit_pen) .none kV22 dc22 pm22 an22 cd22 ct22), sl22⟩)
    (c22 : PySem.W.codeIn K cd22 "unit_pen" = true)
    (k22 : PySem.W.keepIn K (.ref f22) = true)
    (a23 : PySem.W.nsIn K mainGlobals "probes" = some (some (.ref f23)))
    (l23 : K.lookup f23 = some ⟨oc23, od23, .func (PySem.W.fnOf "probes" "probes" (defArgs s_probes) (defBody s_probes) (defScope s_probes) .none kV23 dc23 pm23 an23 cd23 ct23), sl23⟩)
    (c23 : PySem.W.codeIn K cd23 "probes" = true)
    (k23 : PySem.W.keepIn K (.ref f23) = true)
    (a24 : PySem.W.nsIn K mainGlobals "matrix_from" = some (some (.ref f24)))
    (l24 : K.lookup f24 = some ⟨oc24, od24, .func (PySem.W.fnOf "matrix_from" "matrix_from" (defArgs s_matrix_from) (defBody s_matrix_from) (defScope s_matrix_from) .none kV24 dc24 pm24 an24 cd24 ct24), sl24⟩)
    (c24 : PySem.W.codeIn K cd24 "matrix_from" = true)
    (k24 : PySem.W.keepIn K (.ref f24) = true)
    (a25 : PySem.W.findIn K (.ref CC1) "__init__" = some (some (.ref f25)))
    (i25 : PySem.W.isFn K (.ref f25) = true)
    (l25 : K.lookup f25 = some ⟨oc25, od25, .func (PySem.W.fnOf "__init__" "Execution.__init__" (defArgs s_Execution___init__) (defBody s_Execution___init__) (defScope s_Execution___init__) .none kV25 dc25 pm25 an25 cd25 ct25), sl25⟩)
    (c25 : PySem.W.codeIn K cd25 "Execution.__init__" = true)
    (k25 : PySem.W.keepIn K (.ref f25) = true)
    (a26 : PySem.W.findIn K (.ref CC1) "finish" = some (some (.ref f26)))
    (i26 : PySem.W.isFn K (.ref f26) = true)
    (l26 : K.lookup f26 = some ⟨oc26, od26, .func (PySem.W.fnOf "finish" "Execution.finish" (defArgs s_Execution_finish) (defBody s_Execution_finish) (defScope s_Execution_finish) .none kV26 dc26 pm26 an26 cd26 ct26), sl26⟩)
    (c26 : PySem.W.codeIn K cd26 "Execution.finish" = true)
    (k26 : PySem.W.keepIn K (.ref f26) = true)
    (a27 : PySem.W.findIn K (.ref CC1) "step" = some (some (.ref f27)))
    (i27 : PySem.W.isFn K (.ref f27) = true)
    (l27 : K.lookup f27 = some ⟨oc27, od27, .func (PySem.W.fnOf "step" "Execution.step" (defArgs s_Execution_step) (defBody s_Execution_step) (defScope s_Execution_step) .none kV27 dc27 pm27 an27 cd27 ct27), sl27⟩)
    (c27 : PySem.W.codeIn K cd27 "Execution.step" = true)
    (k27 : PySem.W.keepIn K (.ref f27) = true)
    (a28 : PySem.W.findIn K (.ref CC1) "enter" = some (some (.ref f28)))
    (i28 : PySem.W.isFn K (.ref f28) = true)
    (l28 : K.lookup f28 = some ⟨oc28, od28, .func (PySem.W.fnOf "enter" "Execution.enter" (defArgs s_Execution_enter) (defBody s_Execution_enter) (defScope s_Execution_enter) .none kV28 dc28 pm28 an28 cd28 ct28), sl28⟩)
    (c28 : PySem.W.codeIn K cd28 "Execution.enter" = true)
    (k28 : PySem.W.keepIn K (.ref f28) = true)
    (a29 : PySem.W.findIn K (.ref CC1) "take" = some (some (.ref f29)))
    (i29 : PySem.W.isFn K (.ref f29) = true)
    (l29 : K.lookup f29 = some ⟨oc29, od29, .func (PySem.W.fnOf "take" "Execution.take" (defArgs s_Execution_take) (defBody s_Execution_take) (defScope s_Execution_take) .none kV29 dc29 pm29 an29 cd29 ct29), sl29⟩)
    (c29 : PySem.W.codeIn K cd29 "Execution.take" = true)
    (k29 : PySem.W.keepIn K (.ref f29) = true)
    (a30 : PySem.W.findIn K (.ref CC1) "begin" = some (some (.ref f30)))
    (i30 : PySem.W.isFn K (.ref f30) = true)
    (l30 : K.lookup f30 = some ⟨oc30, od30, .func (PySem.W.fnOf "begin" "Execution.begin" (defArgs s_Execution_begin) (defBody s_Execution_begin) (defScope s_Execution_begin) .none kV30 dc30 pm30 an30 cd30 ct30), sl30⟩)
    (c30 : PySem.W.codeIn K cd30 "Execution.begin" = true)
    (k30 : PySem.W.keepIn K (.ref f30) = true)
    (a31 : PySem.W.findIn K (.ref CC1) "unwind" = some (some (.ref f31)))
    (i31 : PySem.W.isFn K (.ref f31) = true)
    (l31 : K.lookup f31 = some ⟨oc31, od31, .func (PySem.W.fnOf "unwind" "Execution.unwind" (defArgs s_Execution_unwind) (defBody s_Execution_unwind) (defScope s_Execution_unwind) .none kV31 dc31 pm31 an31 cd31 ct31), sl31⟩)
    (c31 : PySem.W.codeIn K cd31 "Execution.unwind" = true)
    (k31 : PySem.W.keepIn K (.ref f31) = true)
    (a32 : PySem.W.findIn K (.ref CC1) "leave" = some (some (.ref f32)))
    (i32 : PySem.W.isFn K (.ref f32) = true)
    (l32 : K.lookup f32 = some ⟨oc32, od32, .func (PySem.W.fnOf "leave" "Execution.leave" (defArgs s_Execution_leave) (defBody s_Execution_leave) (defScope s_Execution_leave) .none kV32 dc32 pm32 an32 cd32 ct32), sl32⟩)
    (c32 : PySem.W.codeIn K cd32 "Execution.leave" = true)
    (k32 : PySem.W.keepIn K (.ref f32) = true)
    (a33 : PySem.W.nsIn K mainGlobals "check_bits" = some (some (.ref f33)))
    (l33 : K.lookup f33 = some ⟨oc33, od33, .func (PySem.W.fnOf "check_bits" "check_bits" (defArgs s_check_bits) (defBody s_check_bits) (defScope s_check_bits) .none kV33 dc33 pm33 an33 cd33 ct33), sl33⟩)
    (c33 : PySem.W.codeIn K cd33 "check_bits" = true)
    (k33 : PySem.W.keepIn K (.ref f33) = true)
    (a34 : PySem.W.nsIn K mainGlobals "executed" = some (some (.ref f34)))
    (l34 : K.lookup f34 = some ⟨oc34, od34, .func (PySem.W.fnOf "executed" "executed" (defArgs s_executed) (defBody s_executed) (defScope s_executed) .none kV34 dc34 pm34 an34 cd34 ct34), sl34⟩)
    (c34 : PySem.W.codeIn K cd34 "executed" = true)
    (k34 : PySem.W.keepIn K (.ref f34) = true)
    (a35 : PySem.W.nsIn K mainGlobals "length_of" = some (some (.ref f35)))
    (l35 : K.lookup f35 = some ⟨oc35, od35, .func (PySem.W.fnOf "length_of" "length_of" (defArgs s_length_of) (defBody s_length_of) (defScope s_length_of) .none kV35 dc35 pm35 an35 cd35 ct35), sl35⟩)
    (c35 : PySem.W.codeIn K cd35 "length_of" = true)
    (k35 : PySem.W.keepIn K (.ref f35) = true)
    (a36 : PySem.W.nsIn K mainGlobals "pens_behind" = some (some (.ref f36)))
    (l36 : K.lookup f36 = some ⟨oc36, od36, .func (PySem.W.fnOf "pens_behind" "pens_behind" (defArgs s_pens_behind) (defBody s_pens_behind) (defScope s_pens_behind) .none kV36 dc36 pm36 an36 cd36 ct36), sl36⟩)
    (c36 : PySem.W.codeIn K cd36 "pens_behind" = true)
    (k36 : PySem.W.keepIn K (.ref f36) = true)
    (a37 : PySem.W.nsIn K mainGlobals "end_of" = some (some (.ref f37)))
    (l37 : K.lookup f37 = some ⟨oc37, od37, .func (PySem.W.fnOf "end_of" "end_of" (defArgs s_end_of) (defBody s_end_of) (defScope s_end_of) .none kV37 dc37 pm37 an37 cd37 ct37), sl37⟩)
    (c37 : PySem.W.codeIn K cd37 "end_of" = true)
    (k37 : PySem.W.keepIn K (.ref f37) = true)
    (a38 : PySem.W.nsIn K mainGlobals "ran" = some (some (.ref f38)))
    {kD38 : Addr}
    (l38 : K.lookup f38 = some ⟨oc38, od38, .func (PySem.W.fnOf "ran" "ran" (defArgs s_ran) (defBody s_ran) (defScope s_ran) .none (.ref kD38) dc38 pm38 an38 cd38 ct38), sl38⟩)
    (kw38_pen : PySem.W.nsIn K kD38 "pen" = some (some (.ref aX_HOME)))
    (c38 : PySem.W.codeIn K cd38 "ran" = true)
    (k38 : PySem.W.keepIn K (.ref f38) = true)
    (a39 : PySem.W.nsIn K mainGlobals "run_matrix" = some (some (.ref f39)))
    (l39 : K.lookup f39 = some ⟨oc39, od39, .func (PySem.W.fnOf "run_matrix" "run_matrix" (defArgs s_run_matrix) (defBody s_run_matrix) (defScope s_run_matrix) .none kV39 dc39 pm39 an39 cd39 ct39), sl39⟩)
    (c39 : PySem.W.codeIn K cd39 "run_matrix" = true)
    (k39 : PySem.W.keepIn K (.ref f39) = true)
    (a40 : PySem.W.nsIn K mainGlobals "_law_pool" = some (some (.ref f40)))
    (l40 : K.lookup f40 = some ⟨oc40, od40, .func (PySem.W.fnOf "_law_pool" "_law_pool" (defArgs s__law_pool) (defBody s__law_pool) (defScope s__law_pool) .none kV40 dc40 pm40 an40 cd40 ct40), sl40⟩)
    (c40 : PySem.W.codeIn K cd40 "_law_pool" = true)
    (k40 : PySem.W.keepIn K (.ref f40) = true)
    (a41 : PySem.W.nsIn K mainGlobals "_law_draw" = some (some (.ref f41)))
    (l41 : K.lookup f41 = some ⟨oc41, od41, .func (PySem.W.fnOf "_law_draw" "_law_draw" (defArgs s__law_draw) (defBody s__law_draw) (defScope s__law_draw) .none kV41 dc41 pm41 an41 cd41 ct41), sl41⟩)
    (c41 : PySem.W.codeIn K cd41 "_law_draw" = true)
    (k41 : PySem.W.keepIn K (.ref f41) = true)
    (a42 : PySem.W.nsIn K mainGlobals "_law_number" = some (some (.ref f42)))
    (l42 : K.lookup f42 = some ⟨oc42, od42, .func (PySem.W.fnOf "_law_number" "_law_number" (defArgs s__law_number) (defBody s__law_number) (defScope s__law_number) .none kV42 dc42 pm42 an42 cd42 ct42), sl42⟩)
    (c42 : PySem.W.codeIn K cd42 "_law_number" = true)
    (k42 : PySem.W.keepIn K (.ref f42) = true)
    (a43 : PySem.W.nsIn K mainGlobals "_law_pen" = some (some (.ref f43)))
    (l43 : K.lookup f43 = some ⟨oc43, od43, .func (PySem.W.fnOf "_law_pen" "_law_pen" (defArgs s__law_pen) (defBody s__law_pen) (defScope s__law_pen) .none kV43 dc43 pm43 an43 cd43 ct43), sl43⟩)
    (c43 : PySem.W.codeIn K cd43 "_law_pen" = true)
    (k43 : PySem.W.keepIn K (.ref f43) = true)
    (a44 : PySem.W.nsIn K mainGlobals "_law_move" = some (some (.ref f44)))
    (l44 : K.lookup f44 = some ⟨oc44, od44, .func (PySem.W.fnOf "_law_move" "_law_move" (defArgs s__law_move) (defBody s__law_move) (defScope s__law_move) .none kV44 dc44 pm44 an44 cd44 ct44), sl44⟩)
    (c44 : PySem.W.codeIn K cd44 "_law_move" = true)
    (k44 : PySem.W.keepIn K (.ref f44) = true)
    (a45 : PySem.W.nsIn K mainGlobals "_law_pens" = some (some (.ref f45)))
    (l45 : K.lookup f45 = some ⟨oc45, od45, .func (PySem.W.fnOf "_law_pens" "_law_pens" (defArgs s__law_pens) (defBody s__law_pens) (defScope s__law_pens) .none kV45 dc45 pm45 an45 cd45 ct45), sl45⟩)
    (c45 : PySem.W.codeIn K cd45 "_law_pens" = true)
    (k45 : PySem.W.keepIn K (.ref f45) = true)
    (a46 : PySem.W.nsIn K mainGlobals "_law_probe" = some (some (.ref f46)))
    (l46 : K.lookup f46 = some ⟨oc46, od46, .func (PySem.W.fnOf "_law_probe" "_law_probe" (defArgs s__law_probe) (defBody s__law_probe) (defScope s__law_probe) .none kV46 dc46 pm46 an46 cd46 ct46), sl46⟩)
    (c46 : PySem.W.codeIn K cd46 "_law_probe" = true)
    (k46 : PySem.W.keepIn K (.ref f46) = true)
    (a47 : PySem.W.nsIn K mainGlobals "_law_any_command" = some (some (.ref f47)))
    (l47 : K.lookup f47 = some ⟨oc47, od47, .func (PySem.W.fnOf "_law_any_command" "_law_any_command" (defArgs s__law_any_command) (defBody s__law_any_command) (defScope s__law_any_command) .none kV47 dc47 pm47 an47 cd47 ct47), sl47⟩)
    (c47 : PySem.W.codeIn K cd47 "_law_any_command" = true)
    (k47 : PySem.W.keepIn K (.ref f47) = true)
    (a48 : PySem.W.nsIn K mainGlobals "_law_same" = some (some (.ref f48)))
    (l48 : K.lookup f48 = some ⟨oc48, od48, .func (PySem.W.fnOf "_law_same" "_law_same" (defArgs s__law_same) (defBody s__law_same) (defScope s__law_same) .none kV48 dc48 pm48 an48 cd48 ct48), sl48⟩)
    (c48 : PySem.W.codeIn K cd48 "_law_same" = true)
    (k48 : PySem.W.keepIn K (.ref f48) = true)
    (a49 : PySem.W.nsIn K mainGlobals "_law_bare" = some (some (.ref f49)))
    (l49 : K.lookup f49 = some ⟨oc49, od49, .func (PySem.W.fnOf "_law_bare" "_law_bare" (defArgs s__law_bare) (defBody s__law_bare) (defScope s__law_bare) .none kV49 dc49 pm49 an49 cd49 ct49), sl49⟩)
    (c49 : PySem.W.codeIn K cd49 "_law_bare" = true)
    (k49 : PySem.W.keepIn K (.ref f49) = true)
    (a50 : PySem.W.nsIn K mainGlobals "_law_refused" = some (some (.ref f50)))
    (l50 : K.lookup f50 = some ⟨oc50, od50, .func (PySem.W.fnOf "_law_refused" "_law_refused" (defArgs s__law_refused) (defBody s__law_refused) (defScope s__law_refused) .none kV50 dc50 pm50 an50 cd50 ct50), sl50⟩)
    (c50 : PySem.W.codeIn K cd50 "_law_refused" = true)
    (k50 : PySem.W.keepIn K (.ref f50) = true)
    (a51 : PySem.W.nsIn K mainGlobals "law" = some (some (.ref f51)))
    (l51 : K.lookup f51 = some ⟨oc51, od51, .func (PySem.W.fnOf "law" "law" (defArgs s_law) (defBody s_law) (defScope s_law) .none kV51 dc51 pm51 an51 cd51 ct51), sl51⟩)
    (c51 : PySem.W.codeIn K cd51 "law" = true)
    (k51 : PySem.W.keepIn K (.ref f51) = true)
    (z0 : PySem.W.nsIn K mainGlobals "all" = some none)
    (z1 : PySem.W.nsIn K mainGlobals "bool" = some none)
    (z2 : PySem.W.nsIn K mainGlobals "enumerate" = some none)
    (z3 : PySem.W.nsIn K mainGlobals "int" = some none)
    (z4 : PySem.W.nsIn K mainGlobals "isinstance" = some none)
    (z5 : PySem.W.nsIn K mainGlobals "len" = some none)
    (z6 : PySem.W.nsIn K mainGlobals "list" = some none)
    (z7 : PySem.W.nsIn K mainGlobals "range" = some none)
    (z8 : PySem.W.nsIn K mainGlobals "str" = some none)
    (z9 : PySem.W.nsIn K mainGlobals "tuple" = some none)
    (z10 : PySem.W.nsIn K mainGlobals "zip" = some none)
    (gi0 : PySem.W.nsIn K mainGlobals "DEEPEST_LEVEL" = some (some (.int 3 ti0)))
    (gi1 : PySem.W.nsIn K mainGlobals "MOST_IN_A_LIST" = some (some (.int 8 ti1)))
    (gi2 : PySem.W.nsIn K mainGlobals "MOST_IN_A_PROCEDURE" = some (some (.int 12 ti2)))
    (gi3 : PySem.W.nsIn K mainGlobals "MOST_PROCEDURES" = some (some (.int 3 ti3)))
    {aB : Addr}
    (gB : PySem.W.nsIn K mainGlobals "BOUNDS" = some (some (.ref aB)))
    {eB : Array DictEntry}
    {nB : Nat}
    (lB : K.lookup aB = some ⟨.type "dict", none, .dict eB nB, #[]⟩) (iB : PySem.W.KeysLit w.params eB.toList) (wB : (aB == sysModules) = false)
    {b0 : Addr} {db0 : Option Addr} {nb0 : Nat} {sb0 : Array (Option Value)} {p0_0 : Addr} {dp0_0 : Option Addr} {np0_0 : Nat} {sp0_0 : Array (Option Value)} {t0_0 u0_0 : Tok} {b1 : Addr} {db1 : Option Addr} {nb1 : Nat} {sb1 : Array (Option Value)} {p1_0 : Addr} {dp1_0 : Option Addr} {np1_0 : Nat} {sp1_0 : Array (Option Value)} {t1_0 u1_0 : Tok} {b2 : Addr} {db2 : Option Addr} {nb2 : Nat} {sb2 : Array (Option Value)} {b3 : Addr} {db3 : Option Addr} {nb3 : Nat} {sb3 : Array (Option Value)} {p3_0 : Addr} {dp3_0 : Option Addr} {np3_0 : Nat} {sp3_0 : Array (Option Value)} {t3_0 u3_0 : Tok} {b4 : Addr} {db4 : Option Addr} {nb4 : Nat} {sb4 : Array (Option Value)} {p4_0 : Addr} {dp4_0 : Option Addr} {np4_0 : Nat} {sp4_0 : Array (Option Value)} {t4_0 u4_0 : Tok} {p4_1 : Addr} {dp4_1 : Option Addr} {np4_1 : Nat} {sp4_1 : Array (Option Value)} {t4_1 u4_1 : Tok} {b5 : Addr} {db5 : Option Addr} {nb5 : Nat} {sb5 : Array (Option Value)} {p5_0 : Addr} {dp5_0 : Option Addr} {np5_0 : Nat} {sp5_0 : Array (Option Value)} {t5_0 u5_0 : Tok} {p5_1 : Addr} {dp5_1 : Option Addr} {np5_1 : Nat} {sp5_1 : Array (Option Value)} {t5_1 u5_1 : Tok} {b6 : Addr} {db6 : Option Addr} {nb6 : Nat} {sb6 : Array (Option Value)} {b7 : Addr} {db7 : Option Addr} {nb7 : Nat} {sb7 : Array (Option Value)} {b8 : Addr} {db8 : Option Addr} {nb8 : Nat} {sb8 : Array (Option Value)} (rn0 : PySem.W.nsIn K aB "go" = some (some (.ref b0))) (rl0 : K.lookup b0 = some ⟨.type "tuple", db0, .seq ([.ref p0_0] : List Value).toArray nb0, sb0⟩) (rp0_0 : K.lookup p0_0 = some ⟨.type "tuple", dp0_0, .seq ([.int (-9) t0_0, .int 9 u0_0] : List Value).toArray np0_0, sp0_0⟩) (rn1 : PySem.W.nsIn K aB "turn" = some (some (.ref b1))) (rl1 : K.lookup b1 = some ⟨.type "tuple", db1, .seq ([.ref p1_0] : List Value).toArray nb1, sb1⟩) (rp1_0 : K.lookup p1_0 = some ⟨.type "tuple", dp1_0, .seq ([.int (1) t1_0, .int 3 u1_0] : List Value).toArray np1_0, sp1_0⟩) (rn2 : PySem.W.nsIn K aB "mirror" = some (some (.ref b2))) (rl2 : K.lookup b2 = some ⟨.type "tuple", db2, .seq ([] : List Value).toArray nb2, sb2⟩) (rn3 : PySem.W.nsIn K aB "scale" = some (some (.ref b3))) (rl3 : K.lookup b3 = some ⟨.type "tuple", db3, .seq ([.ref p3_0] : List Value).toArray nb3, sb3⟩) (rp3_0 : K.lookup p3_0 = some ⟨.type "tuple", dp3_0, .seq ([.int (-3) t3_0, .int 3 u3_0] : List Value).toArray np3_0, sp3_0⟩) (rn4 : PySem.W.nsIn K aB "aim" = some (some (.ref b4))) (rl4 : K.lookup b4 = some ⟨.type "tuple", db4, .seq ([.ref p4_0, .ref p4_1] : List Value).toArray nb4, sb4⟩) (rp4_0 : K.lookup p4_0 = some ⟨.type "tuple", dp4_0, .seq ([.int (-9) t4_0, .int 9 u4_0] : List Value).toArray np4_0, sp4_0⟩) (rp4_1 : K.lookup p4_1 = some ⟨.type "tuple", dp4_1, .seq ([.int (-9) t4_1, .int 9 u4_1] : List Value).toArray np4_1, sp4_1⟩) (rn5 : PySem.W.nsIn K aB "place" = some (some (.ref b5))) (rl5 : K.lookup b5 = some ⟨.type "tuple", db5, .seq ([.ref p5_0, .ref p5_1] : List Value).toArray nb5, sb5⟩) (rp5_0 : K.lookup p5_0 = some ⟨.type "tuple", dp5_0, .seq ([.int (-9) t5_0, .int 9 u5_0] : List Value).toArray np5_0, sp5_0⟩) (rp5_1 : K.lookup p5_1 = some ⟨.type "tuple", dp5_1, .seq ([.int (-9) t5_1, .int 9 u5_1] : List Value).toArray np5_1, sp5_1⟩) (rn6 : PySem.W.nsIn K aB "mark" = some (some (.ref b6))) (rl6 : K.lookup b6 = some ⟨.type "tuple", db6, .seq ([] : List Value).toArray nb6, sb6⟩) (rn7 : PySem.W.nsIn K aB "return" = some (some (.ref b7))) (rl7 : K.lookup b7 = some ⟨.type "tuple", db7, .seq ([] : List Value).toArray nb7, sb7⟩) (rn8 : PySem.W.nsIn K aB "exchange" = some (some (.ref b8))) (rl8 : K.lookup b8 = some ⟨.type "tuple", db8, .seq ([] : List Value).toArray nb8, sb8⟩)
    (ow0 : PySem.W.nsIn K aB "keep" = some none) (ow1 : PySem.W.nsIn K aB "again" = some none) (ow2 : PySem.W.nsIn K aB "either" = some none) (ow3 : PySem.W.nsIn K aB "call" = some none) (ow4 : PySem.W.nsIn K aB "end" = some none) (ow5 : PySem.W.nsIn K aB "Mark" = some none) (ow6 : PySem.W.nsIn K aB "bad" = some none)
    {aNPr : Addr}
    {aNP : Addr}
    (gNPr : PySem.W.nsIn K mainGlobals "NoProcedure" = some (some (.ref aNPr))) (qNPr : PySem.W.excIn K aNPr [.type "ValueError", .type "Exception", .type "BaseException", .type "object"] "ValueError.__new__" = true) (kNPr : PySem.W.keepIn K (.ref aNPr) = true) (bNPr : PySem.W.subIn K (.ref aNPr) (.type "BaseException") = some true) (tNPr : PySem.W.typeIn K (.ref aNPr) = some (.type "type")) (iNPr : PySem.W.isClsIn K aNPr = true) (sNPr : PySem.W.subIn K (.ref aNPr) (.ref aNPr) = some true)
    (gNP : PySem.W.nsIn K mainGlobals "NoPen" = some (some (.ref aNP))) (qNP : PySem.W.excIn K aNP [.type "ValueError", .type "Exception", .type "BaseException", .type "object"] "ValueError.__new__" = true) (kNP : PySem.W.keepIn K (.ref aNP) = true) (bNP : PySem.W.subIn K (.ref aNP) (.type "BaseException") = some true) (tNP : PySem.W.typeIn K (.ref aNP) = some (.type "type")) (iNP : PySem.W.isClsIn K aNP = true) (sNP : PySem.W.subIn K (.ref aNP) (.ref aNP) = some true)
    {dH : Option Addr} {nH : Nat} {sH : Array (Option Value)} {h0 h1 h2 h3 h4 h5 : Tok}
    (gH : PySem.W.nsIn K mainGlobals "HOME" = some (some (.ref aX_HOME)))
    (lH : K.lookup aX_HOME = some ⟨.type "tuple", dH, .seq ([.int 0 h0, .int 0 h1, .int 1 h2, .int 0 h3, .int 0 h4, .int 0 h5] : List Value).toArray nH, sH⟩)
    {aHo : Addr} {dHo : Option Addr} {nHo : Nat} {sHo : Array (Option Value)} {tHo : Tok}
    (gHo : PySem.W.nsIn K mainGlobals "HOLD" = some (some (.ref aHo)))
    (lHo : K.lookup aHo = some ⟨.type "tuple", dHo, .seq ([.str "hold" tHo] : List Value).toArray nHo, sHo⟩)
    {aBa : Addr} {dBa : Option Addr} {nBa : Nat} {sBa : Array (Option Value)} {tBa : Tok}
    (gBa : PySem.W.nsIn K mainGlobals "BACK" = some (some (.ref aBa)))
    (lBa : K.lookup aBa = some ⟨.type "tuple", dBa, .seq ([.str "back" tBa] : List Value).toArray nBa, sBa⟩)
    (wd0 : PySem.W.nsIn K aB "hold" = some none)
    (wd1 : PySem.W.nsIn K aB "back" = some none)
    : ∃ fd : FuncData, (∀ (s : Shared) (v : Value), BindsTo s fd ⟨[v], []⟩ [("_law_script", v)]) ∧ ∀ base : Heap, K.In base → base.Ns mainGlobals mg → FnOk l.prog w K mg base CX0 18 fa fd ["_law_script"] (spLaw K) := by
  have e := hfa.symm.trans (PySem.W.mg_of X G a51)
  cases e
  have F0 := fun_mk (st := s_NoRun___init__) l0 c0 k0
  have F1 := fun_mk (st := s_is_integer) l1 c1 k1
  have F2 := fun_mk (st := s_is_pen) l2 c2 k2
  have F3 := fun_mk (st := s_is_within) l3 c3 k3
  have F4 := fun_mk (st := s_is_bit) l4 c4 k4
  have F5 := fun_mk (st := s_is_command) l5 c5 k5
  have F6 := fun_mk (st := s_turned) l6 c6 k6
  have F7 := fun_mk (st := s_moved) l7 c7 k7
  have F8 := fun_mk (st := s_is_index) l8 c8 k8
  have F9 := fun_mk (st := s_are_blocks) l9 c9 k9
  have F10 := fun_mk (st := s_is_call) l10 c10 k10
  have F11 := fun_mk (st := s_is_statement) l11 c11 k11
  have F12 := fun_mk (st := s_blocks_of) l12 c12 k12
  have F13 := fun_mk (st := s_with_blocks) l13 c13 k13
  have F14 := fun_mk (st := s_copied_statement) l14 c14 k14
  have F15 := fun_mk (st := s_copied) l15 c15 k15
  have F16 := fun_mk (st := s_check_block) l16 c16 k16
  have F17 := fun_mk (st := s_check_bodies) l17 c17 k17
  have F18 := fun_mk (st := s_Book___init__) l18 c18 k18
  have F19 := fun_mk (st := s_Book___len__) l19 c19 k19
  have F20 := fun_mk (st := s_Book_bodies) l20 c20 k20
  have F21 := fun_mk (st := s_vector) l21 c21 k21
  have F22 := fun_mk (st := s_unit_pen) l22 c22 k22
  have F23 := fun_mk (st := s_probes) l23 c23 k23
  have F24 := fun_mk (st := s_matrix_from) l24 c24 k24
  have F25 := fun_mk (st := s_Execution___init__) l25 c25 k25
  have F26 := fun_mk (st := s_Execution_finish) l26 c26 k26
  have F27 := fun_mk (st := s_Execution_step) l27 c27 k27
  have F28 := fun_mk (st := s_Execution_enter) l28 c28 k28
  have F29 := fun_mk (st := s_Execution_take) l29 c29 k29
  have F30 := fun_mk (st := s_Execution_begin) l30 c30 k30
  have F31 := fun_mk (st := s_Execution_unwind) l31 c31 k31
  have F32 := fun_mk (st := s_Execution_leave) l32 c32 k32
  have F33 := fun_mk (st := s_check_bits) l33 c33 k33
  have F34 := fun_mk (st := s_executed) l34 c34 k34
  have F35 := fun_mk (st := s_length_of) l35 c35 k35
  have F36 := fun_mk (st := s_pens_behind) l36 c36 k36
  have F37 := fun_mk (st := s_end_of) l37 c37 k37
  have F38 := fun_mk (st := s_ran) l38 c38 k38
  have FD38 : FunD K "ran" "ran" (defArgs s_ran) (defBody s_ran) (defScope s_ran) [] [("pen", .ref aX_HOME)] f38 (PySem.W.fnOf "ran" "ran" (defArgs s_ran) (defBody s_ran) (defScope s_ran) .none (.ref kD38) dc38 pm38 an38 cd38 ct38) := ⟨⟨_, _, _, _, _, _, _, _, _, _, rfl, l38, c38, .inl ⟨rfl, rfl⟩, .inr ⟨kD38, rfl, fun q hq => by rw [List.mem_singleton.mp hq]; exact ⟨_, kw38_pen, rfl⟩⟩⟩, k38⟩
  have F39 := fun_mk (st := s_run_matrix) l39 c39 k39
  have F40 := fun_mk (st := s__law_pool) l40 c40 k40
  have F41 := fun_mk (st := s__law_draw) l41 c41 k41
  have F42 := fun_mk (st := s__law_number) l42 c42 k42
  have F43 := fun_mk (st := s__law_pen) l43 c43 k43
  have F44 := fun_mk (st := s__law_move) l44 c44 k44
  have F45 := fun_mk (st := s__law_pens) l45 c45 k45
  have F46 := fun_mk (st := s__law_probe) l46 c46 k46
  have F47 := fun_mk (st := s__law_any_command) l47 c47 k47
  have F48 := fun_mk (st := s__law_same) l48 c48 k48
  have F49 := fun_mk (st := s__law_bare) l49 c49 k49
  have F50 := fun_mk (st := s__law_refused) l50 c50 k50
  have F51 := fun_mk (st := s_law) l51 c51 k51
  have T : ∃ T : Top w K mg, T.a_law = fa ∧ T.d_law = PySem.W.fnOf "law" "law" (defArgs s_law) (defBody s_law) (defScope s_law) .none kV51 dc51 pm51 an51 cd51 ct51 := ⟨{ C_Book := CC0, g_Book := PySem.W.mg_of X G qa0, cl_Book := ⟨qg0, qh0, qp0, qs0⟩, na_Book__bodies := qn0_0, C_Execution := CC1, g_Execution := PySem.W.mg_of X G qa1, cl_Execution := ⟨qg1, qh1, qp1, qs1⟩, na_Execution_procedures := qn1_0, na_Execution_bits := qn1_1, na_Execution_taken := qn1_2, na_Execution_left := qn1_3, na_Execution_begun := qn1_4, na_Execution_deeds := qn1_5, na_Execution_way := qn1_6, C_NoRun := CE0, g_NoRun := PySem.W.mg_of X G ea0, O_NoRun := ⟨oex_cls el0, es0, eb0, et0, ek0⟩, x_NoRun := exm_of eb0 ec0 et0 eS0, xf_NoRun := ⟨eg0, eh0, eb0, ed0⟩, no_NoRun_index := en0_0, a_NoRun___init__ := f0, d_NoRun___init__ := PySem.W.fnOf "__init__" "NoRun.__init__" (defArgs s_NoRun___init__) (defBody s_NoRun___init__) (defScope s_NoRun___init__) .none kV0 dc0 pm0 an0 cd0 ct0, F_NoRun___init__ := F0, io_NoRun := a0, to_NoRun := i0, a_is_integer := f1, d_is_integer := PySem.W.fnOf "is_integer" "is_integer" (defArgs s_is_integer) (defBody s_is_integer) (defScope s_is_integer) .none kV1 dc1 pm1 an1 cd1 ct1, F_is_integer := F1, g_is_integer := PySem.W.mg_of X G a1, a_is_pen := f2, d_is_pen := PySem.W.fnOf "is_pen" "is_pen" (defArgs s_is_pen) (defBody s_is_pen) (defScope s_is_pen) .none kV2 dc2 pm2 an2 cd2 ct2, F_is_pen := F2, g_is_pen := PySem.W.mg_of X G a2, a_is_within := f3, d_is_within := PySem.W.fnOf "is_within" "is_within" (defArgs s_is_within) (defBody s_is_within) (defScope s_is_within) .none kV3 dc3 pm3 an3 cd3 ct3, F_is_within := F3, g_is_within := PySem.W.mg_of X G a3, a_is_bit := f4, d_is_bit := PySem.W.fnOf "is_bit" "is_bit" (defArgs s_is_bit) (defBody s_is_bit) (defScope s_is_bit) .none kV4 dc4 pm4 an4 cd4 ct4, F_is_bit := F4, g_is_bit := PySem.W.mg_of X G a4, a_is_command := f5, d_is_command := PySem.W.fnOf "is_command" "is_command" (defArgs s_is_command) (defBody s_is_command) (defScope s_is_command) .none kV5 dc5 pm5 an5 cd5 ct5, F_is_command := F5, g_is_command := PySem.W.mg_of X G a5, a_turned := f6, d_turned := PySem.W.fnOf "turned" "turned" (defArgs s_turned) (defBody s_turned) (defScope s_turned) .none kV6 dc6 pm6 an6 cd6 ct6, F_turned := F6, g_turned := PySem.W.mg_of X G a6, a_moved := f7, d_moved := PySem.W.fnOf "moved" "moved" (defArgs s_moved) (defBody s_moved) (defScope s_moved) .none kV7 dc7 pm7 an7 cd7 ct7, F_moved := F7, g_moved := PySem.W.mg_of X G a7, a_is_index := f8, d_is_index := PySem.W.fnOf "is_index" "is_index" (defArgs s_is_index) (defBody s_is_index) (defScope s_is_index) .none kV8 dc8 pm8 an8 cd8 ct8, F_is_index := F8, g_is_index := PySem.W.mg_of X G a8, a_are_blocks := f9, d_are_blocks := PySem.W.fnOf "are_blocks" "are_blocks" (defArgs s_are_blocks) (defBody s_are_blocks) (defScope s_are_blocks) .none kV9 dc9 pm9 an9 cd9 ct9, F_are_blocks := F9, g_are_blocks := PySem.W.mg_of X G a9, a_is_call := f10, d_is_call := PySem.W.fnOf "is_call" "is_call" (defArgs s_is_call) (defBody s_is_call) (defScope s_is_call) .none kV10 dc10 pm10 an10 cd10 ct10, F_is_call := F10, g_is_call := PySem.W.mg_of X G a10, a_is_statement := f11, d_is_statement := PySem.W.fnOf "is_statement" "is_statement" (defArgs s_is_statement) (defBody s_is_statement) (defScope s_is_statement) .none kV11 dc11 pm11 an11 cd11 ct11, F_is_statement := F11, g_is_statement := PySem.W.mg_of X G a11, a_blocks_of := f12, d_blocks_of := PySem.W.fnOf "blocks_of" "blocks_of" (defArgs s_blocks_of) (defBody s_blocks_of) (defScope s_blocks_of) .none kV12 dc12 pm12 an12 cd12 ct12, F_blocks_of := F12, g_blocks_of := PySem.W.mg_of X G a12, a_with_blocks := f13, d_with_blocks := PySem.W.fnOf "with_blocks" "with_blocks" (defArgs s_with_blocks) (defBody s_with_blocks) (defScope s_with_blocks) .none kV13 dc13 pm13 an13 cd13 ct13, F_with_blocks := F13, g_with_blocks := PySem.W.mg_of X G a13, a_copied_statement := f14, d_copied_statement := PySem.W.fnOf "copied_statement" "copied_statement" (defArgs s_copied_statement) (defBody s_copied_statement) (defScope s_copied_statement) .none kV14 dc14 pm14 an14 cd14 ct14, F_copied_statement := F14, g_copied_statement := PySem.W.mg_of X G a14, a_copied := f15, d_copied := PySem.W.fnOf "copied" "copied" (defArgs s_copied) (defBody s_copied) (defScope s_copied) .none kV15 dc15 pm15 an15 cd15 ct15, F_copied := F15, g_copied := PySem.W.mg_of X G a15, a_check_block := f16, d_check_block := PySem.W.fnOf "check_block" "check_block" (defArgs s_check_block) (defBody s_check_block) (defScope s_check_block) .none kV16 dc16 pm16 an16 cd16 ct16, F_check_block := F16, g_check_block := PySem.W.mg_of X G a16, a_check_bodies := f17, d_check_bodies := PySem.W.fnOf "check_bodies" "check_bodies" (defArgs s_check_bodies) (defBody s_check_bodies) (defScope s_check_bodies) .none kV17 dc17 pm17 an17 cd17 ct17, F_check_bodies := F17, g_check_bodies := PySem.W.mg_of X G a17, a_Book___init__ := f18, d_Book___init__ := PySem.W.fnOf "__init__" "Book.__init__" (defArgs s_Book___init__) (defBody s_Book___init__) (defScope s_Book___init__) .none kV18 dc18 pm18 an18 cd18 ct18, F_Book___init__ := F18, mk_Book := ⟨qm0, a18, i18, qk0⟩, a_Book___len__ := f19, d_Book___len__ := PySem.W.fnOf "__len__" "Book.__len__" (defArgs s_Book___len__) (defBody s_Book___len__) (defScope s_Book___len__) .none kV19 dc19 pm19 an19 cd19 ct19, F_Book___len__ := F19, m_Book___len__ := ⟨a19, i19, k19⟩, a_Book_bodies := f20, d_Book_bodies := PySem.W.fnOf "bodies" "Book.bodies" (defArgs s_Book_bodies) (defBody s_Book_bodies) (defScope s_Book_bodies) .none kV20 dc20 pm20 an20 cd20 ct20, F_Book_bodies := F20, m_Book_bodies := ⟨a20, i20, k20⟩, a_vector := f21, d_vector := PySem.W.fnOf "vector" "vector" (defArgs s_vector) (defBody s_vector) (defScope s_vector) .none kV21 dc21 pm21 an21 cd21 ct21, F_vector := F21, g_vector := PySem.W.mg_of X G a21, a_unit_pen := f22, d_unit_pen := PySem.W.fnOf "unit_pen" "unit_pen" (defArgs s_unit_pen) (defBody s_unit_pen) (defScope s_unit_pen) .none kV22 dc22 pm22 an22 cd22 ct22, F_unit_pen := F22, g_unit_pen := PySem.W.mg_of X G a22, a_probes := f23, d_probes := PySem.W.fnOf "probes" "probes" (defArgs s_probes) (defBody s_probes) (defScope s_probes) .none kV23 dc23 pm23 an23 cd23 ct23, F_probes := F23, g_probes := PySem.W.mg_of X G a23, a_matrix_from := f24, d_matrix_from := PySem.W.fnOf "matrix_from" "matrix_from" (defArgs s_matrix_from) (defBody s_matrix_from) (defScope s_matrix_from) .none kV24 dc24 pm24 an24 cd24 ct24, F_matrix_from := F24, g_matrix_from := PySem.W.mg_of X G a24, a_Execution___init__ := f25, d_Execution___init__ := PySem.W.fnOf "__init__" "Execution.__init__" (defArgs s_Execution___init__) (defBody s_Execution___init__) (defScope s_Execution___init__) .none kV25 dc25 pm25 an25 cd25 ct25, F_Execution___init__ := F25, mk_Execution := ⟨qm1, a25, i25, qk1⟩, a_Execution_finish := f26, d_Execution_finish := PySem.W.fnOf "finish" "Execution.finish" (defArgs s_Execution_finish) (defBody s_Execution_finish) (defScope s_Execution_finish) .none kV26 dc26 pm26 an26 cd26 ct26, F_Execution_finish := F26, m_Execution_finish := ⟨a26, i26, k26⟩, a_Execution_step := f27, d_Execution_step := PySem.W.fnOf "step" "Execution.step" (defArgs s_Execution_step) (defBody s_Execution_step) (defScope s_Execution_step) .none kV27 dc27 pm27 an27 cd27 ct27, F_Execution_step := F27, m_Execution_step := ⟨a27, i27, k27⟩, a_Execution_enter := f28, d_Execution_enter := PySem.W.fnOf "enter" "Execution.enter" (defArgs s_Execution_enter) (defBody s_Execution_enter) (defScope s_Execution_enter) .none kV28 dc28 pm28 an28 cd28 ct28, F_Execution_enter := F28, m_Execution_enter := ⟨a28, i28, k28⟩, a_Execution_take := f29, d_Execution_take := PySem.W.fnOf "take" "Execution.take" (defArgs s_Execution_take) (defBody s_Execution_take) (defScope s_Execution_take) .none kV29 dc29 pm29 an29 cd29 ct29, F_Execution_take := F29, m_Execution_take := ⟨a29, i29, k29⟩, a_Execution_begin := f30, d_Execution_begin := PySem.W.fnOf "begin" "Execution.begin" (defArgs s_Execution_begin) (defBody s_Execution_begin) (defScope s_Execution_begin) .none kV30 dc30 pm30 an30 cd30 ct30, F_Execution_begin := F30, m_Execution_begin := ⟨a30, i30, k30⟩, a_Execution_unwind := f31, d_Execution_unwind := PySem.W.fnOf "unwind" "Execution.unwind" (defArgs s_Execution_unwind) (defBody s_Execution_unwind) (defScope s_Execution_unwind) .none kV31 dc31 pm31 an31 cd31 ct31, F_Execution_unwind := F31, m_Execution_unwind := ⟨a31, i31, k31⟩, a_Execution_leave := f32, d_Execution_leave := PySem.W.fnOf "leave" "Execution.leave" (defArgs s_Execution_leave) (defBody s_Execution_leave) (defScope s_Execution_leave) .none kV32 dc32 pm32 an32 cd32 ct32, F_Execution_leave := F32, m_Execution_leave := ⟨a32, i32, k32⟩, a_check_bits := f33, d_check_bits := PySem.W.fnOf "check_bits" "check_bits" (defArgs s_check_bits) (defBody s_check_bits) (defScope s_check_bits) .none kV33 dc33 pm33 an33 cd33 ct33, F_check_bits := F33, g_check_bits := PySem.W.mg_of X G a33, a_executed := f34, d_executed := PySem.W.fnOf "executed" "executed" (defArgs s_executed) (defBody s_executed) (defScope s_executed) .none kV34 dc34 pm34 an34 cd34 ct34, F_executed := F34, g_executed := PySem.W.mg_of X G a34, a_length_of := f35, d_length_of := PySem.W.fnOf "length_of" "length_of" (defArgs s_length_of) (defBody s_length_of) (defScope s_length_of) .none kV35 dc35 pm35 an35 cd35 ct35, F_length_of := F35, g_length_of := PySem.W.mg_of X G a35, a_pens_behind := f36, d_pens_behind := PySem.W.fnOf "pens_behind" "pens_behind" (defArgs s_pens_behind) (defBody s_pens_behind) (defScope s_pens_behind) .none kV36 dc36 pm36 an36 cd36 ct36, F_pens_behind := F36, g_pens_behind := PySem.W.mg_of X G a36, a_end_of := f37, d_end_of := PySem.W.fnOf "end_of" "end_of" (defArgs s_end_of) (defBody s_end_of) (defScope s_end_of) .none kV37 dc37 pm37 an37 cd37 ct37, F_end_of := F37, g_end_of := PySem.W.mg_of X G a37, FD_ran := FD38, a_ran := f38, d_ran := PySem.W.fnOf "ran" "ran" (defArgs s_ran) (defBody s_ran) (defScope s_ran) .none (.ref kD38) dc38 pm38 an38 cd38 ct38, F_ran := F38, g_ran := PySem.W.mg_of X G a38, a_run_matrix := f39, d_run_matrix := PySem.W.fnOf "run_matrix" "run_matrix" (defArgs s_run_matrix) (defBody s_run_matrix) (defScope s_run_matrix) .none kV39 dc39 pm39 an39 cd39 ct39, F_run_matrix := F39, g_run_matrix := PySem.W.mg_of X G a39, a__law_pool := f40, d__law_pool := PySem.W.fnOf "_law_pool" "_law_pool" (defArgs s__law_pool) (defBody s__law_pool) (defScope s__law_pool) .none kV40 dc40 pm40 an40 cd40 ct40, F__law_pool := F40, g__law_pool := PySem.W.mg_of X G a40, a__law_draw := f41, d__law_draw := PySem.W.fnOf "_law_draw" "_law_draw" (defArgs s__law_draw) (defBody s__law_draw) (defScope s__law_draw) .none kV41 dc41 pm41 an41 cd41 ct41, F__law_draw := F41, g__law_draw := PySem.W.mg_of X G a41, a__law_number := f42, d__law_number := PySem.W.fnOf "_law_number" "_law_number" (defArgs s__law_number) (defBody s__law_number) (defScope s__law_number) .none kV42 dc42 pm42 an42 cd42 ct42, F__law_number := F42, g__law_number := PySem.W.mg_of X G a42, a__law_pen := f43, d__law_pen := PySem.W.fnOf "_law_pen" "_law_pen" (defArgs s__law_pen) (defBody s__law_pen) (defScope s__law_pen) .none kV43 dc43 pm43 an43 cd43 ct43, F__law_pen := F43, g__law_pen := PySem.W.mg_of X G a43, a__law_move := f44, d__law_move := PySem.W.fnOf "_law_move" "_law_move" (defArgs s__law_move) (defBody s__law_move) (defScope s__law_move) .none kV44 dc44 pm44 an44 cd44 ct44, F__law_move := F44, g__law_move := PySem.W.mg_of X G a44, a__law_pens := f45, d__law_pens := PySem.W.fnOf "_law_pens" "_law_pens" (defArgs s__law_pens) (defBody s__law_pens) (defScope s__law_pens) .none kV45 dc45 pm45 an45 cd45 ct45, F__law_pens := F45, g__law_pens := PySem.W.mg_of X G a45, a__law_probe := f46, d__law_probe := PySem.W.fnOf "_law_probe" "_law_probe" (defArgs s__law_probe) (defBody s__law_probe) (defScope s__law_probe) .none kV46 dc46 pm46 an46 cd46 ct46, F__law_probe := F46, g__law_probe := PySem.W.mg_of X G a46, a__law_any_command := f47, d__law_any_command := PySem.W.fnOf "_law_any_command" "_law_any_command" (defArgs s__law_any_command) (defBody s__law_any_command) (defScope s__law_any_command) .none kV47 dc47 pm47 an47 cd47 ct47, F__law_any_command := F47, g__law_any_command := PySem.W.mg_of X G a47, a__law_same := f48, d__law_same := PySem.W.fnOf "_law_same" "_law_same" (defArgs s__law_same) (defBody s__law_same) (defScope s__law_same) .none kV48 dc48 pm48 an48 cd48 ct48, F__law_same := F48, g__law_same := PySem.W.mg_of X G a48, a__law_bare := f49, d__law_bare := PySem.W.fnOf "_law_bare" "_law_bare" (defArgs s__law_bare) (defBody s__law_bare) (defScope s__law_bare) .none kV49 dc49 pm49 an49 cd49 ct49, F__law_bare := F49, g__law_bare := PySem.W.mg_of X G a49, a__law_refused := f50, d__law_refused := PySem.W.fnOf "_law_refused" "_law_refused" (defArgs s__law_refused) (defBody s__law_refused) (defScope s__law_refused) .none kV50 dc50 pm50 an50 cd50 ct50, F__law_refused := F50, g__law_refused := PySem.W.mg_of X G a50, a_law := fa, d_law := PySem.W.fnOf "law" "law" (defArgs s_law) (defBody s_law) (defScope s_law) .none kV51 dc51 pm51 an51 cd51 ct51, F_law := F51, g_law := PySem.W.mg_of X G a51, z_all := PySem.W.mg_none_of X G z0, z_bool := PySem.W.mg_none_of X G z1, z_enumerate := PySem.W.mg_none_of X G z2, z_int := PySem.W.mg_none_of X G z3, z_isinstance := PySem.W.mg_none_of X G z4, z_len := PySem.W.mg_none_of X G z5, z_list := PySem.W.mg_none_of X G z6, z_range := PySem.W.mg_none_of X G z7, z_str := PySem.W.mg_none_of X G z8, z_tuple := PySem.W.mg_none_of X G z9, z_zip := PySem.W.mg_none_of X G z10, c_DEEPEST_LEVEL := ⟨_, PySem.W.mg_of X G gi0, ⟨_, rfl⟩⟩, c_MOST_IN_A_LIST := ⟨_, PySem.W.mg_of X G gi1, ⟨_, rfl⟩⟩, c_MOST_IN_A_PROCEDURE := ⟨_, PySem.W.mg_of X G gi2, ⟨_, rfl⟩⟩, c_MOST_PROCEDURES := ⟨_, PySem.W.mg_of X G gi3, ⟨_, rfl⟩⟩, a_BOUNDS := aB, c_BOUNDS := ⟨_, PySem.W.mg_of X G gB, rfl⟩, e_B := eB, n_B := nB, D_B := ⟨lB, iB, wB⟩, L_B := lims_of (row1 lB iB rn0 rl0 rp0_0) (row1 lB iB rn1 rl1 rp1_0) (row0 lB iB rn2 rl2) (row1 lB iB rn3 rl3 rp3_0) (row2 lB iB rn4 rl4 rp4_0 rp4_1) (row2 lB iB rn5 rl5 rp5_0 rp5_1) (row0 lB iB rn6 rl6) (row0 lB iB rn7 rl7) (row0 lB iB rn8 rl8), W_B := oddw ow0 ow1 ow2 ow3 ow4 ow5 ow6, a_NoProcedure := aNPr, a_NoPen := aNP, X_NPr := ⟨PySem.W.mg_of X G gNPr, qNPr, kNPr, bNPr, tNPr, exm_of bNPr iNPr tNPr sNPr⟩, X_NP := ⟨PySem.W.mg_of X G gNP, qNP, kNP, bNP, tNP, exm_of bNP iNP tNP sNP⟩, a_HOME := aX_HOME, c_HOME := ⟨_, PySem.W.mg_of X G gH, rfl⟩, h_HOME := sqK lH (by simp) (.cons ⟨_, rfl⟩ (.cons ⟨_, rfl⟩ (.cons ⟨_, rfl⟩ (.cons ⟨_, rfl⟩ (.cons ⟨_, rfl⟩ (.cons ⟨_, rfl⟩ .nil)))))), a_HOLD := aHo, c_HOLD := ⟨_, PySem.W.mg_of X G gHo, rfl⟩, h_HOLD := sqK lHo (by simp) (.cons ⟨_, rfl⟩ .nil), a_BACK := aBa, c_BACK := ⟨_, PySem.W.mg_of X G gBa, rfl⟩, h_BACK := sqK lBa (by simp) (.cons ⟨_, rfl⟩ .nil), W_D0 := wd0, W_D1 := wd1 }, rfl, rfl⟩
  obtain ⟨T, e1, e2⟩ := T
  refine ⟨PySem.W.fnOf "law" "law" (defArgs s_law) (defBody s_law) (defScope s_law) .none kV51 dc51 pm51 an51 cd51 ct51, fun s v => .of_eq rfl, fun base _ _ => ?_⟩
  · rw [← e1, ← e2]; exact ok_law T
end My
open PySem PySem.W PyProof.Rows
set_option maxRecDepth 100000 in
set_option maxHeartbeats 0 in
theorem PySem.Challenge.cw_penhome_k15_runs_of_plain_bodies_holds : PySem.Challenge.rw_penhome_k15_runs_of_plain_bodies.Holds := by
  w_on; o_law; k_head; (case hw => w_witness2)
  k_fill
  refine L2.walk_of (l := PySem.Challenge.rw_penhome_k15_runs_of_plain_bodies) (n := 63) (k := 18) (x := "_law_script") (CX := fun _ => L2.CX0) (sp := fun w => My.spLaw _) rfl (by decide) rfl ⟨rfl, by decide, by decide⟩ (fun w h Y => PySem.W.kIn_of Y) ?F (fun _ _ a ns hl _ hS => ⟨a, ns, rfl, hS, hl, fun _ => rfl⟩) (fun _ _ _ _ _ h => h)
  case F =>
    intro w mg fa h KX G hmg
    refine' My.all_mk KX G hmg ?qa0 ?qg0 ?qh0 ?qp0 ?qs0 ?qm0 ?qk0 ?qn0_0 ?qa1 ?qg1 ?qh1 ?qp1 ?qs1 ?qm1 ?qk1 ?qn1_0 ?qn1_1 ?qn1_2 ?qn1_3 ?qn1_4 ?qn1_5 ?qn1_6 ?ea0 ?el0 ?es0 ?eb0 ?et0 ?ek0 ?ec0 ?eg0 ?eh0 ?ed0 ?eS0 ?en0_0 ?a0 ?i0 ?l0 ?c0 ?k0 ?a1 ?l1 ?c1 ?k1 ?a2 ?l2 ?c2 ?k2 ?a3 ?l3 ?c3 ?k3 ?a4 ?l4 ?c4 ?k4 ?a5 ?l5 ?c5 ?k5 ?a6 ?l6 ?c6 ?k6 ?a7 ?l7 ?c7 ?k7 ?a8 ?l8 ?c8 ?k8 ?a9 ?l9 ?c9 ?k9 ?a10 ?l10 ?c10 ?k10 ?a11 ?l11 ?c11 ?k11 ?a12 ?l12 ?c12 ?k12 ?a13 ?l13 ?c13 ?k13 ?a14 ?l14 ?c14 ?k14 ?a15 ?l15 ?c15 ?k15 ?a16 ?l16 ?c16 ?k16 ?a17 ?l17 ?c17 ?k17 ?a18 ?i18 ?l18 ?c18 ?k18 ?a19 ?i19 ?l19 ?c19 ?k19 ?a20 ?i20 ?l20 ?c20 ?k20 ?a21 ?l21 ?c21 ?k21 ?a22 ?l22 ?c22 ?k22 ?a23 ?l23 ?c23 ?k23 ?a24 ?l24 ?c24 ?k24 ?a25 ?i25 ?l25 ?c25 ?k25 ?a26 ?i26 ?l26 ?c26 ?k26 ?a27 ?i27 ?l27 ?c27 ?k27 ?a28 ?i28 ?l28 ?c28 ?k28 ?a29 ?i29 ?l29 ?c29 ?k29 ?a30 ?i30 ?l30 ?c30 ?k30 ?a31 ?i31 ?l31 ?c31 ?k31 ?a32 ?i32 ?l32 ?c32 ?k32 ?a33 ?l33 ?c33 ?k33 ?a34 ?l34 ?c34 ?k34 ?a35 ?l35 ?c35 ?k35 ?a36 ?l36 ?c36 ?k36 ?a37 ?l37 ?c37 ?k37 ?a38 ?l38 ?kw38_pen ?c38 ?k38 ?a39 ?l39 ?c39 ?k39 ?a40 ?l40 ?c40 ?k40 ?a41 ?l41 ?c41 ?k41 ?a42 ?l42 ?c42 ?k42 ?a43 ?l43 ?c43 ?k43 ?a44 ?l44 ?c44 ?k44 ?a45 ?l45 ?c45 ?k45 ?a46 ?l46 ?c46 ?k46 ?a47 ?l47 ?c47 ?k47 ?a48 ?l48 ?c48 ?k48 ?a49 ?l49 ?c49 ?k49 ?a50 ?l50 ?c50 ?k50 ?a51 ?l51 ?c51 ?k51 ?z0 ?z1 ?z2 ?z3 ?z4 ?z5 ?z6 ?z7 ?z8 ?z9 ?z10 ?gi0 ?gi1 ?gi2 ?gi3 ?gB ?lB ?iB ?wB ?rn0 ?rl0 ?rp0_0 ?rn1 ?rl1 ?rp1_0 ?rn2 ?rl2 ?rn3 ?rl3 ?rp3_0 ?rn4 ?rl4 ?rp4_0 ?rp4_1 ?rn5 ?rl5 ?rp5_0 ?rp5_1 ?rn6 ?rl6 ?rn7 ?rl7 ?rn8 ?rl8 ?ow0 ?ow1 ?ow2 ?ow3 ?ow4 ?ow5 ?ow6 ?gNPr ?qNPr ?kNPr ?bNPr ?tNPr ?iNPr ?sNPr ?gNP ?qNP ?kNP ?bNP ?tNP ?iNP ?sNP ?gH ?lH ?gHo ?lHo ?gBa ?lBa ?wd0 ?wd1
    (case qa0 => k_is); (case qg0 => k_is); (case qh0 => k_is); (case qp0 => k_is); (case qs0 => k_is); (case qm0 => k_is); (case qk0 => k_is); (case qn0_0 => k_is); (case qa1 => k_is); (case qg1 => k_is); (case qh1 => k_is); (case qp1 => k_is); (case qs1 => k_is); (case qm1 => k_is); (case qk1 => k_is); (case qn1_0 => k_is); (case qn1_1 => k_is); (case qn1_2 => k_is); (case qn1_3 => k_is); (case qn1_4 => k_is); (case qn1_5 => k_is); (case qn1_6 => k_is); (case ea0 => k_is); (case el0 => exact ⟨_, _, _, _, _, _, _, _, _, _, _, _, _, _, by k_is⟩); (case es0 => k_is); (case eb0 => k_is); (case et0 => k_is); (case ek0 => k_is); (case ec0 => k_is); (case eg0 => k_is); (case eh0 => k_is); (case ed0 => k_is); (case eS0 => first | rfl | k_is); (case en0_0 => k_is); (case a0 => k_is); (case i0 => k_is); (case l0 => k_is); (case c0 => k_is); (case k0 => k_is); (case a1 => k_is); (case l1 => k_is); (case c1 => k_is); (case k1 => k_is); (case a2 => k_is); (case l2 => k_is); (case c2 => k_is); (case k2 => k_is); (case a3 => k_is); (case l3 => k_is); (case c3 => k_is); (case k3 => k_is); (case a4 => k_is); (case l4 => k_is); (case c4 => k_is); (case k4 => k_is); (case a5 => k_is); (case l5 => k_is); (case c5 => k_is); (case k5 => k_is); (case a6 => k_is); (case l6 => k_is); (case c6 => k_is); (case k6 => k_is); (case a7 => k_is); (case l7 => k_is); (case c7 => k_is); (case k7 => k_is); (case a8 => k_is); (case l8 => k_is); (case c8 => k_is); (case k8 => k_is); (case a9 => k_is); (case l9 => k_is); (case c9 => k_is); (case k9 => k_is); (case a10 => k_is); (case l10 => k_is); (case c10 => k_is); (case k10 => k_is); (case a11 => k_is); (case l11 => k_is); (case c11 => k_is); (case k11 => k_is); (case a12 => k_is); (case l12 => k_is); (case c12 => k_is); (case k12 => k_is); (case a13 => k_is); (case l13 => k_is); (case c13 => k_is); (case k13 => k_is); (case a14 => k_is); (case l14 => k_is); (case c14 => k_is); (case k14 => k_is); (case a15 => k_is); (case l15 => k_is); (case c15 => k_is); (case k15 => k_is); (case a16 => k_is); (case l16 => k_is); (case c16 => k_is); (case k16 => k_is); (case a17 => k_is); (case l17 => k_is); (case c17 => k_is); (case k17 => k_is); (case a18 => k_is); (case i18 => k_is); (case l18 => k_is); (case c18 => k_is); (case k18 => k_is); (case a19 => k_is); (case i19 => k_is); (case l19 => k_is); (case c19 => k_is); (case k19 => k_is); (case a20 => k_is); (case i20 => k_is); (case l20 => k_is); (case c20 => k_is); (case k20 => k_is); (case a21 => k_is); (case l21 => k_is); (case c21 => k_is); (case k21 => k_is); (case a22 => k_is); (case l22 => k_is); (case c22 => k_is); (case k22 => k_is); (case a23 => k_is); (case l23 => k_is); (case c23 => k_is); (case k23 => k_is); (case a24 => k_is); (case l24 => k_is); (case c24 => k_is); (case k24 => k_is); (case a25 => k_is); (case i25 => k_is); (case l25 => k_is); (case c25 => k_is); (case k25 => k_is); (case a26 => k_is); (case i26 => k_is); (case l26 => k_is); (case c26 => k_is); (case k26 => k_is); (case a27 => k_is); (case i27 => k_is); (case l27 => k_is); (case c27 => k_is); (case k27 => k_is); (case a28 => k_is); (case i28 => k_is); (case l28 => k_is); (case c28 => k_is); (case k28 => k_is); (case a29 => k_is); (case i29 => k_is); (case l29 => k_is); (case c29 => k_is); (case k29 => k_is); (case a30 => k_is); (case i30 => k_is); (case l30 => k_is); (case c30 => k_is); (case k30 => k_is); (case a31 => k_is); (case i31 => k_is); (case l31 => k_is); (case c31 => k_is); (case k31 => k_is); (case a32 => k_is); (case i32 => k_is); (case l32 => k_is); (case c32 => k_is); (case k32 => k_is); (case a33 => k_is); (case l33 => k_is); (case c33 => k_is); (case k33 => k_is); (case a34 => k_is); (case l34 => k_is); (case c34 => k_is); (case k34 => k_is); (case a35 => k_is); (case l35 => k_is); (case c35 => k_is); (case k35 => k_is); (case a36 => k_is); (case l36 => k_is); (case c36 => k_is); (case k36 => k_is); (case a37 => k_is); (case l37 => k_is); (case c37 => k_is); (case k37 => k_is); (case a38 => k_is); (case l38 => k_is); (case kw38_pen => k_is); (case c38 => k_is); (case k38 => k_is); (case a39 => k_is); (case l39 => k_is); (case c39 => k_is); (case k39 => k_is); (case a40 => k_is); (case l40 => k_is); (case c40 => k_is); (case k40 => k_is); (case a41 => k_is); (case l41 => k_is); (case c41 => k_is); (case k41 => k_is); (case a42 => k_is); (case l42 => k_is); (case c42 => k_is); (case k42 => k_is); (case a43 => k_is); (case l43 => k_is); (case c43 => k_is); (case k43 => k_is); (case a44 => k_is); (case l44 => k_is); (case c44 => k_is); (case k44 => k_is); (case a45 => k_is); (case l45 => k_is); (case c45 => k_is); (case k45 => k_is); (case a46 => k_is); (case l46 => k_is); (case c46 => k_is); (case k46 => k_is); (case a47 => k_is); (case l47 => k_is); (case c47 => k_is); (case k47 => k_is); (case a48 => k_is); (case l48 => k_is); (case c48 => k_is); (case k48 => k_is); (case a49 => k_is); (case l49 => k_is); (case c49 => k_is); (case k49 => k_is); (case a50 => k_is); (case l50 => k_is); (case c50 => k_is); (case k50 => k_is); (case a51 => k_is); (case l51 => k_is); (case c51 => k_is); (case k51 => k_is); (case z0 => k_is); (case z1 => k_is); (case z2 => k_is); (case z3 => k_is); (case z4 => k_is); (case z5 => k_is); (case z6 => k_is); (case z7 => k_is); (case z8 => k_is); (case z9 => k_is); (case z10 => k_is); (case gi0 => k_is); (case gi1 => k_is); (case gi2 => k_is); (case gi3 => k_is); (case gB => k_is); (case lB => k_is); (case iB => repeat (first | exact True.intro | refine ⟨⟨_, _, rfl, rfl⟩, ?_⟩)); (case wB => decide); (case rn0 => k_is); (case rl0 => k_is); (case rp0_0 => k_is); (case rn1 => k_is); (case rl1 => k_is); (case rp1_0 => k_is); (case rn2 => k_is); (case rl2 => k_is); (case rn3 => k_is); (case rl3 => k_is); (case rp3_0 => k_is); (case rn4 => k_is); (case rl4 => k_is); (case rp4_0 => k_is); (case rp4_1 => k_is); (case rn5 => k_is); (case rl5 => k_is); (case rp5_0 => k_is); (case rp5_1 => k_is); (case rn6 => k_is); (case rl6 => k_is); (case rn7 => k_is); (case rl7 => k_is); (case rn8 => k_is); (case rl8 => k_is); (case ow0 => k_is); (case ow1 => k_is); (case ow2 => k_is); (case ow3 => k_is); (case ow4 => k_is); (case ow5 => k_is); (case ow6 => k_is); (case gNPr => k_is); (case qNPr => k_exc); (case kNPr => k_is); (case bNPr => k_is); (case tNPr => k_is); (case iNPr => k_is); (case sNPr => k_is); (case gNP => k_is); (case qNP => k_exc); (case kNP => k_is); (case bNP => k_is); (case tNP => k_is); (case iNP => k_is); (case sNP => first | rfl | k_is); (case gH => k_is); (case lH => k_is); (case gHo => k_is); (case lHo => k_is); (case gBa => k_is); (case lBa => k_is); (case wd0 => k_is); (case wd1 => k_is)

