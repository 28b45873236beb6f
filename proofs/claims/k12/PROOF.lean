import PyProof.Rows.All
import Wide.All
import OpenK.AllK
import Wide.FinOn
import HandS.ForMost
import HandS.Star
import HandS.Wide
import HandS.Flow
import HandS.IsInst
import HandS.Walk
import HandS.NoneIn
import HandS.Zip
import HandS.More
import HandS.Codes
import HandS.ExcOwn
import HandS.ExcInit
import HandS.ExcField
import HandS.Deep
import HandS.OwnEq
import HandS.TupAny
import HandS.WordsExc
import HandS.TryMany
import HandS.DictComp
import HandS.List
import KE.GoesMore
import KE.GoesZip
import KE.GoesEnum
import PyProof.CollectIter
import PyProof.WalksMore
import KE.KUnpack
import PySem.Challenge.RW_penhome_k12_faulty_statement_anywhere
set_option Elab.async false
set_option linter.all false
set_option maxRecDepth 100000
namespace My
open PySem PySem.Spec PyProof.Rows L2
theorem hu64 {A : Around} {k : Nat} (hr : Room k A) : A.units + 64 < cLine := by
  have := hr.un
  omega
section
variable {X : Cx}
theorem call_intI : CallR X (.type "int") (fun xs H Q => ∃ i, xs = [.int i] ∧ Q (.int i) H) := fun pins s σ H xs us Q I r ⟨i, e, q⟩ => call_int1 pins s σ H xs us Q I r (.inl ⟨i, e, q⟩)
theorem call_intB : CallR X (.type "int") (fun xs H Q => ∃ k, xs = [.bl k] ∧ Q (.int (if k then 1 else 0)) H) := fun pins s σ H xs us Q I r ⟨i, e, q⟩ => call_int1 pins s σ H xs us Q I r (.inr ⟨i, e, q⟩)
theorem call_lenA : CallR X (.builtin "len") (fun xs H Q => ∃ p ys, xs = [.ref p] ∧ (SqL X.K H p ys ∨ SqT X.K H p ys) ∧ Q (.int ys.length) H) := call_len_seq
theorem call_listL : CallR X (.type "list") (fun xs H Q => ∃ p ys, xs = [.ref p] ∧ (SqL X.K H p ys ∨ SqT X.K H p ys) ∧ ∀ l, H l = none → Q (.ref l) (upd H l (.lst ys))) := call_list_of
theorem call_tupL : CallR X (.type "tuple") (fun xs H Q => ∃ p ys, xs = [.ref p] ∧ SqL X.K H p ys ∧ ∀ l, H l = none → Q (.ref l) (upd H l (.tup ys))) := fun pins s σ H xs us Q I r ⟨p, ys, e, h, q⟩ => call_tuple_of pins s σ H xs us Q I r ⟨p, ys, e, .inl ⟨h, q⟩⟩
theorem get_lst : PGet X (fun o i H Q => ∃ p xs k v, o = .ref p ∧ i = .int k ∧ 0 ≤ k ∧ SqL X.K H p xs ∧ xs[k.toNat]? = some v ∧ Q v H) := by
  intro pins s σ H o i ov iv Q I r1 r2 h
  obtain ⟨p, xs, k, v, rfl, rfl, h0, hq, he, q⟩ := h
  cases r1
  obtain ⟨t, rfl⟩ := r2
  obtain ⟨its, r, pl, hz⟩ := I.list hq
  obtain ⟨w, ew, rw'⟩ := r.get he
  have hl := r.length
  have hn := line63
  have hlt : k.toNat < xs.length := (List.getElem?_eq_some_iff.mp he).1
  exact wpAny_getItem_list pl.isList h0 (by omega) (by simpa using ew) ⟨v, H, I, rw', q⟩
end
/-! ### lists and tuples of ints compared -/
theorem dpAllInts {K : PySem.W.Frag} {H : Hp} : ∀ ns : List Int, DpAll K H (ns.map V.int) (ns.map PyData.int)
  | [] => .nil
  | n :: r => .cons (.int n) (dpAllInts r)
theorem canAllInts : ∀ ns : List Int, PyData.canLayAll0 (ns.map PyData.int) = true
  | [] => by simp [PyData.canLayAll0]
  | n :: r => by simp [PyData.canLayAll0, PyData.canLay0, canAllInts r]
theorem depthAllInts : ∀ ns : List Int, PyData.depthAll (ns.map PyData.int) = 0
  | [] => by simp [PyData.depthAll]
  | n :: r => by simp [PyData.depthAll, PyData.depth, depthAllInts r]
theorem shList (ns : List Int) : SeqAt.shaped (.list (ns.map PyData.int)) = true := by
  simp [SeqAt.shaped, PyData.canLay0, PyData.depth, canAllInts, depthAllInts]
theorem shTup (ns : List Int) : SeqAt.shaped (.tuple (ns.map PyData.int)) = true := by
  simp [SeqAt.shaped, PyData.canLay0, PyData.depth, canAllInts, depthAllInts]
theorem eqvAllInts : ∀ ns ms : List Int, PyData.eqvAll (ns.map PyData.int) (ms.map PyData.int) = decide (ns = ms)
  | [], [] => by simp [PyData.eqvAll]
  | [], m :: r => by simp [PyData.eqvAll]
  | n :: r, [] => by simp [PyData.eqvAll]
  | n :: r, m :: q => by
    rw [List.map_cons, List.map_cons, PyData.eqvAll, eqvAllInts r q, PyData.eqv]
    by_cases e : n = m
    · subst e; simp
    · simp [e]
section
variable {X : Cx}
def rEqI (K : PySem.W.Frag) : R2 := fun x y H Q => ∃ (a b : Addr) (ns ms : List Int), x = .ref a ∧ y = .ref b ∧ SqL K H a (ns.map V.int) ∧ SqL K H b (ms.map V.int) ∧ Q (.bl (decide (ns = ms))) H
def rNeI (K : PySem.W.Frag) : R2 := fun x y H Q => ∃ (a b : Addr) (ns ms : List Int), x = .ref a ∧ y = .ref b ∧ SqL K H a (ns.map V.int) ∧ SqL K H b (ms.map V.int) ∧ Q (.bl (!decide (ns = ms))) H
def rEqTI (K : PySem.W.Frag) : R2 := fun x y H Q => ∃ (a b : Addr) (ns ms : List Int), x = .ref a ∧ y = .ref b ∧ SqT K H a (ns.map V.int) ∧ SqT K H b (ms.map V.int) ∧ Q (.bl (decide (ns = ms))) H
def rNeTI (K : PySem.W.Frag) : R2 := fun x y H Q => ∃ (a b : Addr) (ns ms : List Int), x = .ref a ∧ y = .ref b ∧ SqT K H a (ns.map V.int) ∧ SqT K H b (ms.map V.int) ∧ Q (.bl (!decide (ns = ms))) H
theorem op_eqI (hu : X.A.units + 64 < cLine) : OpR X (compareOp .Eq) (rEqI X.K) := fun pins s σ H x y v u Q I rx ry ⟨a, b, ns, ms, e1, e2, h1, h2, q⟩ =>
  op_eqD hu pins s σ H x y v u Q I rx ry ⟨_, _, e1 ▸ .lst h1 (dpAllInts ns), e2 ▸ .lst h2 (dpAllInts ms), shList ns, shList ms, by rw [PyData.eqv, eqvAllInts]; exact q⟩
theorem op_neI (hu : X.A.units + 64 < cLine) : OpR X (compareOp .NotEq) (rNeI X.K) := fun pins s σ H x y v u Q I rx ry ⟨a, b, ns, ms, e1, e2, h1, h2, q⟩ =>
  op_neD hu pins s σ H x y v u Q I rx ry ⟨_, _, e1 ▸ .lst h1 (dpAllInts ns), e2 ▸ .lst h2 (dpAllInts ms), shList ns, shList ms, by rw [PyData.eqv, eqvAllInts]; exact q⟩
theorem op_eqTI (hu : X.A.units + 64 < cLine) : OpR X (compareOp .Eq) (rEqTI X.K) := fun pins s σ H x y v u Q I rx ry ⟨a, b, ns, ms, e1, e2, h1, h2, q⟩ =>
  op_eqD hu pins s σ H x y v u Q I rx ry ⟨_, _, e1 ▸ .tup h1 (dpAllInts ns), e2 ▸ .tup h2 (dpAllInts ms), shTup ns, shTup ms, by rw [PyData.eqv, eqvAllInts]; exact q⟩
theorem op_neTI (hu : X.A.units + 64 < cLine) : OpR X (compareOp .NotEq) (rNeTI X.K) := fun pins s σ H x y v u Q I rx ry ⟨a, b, ns, ms, e1, e2, h1, h2, q⟩ =>
  op_neD hu pins s σ H x y v u Q I rx ry ⟨_, _, e1 ▸ .tup h1 (dpAllInts ns), e2 ▸ .tup h2 (dpAllInts ms), shTup ns, shTup ms, by rw [PyData.eqv, eqvAllInts]; exact q⟩
end
/-! ### heaps -/
theorem same_upd {H : Hp} {p : Addr} {o : HO} (h : H p = none) : Same H (upd H p o) := fun b x e => by
  rw [upd_ne (ne_of_none e h)]
  exact e
/-- all that was tracked is as it was, but for what is at p -/
def Kp (p : Addr) (H H' : Hp) : Prop := ∀ b o, b ≠ p → H b = some o → H' b = some o
theorem Kp.refl (p : Addr) (H : Hp) : Kp p H H := fun _ _ _ h => h
theorem Kp.trans {p : Addr} {H H1 H2 : Hp} (a : Kp p H H1) (b : Kp p H1 H2) : Kp p H H2 := fun c o n h => b c o n (a c o n h)
theorem Kp.upd {p : Addr} {H : Hp} {o : HO} : Kp p H (upd H p o) := fun b x n e => by rw [upd_ne n]; exact e
theorem Kp.of {p : Addr} {H H' : Hp} (s : Same H H') : Kp p H H' := fun b o _ e => s b o e
theorem Kp.new {p q : Addr} {H H1 : Hp} {o : HO} (k : Kp p H H1) (n : H q = none) : Kp p H (L2.upd H1 q o) := fun b x nb e => by
  rw [upd_ne (ne_of_none e n)]
  exact k b x nb e
theorem same_new {q : Addr} {H H1 : Hp} {o : HO} (k : Same H H1) (n : H q = none) : Same H (upd H1 q o) := fun b x e => by
  rw [upd_ne (ne_of_none e n)]
  exact k b x e
theorem Kp.none {p q : Addr} {H H' : Hp} (k : Kp p H H') (h : H' q = none) (n : q ≠ p) : H q = none := by
  cases e : H q with
  | none => rfl
  | some o =>
    rw [k q o n e] at h
    cases h
/-- the law's pool: a list of L ints -/
def Pool (H : Hp) (p : Addr) (L : Nat) : Prop := ∃ ns : List Int, H p = some (.lst (ns.map V.int)) ∧ ns.length = L
theorem Pool.ne {H : Hp} {p q : Addr} {L : Nat} (h : Pool H p L) (n : H q = none) : q ≠ p := fun e => by
  obtain ⟨ns, h, _⟩ := h
  rw [← e, n] at h
  cases h
theorem Pool.new {H : Hp} {p q : Addr} {o : HO} {L : Nat} (h : Pool H p L) (n : H q = none) : Pool (upd H q o) p L := by
  have hn := (h.ne n).symm
  obtain ⟨ns, h, e⟩ := h
  exact ⟨ns, by rw [upd_ne hn]; exact h, e⟩
theorem Pool.keep {H : Hp} {p q : Addr} {o : HO} {L : Nat} (h : Pool H p L) (n : q ≠ p) : Pool (upd H q o) p L := by
  obtain ⟨ns, h, e⟩ := h
  exact ⟨ns, by rw [upd_ne n.symm]; exact h, e⟩
theorem get_map {ns : List Int} {i : Nat} {n : Int} (h : ns[i]? = some n) : (ns.map V.int)[i]? = some (.int n) := by
  rw [List.getElem?_map, h]
  rfl
theorem at_map {ns : List Int} {i : Int} (h0 : 0 ≤ i) (h1 : i < ns.length) : ∃ n, ns[i.toNat]? = some n ∧ atI (ns.map V.int) i = some (.int n) := by
  have hi : i.toNat < ns.length := by omega
  refine ⟨ns[i.toNat], List.getElem?_eq_getElem hi, ?_⟩
  refine at_of (j := i.toNat) (by omega) ?_
  exact get_map (List.getElem?_eq_getElem hi)
theorem ixN_in {n : Nat} {i : Int} (h0 : 0 ≤ i) (h1 : i < n) : ixN n i = some i.toNat := by
  unfold ixN
  rw [if_pos h0, if_pos h1]
theorem set_map {ns : List Int} {j : Nat} {z : Int} : (ns.map V.int).set j (.int z) = (ns.set j z).map V.int := by
  rw [List.map_set]
theorem small100 {n : Nat} (h : n ≤ 1000) : n ≤ sizeLine := Nat.le_of_lt (small1000 h)
theorem len_map (ns : List Int) : (ns.map V.int).length = ns.length := List.length_map ..
/-! ### what a for walks: a list or a tuple -/
def iSeq (K : PySem.W.Frag) (tl : TE) : TI := fun σ H R => iList K tl σ H R ∨ iTup K tl σ H R
theorem pi_seq {X : Cx} {tg l : Expr} {tl : TE} (h1 : PI X tg l (iList X.K tl)) (h2 : PI X tg l (iTup X.K tl)) : PI X tg l (iSeq X.K tl) :=
  ⟨fun pins s σ H R I h => h.elim (fun h => h1.run pins s σ H R I h) fun h => h2.run pins s σ H R I h⟩
theorem pi_sq {X : Cx} {tg l : Expr} {tl : TE} (h : PE X l tl) : PI X tg l (iSeq X.K tl) := pi_seq (pi_list h) (pi_tup h)
/-! ### the same rules, the written part by name (within a comprehension's block) -/
section
variable (K : PySem.W.Frag) {X : Cx}
def rLenA (K : PySem.W.Frag) : List V → Hp → VK → Prop := fun xs H Q => ∃ p ys, xs = [V.ref p] ∧ (SqL K H p ys ∨ SqT K H p ys) ∧ Q (.int ys.length) H
def rListL (K : PySem.W.Frag) : List V → Hp → VK → Prop := fun xs H Q => ∃ p ys, xs = [V.ref p] ∧ (SqL K H p ys ∨ SqT K H p ys) ∧ ∀ l, H l = none → Q (.ref l) (upd H l (.lst ys))
def rTupL (K : PySem.W.Frag) : List V → Hp → VK → Prop := fun xs H Q => ∃ p ys, xs = [V.ref p] ∧ SqL K H p ys ∧ ∀ l, H l = none → Q (.ref l) (upd H l (.tup ys))
theorem k_len (hK : X.K = K := by rfl) : CallR X (.builtin "len") (rLenA K) := hK ▸ call_lenA
theorem k_list (hK : X.K = K := by rfl) : CallR X (.type "list") (rListL K) := hK ▸ call_listL
theorem k_tuple (hK : X.K = K := by rfl) : CallR X (.type "tuple") (rTupL K) := hK ▸ call_tupL
theorem k_isi (hK : X.K = K := by rfl) : CallR X (.builtin "isinstance") (rIsi K) := hK ▸ call_isi
theorem k_all (hK : X.K = K := by rfl) (hc : X.calm = true := by rfl) : CallR X (.builtin "all") (rAll K) := hK ▸ cr_all hc
theorem k_sum (hK : X.K = K := by rfl) (hc : X.calm = true := by rfl) : CallR X (.builtin "sum") (rSum K) := hK ▸ cr_sum hc
theorem k_ixL (hK : X.K = K := by rfl) : IxR X (rIxL K) := hK ▸ ix_list
theorem k_ixT (hK : X.K = K := by rfl) : IxR X (rIxT K) := hK ▸ ix_tup
theorem k_slL (hK : X.K = K := by rfl) : SlR X (rSlL K) := hK ▸ sl_list
theorem k_slT (hK : X.K = K := by rfl) : SlR X (rSlT K) := hK ▸ sl_tup
theorem k_piL {tg l : Expr} {tl : TE} (hl : PE X l tl) (hK : X.K = K := by rfl) : PI X tg l (iList K tl) := hK ▸ pi_list hl
theorem k_piT {tg l : Expr} {tl : TE} (hl : PE X l tl) (hK : X.K = K := by rfl) : PI X tg l (iTup K tl) := hK ▸ pi_tup hl
theorem k_piS {tg l : Expr} {tl : TE} (hl : PE X l tl) (hK : X.K = K := by rfl) : PI X tg l (iSeq K tl) := hK ▸ pi_sq hl
theorem k_eqI (hu : X.A.units + 64 < cLine) (hK : X.K = K := by rfl) : OpR X (compareOp .Eq) (rEqI K) := hK ▸ op_eqI hu
theorem k_neI (hu : X.A.units + 64 < cLine) (hK : X.K = K := by rfl) : OpR X (compareOp .NotEq) (rNeI K) := hK ▸ op_neI hu
theorem k_eqTI (hu : X.A.units + 64 < cLine) (hK : X.K = K := by rfl) : OpR X (compareOp .Eq) (rEqTI K) := hK ▸ op_eqTI hu
theorem k_neTI (hu : X.A.units + 64 < cLine) (hK : X.K = K := by rfl) : OpR X (compareOp .NotEq) (rNeTI K) := hK ▸ op_neTI hu
theorem k_getL (hK : X.K = K := by rfl) : PGet X (fun o i H Q => ∃ p xs k v, o = .ref p ∧ i = .int k ∧ 0 ≤ k ∧ SqL K H p xs ∧ xs[k.toNat]? = some v ∧ Q v H) := hK ▸ get_lst
theorem k_star {e : Expr} {es : List Expr} {te : TE} {t : TA} {p : Pos} (he : PE X e te) (hr : PA X es t) (hK : X.K = K := by rfl) (hs : starEach (.Starred e p :: es) X.env = (true, eval e X.env) :: starEach es X.env := by rfl) : PA X (.Starred e p :: es) (StX.tStar K te t) := hK ▸ StX.pa_star he hr hs
end
theorem iteP {c A B : Prop} [Decidable c] (hc : c) (h : A) : if decide c = true then A else B := by
  rw [if_pos (decide_eq_true hc)]
  exact h
section
variable (K : PySem.W.Frag) {X : Cx}
theorem k_listT (hK : X.K = K := by rfl) : CallR X (.type "list") (rListL K) := k_list K hK
end
section
variable (K : PySem.W.Frag) {X : Cx}
theorem k_zipD {ta : TA} {e e2 : Expr} {p pos tpos : Pos} {elts : List Expr} {kk : Nat} (hg : Gl X "zip") (hm : X.mg "zip" = none) (ha : PA X [e, e2] ta) (hK : X.K = K := by rfl)
    (hs : starEach [e, e2] X.env = (false, eval e X.env) :: starEach [e2] X.env := by rfl) (hpl : (backTo pos (starEach [e2] X.env)).any (·.1) = false := by rfl) :
    PI X (.Tuple elts kk tpos) (.Call (.Name "zip" p) [e, e2] [] pos) (iZip K ta) := hK ▸ pi_zip hg hm ha hs hpl
end
section
variable (K : PySem.W.Frag) {X : Cx}
theorem k_isiT (hK : X.K = K := by rfl) : CallR X (.builtin "isinstance") (rIsiT K) := hK ▸ call_isiT
theorem k_ixQ (hK : X.K = K := by rfl) : IxR X (rIx K) := hK ▸ ix_seq
end

/-! ### word, *numbers = t -/
section
variable {prog : Program} {w : World} {A : Around} {E : Value → Shared → Prop} {s : Shared}
theorem tup_walks (hh : A.handled = none) (it t : Addr) (hne : t ≠ it) (items : Array Value) (k : Nat) :
    WalksS prog w A it [it, t] [it] (fun a b => b = a) (items.size - k) (fun i v => items[k + i]? = some v) (fun i s => IsTupIter s.heap it t (k + i) ∧ IsTup s.heap t items) where
  sub := fun b hb => by rw [List.mem_singleton.mp hb]; exact List.mem_cons_self ..
  grefl := fun _ => rfl
  gtrans := fun _ _ _ h1 h2 => h2.trans h1
  frame := fun i s h' tk st _ hk => by
    obtain ⟨⟨o, ho, r⟩, ⟨p, hp, u⟩⟩ := st
    exact ⟨⟨o, hk it (by simp) o ho, r⟩, ⟨p, hk t (by simp) p hp, u⟩⟩
  item := fun i s Q E hi st hQ => by
    have hlt : k + i < items.size := by omega
    refine next_tuple_item st.1 st.2 (x := items[k + i]) (by simp [hlt]) fun h' hit hs => ?_
    refine hQ _ _ (by simp [hlt]) ⟨hit, st.2.extBut hs.extBut hne⟩ ⟨fun b o hb e => hs.extBut b o (fun q => hb (by simp [q])) e, rfl, rfl, rfl, Nat.le_refl _⟩
  done := fun s Q E st hQ => next_tuple_end hh st.1 st.2 (by simp; omega) fun h' he => hQ _ ⟨fun b o hb e => he b o (fun q => hb (by simp [q])) e, rfl, rfl, rfl, Nat.le_refl _⟩
  self := fun i s Q E st hQ => wpAny_pyIter_tupleiter st.1 hQ
theorem unpack_star {t : Addr} {x : Value} {rest : List Value} {Q : List Value → Shared → Prop} (hh : A.handled = none) (ht : IsTup s.heap t (x :: rest).toArray) (hz : (x :: rest).length ≤ sizeLine)
    (hQ : ∀ (h' : Heap) (tk : Nat), (∀ b o, s.heap.get? b = some o → h'.get? b = some o) → Q [x, .ref h'.objs.size] { s with heap := h'.push { cls := .type "list", data := .seq rest.toArray }, toks := tk }) :
    wpAny (model prog w) A (unpackItems (.ref t) 2 (some 1)) Q E s := by
  have hlt : t < s.heap.objs.size := by
    obtain ⟨o, ho, _⟩ := id ht
    exact Heap.lt_size ho
  have hne : t ≠ s.heap.objs.size := Nat.ne_of_lt hlt
  unfold unpackItems
  refine wpAny_bind (show wpAny (model prog w) A (notIterableAtAll (.ref t)) _ E s from ?_)
  unfold notIterableAtAll
  refine wpAny_bind (wpAny_specialOf ht.typeIs slot_tuple_iter.lookup (wpAny_pure ?_))
  simp only [Bool.false_eq_true, if_false]
  refine wpAny_bind (wpAny_holding (iter_tuple ht ?_))
  refine wpAny_bind (wpAny_holding (draw_tuple hne 1 0 _ _ ⟨_, Heap.get?_push_size _ rfl, rfl, rfl⟩ (ht.push _) (by simp) fun h1 hit hs => ?_))
  have e1 : List.take 1 (List.drop 0 (x :: rest).toArray.toList) = [x] := by simp
  rw [e1, if_neg (by simp)]
  have ht1 : IsTup h1 t (x :: rest).toArray := (ht.push _).extBut hs.extBut hne
  have hlen : (x :: rest).toArray.size - 1 = rest.length := by simp
  have hlt1 : ∀ b ∈ [s.heap.objs.size, t], b < h1.objs.size := fun b hb => by
    have e : b = s.heap.objs.size ∨ b = t := by simpa using hb
    rcases e with rfl | rfl
    · obtain ⟨o, ho, _⟩ := id hit
      exact Heap.lt_size ho
    · obtain ⟨o, ho, _⟩ := id ht1
      exact Heap.lt_size ho
  refine wpAny_bind (wpAny_holding (wpAny_collect_iter (.inr (.inr (.inr rfl))) (tup_walks (A := A.in1) (prog := prog) (w := w) hh s.heap.objs.size t hne (x :: rest).toArray 1) (fun i s' st => ?_) ⟨hit, ht1⟩ hlt1 (by simp) (fun s' acc hm ha => ?_) (by rw [hlen]; rw [List.length_cons] at hz; omega)))
  · obtain ⟨o, ho, hc, _⟩ := st.1
    exact ⟨o, ho, hc⟩
  · have hacc : acc.toList = rest := by
      obtain ⟨hsz, hit⟩ := ha
      refine List.ext_getElem (by rw [Array.length_toList, hsz]; exact hlen) fun j h1 h2 => ?_
      have := hit j acc[j] (by simp [Array.length_toList] at h1; simp [h1])
      simp [Nat.add_comm 1 j] at this
      rw [List.getElem?_eq_getElem h2] at this
      simpa using (Option.some.inj this).symm
    rw [hacc]
    rw [if_neg (by omega)]
    simp only [Nat.sub_self, show 2 - 1 - 1 = 0 from rfl, Nat.sub_zero, List.take_length, List.drop_length, List.append_nil]
    obtain ⟨hp, gens, drawn, toks, os⟩ := s'
    obtain ⟨m1, m2, m3, m4, m5⟩ := hm
    cases m2
    cases m3
    cases m4
    refine wpAny_bind (wpAny_newObj_type (wpAny_pure ?_) (by show rest.toArray.size ≤ sizeLine; rw [List.size_toArray]; rw [List.length_cons] at hz; omega))
    refine hQ hp toks fun b o e => ?_
    have hb : b ≠ s.heap.objs.size := Nat.ne_of_lt (Heap.lt_size e)
    exact m1 b o (by simpa using hb) (hs.extBut b o hb (Heap.get?_push_of_some _ e))
end
def gStar (K : PySem.W.Frag) (g1 g2 : TG) : TG := fun v σ H Q => ∃ (a : Addr) (z : V) (xs : List V), v = .ref a ∧ SqT K H a (z :: xs) ∧ ∀ q, H q = none → g1 z σ (upd H q (.lst xs)) fun σ' H' => g2 (.ref q) σ' H' Q
theorem pg_star (K : PySem.W.Frag) {X : Cx} {t1 t2 : Expr} {g1 g2 : TG} {k : Nat} {p pos : Pos} (hc : X.calm = true) (h1 : PG X t1 g1) (h2 : PG X t2 g2) (hK : X.K = K := by rfl)
    (hs : assignEach [t1, .Starred t2 p] X.env = [(false, assign t1 X.env), (true, assign t2 X.env)] := by rfl) : PG X (.Tuple [t1, .Starred t2 p] k pos) (gStar K g1 g2) := by
  subst hK
  refine ⟨fun pins s σ H v u Q I r hw => ?_⟩
  obtain ⟨a, z, xs, rfl, hq, hw⟩ := hw
  cases r
  obtain ⟨its, rv, ht, hz⟩ := I.tuple hq
  cases rv with
  | @cons _ uz _ us rz rs =>
    rw [assign_Tuple, hs]
    refine wpAny_bind (wpAny_standAt ?_)
    unfold unpack
    refine wpAny_bind (wpAny_holding (unpack_star (I.ok.hd hc) ht (by have := rs.length; rw [List.length_cons] at hz ⊢; omega) fun h' tk hk => ?_))
    have I1 : Inv X pins σ H { s with heap := h', toks := tk } := I.kept (t' := tk) hk
    have hf : H h'.objs.size = none := I1.hok.fresh (Nat.le_refl _)
    have I2 : Inv X pins σ (upd H h'.objs.size (.lst xs)) { s with heap := h'.push { cls := .type "list", data := .seq us.toArray }, toks := tk } :=
      I1.laid (t' := tk) (o := .lst xs) (fun b ob q => Heap.get?_push_of_some _ q) (Nat.le_refl _) ⟨by rw [List.length_cons] at hz; omega, us, 0, rs, Heap.get?_push_size _ rfl⟩
    refine assignInOrder_cons (thn (h1.run pins _ σ _ z uz _ I2 rz (hw _ hf)) fun _ s3 ⟨σ3, H3, I3, q3⟩ => ?_)
    exact assignInOrder_cons (thn (h2.run pins s3 σ3 H3 (.ref h'.objs.size) _ _ I3 rfl q3) fun _ s4 h4 => assignInOrder_nil h4)

/-! ### zip of a list and a tuple -/
section
variable {prog : Program} {w : World} {A : Around}
theorem draws_tuple (hh : A.handled = none) (it t : Addr) (hne : t ≠ it) (items : Array Value) :
    Draws prog w A it [it, t] items.size (fun i v => items[i]? = some v) (fun i h => h.IsTupleIter it t i ∧ h.IsTuple t items) where
  live := fun _ _ st => by
    obtain ⟨⟨o, ho, _⟩, _⟩ := st
    exact ⟨o, ho⟩
  frame := fun _ _ _ st hk => ⟨st.1.at fun o e => hk it (by simp) o e, st.2.at fun o e => hk t (by simp) o e⟩
  item := fun i s Q E hi st hQ => RZ.nextOf_tuple_item st.1 st.2 (x := items[i]) (by simp [hi]) fun h' hit' hs' => hQ _ h' s.toks (by simp [hi]) ⟨hit', st.2.extBut hs'.extBut hne⟩ hs'
  done := fun s Q E st hE => RZ.nextOf_tuple_end hh st.1 st.2 (by simp) hE
end
def ItzLT (K : PySem.W.Frag) (a b : Addr) : It where
  go := fun i H => ∃ (xs ys : List V) (x y : V), SqL K H a xs ∧ SqT K H b ys ∧ xs[i]? = some x ∧ ys[i]? = some y
  yld := fun i H v H' => ∃ T x y, v = .ref T ∧ H T = none ∧ H' = upd H T (.tup [x, y]) ∧ (∀ xs, SqL K H a xs → xs[i]? = some x) ∧ ∀ ys, SqT K H b ys → ys[i]? = some y
  stop := fun i H => ∃ xs ys : List V, SqL K H a xs ∧ SqT K H b ys ∧ ((i = xs.length ∧ i ≤ ys.length) ∨ (i = ys.length ∧ i ≤ xs.length))
structure Five (z TI TO i1 i2 a b : Addr) : Prop where
  sep : ZipSep2 z TI TO i1 i2 [i1, a] [i2, b]
  ai : a ≠ i1
  bi : b ≠ i2
def StLT (z TI TO i1 i2 a b : Addr) (i : Nat) (h : Heap) : Prop := IsZip h z TI TO .none ∧ IsTupOf2 h TI (.ref i1) (.ref i2) ∧ (∃ x y, IsTupOf2 h TO x y) ∧ h.IsListIter i1 a i ∧ h.IsTupleIter i2 b i
theorem mem5 {c z TI TO i1 i2 : Addr} (h : c ∈ [z, TI, TO, i1, i2]) : c = z ∨ c = TI ∨ c = TO ∨ c = i1 ∨ c = i2 := by simpa using h
theorem StLT.lt {z TI TO i1 i2 a b : Addr} {i : Nat} {h : Heap} (st : StLT z TI TO i1 i2 a b i h) {c : Addr} (hc : c ∈ [z, TI, TO, i1, i2]) : c < h.objs.size := by
  obtain ⟨hz, hTI, ⟨_, _, hTO⟩, ⟨_, e1, _⟩, ⟨_, e2, _⟩⟩ := st
  rcases mem5 hc with rfl | rfl | rfl | rfl | rfl
  · exact Heap.lt_size hz
  · exact Heap.lt_size hTI
  · exact Heap.lt_size hTO
  · exact Heap.lt_size e1
  · exact Heap.lt_size e2
theorem turn_zipLT {P : Program} {w : World} {K : PySem.W.Frag} {elts : List Expr} {kk : Nat} {tpos : Pos} {a b z TI TO i1 i2 : Addr} (D : Five z TI TO i1 i2 a b) :
    Turn P w K (.Tuple elts kk tpos) (ItzLT K a b) [z, TI, TO, i1, i2] z (StLT z TI TO i1 i2 a b) where
  mem := List.mem_cons_self ..
  obj := fun i h st c hc => by
    obtain ⟨hz, hTI, ⟨x, y, hTO⟩, ⟨o1, e1, _, d1⟩, ⟨o2, e2, _, d2⟩⟩ := st
    rcases mem5 hc with rfl | rfl | rfl | rfl | rfl
    · exact ⟨_, hz, fun v q => nomatch q⟩
    · exact ⟨_, hTI, fun v q => nomatch q⟩
    · exact ⟨_, hTO, fun v q => nomatch q⟩
    · exact ⟨o1, e1, fun v q => by rw [d1] at q; cases q⟩
    · exact ⟨o2, e2, fun v q => by rw [d2] at q; cases q⟩
  keep := fun i h h' st k => by
    obtain ⟨hz, hTI, ⟨x, y, hTO⟩, h1, h2⟩ := st
    exact ⟨k _ (by simp) _ hz, k _ (by simp) _ hTI, ⟨x, y, k _ (by simp) _ hTO⟩, h1.at fun o q => k _ (by simp) o q, h2.at fun o q => k _ (by simp) o q⟩
  item := by
    intro X eP eW eK hc i pins s σ H E I hf st hg
    subst eP eW eK
    have st0 := st
    obtain ⟨hz, hTI, ⟨x0, y0, hTO⟩, h1, h2⟩ := st
    obtain ⟨xs, ys, x, y, qx, qy, gx, gy⟩ := hg
    obtain ⟨us, r1, p1, _⟩ := I.list qx
    obtain ⟨ws, r2, p2, _⟩ := I.tuple qy
    obtain ⟨u, hu, ru⟩ := r1.get gx
    obtain ⟨v, hv, rv⟩ := r2.get gy
    have lu := (List.getElem?_eq_some_iff.mp hu).1
    have lv := (List.getElem?_eq_some_iff.mp hv).1
    have hh := I.ok.hd hc
    refine wpAny_pyNext_zipD2_item D.sep (Draws.list (A := X.A.in1) hh i1 a D.ai us.toArray) (draws_tuple (A := X.A.in1) hh i2 b D.bi ws.toArray) hz hTI hTO ⟨h1, p1.isList⟩ ⟨h2, p2⟩ (by simpa using lu) (by simpa using lv) fun x1 x2 h' tk e1 e2 hz' hTO' s1 s2 hT hsz hk => ?_
    have e1 : u = x1 := by
      have : us[i]? = some x1 := by simpa using e1
      rw [hu] at this
      exact Option.some.inj this
    have e2 : v = x2 := by
      have : ws[i]? = some x2 := by simpa using e2
      rw [hv] at this
      exact Option.some.inj this
    subst e1 e2
    refine ⟨_, rfl, wpAny_letOwnedTupleGo_zip (s := { s with heap := h', toks := tk }) hz' fun h2' hz2 sb => ?_⟩
    have zlt : z < s.heap.objs.size := st0.lt (by simp)
    have hT2 : h2'.get? s.heap.objs.size = some { cls := .type "tuple", data := .seq #[u, v] } := (sb.2 _ (Nat.ne_of_gt zlt)).trans hT
    have new : ObjOk X.prog X.w (upd H s.heap.objs.size (.tup [x, y])) h2' s.heap.objs.size (.tup [x, y]) := ⟨small100 (n := 2) (by decide), [u, v], .cons ru (.cons rv .nil), ⟨_, hT2, rfl, _, rfl⟩⟩
    have old : ∀ c o, c ∉ [z, TI, TO, i1, i2] → s.heap.get? c = some o → h2'.get? c = some o := fun c o hb q => by
      simp only [List.mem_cons, List.not_mem_nil, or_false, not_or] at hb
      exact (sb.2 c hb.1).trans (hk c o hb.1 hb.2.2.1 hb.2.2.2.1 hb.2.2.2.2 q)
    have I1 : Inv X pins σ (upd H s.heap.objs.size (.tup [x, y])) { s with heap := h2', toks := tk } := I.turnedNew (t' := tk) (ch := [z, TI, TO, i1, i2]) old hf (Nat.le_refl _) new
    refine ⟨.ref s.heap.objs.size, _, I1, rfl, ⟨_, x, y, rfl, I.hok.fresh (Nat.le_refl _), rfl, fun l hl => ?_, fun l hl => ?_⟩, ⟨hz2, ?_, ⟨u, v, ?_⟩, ?_, ?_⟩, fun c hcm => ?_⟩
    · rw [I.list_inj hl qx]
      exact gx
    · rw [I.tuple_inj hl qy]
      exact gy
    · exact (sb.2 _ D.sep.TIz).trans (hk _ _ D.sep.TIz D.sep.TITO D.sep.TIi1 D.sep.TIi2 hTI)
    · exact (sb.2 _ D.sep.TOz).trans hTO'
    · exact s1.1.at fun o q => (sb.2 _ D.sep.zi1.symm).trans q
    · exact s2.1.at fun o q => (sb.2 _ D.sep.zi2.symm).trans q
    · rw [upd_ne (Nat.ne_of_lt (st0.lt hcm))]
      exact (hf c hcm).1
  done := by
    intro X eP eW eK hc i pins s σ H E I hf st hg
    subst eP eW eK
    obtain ⟨hz, hTI, ⟨x0, y0, hTO⟩, h1, h2⟩ := st
    obtain ⟨xs, ys, qx, qy, hend⟩ := hg
    obtain ⟨us, r1, p1, _⟩ := I.list qx
    obtain ⟨ws, r2, p2, _⟩ := I.tuple qy
    have l1 := r1.length
    have l2 := r2.length
    have hh := I.ok.hd hc
    have e1 : us.toArray.size = us.length := by simp
    have e2 : ws.toArray.size = ws.length := by simp
    refine wpAny_pyNext_zipD2_end D.sep (Draws.list (A := X.A.in1) hh i1 a D.ai us.toArray) (draws_tuple (A := X.A.in1) hh i2 b D.bi ws.toArray) hz hTI hTO ⟨h1, p1.isList⟩ ⟨h2, p2⟩ (by omega) (by omega) (by omega) fun h' tk hk => ⟨rfl, ?_⟩
    refine I.turnedL (t' := tk) (ch := [z, TI, TO, i1, i2]) (fun c o hb q => ?_) hf
    simp only [List.mem_cons, List.not_mem_nil, or_false, not_or] at hb
    exact hk c o hb.1 hb.2.2.1 hb.2.2.2.1 hb.2.2.2.2 q
  self := fun A i s Q E st h => wpAny_pyIter_zip st.1 h
def iZipLT (K : PySem.W.Frag) (ta : TA) : TI := fun σ H R => ta σ H fun vs H1 => ∃ (a b : Addr) (xs ys : List V), vs = [.ref a, .ref b] ∧ SqL K H1 a xs ∧ SqT K H1 b ys ∧ R (ItzLT K a b) H1
theorem pi_zipLT (K : PySem.W.Frag) {X : Cx} {e e2 : Expr} {ta : TA} {p pos tpos : Pos} {elts : List Expr} {kk : Nat} (hg : Gl X "zip") (hm : X.mg "zip" = none) (ha : PA X [e, e2] ta) (hK : X.K = K := by rfl)
    (hs : starEach [e, e2] X.env = (false, eval e X.env) :: starEach [e2] X.env := by rfl) (hpl : (backTo pos (starEach [e2] X.env)).any (·.1) = false := by rfl) :
    PI X (.Tuple elts kk tpos) (.Call (.Name "zip" p) [e, e2] [] pos) (iZipLT K ta) := by
  subst hK
  refine ⟨fun pins s σ H R I h => ?_⟩
  refine Call_ (ld_blt I hg hm PyProof.Rows.boot_zip (PyProof.Rows.callWith_type1 (thn (ha.run pos pins s σ H _ I h) fun us s1 ⟨vs, H1, I1, r1, q1⟩ => ?_) hs hpl))
  obtain ⟨a, b, xs, ys, rfl, qx, qy, q⟩ := q1
  obtain ⟨u1, u2, rfl, ra, rb⟩ := vals2 r1
  cases (show u1 = Value.ref a from ra)
  cases (show u2 = Value.ref b from rb)
  obtain ⟨ws, _, p1, _⟩ := I1.list qx
  obtain ⟨zs, _, p2, _⟩ := I1.tuple qy
  have la : a < s1.heap.objs.size := p1.lt
  have lb : b < s1.heap.objs.size := by
    obtain ⟨o, ho, _⟩ := id p2
    exact Heap.lt_size ho
  refine zip_begins2 (begins_list a ws.toArray) (begins_tuple b zs.toArray) p1.isList p2 fun h' hz hTI hTO g1 g2 hsz hk => wpAny_pyIter_zip hz ?_
  have I2 : Inv X pins σ H1 { s1 with heap := h' } := I1.kept (t' := s1.toks) hk
  have sep : ZipSep2 (s1.heap.objs.size + 4) (s1.heap.objs.size + 2) (s1.heap.objs.size + 3) s1.heap.objs.size (s1.heap.objs.size + 1) [s1.heap.objs.size, a] [s1.heap.objs.size + 1, b] :=
    zip_sep2 (fun c hc => by rw [List.mem_singleton.mp hc]; exact la) fun c hc => by rw [List.mem_singleton.mp hc]; exact lb
  have D : Five (s1.heap.objs.size + 4) (s1.heap.objs.size + 2) (s1.heap.objs.size + 3) s1.heap.objs.size (s1.heap.objs.size + 1) a b := ⟨sep, Nat.ne_of_lt la, Nat.ne_of_lt (Nat.lt_succ_of_lt lb)⟩
  refine ⟨_, [s1.heap.objs.size + 4, s1.heap.objs.size + 2, s1.heap.objs.size + 3, s1.heap.objs.size, s1.heap.objs.size + 1], _, _, H1, rfl, I2, turn_zipLT D, ⟨hz, hTI, ⟨_, _, hTO⟩, ⟨_, g1, rfl, rfl⟩, ⟨_, g2, rfl, rfl⟩⟩, fun c hcm => ?_, q⟩
  have hle : s1.heap.objs.size ≤ c := by rcases mem5 hcm with rfl | rfl | rfl | rfl | rfl <;> omega
  exact I1.fpOk hle (I1.hok.fresh hle)
theorem walk_zipLT {K : PySem.W.Frag} {a b : Addr} {xs ys : List V} {n : Nat} (h1 : xs.length = n) (h2 : ys.length = n) :
    Walk (ItzLT K a b) n (fun H => SqL K H a xs ∧ SqT K H b ys) (YPair (fun i => xs[i]?) (fun i => ys[i]?)) :=
  ⟨fun i H hi q => ⟨xs, ys, xs[i], ys[i], q.1, q.2, by simp, by simp⟩, fun H q => ⟨xs, ys, q.1, q.2, .inl ⟨h1.symm, by omega⟩⟩,
    fun i H v H' _ q y => by
      obtain ⟨T, x, y, e1, e2, e3, e4, e5⟩ := y
      exact ⟨T, x, y, e1, e2, e3, e4 _ q.1, e5 _ q.2⟩⟩

/-! ### the commands -/
inductive Cm where
  | go (k : Int) | turn (n : Int) | mirror | scale (k : Int) | aim (a b : Int) | place (a b : Int) | mark | ret | exch
def Cm.word : Cm → Str
  | .go _ => "go" | .turn _ => "turn" | .mirror => "mirror" | .scale _ => "scale" | .aim _ _ => "aim" | .place _ _ => "place" | .mark => "mark" | .ret => "return" | .exch => "exchange"
def Cm.nums : Cm → List Int
  | .go k => [k] | .turn n => [n] | .scale k => [k] | .aim a b => [a, b] | .place a b => [a, b] | _ => []
def Cm.lims : Cm → List (Int × Int)
  | .go _ => [(-9, 9)] | .turn _ => [(1, 3)] | .scale _ => [(-3, 3)] | .aim _ _ => [(-9, 9), (-9, 9)] | .place _ _ => [(-9, 9), (-9, 9)] | _ => []
def Cm.ok (c : Cm) : Prop := ∀ (i : Nat) (z : Int) (l : Int × Int), c.nums[i]? = some z → c.lims[i]? = some l → l.1 ≤ z ∧ z ≤ l.2
def Cm.vals (c : Cm) : List V := V.str c.word :: c.nums.map V.int
def rot : Nat → Int × Int → Int × Int
  | 0, h => h
  | n + 1, h => (-(rot n h).2, (rot n h).1)
def Cm.mv (c : Cm) : List Int → List Int
  | [x, y, u, v, p, q] => match c with
    | .go k => [x + k * u, y + k * v, u, v, p, q]
    | .turn n => [x, y, (rot n.toNat (u, v)).1, (rot n.toNat (u, v)).2, p, q]
    | .mirror => [x, y, u, -v, p, q]
    | .scale k => [x, y, k * u, k * v, p, q]
    | .aim a b => [x, y, a, b, p, q]
    | .place a b => [a, b, u, v, p, q]
    | .mark => [x, y, u, v, x, y]
    | .ret => [p, q, u, v, p, q]
    | .exch => [p, q, u, v, x, y]
  | ps => ps
/-- the module's table of limits -/
structure Lims (w : World) (K : PySem.W.Frag) (d : Addr) : Prop where
  row : ∀ c : Cm, ∃ (ab : Addr) (ps : List Addr), KDct K w d c.word (.ref ab) ∧ (∀ H, SqT K H ab (ps.map V.ref)) ∧ ps.length = c.nums.length ∧ c.lims.length = c.nums.length ∧
    ∀ (i : Nat) (p : Addr), ps[i]? = some p → ∃ l, c.lims[i]? = some l ∧ ∀ H, SqT K H p [.int l.1, .int l.2]
theorem sqK {K : PySem.W.Frag} {a : Addr} {d : Option Addr} {us : List Value} {n : Nat} {sl : Array (Option Value)} {xs : List V} (h : K.lookup a = some ⟨.type "tuple", d, .seq us.toArray n, sl⟩) (hl : us.length ≤ 1000) (r : Vals xs us) : ∀ H, SqT K H a xs :=
  fun H => .inr ⟨_, us.toArray, n, h, rfl, rfl, by rw [List.size_toArray]; exact small100 hl, r⟩

theorem iteN {c A B : Prop} [Decidable c] (hc : ¬ c) (h : B) : if decide c = true then A else B := by
  rw [if_neg (by rw [decide_eq_false hc]; exact Bool.false_ne_true)]
  exact h
theorem iteNN {c A B : Prop} [Decidable c] (hc : ¬ c) (h : A) : if (!decide c) = true then A else B := by
  rw [if_pos (by rw [decide_eq_false hc]; rfl)]
  exact h


def Row (w : World) (K : PySem.W.Frag) (d : Addr) (wd : Str) (ls : List (Int × Int)) : Prop := ∃ (ab : Addr) (ps : List Addr), KDct K w d wd (.ref ab) ∧ (∀ H, SqT K H ab (ps.map V.ref)) ∧ ps.length = ls.length ∧
  ∀ (i : Nat) (p : Addr), ps[i]? = some p → ∃ l, ls[i]? = some l ∧ ∀ H, SqT K H p [.int l.1, .int l.2]
section
variable {w : World} {K : PySem.W.Frag} {aB : Addr} {eB : Array DictEntry} {nB : Nat} {wd : Str} {b p p' : Addr} {db dp dp' : Option Addr} {nb np np' : Nat} {sb sp sp' : Array (Option Value)} {lo hi lo' hi' : Int} {t u t' u' : Tok}
theorem pairK (h : K.lookup p = some ⟨.type "tuple", dp, .seq ([.int lo t, .int hi u] : List Value).toArray np, sp⟩) : ∀ H, SqT K H p [.int lo, .int hi] := sqK h (by simp) (.cons ⟨t, rfl⟩ (.cons ⟨u, rfl⟩ .nil))
theorem row0 (lB : K.lookup aB = some ⟨.type "dict", none, .dict eB nB, #[]⟩) (iB : PySem.W.KeysLit w.params eB.toList) (n : PySem.W.nsIn K aB wd = some (some (.ref b))) (l : K.lookup b = some ⟨.type "tuple", db, .seq ([] : List Value).toArray nb, sb⟩) : Row w K aB wd [] :=
  ⟨b, [], ⟨eB, nB, _, lB, iB, n, rfl⟩, sqK l (by simp) .nil, rfl, fun i p e => by simp at e⟩
theorem row1 (lB : K.lookup aB = some ⟨.type "dict", none, .dict eB nB, #[]⟩) (iB : PySem.W.KeysLit w.params eB.toList) (n : PySem.W.nsIn K aB wd = some (some (.ref b))) (l : K.lookup b = some ⟨.type "tuple", db, .seq ([.ref p] : List Value).toArray nb, sb⟩)
    (q : K.lookup p = some ⟨.type "tuple", dp, .seq ([.int lo t, .int hi u] : List Value).toArray np, sp⟩) : Row w K aB wd [(lo, hi)] :=
  ⟨b, [p], ⟨eB, nB, _, lB, iB, n, rfl⟩, sqK l (by simp) (.cons rfl .nil), rfl, fun i z e => by
    match i, e with
    | 0, e => cases e; exact ⟨_, rfl, pairK q⟩⟩
theorem row2 (lB : K.lookup aB = some ⟨.type "dict", none, .dict eB nB, #[]⟩) (iB : PySem.W.KeysLit w.params eB.toList) (n : PySem.W.nsIn K aB wd = some (some (.ref b))) (l : K.lookup b = some ⟨.type "tuple", db, .seq ([.ref p, .ref p'] : List Value).toArray nb, sb⟩)
    (q : K.lookup p = some ⟨.type "tuple", dp, .seq ([.int lo t, .int hi u] : List Value).toArray np, sp⟩) (q' : K.lookup p' = some ⟨.type "tuple", dp', .seq ([.int lo' t', .int hi' u'] : List Value).toArray np', sp'⟩) : Row w K aB wd [(lo, hi), (lo', hi')] :=
  ⟨b, [p, p'], ⟨eB, nB, _, lB, iB, n, rfl⟩, sqK l (by simp) (.cons rfl (.cons rfl .nil)), rfl, fun i z e => by
    match i, e with
    | 0, e => cases e; exact ⟨_, rfl, pairK q⟩
    | 1, e => cases e; exact ⟨_, rfl, pairK q'⟩⟩
theorem lims_of (r0 : Row w K aB "go" [(-9, 9)]) (r1 : Row w K aB "turn" [(1, 3)]) (r2 : Row w K aB "mirror" []) (r3 : Row w K aB "scale" [(-3, 3)]) (r4 : Row w K aB "aim" [(-9, 9), (-9, 9)]) (r5 : Row w K aB "place" [(-9, 9), (-9, 9)])
    (r6 : Row w K aB "mark" []) (r7 : Row w K aB "return" []) (r8 : Row w K aB "exchange" []) : Lims w K aB := by
  refine ⟨fun c => ?_⟩
  have fit : ∀ {ls : List (Int × Int)}, Row w K aB c.word ls → c.lims = ls → c.lims.length = c.nums.length → ∃ (ab : Addr) (ps : List Addr), KDct K w aB c.word (.ref ab) ∧ (∀ H, SqT K H ab (ps.map V.ref)) ∧ ps.length = c.nums.length ∧ c.lims.length = c.nums.length ∧ ∀ (i : Nat) (p : Addr), ps[i]? = some p → ∃ l, c.lims[i]? = some l ∧ ∀ H, SqT K H p [.int l.1, .int l.2] := fun {ls} r e1 e2 => by
    obtain ⟨ab, ps, h1, h2, h3, h4⟩ := r
    exact ⟨ab, ps, h1, h2, by rw [h3, ← e1, e2], e2, by rw [e1]; exact h4⟩
  cases c with
  | go k => exact fit r0 rfl rfl
  | turn k => exact fit r1 rfl rfl
  | mirror => exact fit r2 rfl rfl
  | scale k => exact fit r3 rfl rfl
  | aim a b => exact fit r4 rfl rfl
  | place a b => exact fit r5 rfl rfl
  | mark => exact fit r6 rfl rfl
  | ret => exact fit r7 rfl rfl
  | exch => exact fit r8 rfl rfl
end

/-! ### data that stand in the heap, their lists at addresses of a kind -/
section
variable (S : Addr → Prop) (H : Hp)
mutual
def Tr : PyData → V → Prop
  | .none, v => v = .non
  | .bool b, v => v = .bl b
  | .int i, v => v = .int i
  | .str s, v => v = .str s
  | .list ds, v => ∃ a xs, v = .ref a ∧ S a ∧ H a = some (.lst xs) ∧ TrAll ds xs
  | .tuple ds, v => ∃ a xs, v = .ref a ∧ H a = some (.tup xs) ∧ TrAll ds xs
  | .dict ds, v => ∃ a kvs, v = .ref a ∧ H a = some (.dK kvs) ∧ (ds = [] → kvs = [])
def TrAll : List PyData → List V → Prop
  | [], xs => xs = []
  | d :: ds, xs => ∃ x r, xs = x :: r ∧ Tr d x ∧ TrAll ds r
end
end
/-- lists at M may have changed, nothing else that was tracked -/
def KpL (M : Addr → Prop) (H H' : Hp) : Prop := ∀ b o, (M b → ∀ xs, o ≠ .lst xs) → H b = some o → H' b = some o
section
variable {S S' M M' : Addr → Prop} {H H' H'' : Hp}
theorem KpL.refl : KpL M H H := fun _ _ _ h => h
theorem KpL.trans (a : KpL M H H') (b : KpL M H' H'') : KpL M H H'' := fun c o n h => b c o n (a c o n h)
theorem KpL.of (s : Same H H') : KpL M H H' := fun b o _ h => s b o h
theorem KpL.mono (k : KpL M H H') (h : ∀ a, M a → M' a) : KpL M' H H' := fun b o n e => k b o (fun m => n (h b m)) e
theorem KpL.at_ (k : KpL M H H') {b : Addr} {o : HO} (e : H b = some o) (n : ¬ M b) : H' b = some o := k b o (fun m => absurd m n) e
theorem KpL.tup (k : KpL M H H') {b : Addr} {xs : List V} (e : H b = some (.tup xs)) : H' b = some (.tup xs) := k b _ (fun _ _ z => nomatch z) e
theorem KpL.ins (k : KpL M H H') {b C dx : Addr} {xs : List (Str × V)} (e : H b = some (.ins C dx xs)) : H' b = some (.ins C dx xs) := k b _ (fun _ _ z => nomatch z) e
theorem KpL.put (k : KpL M H H') {p : Addr} {xs : List V} (hp : M p) (h : ∃ ys, H p = some (.lst ys)) : KpL M H (upd H' p (.lst xs)) := fun b o n e => by
  by_cases hb : b = p
  · subst hb
    obtain ⟨ys, h⟩ := h
    rw [h] at e
    cases e
    exact absurd rfl (n hp ys)
  · rw [upd_ne hb]
    exact k b o n e
theorem KpL.new {q : Addr} {o : HO} (k : KpL M H H') (n : H q = none) : KpL M H (upd H' q o) := fun b x m e => by
  rw [upd_ne (ne_of_none e n)]
  exact k b x m e
theorem KpL.kp {p : Addr} (k : Kp p H H') (hp : M p) (h : ∃ ys, H p = some (.lst ys)) : KpL M H H' := fun b o n e => by
  by_cases hb : b = p
  · subst hb
    obtain ⟨ys, h⟩ := h
    rw [h] at e
    cases e
    exact absurd rfl (n hp ys)
  · exact k b o hb e
/-- what is tracked stays tracked -/
theorem KpL.free {q : Addr} (k : KpL M H H') (hM : ∀ a, M a → ∃ ys, H' a = some (.lst ys)) (e : H' q = none) : H q = none := by
  cases h : H q with
  | none => rfl
  | some o =>
    by_cases m : M q
    · obtain ⟨ys, hy⟩ := hM q m
      rw [hy] at e
      cases e
    · rw [k.at_ h m] at e
      cases e
theorem KpL.same (k : KpL M H H') (hM : ∀ a, M a → H a = none) : Same H H' := fun b o e => k b o (fun m => by rw [hM b m] at e; cases e) e
mutual
theorem Tr.mono (h : ∀ a, S a → S' a) : ∀ (d : PyData) (v : V), Tr S H d v → Tr S' H d v
  | .none, v, e => e
  | .bool b, v, e => e
  | .int i, v, e => e
  | .str s, v, e => e
  | .list ds, v, ⟨a, xs, e, s, l, t⟩ => ⟨a, xs, e, h a s, l, TrAll.mono h ds xs t⟩
  | .tuple ds, v, ⟨a, xs, e, l, t⟩ => ⟨a, xs, e, l, TrAll.mono h ds xs t⟩
  | .dict _, v, e => e
theorem TrAll.mono (h : ∀ a, S a → S' a) : ∀ (ds : List PyData) (xs : List V), TrAll S H ds xs → TrAll S' H ds xs
  | [], xs, e => e
  | d :: ds, xs, ⟨x, r, e, t, q⟩ => ⟨x, r, e, Tr.mono h d x t, TrAll.mono h ds r q⟩
end
mutual
theorem Tr.kpl (k : KpL M H H') (h : ∀ a, S a → ¬ M a) : ∀ (d : PyData) (v : V), Tr S H d v → Tr S H' d v
  | .none, v, e => e
  | .bool b, v, e => e
  | .int i, v, e => e
  | .str s, v, e => e
  | .list ds, v, ⟨a, xs, e, s, l, t⟩ => ⟨a, xs, e, s, k.at_ l (h a s), TrAll.kpl k h ds xs t⟩
  | .tuple ds, v, ⟨a, xs, e, l, t⟩ => ⟨a, xs, e, k.tup l, TrAll.kpl k h ds xs t⟩
  | .dict _, v, ⟨a, kvs, e, l, z⟩ => ⟨a, kvs, e, k a _ (fun _ _ z => nomatch z) l, z⟩
theorem TrAll.kpl (k : KpL M H H') (h : ∀ a, S a → ¬ M a) : ∀ (ds : List PyData) (xs : List V), TrAll S H ds xs → TrAll S H' ds xs
  | [], xs, e => e
  | d :: ds, xs, ⟨x, r, e, t, q⟩ => ⟨x, r, e, Tr.kpl k h d x t, TrAll.kpl k h ds r q⟩
end
theorem Tr.same (s : Same H H') {d : PyData} {v : V} (t : Tr S H d v) : Tr S H' d v := Tr.kpl (M := fun _ => False) (KpL.of s) (fun _ _ h => h) d v t
theorem TrAll.same (s : Same H H') {ds : List PyData} {xs : List V} (t : TrAll S H ds xs) : TrAll S H' ds xs := TrAll.kpl (M := fun _ => False) (KpL.of s) (fun _ _ h => h) ds xs t
theorem TrAll.len : ∀ {ds : List PyData} {xs : List V}, TrAll S H ds xs → xs.length = ds.length
  | [], xs, e => by cases e; rfl
  | d :: ds, xs, ⟨x, r, e, _, q⟩ => by rw [e, List.length_cons, List.length_cons, q.len]
theorem TrAll.get : ∀ {ds : List PyData} {xs : List V} {i : Nat} {x : V}, TrAll S H ds xs → xs[i]? = some x → ∃ d, ds[i]? = some d ∧ Tr S H d x
  | [], xs, i, x, e, h => by cases e; simp at h
  | d :: ds, xs, 0, x, ⟨y, r, e, t, q⟩, h => by subst e; cases h; exact ⟨d, rfl, t⟩
  | d :: ds, xs, i + 1, x, ⟨y, r, e, t, q⟩, h => by subst e; exact q.get (i := i) h
theorem TrAll.get' : ∀ {ds : List PyData} {xs : List V} {i : Nat} {d : PyData}, TrAll S H ds xs → ds[i]? = some d → ∃ x, xs[i]? = some x ∧ Tr S H d x
  | [], xs, i, x, e, h => by simp at h
  | d :: ds, xs, 0, x, ⟨y, r, e, t, q⟩, h => by subst e; cases h; exact ⟨y, rfl, t⟩
  | d :: ds, xs, i + 1, x, ⟨y, r, e, t, q⟩, h => by subst e; exact q.get' (i := i) h
theorem TrAll.append : ∀ {ds es : List PyData} {xs ys : List V}, TrAll S H ds xs → TrAll S H es ys → TrAll S H (ds ++ es) (xs ++ ys)
  | [], es, xs, ys, e, t => by cases e; exact t
  | d :: ds, es, xs, ys, ⟨x, r, e, q, t⟩, u => by subst e; exact ⟨x, r ++ ys, rfl, q, TrAll.append t u⟩
theorem TrAll.nil : TrAll S H [] [] := rfl
theorem TrAll.one {d : PyData} {x : V} (t : Tr S H d x) : TrAll S H [d] [x] := ⟨x, [], rfl, t, rfl⟩
theorem TrAll.cons {d : PyData} {ds : List PyData} {x : V} {xs : List V} (t : Tr S H d x) (q : TrAll S H ds xs) : TrAll S H (d :: ds) (x :: xs) := ⟨x, xs, rfl, t, q⟩
theorem TrAll.snoc {ds : List PyData} {xs : List V} {d : PyData} {x : V} (q : TrAll S H ds xs) (t : Tr S H d x) : TrAll S H (ds ++ [d]) (xs ++ [x]) := q.append (TrAll.one t)
theorem TrAll.take : ∀ {ds : List PyData} {xs : List V} (n : Nat), TrAll S H ds xs → TrAll S H (ds.take n) (xs.take n)
  | [], xs, n, e => by cases e; simp [TrAll]
  | d :: ds, xs, 0, _ => by simp [TrAll]
  | d :: ds, xs, n + 1, ⟨x, r, e, t, q⟩ => by subst e; exact ⟨x, r.take n, rfl, t, q.take n⟩
theorem TrAll.drop : ∀ {ds : List PyData} {xs : List V} (n : Nat), TrAll S H ds xs → TrAll S H (ds.drop n) (xs.drop n)
  | [], xs, n, e => by cases e; simp [TrAll]
  | d :: ds, xs, 0, t => t
  | d :: ds, xs, n + 1, ⟨x, r, e, t, q⟩ => by subst e; exact q.drop n
theorem TrAll.ints : ∀ {ns : List Int} {us : List V}, TrAll S H (ns.map PyData.int) us → us = ns.map V.int
  | [], us, h => h
  | n :: r, us, ⟨x, q, e, t, h⟩ => by
    cases t
    rw [e, h.ints]
    rfl
theorem TrAll.ofInts : ∀ (ns : List Int), TrAll S H (ns.map PyData.int) (ns.map V.int)
  | [] => rfl
  | n :: r => ⟨_, _, rfl, rfl, TrAll.ofInts r⟩
mutual
theorem Tr.dp {K : PySem.W.Frag} : ∀ (d : PyData) (v : V), PyData.canLay0 d = true → Tr S H d v → Dp K H v d
  | .none, v, _, e => by cases e; exact .non
  | .bool b, v, _, e => by cases e; exact .bl b
  | .int i, v, _, e => by cases e; exact .int i
  | .str s, v, _, e => by cases e; exact .str s
  | .list ds, v, c, ⟨a, xs, e, s, l, t⟩ => by subst e; exact .lst (SqL.of l) (TrAll.dp ds xs (by simpa [PyData.canLay0] using c) t)
  | .tuple ds, v, c, ⟨a, xs, e, l, t⟩ => by subst e; exact .tup (SqT.of l) (TrAll.dp ds xs (by simpa [PyData.canLay0] using c) t)
  | .dict _, v, c, _ => by simp [PyData.canLay0] at c
theorem TrAll.dp {K : PySem.W.Frag} : ∀ (ds : List PyData) (xs : List V), PyData.canLayAll0 ds = true → TrAll S H ds xs → DpAll K H xs ds
  | [], xs, _, e => by cases e; exact .nil
  | d :: ds, xs, c, ⟨x, r, e, t, q⟩ => by
    have c : d.canLay0 = true ∧ PyData.canLayAll0 ds = true := by simpa [PyData.canLayAll0] using c
    subst e
    exact .cons (Tr.dp d x c.1 t) (TrAll.dp ds r c.2 q)
end
end
/-- new since H -/
abbrev New (H : Hp) : Addr → Prop := fun a => H a = none
/-! ### a new list of new data under construction -/
def Bld (H1 : Hp) (D : Addr) (ds : List PyData) (H' : Hp) : Prop := Same H1 H' ∧ ∃ zs, H' D = some (.lst zs) ∧ TrAll (fun a => H1 a = none ∧ a ≠ D) H' ds zs
section
variable {H1 H' H2 : Hp} {D : Addr} {ds : List PyData}
theorem Bld.nil (h : H1 D = none) : Bld H1 D [] (upd H1 D (.lst [])) := ⟨same_upd h, [], upd_same, TrAll.nil⟩
theorem Bld.push {d : PyData} {r : V} (m : Bld H1 D ds H') (nD : H1 D = none) (s : Same H' H2) (t : Tr (New H') H2 d r) : ∃ zs, H2 D = some (.lst zs) ∧ zs.length = ds.length ∧ Bld H1 D (ds ++ [d]) (upd H2 D (.lst (zs ++ [r]))) := by
  obtain ⟨sm, zs, hD, tz⟩ := m
  have k2 : KpL (fun a => a = D) H2 (upd H2 D (.lst (zs ++ [r]))) := KpL.refl.put rfl ⟨zs, s _ _ hD⟩
  refine ⟨zs, s _ _ hD, tz.len, same_new (sm.trans s) nD, zs ++ [r], upd_same, TrAll.snoc ?_ ?_⟩
  · exact TrAll.kpl k2 (fun a na e => na.2 e) _ _ (tz.same s)
  · refine Tr.kpl k2 (fun a na e => na.2 e) _ _ (Tr.mono (fun a na => ⟨sm.free na, fun e => ?_⟩) _ _ t)
    have na : H' a = none := na
    rw [e, hD] at na
    cases na
theorem Bld.done (m : Bld H1 D ds H') (nD : H1 D = none) : Tr (New H1) H' (.list ds) (.ref D) := by
  obtain ⟨sm, zs, hD, tz⟩ := m
  exact ⟨D, zs, rfl, nD, hD, TrAll.mono (fun a na => na.1) _ _ tz⟩
theorem Bld.len (m : Bld H1 D ds H') : ∃ zs, H' D = some (.lst zs) ∧ zs.length = ds.length := ⟨_, m.2.choose_spec.1, m.2.choose_spec.2.len⟩
end
theorem Tr.newer {H0 H1 H2 : Hp} {d : PyData} {v : V} (s : Same H0 H1) (t : Tr (New H1) H2 d v) : Tr (New H0) H2 d v := Tr.mono (fun _ n => s.free n) _ _ t
theorem TrAll.newer {H0 H1 H2 : Hp} {d : List PyData} {v : List V} (s : Same H0 H1) (t : TrAll (New H1) H2 d v) : TrAll (New H0) H2 d v := TrAll.mono (fun _ n => s.free n) _ _ t
section
variable {S : Addr → Prop} {H H' : Hp}
mutual
theorem Tr.keep (k : ∀ b o, ((∃ xs, o = .lst xs) ∧ S b ∨ (∃ xs, o = .tup xs) ∨ ∃ xs, o = .dK xs) → H b = some o → H' b = some o) : ∀ (d : PyData) (v : V), Tr S H d v → Tr S H' d v
  | .none, v, e => e
  | .bool b, v, e => e
  | .int i, v, e => e
  | .str s, v, e => e
  | .list ds, v, ⟨a, xs, e, s, l, t⟩ => ⟨a, xs, e, s, k a _ (.inl ⟨⟨_, rfl⟩, s⟩) l, TrAll.keep k ds xs t⟩
  | .tuple ds, v, ⟨a, xs, e, l, t⟩ => ⟨a, xs, e, k a _ (.inr (.inl ⟨_, rfl⟩)) l, TrAll.keep k ds xs t⟩
  | .dict _, v, ⟨a, kvs, e, l, z⟩ => ⟨a, kvs, e, k a _ (.inr (.inr ⟨_, rfl⟩)) l, z⟩
theorem TrAll.keep (k : ∀ b o, ((∃ xs, o = .lst xs) ∧ S b ∨ (∃ xs, o = .tup xs) ∨ ∃ xs, o = .dK xs) → H b = some o → H' b = some o) : ∀ (ds : List PyData) (xs : List V), TrAll S H ds xs → TrAll S H' ds xs
  | [], xs, e => e
  | d :: ds, xs, ⟨x, r, e, t, q⟩ => ⟨x, r, e, Tr.keep k d x t, TrAll.keep k ds r q⟩
end
/-- an object's attributes are stored to -/
theorem Tr.put {p C dx : Addr} {fs gs : List (Str × V)} {d : PyData} {v : V} (h : H p = some (.ins C dx fs)) (t : Tr S H d v) : Tr S (upd H p (.ins C dx gs)) d v :=
  Tr.keep (fun b o n e => by
    by_cases hb : b = p
    · subst hb
      rw [h] at e
      cases e
      rcases n with ⟨⟨_, n⟩, _⟩ | ⟨_, n⟩ | ⟨_, n⟩ <;> cases n
    · rw [upd_ne hb]
      exact e) d v t
end
theorem Tr.lst {S : Addr → Prop} {H : Hp} {ds : List PyData} {a : Addr} (t : Tr S H (.list ds) (.ref a)) : ∃ xs, S a ∧ H a = some (.lst xs) ∧ TrAll S H ds xs := by
  obtain ⟨b, xs, e, h⟩ := t
  cases e
  exact ⟨xs, h⟩
theorem Tr.tup {S : Addr → Prop} {H : Hp} {ds : List PyData} {a : Addr} (t : Tr S H (.tuple ds) (.ref a)) : ∃ xs, H a = some (.tup xs) ∧ TrAll S H ds xs := by
  obtain ⟨b, xs, e, h⟩ := t
  cases e
  exact ⟨xs, h⟩
section
variable {S : Addr → Prop} {H : Hp}
mutual
theorem Tr.tracked : ∀ (d : PyData) (v : V), Tr S H d v → Tr (fun a => S a ∧ H a ≠ none) H d v
  | .none, v, e => e
  | .bool b, v, e => e
  | .int i, v, e => e
  | .str s, v, e => e
  | .list ds, v, ⟨a, xs, e, s, l, t⟩ => ⟨a, xs, e, ⟨s, by rw [l]; exact fun z => nomatch z⟩, l, TrAll.tracked ds xs t⟩
  | .tuple ds, v, ⟨a, xs, e, l, t⟩ => ⟨a, xs, e, l, TrAll.tracked ds xs t⟩
  | .dict _, v, e => e
theorem TrAll.tracked : ∀ (ds : List PyData) (xs : List V), TrAll S H ds xs → TrAll (fun a => S a ∧ H a ≠ none) H ds xs
  | [], xs, e => e
  | d :: ds, xs, ⟨x, r, e, t, q⟩ => ⟨x, r, e, Tr.tracked d x t, TrAll.tracked ds r q⟩
end
end

/-! ### statements -/
inductive Stm where
  | cmd (c : Cm)
  | fin (way : Bool)
  | keep (b : List Stm)
  | again (b : List Stm)
  | either (a b : List Stm)
  | call (p : Nat) (saved : Bool) (a b : List Stm)
def Cm.d (c : Cm) : PyData := .tuple (.str c.word :: c.nums.map .int)
mutual
def Stm.d : Stm → PyData
  | .cmd c => c.d
  | .fin w => .tuple [.str "end", .int (if w then 1 else 0)]
  | .keep b => .tuple [.str "keep", .list (blkD b)]
  | .again b => .tuple [.str "again", .list (blkD b)]
  | .either a b => .tuple [.str "either", .list (blkD a), .list (blkD b)]
  | .call p s a b => .tuple [.str "call", .int p, .bool s, .list [.list (blkD a), .list (blkD b)]]
def blkD : List Stm → List PyData
  | [] => []
  | s :: r => s.d :: blkD r
end
mutual
/-- how many statements, all levels -/
def Stm.cnt : Stm → Nat
  | .keep b => 1 + cntB b
  | .again b => 1 + cntB b
  | .either a b => 1 + (cntB a + cntB b)
  | .call _ _ a b => 1 + (cntB a + cntB b)
  | _ => 1
def cntB : List Stm → Nat
  | [] => 0
  | s :: r => s.cnt + cntB r
end
mutual
/-- a statement of a list at level l of a book of many procedures -/
def Stm.ok (many : Nat) : Stm → Nat → Prop
  | .cmd c, _ => c.ok
  | .fin _, _ => True
  | .keep b, l => l < 3 ∧ b.length ≤ 8 ∧ okB many b (l + 1)
  | .again b, l => l < 3 ∧ b.length ≤ 8 ∧ okB many b (l + 1)
  | .either a b, l => l < 3 ∧ (a.length ≤ 8 ∧ okB many a (l + 1)) ∧ b.length ≤ 8 ∧ okB many b (l + 1)
  | .call p _ a b, l => l < 3 ∧ p < many ∧ (a.length ≤ 8 ∧ okB many a (l + 1)) ∧ b.length ≤ 8 ∧ okB many b (l + 1)
def okB (many : Nat) : List Stm → Nat → Prop
  | [], _ => True
  | s :: r, l => s.ok many l ∧ okB many r l
end
def Stm.blocks : Stm → List (List Stm)
  | .keep b => [b]
  | .again b => [b]
  | .either a b => [a, b]
  | .call _ _ a b => [a, b]
  | _ => []
theorem blkD_map : ∀ b : List Stm, blkD b = b.map Stm.d
  | [] => rfl
  | s :: r => by rw [blkD, blkD_map r]; rfl
theorem blkD_append (a b : List Stm) : blkD (a ++ b) = blkD a ++ blkD b := by rw [blkD_map, blkD_map, blkD_map, List.map_append]
theorem blkD_len (b : List Stm) : (blkD b).length = b.length := by rw [blkD_map, List.length_map]
theorem blkD_get {b : List Stm} {i : Nat} {d : PyData} (h : (blkD b)[i]? = some d) : ∃ s, b[i]? = some s ∧ d = s.d := by
  rw [blkD_map, List.getElem?_map] at h
  cases e : b[i]? with
  | none => rw [e] at h; cases h
  | some s => rw [e] at h; cases h; exact ⟨s, rfl, rfl⟩
theorem cntB_append : ∀ a b : List Stm, cntB (a ++ b) = cntB a + cntB b
  | [], b => by simp [cntB]
  | s :: r, b => by rw [List.cons_append, cntB, cntB_append r b, cntB]; omega
theorem Stm.cnt_pos : ∀ s : Stm, 1 ≤ s.cnt
  | .cmd _ => Nat.le_refl _
  | .fin _ => Nat.le_refl _
  | .keep b => by simp [Stm.cnt]
  | .again b => by simp [Stm.cnt]
  | .either a b => by simp [Stm.cnt]
  | .call _ _ a b => by simp [Stm.cnt]
theorem len_cntB : ∀ b : List Stm, b.length ≤ cntB b
  | [] => Nat.le_refl _
  | s :: r => by
    have := len_cntB r
    have := s.cnt_pos
    rw [List.length_cons, cntB]
    omega
theorem okB_append {many : Nat} : ∀ {a b : List Stm} {l : Nat}, okB many a l → okB many b l → okB many (a ++ b) l
  | [], b, l, _, h => h
  | s :: r, b, l, h1, h2 => ⟨h1.1, okB_append h1.2 h2⟩
theorem okB_get {many : Nat} : ∀ {b : List Stm} {l i : Nat} {s : Stm}, okB many b l → b[i]? = some s → s.ok many l
  | [], l, i, s, _, e => by simp at e
  | s :: r, l, 0, _, h, e => by cases e; exact h.1
  | s :: r, l, i + 1, _, h, e => okB_get (i := i) h.2 e
/-! ### what the program says of any value -/
def isI : PyData → Bool
  | .int _ => true
  | _ => false
def inD (d : PyData) (l : Int × Int) : Bool := match d with
  | .int z => decide (l.1 ≤ z) && decide (z ≤ l.2)
  | _ => false
def isLs : PyData → Bool
  | .list _ => true
  | _ => false
def isTp : PyData → Bool
  | .tuple _ => true
  | _ => false
def isBl : PyData → Bool
  | .bool _ => true
  | _ => false

def boundsOf (s : Str) : Option (List (Int × Int)) :=
  if s = "go" then some [(-9, 9)] else if s = "turn" then some [(1, 3)] else if s = "mirror" then some [] else if s = "scale" then some [(-3, 3)] else if s = "aim" then some [(-9, 9), (-9, 9)] else
  if s = "place" then some [(-9, 9), (-9, 9)] else if s = "mark" then some [] else if s = "return" then some [] else if s = "exchange" then some [] else none
def cmdOk : PyData → Bool
  | .tuple (.str s :: ns) => match boundsOf s with
    | some ls => decide (ns.length = ls.length) && (List.zipWith inD ns ls).all id
    | none => false
  | _ => false
def areBl (n : Nat) : PyData → Bool
  | .list bs => decide (bs.length = n) && bs.all isLs
  | _ => false
def areBlT (n : Nat) (bs : List PyData) : Bool := decide (bs.length = n) && bs.all isLs
def callOk (many : Int) : List PyData → Bool
  | [_, p, s, b] => inD p (0, many - 1) && isBl s && areBl 2 b
  | _ => false
def endOk : List PyData → Bool
  | [y] => inD y (0, 1)
  | _ => false
def stRest (level many : Int) : PyData → Bool
  | .tuple (x :: r) =>
    if PyData.eqv x (.str "end") then endOk r
    else if level = 3 then false
    else if PyData.eqv x (.str "call") then callOk many (x :: r)
    else if PyData.eqv x (.str "either") then areBlT 2 r
    else (PyData.eqv x (.str "keep") || PyData.eqv x (.str "again")) && areBlT 1 r
  | _ => false
def stOk (level many : Int) (d : PyData) : Bool := cmdOk d || stRest level many d
def oddWords : List Str := ["keep", "again", "either", "call", "end", "Mark", "bad"]
def WordOk : PyData → Prop
  | .tuple (.str s :: _) => s ∈ oddWords ∨ ∃ c : Cm, c.word = s
  | _ => True
theorem bounds_cm (c : Cm) : boundsOf c.word = some c.lims := by cases c <;> (simp only [Cm.word, Cm.lims]; decide +kernel)
theorem bounds_odd {s : Str} (h : s ∈ oddWords) : boundsOf s = none := by
  simp only [oddWords, List.mem_cons, List.not_mem_nil, or_false] at h
  rcases h with rfl | rfl | rfl | rfl | rfl | rfl | rfl <;> decide +kernel
theorem zip_ok : ∀ (ns : List Int) (ls : List (Int × Int)), (∀ (i : Nat) (z : Int) (l : Int × Int), ns[i]? = some z → ls[i]? = some l → l.1 ≤ z ∧ z ≤ l.2) → (List.zipWith inD (ns.map PyData.int) ls).all id = true
  | [], ls, _ => by cases ls <;> rfl
  | n :: r, [], _ => rfl
  | n :: r, l :: q, h => by
    have h0 := h 0 n l rfl rfl
    have hr := zip_ok r q fun i z k e1 e2 => h (i + 1) z k e1 e2
    show (inD (.int n) l && (List.zipWith inD (r.map PyData.int) q).all id) = true
    rw [hr]
    simp [inD, h0.1, h0.2]
theorem cmdOk_ok {c : Cm} (h : c.ok) : cmdOk c.d = true := by
  have hl : c.nums.length = c.lims.length := by cases c <;> rfl
  unfold Cm.d cmdOk
  dsimp only
  rw [bounds_cm]
  dsimp only
  rw [zip_ok _ _ h, List.length_map, hl]
  simp
theorem wordOk_d (s : Stm) : WordOk s.d := by
  cases s with
  | cmd c => exact .inr ⟨c, rfl⟩
  | _ => exact .inl (by simp [oddWords])
theorem stOk_ok {many : Nat} {s : Stm} {l : Nat} (h : s.ok many l) : stOk l many s.d = true := by
  have e3 : l < 3 → ((l : Int) = 3) = False := fun h => by simp; omega
  cases s with
  | cmd c =>
    show (cmdOk c.d || _) = true
    rw [cmdOk_ok h]
    rfl
  | fin w => cases w <;> simp [stOk, stRest, endOk, Stm.d, PyData.eqv, inD]
  | keep b =>
    have n1 : ¬ (("keep" : Str) = "end") := by decide +kernel
    have n2 : ¬ (("keep" : Str) = "call") := by decide +kernel
    have n3 : ¬ (("keep" : Str) = "either") := by decide +kernel
    simp [stOk, stRest, endOk, Stm.d, PyData.eqv, e3 h.1, n1, n2, n3, areBlT, isLs]
  | again b =>
    have n1 : ¬ (("again" : Str) = "end") := by decide +kernel
    have n2 : ¬ (("again" : Str) = "call") := by decide +kernel
    have n3 : ¬ (("again" : Str) = "either") := by decide +kernel
    simp [stOk, stRest, endOk, Stm.d, PyData.eqv, e3 h.1, n1, n2, n3, areBlT, isLs]
  | either a b =>
    have n1 : ¬ (("either" : Str) = "end") := by decide +kernel
    have n2 : ¬ (("either" : Str) = "call") := by decide +kernel
    simp [stOk, stRest, endOk, Stm.d, PyData.eqv, e3 h.1, n1, n2, areBlT, isLs]
  | call p s a b =>
    have n1 : ¬ (("call" : Str) = "end") := by decide +kernel
    have h2 := h.2.1
    have i1 : (0 : Int) ≤ (p : Int) := by omega
    have i2 : (p : Int) ≤ (many : Int) - 1 := by omega
    simp [stOk, stRest, endOk, Stm.d, PyData.eqv, e3 h.1, n1, callOk, areBl, isLs, isBl, inD, i2]
abbrev bD (b : List Stm) : PyData := .list (blkD b)
def isBlk (w : Str) : Bool := inV (.str w) [.str "keep", .str "either", .str "again"]
def callBl : List PyData → List PyData
  | [_, _, .list bs] => bs
  | _ => []
def blocksR (w : Str) (r : List PyData) : List PyData :=
  if w = "call" then callBl r else if isBlk w = true then r else []
theorem isBlk_cm (c : Cm) : isBlk c.word = false := by cases c <;> (simp only [Cm.word]; decide +kernel)
theorem cm_call (c : Cm) : ¬ c.word = "call" := by cases c <;> (simp only [Cm.word]; decide +kernel)
/-- the word and what stands behind it -/
def Stm.word : Stm → Str
  | .cmd c => c.word
  | .fin _ => "end"
  | .keep _ => "keep"
  | .again _ => "again"
  | .either _ _ => "either"
  | .call _ _ _ _ => "call"
def Stm.rest : Stm → List PyData
  | .cmd c => c.nums.map .int
  | .fin w => [.int (if w then 1 else 0)]
  | .keep b => [bD b]
  | .again b => [bD b]
  | .either a b => [bD a, bD b]
  | .call p s a b => [.int p, .bool s, .list [bD a, bD b]]
theorem Stm.d_eq (s : Stm) : s.d = .tuple (.str s.word :: s.rest) := by cases s <;> simp only [Stm.d, Stm.word, Stm.rest, Cm.d]
theorem blocksR_d (s : Stm) : blocksR s.word s.rest = s.blocks.map bD := by
  unfold blocksR
  cases s with
  | cmd c => simp only [Stm.word, if_neg (cm_call c), isBlk_cm, Bool.false_eq_true, if_false, Stm.blocks, List.map_nil]
  | fin w => simp only [Stm.word, if_neg (show ¬ ("end" : Str) = "call" by decide +kernel), show isBlk "end" = false by decide +kernel, Bool.false_eq_true, if_false, Stm.blocks, List.map_nil]
  | keep b => simp only [Stm.word, if_neg (show ¬ ("keep" : Str) = "call" by decide +kernel), show isBlk "keep" = true by decide +kernel, if_true, Stm.blocks, Stm.rest, List.map_nil, List.map_cons]
  | again b => simp only [Stm.word, if_neg (show ¬ ("again" : Str) = "call" by decide +kernel), show isBlk "again" = true by decide +kernel, if_true, Stm.blocks, Stm.rest, List.map_nil, List.map_cons]
  | either a b => simp only [Stm.word, if_neg (show ¬ ("either" : Str) = "call" by decide +kernel), show isBlk "either" = true by decide +kernel, if_true, Stm.blocks, Stm.rest, List.map_nil, List.map_cons]
  | call p s a b => simp only [Stm.word, if_true, callBl, Stm.blocks, Stm.rest, List.map_nil, List.map_cons]
theorem Stm.rest_len (s : Stm) : s.rest.length ≤ 3 := by
  cases s with
  | cmd c => cases c <;> simp [Stm.rest, Cm.nums]
  | _ => simp [Stm.rest]
theorem Stm.rest_call {s : Stm} (h : s.word = "call") : ∃ p q bs, s.rest = [p, q, .list bs] := by
  cases s with
  | call p s a b => exact ⟨_, _, _, rfl⟩
  | cmd c => exact absurd h (cm_call c)
  | fin w => exact absurd h (show ¬ ("end" : Str) = "call" by decide +kernel)
  | keep w => exact absurd h (show ¬ ("keep" : Str) = "call" by decide +kernel)
  | again w => exact absurd h (show ¬ ("again" : Str) = "call" by decide +kernel)
  | either w z => exact absurd h (show ¬ ("either" : Str) = "call" by decide +kernel)
def cntBs : List (List Stm) → Nat
  | [] => 0
  | b :: r => cntB b + cntBs r
theorem cnt_blocks (z : Stm) : z.cnt = 1 + cntBs z.blocks := by cases z <;> simp [Stm.cnt, Stm.blocks, cntBs]
theorem cntB_take : ∀ {b : List Stm} {i : Nat} {z : Stm}, b[i]? = some z → cntB (b.take (i + 1)) = cntB (b.take i) + z.cnt
  | [], i, z, e => by simp at e
  | s :: r, 0, z, e => by cases e; simp [cntB]
  | s :: r, i + 1, z, e => by
    have := cntB_take (b := r) (i := i) e
    rw [List.take_succ_cons, List.take_succ_cons, cntB, cntB, this]
    omega
theorem cntB_le : ∀ {b : List Stm} {i : Nat} {z : Stm}, b[i]? = some z → cntB (b.take i) + z.cnt ≤ cntB b
  | [], i, z, e => by simp at e
  | s :: r, 0, z, e => by cases e; simp [cntB]
  | s :: r, i + 1, z, e => by
    have := cntB_le (b := r) (i := i) e
    rw [List.take_succ_cons, cntB, cntB]
    omega
theorem cntBs_take : ∀ {b : List (List Stm)} {i : Nat} {z : List Stm}, b[i]? = some z → cntBs (b.take (i + 1)) = cntBs (b.take i) + cntB z
  | [], i, z, e => by simp at e
  | s :: r, 0, z, e => by cases e; simp [cntBs]
  | s :: r, i + 1, z, e => by
    have := cntBs_take (b := r) (i := i) e
    rw [List.take_succ_cons, List.take_succ_cons, cntBs, cntBs, this]
    omega
theorem cntBs_le : ∀ {b : List (List Stm)} {i : Nat} {z : List Stm}, b[i]? = some z → cntBs (b.take i) + cntB z ≤ cntBs b
  | [], i, z, e => by simp at e
  | s :: r, 0, z, e => by cases e; simp [cntBs]
  | s :: r, i + 1, z, e => by
    have := cntBs_le (b := r) (i := i) e
    rw [List.take_succ_cons, cntBs, cntBs]
    omega
theorem word_ok (z : Stm) : PyData.strOk z.word = true := by
  cases z with
  | cmd c => cases c <;> (simp only [Stm.word, Cm.word]; decide +kernel)
  | _ => simp only [Stm.word]; decide +kernel
abbrev bookD (bs : List (List Stm)) : PyData := .list (bs.map bD)
structure OkBook (bs : List (List Stm)) : Prop where
  lo : 1 ≤ bs.length
  hi : bs.length ≤ 3
  each : ∀ b ∈ bs, b.length ≤ 8 ∧ cntB b ≤ 12 ∧ okB bs.length b 0
theorem get_bodies {bs : List (List Stm)} {i : Nat} {d : PyData} (h : (bs.map bD)[i]? = some d) : ∃ b, bs[i]? = some b ∧ b ∈ bs ∧ d = bD b := by
  rw [List.getElem?_map] at h
  cases e : bs[i]? with
  | none => rw [e] at h; cases h
  | some b => rw [e] at h; cases h; exact ⟨b, rfl, List.mem_of_getElem? e, rfl⟩

/-! ### of what class a value is -/
def clsN : PyData → String
  | .none => "NoneType" | .bool _ => "bool" | .int _ => "int" | .str _ => "str" | .list _ => "list" | .tuple _ => "tuple" | .dict _ => "dict"
section
variable {S : Addr → Prop} {H : Hp} {d : PyData} {v : V} {Q : VK}
theorem tr_ty (K : PySem.W.Frag) : ∀ {d : PyData} {v : V}, Tr S H d v → TyX K H v (.type (clsN d))
  | .none, v, e => by cases e; exact .base .non
  | .bool b, v, e => by cases e; exact .base (.bl b)
  | .int b, v, e => by cases e; exact .base (.int b)
  | .str b, v, e => by cases e; exact .base (.str b)
  | .list _, v, ⟨a, xs, e, _, l, _⟩ => by cases e; exact .base (.lst l)
  | .tuple _, v, ⟨a, xs, e, l, _⟩ => by cases e; exact .base (.tup l)
  | .dict _, v, ⟨a, xs, e, l, _⟩ => by cases e; exact .base (.dK l)
def isNum : PyData → Bool
  | .int _ => true
  | .bool _ => true
  | _ => false
def isStr : PyData → Bool
  | .str _ => true
  | _ => false
variable (K : PySem.W.Frag)
theorem ki_int (d : PyData) : PySem.W.kitOne K (.type (clsN d)) (.type "int") = some (isNum d) := by cases d <;> (simp only [clsN, isNum, isBl, isStr, isLs, isTp]; exact kit_ty (by decide +kernel))
theorem ki_bool (d : PyData) : PySem.W.kitOne K (.type (clsN d)) (.type "bool") = some (isBl d) := by cases d <;> (simp only [clsN, isNum, isBl, isStr, isLs, isTp]; exact kit_ty (by decide +kernel))
theorem ki_str (d : PyData) : PySem.W.kitOne K (.type (clsN d)) (.type "str") = some (isStr d) := by cases d <;> (simp only [clsN, isNum, isBl, isStr, isLs, isTp]; exact kit_ty (by decide +kernel))
theorem ki_list (d : PyData) : PySem.W.kitOne K (.type (clsN d)) (.type "list") = some (isLs d) := by cases d <;> (simp only [clsN, isNum, isBl, isStr, isLs, isTp]; exact kit_ty (by decide +kernel))
theorem ki_tuple (d : PyData) : PySem.W.kitOne K (.type (clsN d)) (.type "tuple") = some (isTp d) := by cases d <;> (simp only [clsN, isNum, isBl, isStr, isLs, isTp]; exact kit_ty (by decide +kernel))
end
theorem ifTrue {A B : Prop} {b : Bool} (h : b = true) (q : A) : if b = true then A else B := by rw [if_pos h]; exact q
theorem ifFalse {A B : Prop} {b : Bool} (h : b = false) (q : B) : if b = true then A else B := by rw [if_neg (by rw [h]; exact Bool.false_ne_true)]; exact q
theorem ifB {A B : Prop} {b : Bool} (h1 : b = true → A) (h2 : b = false → B) : if b = true then A else B := by
  cases b
  · exact ifFalse rfl (h2 rfl)
  · exact ifTrue rfl (h1 rfl)

/-! ### signs of an own class: len(o), x in o, a == b, a + b -/
section
variable {X : Cx} {CX : CXT} {k : Nat} {f C : Addr} {fd : FuncData} {ps : List Str} {sp : Sp} {E : XK}
theorem run_sub {A : Around} {pins : List (Addr × Obj)} {σ : L2.St} {H : Hp} {s : Shared} {Q : VK} {us : List Value} {vs : List V} (hA : A.frames = X.A.frames) (hr : Room k A) (F : FnOk X.prog X.w X.K X.mg X.base CX k f fd ps sp) (hb : Binds X.K fd ps []) (hx : Passes CX X E) (I : Inv X pins σ H s) (r : Vals vs us) (h : sp vs H Q E) :
    wpAny (model X.prog X.w) A (call (.ref f) us) (EP X pins σ Q) X.xe s := by
  have e0 : Env0 X.prog X.w X.K X.mg X.base A X.stack s H := by
    have e := I.env0
    exact ⟨by rw [hA]; exact e.frames, e.mod, e.bs, e.bsz, e.funs, e.frf, e.hok, e.bare⟩
  have hl := F.len _ _ _ _ h
  have hl2 : us.length = ps.length := by rw [← r.length]; exact hl
  refine wpAny_call (codeAny_mono (F.run A X.stack s H ⟨us, []⟩ us vs Q E hr e0 (by
    have := hb s us I.kIn (by simpa using hl2)
    simpa using this) r h) fun r s' hq => ?_)
  cases r with
  | error e => exact hx pins σ H s e s' I hq
  | ok fl =>
    cases fl with
    | ret w => exact I.after hq
    | next => exact False.elim hq
    | brk => exact False.elim hq
    | cont => exact False.elim hq
def rLenO (C : Addr) (sp : Sp) (E : XK) : List V → Hp → VK → Prop := fun xs H Q => ∃ a dx fs, xs = [V.ref a] ∧ H a = some (.ins C dx fs) ∧ sp [.ref a] H (fun v H' => ∃ n : Int, v = .int n ∧ (0 ≤ n ∧ n < 2 ^ 63) ∧ Q (.int n) H') E
theorem call_lenO (F : FnOk X.prog X.w X.K X.mg X.base CX k f fd ps sp) (hm : Meth X.K C "__len__" f) (hr : Room (k + 1) X.A) (hb : Binds X.K fd ps []) (hx : Passes CX X E) : CallR X (.builtin "len") (rLenO C sp E) := by
  intro pins s σ H xs us Q I r h
  obtain ⟨a, dx, fs, rfl, ha, q⟩ := h
  cases r with
  | cons r1 r2 =>
    cases r2
    cases r1
    obtain ⟨mA, J, _⟩ := ins_get I.hok ha
    obtain ⟨od, J, _⟩ := J.look
    obtain ⟨m, hF⟩ := I.fr
    refine PySem.W.len_K hF I.ok.mod.kin J hm.at_ hm.fn ?_
    refine wpAny_mono (run_sub (A := X.A.in1) rfl hr.in1 F (us := [.ref a]) (vs := [.ref a]) hb hx I (.cons rfl .nil) q) (fun u s' z => ?_) fun _ _ z => z
    obtain ⟨v, H', I', rv, n, rfl, b, q'⟩ := z
    obtain ⟨t, rfl⟩ := rv
    exact ⟨b, .int n, H', I'.tok _, ⟨_, rfl⟩, q'⟩
def rInO (C : Addr) (sp : Sp) (E : XK) : R2 := fun x y H Q => ∃ a dx fs, y = V.ref a ∧ H a = some (.ins C dx fs) ∧ sp [.ref a, x] H (fun v H' => ∃ b : Bool, v = .bl b ∧ Q (.bl b) H') E
theorem op_inO (F : FnOk X.prog X.w X.K X.mg X.base CX k f fd ps sp) (hm : Meth X.K C "__contains__" f) (hr : Room k X.A) (hb : Binds X.K fd ps []) (hx : Passes CX X E) : OpR X (compareOp .In) (rInO C sp E) := by
  intro pins s σ H x y v u Q I rx ry h
  obtain ⟨a, dx, fs, rfl, ha, q⟩ := h
  cases ry
  obtain ⟨mA, J, _⟩ := ins_get I.hok ha
  obtain ⟨od, J, _⟩ := J.look
  obtain ⟨m, hF⟩ := I.fr
  refine PySem.W.in_K hF I.ok.mod.kin J hm.at_ hm.fn ?_
  refine wpAny_mono (run_sub (A := X.A) rfl hr F (us := [.ref a, v]) (vs := [.ref a, x]) hb hx I (.cons rfl (.cons rx .nil)) q) (fun u s' z => ?_) fun _ _ z => z
  obtain ⟨v, H', I', rv, b, rfl, q'⟩ := z
  cases rv
  exact wpAny_truthy_bool ⟨.bl b, H', I', rfl, q'⟩
def rNotInO (C : Addr) (sp : Sp) (E : XK) : R2 := fun x y H Q => ∃ a dx fs, y = V.ref a ∧ H a = some (.ins C dx fs) ∧ sp [.ref a, x] H (fun v H' => ∃ b : Bool, v = .bl b ∧ Q (.bl (!b)) H') E
theorem op_notInO (F : FnOk X.prog X.w X.K X.mg X.base CX k f fd ps sp) (hm : Meth X.K C "__contains__" f) (hr : Room k X.A) (hb : Binds X.K fd ps []) (hx : Passes CX X E) : OpR X (compareOp .NotIn) (rNotInO C sp E) := by
  intro pins s σ H x y v u Q I rx ry h
  obtain ⟨a, dx, fs, rfl, ha, q⟩ := h
  cases ry
  obtain ⟨mA, J, _⟩ := ins_get I.hok ha
  obtain ⟨od, J, _⟩ := J.look
  obtain ⟨m, hF⟩ := I.fr
  refine PySem.W.notIn_K hF I.ok.mod.kin J hm.at_ hm.fn ?_
  refine wpAny_mono (run_sub (A := X.A) rfl hr F (us := [.ref a, v]) (vs := [.ref a, x]) hb hx I (.cons rfl (.cons rx .nil)) q) (fun u s' z => ?_) fun _ _ z => z
  obtain ⟨v, H', I', rv, b, rfl, q'⟩ := z
  cases rv
  exact wpAny_truthy_bool ⟨.bl (!b), H', I', rfl, q'⟩
/-- a == b, two of one own class -/
def rEqO (C : Addr) (sp : Sp) (E : XK) : R2 := fun x y H Q => ∃ a b dx dy fs gs, x = V.ref a ∧ y = V.ref b ∧ H a = some (.ins C dx fs) ∧ H b = some (.ins C dy gs) ∧ sp [.ref a, .ref b] H (fun v H' => ∃ b : Bool, v = .bl b ∧ Q (.bl b) H') E
theorem op_eqO (F : FnOk X.prog X.w X.K X.mg X.base CX k f fd ps sp) (hm : Meth X.K C "__eq__" f) (hr : Room k X.A) (hb : Binds X.K fd ps []) (hx : Passes CX X E) : OpR X (compareOp .Eq) (rEqO C sp E) := by
  intro pins s σ H x y v u Q I rx ry h
  obtain ⟨a, b, dx, dy, fs, gs, rfl, rfl, ha, hb', q⟩ := h
  cases rx
  cases ry
  obtain ⟨mA, J, _⟩ := ins_get I.hok ha
  obtain ⟨mB, J', _⟩ := ins_get I.hok hb'
  obtain ⟨od, J, _⟩ := J.look
  obtain ⟨od', J', _⟩ := J'.look
  obtain ⟨m, hF⟩ := I.fr
  show wpAny (model X.prog X.w) X.A (richCompare .Eq _ _) (EP X pins σ Q) X.xe s
  refine PySem.W.cmp_K (op := .Eq) (tb := .ref C) hr.units0 hF I.ok.mod.kin J J'.type (by simp [PySem.W.notFirst]) hm.at_ hm.fn ?_
  refine wpAny_mono (run_sub (A := X.A) rfl hr F (us := [.ref a, .ref b]) (vs := [.ref a, .ref b]) hb hx I (.cons rfl (.cons rfl .nil)) q) (fun u s' z => ?_) fun _ _ z => z
  obtain ⟨v, H', I', rv, b, rfl, q'⟩ := z
  cases rv
  exact ⟨.bl b, H', I', rfl, q'⟩
/-- a + b, a * b, two of one own class -/
def rBinO (C : Addr) (sp : Sp) (E : XK) : R2 := fun x y H Q => ∃ a b dx dy fs gs, x = V.ref a ∧ y = V.ref b ∧ H a = some (.ins C dx fs) ∧ H b = some (.ins C dy gs) ∧ sp [.ref a, .ref b] H (fun v H' => (∃ p, v = .ref p) ∧ Q v H') E
theorem op_binO {op : Operator} (F : FnOk X.prog X.w X.K X.mg X.base CX k f fd ps sp) (hc : PySem.W.selfFirst X.K C = true) (hm : Meth X.K C (PySem.dunder op.info.2) f) (hr : Room k X.A) (hb : Binds X.K fd ps []) (hx : Passes CX X E) : OpR X (binaryOp op) (rBinO C sp E) := by
  intro pins s σ H x y v u Q I rx ry h
  obtain ⟨a, b, dx, dy, fs, gs, rfl, rfl, ha, hb', q⟩ := h
  cases rx
  cases ry
  obtain ⟨mA, J, _⟩ := ins_get I.hok ha
  obtain ⟨mB, J', _⟩ := ins_get I.hok hb'
  obtain ⟨od, J, _⟩ := J.look
  obtain ⟨od', J', _⟩ := J'.look
  obtain ⟨m, hF⟩ := I.fr
  refine PySem.W.binop_K hF I.ok.mod.kin J J'.type hc hm.at_ hm.fn ?_
  refine wpAny_mono (run_sub (A := X.A) rfl hr F (us := [.ref a, .ref b]) (vs := [.ref a, .ref b]) hb hx I (.cons rfl (.cons rfl .nil)) q) (fun u s' z => ?_) fun _ _ z => z
  obtain ⟨v, H', I', rv, ⟨p, rfl⟩, q'⟩ := z
  cases rv
  exact ⟨.ref p, H', I', rfl, q'⟩
end
theorem kit_self {K : PySem.W.Frag} {C : Addr} : PySem.W.kitOne K (.ref C) (.ref C) = some true := by
  unfold PySem.W.kitOne
  simp
/-! ### o[i], o of an own class -/
def rGetO (C : Addr) (sp : Sp) (E : XK) : R2 := fun x y H Q => ∃ a dx fs, x = V.ref a ∧ H a = some (.ins C dx fs) ∧ sp [.ref a, y] H Q E
theorem pe_getO {X : Cx} {CX : CXT} {k : Nat} {f C : Addr} {fd : FuncData} {ps : List Str} {sp : Sp} {E : XK} {a b : Expr} {ta tb : TE} {pos : Pos} (F : FnOk X.prog X.w X.K X.mg X.base CX k f fd ps sp) (hm : Meth X.K C "__getitem__" f) (hf : PySem.W.fnIn X.K f = true) (hr : Room (k + 1) X.A) (hb : Binds X.K fd ps []) (hx : Passes CX X E) (ha : PE X a ta) (hbx : PE X b tb)
    (hsl : ∀ (x : Addr) (i : Value), subscripted b true (.ref x) i = runValue (.builtin "lifetime.subscript" ⟨[.ref x, i], []⟩) := by intro x i; with_unfolding_all rfl) : PE X (.Subscript a b pos) (tOp (rGetO C sp E) ta tb) := by
  refine ⟨fun pins s σ H Q I h => ?_⟩
  refine Subscript_ (binT ha hbx I h fun v u s2 x y H2 I2 rx ry q => ?_)
  obtain ⟨o, dx, fs, rfl, ho, q⟩ := q
  cases rx
  obtain ⟨mA, J, _⟩ := ins_get I2.hok ho
  obtain ⟨od, J, _⟩ := J.look
  obtain ⟨m, hF⟩ := I2.fr
  refine PySem.W.sub_K hF I2.ok.mod.kin J hm.at_ hf hm.fn ?_ (hsl _ _)
  exact run_sub (A := X.A.in1) rfl hr.in1 F (us := [.ref o, u]) (vs := [.ref o, y]) hb hx I2 (.cons rfl (.cons ry .nil)) q

/-! ### what the law's draws of statements go by: the pool at p, the room at r, the calls at c -/
structure Drw (H : Hp) (p r c : Addr) (L : Nat) (m k : Int) (many : Nat) : Prop where
  pl : Pool H p L
  r : H r = some (.lst [.int m])
  c : H c = some (.lst [.int k, .int many])
structure Sep (p r c : Addr) : Prop where
  pr : p ≠ r
  pc : p ≠ c
  rc : r ≠ c
abbrev MM (p r c : Addr) : Addr → Prop := fun a => a = p ∨ a = r ∨ a = c
section
variable {H H' : Hp} {p r c : Addr} {L many : Nat} {m k : Int}
theorem Drw.lst (d : Drw H p r c L m k many) : ∀ a, MM p r c a → ∃ ys, H a = some (.lst ys) := fun a h => by
  obtain ⟨ns, hp, _⟩ := d.pl
  rcases h with rfl | rfl | rfl
  · exact ⟨_, hp⟩
  · exact ⟨_, d.r⟩
  · exact ⟨_, d.c⟩
theorem Drw.ne (d : Drw H p r c L m k many) {a : Addr} (h : H a = none) : ¬ MM p r c a := fun e => by
  obtain ⟨ys, hy⟩ := d.lst a e
  rw [hy] at h
  cases h
theorem Drw.kp (d : Drw H p r c L m k many) (s : Sep p r c) (e : Kp p H H') (pl : Pool H' p L) : Drw H' p r c L m k many := ⟨pl, e _ _ s.pr.symm d.r, e _ _ s.pc.symm d.c⟩
theorem Drw.gone (d : Drw H p r c L m k many) (s : Sep p r c) (e : Kp p H H') : KpL (MM p r c) H H' := KpL.kp e (.inl rfl) (d.lst p (.inl rfl))
theorem Drw.same (d : Drw H p r c L m k many) (e : Same H H') : Drw H' p r c L m k many := by
  obtain ⟨⟨ns, hp, hl⟩, h1, h2⟩ := d
  exact ⟨⟨ns, e _ _ hp, hl⟩, e _ _ h1, e _ _ h2⟩
theorem Drw.new (d : Drw H p r c L m k many) {q : Addr} {o : HO} (n : H q = none) : Drw (upd H q o) p r c L m k many := d.same (same_upd n)
theorem Drw.room (d : Drw H p r c L m k many) (s : Sep p r c) (z : Int) : Drw (upd H r (.lst [.int z])) p r c L z k many := by
  obtain ⟨⟨ns, hp, hl⟩, h1, h2⟩ := d
  exact ⟨⟨ns, by rw [upd_ne s.pr]; exact hp, hl⟩, upd_same, by rw [upd_ne s.rc.symm]; exact h2⟩
theorem Drw.calls (d : Drw H p r c L m k many) (s : Sep p r c) (z : Int) : Drw (upd H c (.lst [.int z, .int many])) p r c L m z many := by
  obtain ⟨⟨ns, hp, hl⟩, h1, h2⟩ := d
  exact ⟨⟨ns, by rw [upd_ne s.pc]; exact hp, hl⟩, by rw [upd_ne s.rc]; exact h1, upd_same⟩
theorem New.kpl {H0 : Hp} (d : Drw H0 p r c L m k many) {ds : PyData} {v : V} (e : KpL (MM p r c) H H') (t : Tr (New H0) H ds v) : Tr (New H0) H' ds v := Tr.kpl e (fun a n => d.ne n) _ _ t
theorem New.kplA {H0 : Hp} (d : Drw H0 p r c L m k many) {ds : List PyData} {v : List V} (e : KpL (MM p r c) H H') (t : TrAll (New H0) H ds v) : TrAll (New H0) H' ds v := TrAll.kpl e (fun a n => d.ne n) _ _ t
/-- new since a later heap is new since an earlier one -/
theorem New.old {H0 : Hp} {m' k' : Int} (e : KpL (MM p r c) H0 H) (d : Drw H p r c L m' k' many) {ds : PyData} {v : V} (t : Tr (New H) H' ds v) : Tr (New H0) H' ds v := Tr.mono (fun _ n => e.free d.lst n) _ _ t
end
/-- a list of statements is drawn: m statements may still be made, at least lo; n: how deep -/
def spD (lo : Int) (n : Nat) : Sp := fun vs H Q _ => ∃ (p r c : Addr) (L l many : Nat) (mood m k low : Int), vs = [.ref p, .int mood, .int l, .ref r, .ref c, .int low] ∧ Sep p r c ∧ Drw H p r c L m k many ∧
  (2 ≤ L ∧ L ≤ 64 ∧ 0 ≤ mood ∧ mood < 8 ∧ l ≤ 3 ∧ 0 ≤ low ∧ lo ≤ m ∧ m ≤ 8 ∧ m ≤ n ∧ many ≤ 3) ∧
  ∀ (q : Addr) (ss : List Stm) (H' : Hp) (m' k' : Int), KpL (MM p r c) H H' → Drw H' p r c L m' k' many → 0 ≤ m' → m' + cntB ss = m → okB many ss l → Tr (New H) H' (bD ss) (.ref q) → Q (.ref q) H'

/-! ### the law's own comparison -/
mutual
def sameD : PyData → PyData → Bool
  | .list xs, .list ys => sameAll xs ys
  | .tuple xs, .tuple ys => sameAll xs ys
  | .bool a, .bool b => a == b
  | .int a, .int b => a == b
  | .str a, .str b => a == b
  | .none, .none => true
  | _, _ => false
def sameAll : List PyData → List PyData → Bool
  | [], [] => true
  | x :: xs, y :: ys => sameD x y && sameAll xs ys
  | _, _ => false
end
mutual
/-- nested below n, lists of at most a hundred -/
def Fit : PyData → Nat → Prop
  | _, 0 => False
  | .list ds, n + 1 => ds.length ≤ 100 ∧ FitAll ds n
  | .tuple ds, n + 1 => ds.length ≤ 100 ∧ FitAll ds n
  | .str s, _ + 1 => PyData.strOk s = true
  | .dict _, _ + 1 => False
  | _, _ + 1 => True
def FitAll : List PyData → Nat → Prop
  | [], _ => True
  | d :: r, n => Fit d n ∧ FitAll r n
end
theorem FitAll.get : ∀ {ds : List PyData} {n i : Nat} {d : PyData}, FitAll ds n → ds[i]? = some d → Fit d n
  | [], n, i, d, _, e => by simp at e
  | x :: r, n, 0, d, h, e => by cases e; exact h.1
  | x :: r, n, i + 1, d, h, e => FitAll.get (i := i) h.2 e
theorem FitAll.of : ∀ {ds : List PyData} {n : Nat}, (∀ d ∈ ds, Fit d n) → FitAll ds n
  | [], _, _ => True.intro
  | d :: r, n, h => ⟨h d List.mem_cons_self, FitAll.of fun x hx => h x (List.mem_cons_of_mem _ hx)⟩
mutual
theorem Fit.lay : ∀ (d : PyData) (n : Nat), Fit d n → d.canLay0 = true ∧ d.depth ≤ n
  | .none, n + 1, _ => by simp [PyData.canLay0, PyData.depth]
  | .bool b, n + 1, _ => by simp [PyData.canLay0, PyData.depth]
  | .int b, n + 1, _ => by simp [PyData.canLay0, PyData.depth]
  | .str s, n + 1, h => by
    have h : PyData.strOk s = true := h
    simp [PyData.canLay0, PyData.depth, h]
  | .list ds, n + 1, ⟨_, h⟩ => by
    have := FitAll.lay ds n h
    simp only [PyData.canLay0, PyData.depth]
    exact ⟨this.1, by have := this.2; omega⟩
  | .tuple ds, n + 1, ⟨_, h⟩ => by
    have := FitAll.lay ds n h
    simp only [PyData.canLay0, PyData.depth]
    exact ⟨this.1, by have := this.2; omega⟩
  | .dict _, n + 1, h => h.elim
  | .none, 0, h => h.elim
  | .bool _, 0, h => h.elim
  | .int _, 0, h => h.elim
  | .str _, 0, h => h.elim
  | .list _, 0, h => h.elim
  | .tuple _, 0, h => h.elim
  | .dict _, 0, h => h.elim
theorem FitAll.lay : ∀ (ds : List PyData) (n : Nat), FitAll ds n → PyData.canLayAll0 ds = true ∧ PyData.depthAll ds ≤ n
  | [], n, _ => by simp [PyData.canLayAll0, PyData.depthAll]
  | d :: r, n, h => by
    have h1 := Fit.lay d n h.1
    have h2 := FitAll.lay r n h.2
    simp only [PyData.canLayAll0, PyData.depthAll, h1.1, h2.1]
    refine ⟨rfl, ?_⟩
    omega
end
theorem Fit.shaped {d : PyData} {n : Nat} (h : Fit d n) (hn : n ≤ 64) : SeqAt.shaped d = true := by
  have := Fit.lay d n h
  simp only [SeqAt.shaped, this.1, Bool.true_and, decide_eq_true_eq]
  omega
theorem sameAll_zip : ∀ (xs ys : List PyData), xs.length = ys.length → sameAll xs ys = (List.zipWith sameD xs ys).all id
  | [], [], _ => by simp [sameAll]
  | x :: r, y :: q, h => by
    rw [sameAll, sameAll_zip r q (by simpa using h), List.zipWith_cons_cons, List.all_cons]
    rfl
theorem sameAll_len : ∀ (xs ys : List PyData), xs.length ≠ ys.length → sameAll xs ys = false
  | [], [], h => absurd rfl h
  | [], y :: q, _ => by simp [sameAll]
  | x :: r, [], _ => by simp [sameAll]
  | x :: r, y :: q, h => by
    rw [sameAll, sameAll_len r q (fun e => h (by simp [e])), Bool.and_false]
mutual
theorem same_refl : ∀ (d : PyData) (n : Nat), Fit d n → sameD d d = true
  | .none, _, _ => by simp [sameD]
  | .bool b, _, _ => by simp [sameD]
  | .int b, _, _ => by simp [sameD]
  | .str s, _, _ => by simp [sameD]
  | .list ds, n + 1, ⟨_, h⟩ => by simp only [sameD]; exact sameAll_refl ds n h
  | .tuple ds, n + 1, ⟨_, h⟩ => by simp only [sameD]; exact sameAll_refl ds n h
  | .dict _, n + 1, h => h.elim
  | .list _, 0, h => h.elim
  | .tuple _, 0, h => h.elim
  | .dict _, 0, h => h.elim
theorem sameAll_refl : ∀ (ds : List PyData) (n : Nat), FitAll ds n → sameAll ds ds = true
  | [], _, _ => by simp [sameAll]
  | d :: r, n, h => by
    simp only [sameAll, same_refl d n h.1, sameAll_refl r n h.2, Bool.and_self]
end

mutual
/-- the data of a statement of a list at level l -/
theorem fit_stm {many : Nat} : ∀ (z : Stm) (l n : Nat), z.ok many l → 3 * (4 - l) ≤ n → Fit z.d (n + 2)
  | .cmd c, l, n, _, _ => by
    refine ⟨?_, word_ok (.cmd c), ?_⟩
    · rw [List.length_cons, List.length_map]
      cases c <;> simp [Cm.nums]
    · refine FitAll.of fun d hd => ?_
      obtain ⟨z, _, rfl⟩ := List.mem_map.mp hd
      exact True.intro
  | .fin w, l, n, _, _ => ⟨by simp, (show PyData.strOk "end" = true by decide +kernel), True.intro, True.intro⟩
  | .keep b, l, n, h, hn => ⟨by simp, (show PyData.strOk "keep" = true by decide +kernel), fit_blk b (l + 1) n h.2.1 h.2.2 (by have := h.1; omega) (by have := h.1; omega), True.intro⟩
  | .again b, l, n, h, hn => ⟨by simp, (show PyData.strOk "again" = true by decide +kernel), fit_blk b (l + 1) n h.2.1 h.2.2 (by have := h.1; omega) (by have := h.1; omega), True.intro⟩
  | .either a b, l, n, h, hn => ⟨by simp, (show PyData.strOk "either" = true by decide +kernel), fit_blk a (l + 1) n h.2.1.1 h.2.1.2 (by have := h.1; omega) (by have := h.1; omega), fit_blk b (l + 1) n h.2.2.1 h.2.2.2 (by have := h.1; omega) (by have := h.1; omega), True.intro⟩
  | .call p s a b, l, n, h, hn => by
    obtain ⟨n', rfl⟩ : ∃ n', n = n' + 1 := ⟨n - 1, by have := h.1; omega⟩
    exact ⟨by simp, (show PyData.strOk "call" = true by decide +kernel), True.intro, True.intro, ⟨by simp, fit_blk a (l + 1) n' h.2.2.1.1 h.2.2.1.2 (by have := h.1; omega) (by have := h.1; omega), fit_blk b (l + 1) n' h.2.2.2.1 h.2.2.2.2 (by have := h.1; omega) (by have := h.1; omega), True.intro⟩, True.intro⟩
theorem fit_blk {many : Nat} : ∀ (b : List Stm) (l n : Nat), b.length ≤ 8 → okB many b l → l ≤ 3 → 3 * (4 - l) + 2 ≤ n → Fit (bD b) (n + 1)
  | b, l, n, h8, h, hl, hn => by
    refine ⟨by rw [blkD_len]; omega, ?_⟩
    obtain ⟨n', rfl⟩ : ∃ n', n = n' + 2 := ⟨n - 2, by omega⟩
    exact fit_all b l n' h (by omega)
theorem fit_all {many : Nat} : ∀ (b : List Stm) (l n : Nat), okB many b l → 3 * (4 - l) ≤ n → FitAll (blkD b) (n + 2)
  | [], _, _, _, _ => True.intro
  | z :: r, l, n, h, hn => ⟨fit_stm z l n h.1 hn, fit_all r l n h.2 hn⟩
end
theorem fit_book {bs : List (List Stm)} (h : OkBook bs) : Fit (bookD bs) 16 := by
  refine ⟨by rw [List.length_map]; have := h.hi; omega, FitAll.of fun d hd => ?_⟩
  obtain ⟨b, mb, rfl⟩ := List.mem_map.mp hd
  obtain ⟨o1, o2, o3⟩ := h.each b mb
  exact fit_blk b 0 14 o1 o3 (by decide) (by decide)

/-! ### the places of statements -/
mutual
def Stm.places : Stm → List Nat → List (List Nat × Stm)
  | .keep b, p => placesB b (p ++ [0]) 0
  | .again b, p => placesB b (p ++ [0]) 0
  | .either a b, p => placesB a (p ++ [0]) 0 ++ placesB b (p ++ [1]) 0
  | .call _ _ a b, p => placesB a (p ++ [0]) 0 ++ placesB b (p ++ [1]) 0
  | _, _ => []
def placesB : List Stm → List Nat → Nat → List (List Nat × Stm)
  | [], _, _ => []
  | s :: r, p, i => (p ++ [i], s) :: (s.places (p ++ [i]) ++ placesB r p (i + 1))
end
def placesBs : List (List Stm) → List Nat → Nat → List (List Nat × Stm)
  | [], _, _ => []
  | b :: r, p, j => placesB b (p ++ [j]) 0 ++ placesBs r p (j + 1)
theorem places_blocks (z : Stm) (p : List Nat) : z.places p = placesBs z.blocks p 0 := by
  cases z <;> simp [Stm.places, Stm.blocks, placesBs]
mutual
theorem len_places : ∀ (z : Stm) (p : List Nat), (z.places p).length + 1 = z.cnt
  | .cmd _, p => rfl
  | .fin _, p => rfl
  | .keep b, p => by rw [Stm.places, Stm.cnt, len_placesB b]; omega
  | .again b, p => by rw [Stm.places, Stm.cnt, len_placesB b]; omega
  | .either a b, p => by rw [Stm.places, Stm.cnt, List.length_append, len_placesB a, len_placesB b]; omega
  | .call _ _ a b, p => by rw [Stm.places, Stm.cnt, List.length_append, len_placesB a, len_placesB b]; omega
theorem len_placesB : ∀ (b : List Stm) (p : List Nat) (i : Nat), (placesB b p i).length = cntB b
  | [], _, _ => rfl
  | s :: r, p, i => by
    have h1 := len_places s (p ++ [i])
    have h2 := len_placesB r p (i + 1)
    rw [placesB, List.length_cons, List.length_append, h2, cntB]
    omega
end
theorem len_placesBs : ∀ (bs : List (List Stm)) (p : List Nat) (i : Nat), (placesBs bs p i).length = cntBs bs
  | [], _, _ => rfl
  | b :: r, p, i => by rw [placesBs, List.length_append, len_placesB, len_placesBs r, cntBs]
theorem placesB_take : ∀ {b : List Stm} {i : Nat} {z : Stm} (p : List Nat) (k : Nat), b[i]? = some z → placesB (b.take (i + 1)) p k = placesB (b.take i) p k ++ ((p ++ [k + i], z) :: z.places (p ++ [k + i]))
  | [], i, z, p, k, e => by simp at e
  | s :: r, 0, z, p, k, e => by cases e; simp [placesB]
  | s :: r, i + 1, z, p, k, e => by
    have := placesB_take (b := r) (i := i) p (k + 1) e
    rw [List.take_succ_cons, List.take_succ_cons, placesB, placesB, this, show k + 1 + i = k + (i + 1) by omega]
    simp
theorem placesBs_take : ∀ {b : List (List Stm)} {i : Nat} {z : List Stm} (p : List Nat) (k : Nat), b[i]? = some z → placesBs (b.take (i + 1)) p k = placesBs (b.take i) p k ++ placesB z (p ++ [k + i]) 0
  | [], i, z, p, k, e => by simp at e
  | s :: r, 0, z, p, k, e => by cases e; simp [placesBs]
  | s :: r, i + 1, z, p, k, e => by
    have := placesBs_take (b := r) (i := i) p (k + 1) e
    rw [List.take_succ_cons, List.take_succ_cons, placesBs, placesBs, this, show k + 1 + i = k + (i + 1) by omega]
    simp
abbrev natD : Nat → PyData := fun n => .int n
abbrev natV : Nat → V := fun n => .int n
def pathD (p : List Nat) : PyData := .tuple (p.map natD)
def placeD (x : List Nat × Stm) : PyData := .tuple [pathD x.1, x.2.d]
theorem TrAll.ofNats {S : Addr → Prop} {H : Hp} : ∀ (ns : List Nat), TrAll S H (ns.map natD) (ns.map natV)
  | [] => rfl
  | n :: r => ⟨_, _, rfl, rfl, TrAll.ofNats r⟩
mutual
theorem mem_places {many : Nat} : ∀ (z : Stm) (p : List Nat) (l : Nat), z.ok many l → ∀ x ∈ z.places p, ∃ l', x.2.ok many l'
  | .cmd _, p, l, h, x, m => nomatch m
  | .fin _, p, l, h, x, m => nomatch m
  | .keep b, p, l, h, x, m => mem_placesB b _ _ _ h.2.2 x m
  | .again b, p, l, h, x, m => mem_placesB b _ _ _ h.2.2 x m
  | .either a b, p, l, h, x, m => (List.mem_append.mp m).elim (fun m => mem_placesB a _ _ _ h.2.1.2 x m) fun m => mem_placesB b _ _ _ h.2.2.2 x m
  | .call _ _ a b, p, l, h, x, m => (List.mem_append.mp m).elim (fun m => mem_placesB a _ _ _ h.2.2.1.2 x m) fun m => mem_placesB b _ _ _ h.2.2.2.2 x m
theorem mem_placesB {many : Nat} : ∀ (b : List Stm) (p : List Nat) (i l : Nat), okB many b l → ∀ x ∈ placesB b p i, ∃ l', x.2.ok many l'
  | [], _, _, _, _, x, m => nomatch m
  | s :: r, p, i, l, h, x, m => by
    rcases List.mem_cons.mp m with rfl | m
    · exact ⟨l, h.1⟩
    · rcases List.mem_append.mp m with m | m
      · exact mem_places s _ l h.1 x m
      · exact mem_placesB r _ _ l h.2 x m
end

theorem oddw {K : PySem.W.Frag} {aB : Addr} (w0 : PySem.W.nsIn K aB "keep" = some none) (w1 : PySem.W.nsIn K aB "again" = some none) (w2 : PySem.W.nsIn K aB "either" = some none) (w3 : PySem.W.nsIn K aB "call" = some none) (w4 : PySem.W.nsIn K aB "end" = some none) (w5 : PySem.W.nsIn K aB "Mark" = some none) (w6 : PySem.W.nsIn K aB "bad" = some none) :
    ∀ s ∈ oddWords, PySem.W.nsIn K aB s = some none := fun s hs => by
  simp only [oddWords, List.mem_cons, List.not_mem_nil, or_false] at hs
  rcases hs with rfl | rfl | rfl | rfl | rfl | rfl | rfl
  · exact w0
  · exact w1
  · exact w2
  · exact w3
  · exact w4
  · exact w5
  · exact w6

/-! ### x in (a, b, ..), data of any depth; slices of tuples -/
theorem hu65 {A : Around} {k : Nat} (hr : Room k A) : A.units + 65 < cLine := by
  have := hr.un
  omega
def rInDT (K : PySem.W.Frag) : R2 := fun x y H Q => ∃ d ds, Dp K H x d ∧ Dp K H y (.tuple ds) ∧ SeqAt.shaped d = true ∧ SeqAt.shaped (.tuple ds) = true ∧ Q (.bl (ds.any fun z => PyData.eqv z d)) H
theorem op_inDT {X : Cx} (hu : X.A.units + 65 < cLine) : OpR X (compareOp .In) (rInDT X.K) := by
  intro pins s σ H x y v u Q I rx ry h
  obtain ⟨d, ds, hd, he, sd, se, q⟩ := h
  obtain ⟨as, r1⟩ := Dp.reads I d x v hd rx
  obtain ⟨bs, r2⟩ := Dp.reads I (.tuple ds) y u he ry
  exact SeqAt.in_tuple_reads r2 r1 (SeqAt.canLay_of_shaped se) (SeqAt.canLay_of_shaped sd) (room_in_shaped sd hu) ⟨.bl _, H, I, rfl, q⟩
section
variable (K : PySem.W.Frag) {X : Cx}
theorem k_inDT (hu : X.A.units + 65 < cLine) (hK : X.K = K := by rfl) : OpR X (compareOp .In) (rInDT K) := hK ▸ op_inDT hu
theorem k_inD (hu : X.A.units + 65 < cLine) (hK : X.K = K := by rfl) : OpR X (compareOp .In) (rInD K) := hK ▸ op_inD hu
theorem k_eqD (hu : X.A.units + 64 < cLine) (hK : X.K = K := by rfl) : OpR X (compareOp .Eq) (rEqD K) := hK ▸ op_eqD hu
theorem k_neD (hu : X.A.units + 64 < cLine) (hK : X.K = K := by rfl) : OpR X (compareOp .NotEq) (rNeD K) := hK ▸ op_neD hu
theorem k_catT (hK : X.K = K := by rfl) : OpR X (binaryOp .Add) (rCatT K) := hK ▸ op_catT
end
theorem cut_from1 {x : V} {xs : List V} : cutV (x :: xs) (some 1) none = xs := by
  unfold cutV
  rw [HT.sIx_none, show HT.sIx (x :: xs).length 0 (some 1) = min 1 (x :: xs).length from HT.sIx_nat _ _ 1, List.length_cons, show min 1 (xs.length + 1) = 1 by omega, List.drop_one, List.tail_cons, Nat.add_sub_cancel, List.take_length]
theorem cut_ne1 {x : V} {xs : List V} : ¬ (HT.sIx (x :: xs).length 0 (some 1) = 0 ∧ HT.sIx (x :: xs).length (x :: xs).length none = (x :: xs).length) := by
  rw [show HT.sIx (x :: xs).length 0 (some 1) = min 1 (x :: xs).length from HT.sIx_nat _ _ 1, List.length_cons]
  omega
theorem cut_to {xs : List V} {n : Nat} : cutV xs none (some (n : Int)) = xs.take n := by
  unfold cutV
  rw [HT.sIx_none, HT.sIx_nat, List.drop_zero, Nat.sub_zero, ← List.take_take]
  rw [List.take_length]
theorem cut_ne {xs : List V} {n : Nat} (h : n < xs.length) : ¬ (HT.sIx xs.length 0 none = 0 ∧ HT.sIx xs.length xs.length (some (n : Int)) = xs.length) := by
  rw [HT.sIx_nat]
  omega
theorem cut_from {xs : List V} {n : Nat} : cutV xs (some (n : Int)) none = xs.drop n := by
  unfold cutV
  rw [HT.sIx_none, HT.sIx_nat]
  by_cases h : n ≤ xs.length
  · rw [show min n xs.length = n by omega]
    exact List.take_of_length_le (by rw [List.length_drop]; exact Nat.le_refl _)
  · rw [show min n xs.length = xs.length by omega, List.drop_of_length_le (Nat.le_refl _), List.drop_of_length_le (by omega), List.take_nil]
theorem canOf {d : PyData} (h : SeqAt.shaped d = true) : d.canLay0 = true := SeqAt.canLay_of_shaped h
theorem sh_str {s : Str} (h : PyData.strOk s = true) : SeqAt.shaped (.str s) = true := by simp [SeqAt.shaped, PyData.canLay0, PyData.depth, h]
theorem sh_strs {ss : List Str} (h : ∀ s ∈ ss, PyData.strOk s = true) : SeqAt.shaped (.tuple (ss.map PyData.str)) = true := by
  have hb : ∀ ss : List Str, (∀ s ∈ ss, PyData.strOk s = true) → PyData.canLayAll0 (ss.map PyData.str) = true ∧ PyData.depthAll (ss.map PyData.str) = 0 := by
    intro ss
    induction ss with
    | nil => intro _; simp [PyData.canLayAll0, PyData.depthAll]
    | cons s r ih =>
      intro h
      have ih := ih fun x hx => h x (List.mem_cons_of_mem _ hx)
      simp [PyData.canLayAll0, PyData.canLay0, PyData.depthAll, PyData.depth, ih.1, ih.2, h s List.mem_cons_self]
  simp [SeqAt.shaped, PyData.canLay0, PyData.depth, (hb ss h).1, (hb ss h).2]
theorem dp_strs {K : PySem.W.Frag} {H : Hp} : ∀ ss : List Str, DpAll K H (ss.map V.str) (ss.map PyData.str)
  | [] => .nil
  | s :: r => .cons (.str s) (dp_strs r)

theorem dec_int {a b : Int} (h : ¬ decide (V.int a = V.int b) = true) : a ≠ b := fun e => h (by rw [e]; exact decide_eq_true rfl)
theorem dec_int' {a b : Int} (h : decide (V.int a = V.int b) = true) : a = b := V.int.inj (of_decide_eq_true h)
theorem eqv_strC (s : Str) (x : PyData) : PyData.eqv (.str s) x = PyData.eqv x (.str s) := by
  cases x with
  | str t =>
    rw [PyData.eqv, PyData.eqv]
    by_cases h : s = t
    · subst h
      rfl
    · have h2 : ¬ t = s := fun e => h e.symm
      exact Eq.trans (beq_eq_false_iff_ne.mpr h) (beq_eq_false_iff_ne.mpr h2).symm
  | _ => simp [PyData.eqv]

/-- an own error's class, without __init__ of its own, over ValueError -/
structure ExcT (K : PySem.W.Frag) (mg : Str → Option Value) (x : Str) (C : Addr) : Prop where
  g : mg x = some (.ref C)
  q : PySem.W.excIn K C [.type "ValueError", .type "Exception", .type "BaseException", .type "object"] "ValueError.__new__" = true
  k : PySem.W.keepIn K (.ref C) = true
  b : PySem.W.subIn K (.ref C) (.type "BaseException") = some true
  t : PySem.W.typeIn K (.ref C) = some (.type "type")
  e : PySem.W.exmOne K (.ref C) (.ref C) = some true
section
variable {X : Cx} {C : Addr} {x : Str} {p pos pos' : Pos} {W : WX}
/-- X() -/
theorem pmk_own0 (T : ExcT X.K X.mg x C) (hg : Gl X x) (hdb : (x == ("__debug__" : Str)) = false := by decide) : PMk X (.Call (.Name x p) [] [] pos) (fun _ H Q => Q (.ref C) none H) := by
  intro pins s σ H Q I h
  refine wpAny_Call_Name_kw (ld_glob I hg T.g ?_ hdb)
  refine PySem.W.callWith_K0 I.kIn T.k ?_
  show wpAny _ _ (call (.ref C) []) _ _ _
  obtain ⟨bm, N, nm, qn, bs, hdct, sn, sub, ab, col, dd, k0, k1, k2, k3, k5, mN, hC, hN, hni, TT⟩ := exc_obj I.kIn T.q
  refine wpAny_call_exc_subT F.excBase_ValueError TT hC hN hni (fun h' e hm => ?_) (Nat.zero_le _)
  exact mk_of I hm (raises_own T.b T.t) h (I.hok.gone hm.new)
/-- raise X() -/
theorem ps_own0 (hc : X.calm = true) (tk : Takes X W) (T : ExcT X.K X.mg x C) (hg : Gl X x) (hdb : (x == ("__debug__" : Str)) = false := by decide) :
    PS X (.Raise (some (.Call (.Name x p) [] [] pos)) none pos') (fun _ σ H => W (.ref C) none σ H) := ps_raise hc tk (pmk_own0 T hg hdb)
end
/-- a thing of any kind that the law draws, no list of them being the pool at p; its answer: is it an integer -/
inductive Any (H : Hp) (p : Addr) : V → Bool → Prop
  | int (z : Int) : Any H p (.int z) true
  | bl (k : Bool) : Any H p (.bl k) false
  | non : Any H p .non false
  | str (s : Str) : Any H p (.str s) false
  | tup {a : Addr} {xs : List V} (h : H a = some (.tup xs)) (n : a ≠ p) : Any H p (.ref a) false
  | lst {a : Addr} {xs : List V} (h : H a = some (.lst xs)) (n : a ≠ p) : Any H p (.ref a) false
  | dct {a : Addr} {xs : List (Key × V)} (h : H a = some (.dK xs)) (n : a ≠ p) : Any H p (.ref a) false
theorem Any.kp {H J : Hp} {p : Addr} {v : V} {k : Bool} (h : Any H p v k) (s : Kp p H J) : Any J p v k := by
  cases h with
  | int z => exact .int z
  | bl k => exact .bl k
  | non => exact .non
  | str s => exact .str s
  | tup h n => exact .tup (s _ _ n h) n
  | lst h n => exact .lst (s _ _ n h) n
  | dct h n => exact .dct (s _ _ n h) n
/-- is it a pen -/
inductive PenV (H : Hp) (p : Addr) : V → Bool → Prop
  | lst {a : Addr} {xs : List V} (h : H a = some (.lst xs)) (n : a ≠ p) : PenV H p (.ref a) false
  | len {a : Addr} {xs : List V} (h : H a = some (.tup xs)) (n : a ≠ p) (l : xs.length ≠ 6) (b : xs.length ≤ 100) : PenV H p (.ref a) false
  | tup {a : Addr} {xs : List V} {bs : List Bool} (h : H a = some (.tup xs)) (n : a ≠ p) (l : xs.length = 6) (lb : bs.length = 6) (m : ∀ (i : Nat) (x : V), xs[i]? = some x → ∃ k, bs[i]? = some k ∧ Any H p x k) : PenV H p (.ref a) (bs.all id)
theorem PenV.kp {H J : Hp} {p : Addr} {v : V} {k : Bool} (h : PenV H p v k) (s : Kp p H J) : PenV J p v k := by
  cases h with
  | lst h n => exact .lst (s _ _ n h) n
  | len h n l b => exact .len (s _ _ n h) n l b
  | tup h n l lb m =>
    refine .tup (s _ _ n h) n l lb fun i x e => ?_
    obtain ⟨k, h1, h2⟩ := m i x e
    exact ⟨k, h1, h2.kp s⟩
/-- within a range -/
def inl : V → Int × Int → Bool
  | .int z, l => decide (l.1 ≤ z) && decide (z ≤ l.2)
  | _, _ => true
def badWords : List Str := ["1", "", "keep", "end", "Mark", "marks"]
/-- is it a command -/
inductive CmdV (H : Hp) (p : Addr) : V → Bool → Prop
  | oth {v : V} {k : Bool} (h : Any H p v k) (n : ∀ (a : Addr) (xs : List V), v = .ref a → H a = some (.tup xs) → False) : CmdV H p v false
  | nil {a : Addr} (h : H a = some (.tup [])) (n : a ≠ p) : CmdV H p (.ref a) false
  | odd {a : Addr} {x : V} {xs : List V} {k : Bool} (h : H a = some (.tup (x :: xs))) (n : a ≠ p) (hx : Any H p x k) (ns : ∀ s, x ≠ .str s) : CmdV H p (.ref a) false
  | word {a : Addr} {s : Str} {xs : List V} (h : H a = some (.tup (.str s :: xs))) (n : a ≠ p) (hs : s ∈ badWords) : CmdV H p (.ref a) false
  | len {a : Addr} {c : Cm} {xs : List V} (h : H a = some (.tup (.str c.word :: xs))) (n : a ≠ p) (l : xs.length ≠ c.nums.length) : CmdV H p (.ref a) false
  | num {a : Addr} {c : Cm} {xs : List V} {bs : List Bool} (h : H a = some (.tup (.str c.word :: xs))) (n : a ≠ p) (l : xs.length = c.nums.length) (lb : bs.length = xs.length)
      (m : ∀ (i : Nat) (x : V) (b : Int × Int), xs[i]? = some x → c.lims[i]? = some b → ∃ k, Any H p x k ∧ bs[i]? = some (k && inl x b)) : CmdV H p (.ref a) (bs.all id)
theorem CmdV.kp {H J : Hp} {p : Addr} {v : V} {k : Bool} (h : CmdV H p v k) (s : Kp p H J) : CmdV J p v k := by
  cases h with
  | oth h n =>
    refine .oth (h.kp s) fun a xs e e2 => ?_
    subst e
    cases h with
    | tup h nn => exact n _ _ rfl h
    | lst h nn => exact nomatch (Option.some.inj ((s _ _ nn h).symm.trans e2))
    | dct h nn => exact nomatch (Option.some.inj ((s _ _ nn h).symm.trans e2))
  | nil h n => exact .nil (s _ _ n h) n
  | odd h n hx ns => exact .odd (s _ _ n h) n (hx.kp s) ns
  | word h n hs => exact .word (s _ _ n h) n hs
  | len h n l => exact .len (s _ _ n h) n l
  | num h n l lb m =>
    refine .num (s _ _ n h) n l lb fun i x b e1 e2 => ?_
    obtain ⟨k, h1, h2⟩ := m i x b e1 e2
    exact ⟨k, h1.kp s, h2⟩

theorem exm_of' {K : PySem.W.Frag} {R S : Addr} {b : Bool} (h0 : PySem.W.subIn K (.ref R) (.type "BaseException") = some true) (h1 : PySem.W.subIn K (.ref S) (.type "BaseException") = some true) (h2 : PySem.W.isClsIn K S = true) (h3 : PySem.W.typeIn K (.ref S) = some (.type "type")) (h4 : PySem.W.subIn K (.ref R) (.ref S) = some b) : PySem.W.exmOne K (.ref R) (.ref S) = some b := by
  have e1 : (PySem.W.subIn K (.ref S) (.type "BaseException") == some true) = true := by rw [h1] <;> rfl
  have e2 : ((PySem.W.clsIn K S).isSome && PySem.W.typeIn K (.ref S) == some (.type "type")) = true := by
    rw [show (PySem.W.clsIn K S).isSome = true from h2, h3] <;> rfl
  show (if (PySem.W.subIn K (.ref S) (.type "BaseException") == some true) = true then (if ((PySem.W.clsIn K S).isSome && PySem.W.typeIn K (.ref S) == some (.type "type")) = true then PySem.W.subIn K (.ref R) (.ref S) else none) else none) = some b
  rw [if_pos e1, if_pos e2]
  exact h4
theorem exm_of {K : PySem.W.Frag} {S : Addr} {b : Bool} (h1 : PySem.W.subIn K (.ref S) (.type "BaseException") = some true) (h2 : PySem.W.isClsIn K S = true) (h3 : PySem.W.typeIn K (.ref S) = some (.type "type")) (h4 : PySem.W.subIn K (.ref S) (.ref S) = some b) : PySem.W.exmOne K (.ref S) (.ref S) = some b := exm_of' h1 h1 h2 h3 h4

/-! ### own errors with fields of their own (NoBook: procedure, path) -/
theorem oex_cls {K : PySem.W.Frag} {C HE : Addr}
    (h : ∃ nm q N bs sn sub ab col dd k0 k1 k2 k3 k5, K.lookup C = some (excClassObj nm q C N bs [.ref HE, .type "ValueError", .type "Exception", .type "BaseException", .type "object"] true sn sub ab col dd k0 k1 k2 k3 k5 "ValueError.__new__")) :
    ∃ nm q N bs bm sn sub ab col dd k0 k1 k2 k3 k5, K.lookup C = some (excClassObj nm q C N bs bm true sn sub ab col dd k0 k1 k2 k3 k5 "ValueError.__new__") ∧ PySem.HandSPX.refsVE bm = true := by
  obtain ⟨nm, q, N, bs, sn, sub, ab, col, dd, k0, k1, k2, k3, k5, h⟩ := h
  exact ⟨nm, q, N, bs, _, sn, sub, ab, col, dd, k0, k1, k2, k3, k5, h, rfl⟩

section
variable (K : PySem.W.Frag) {X : Cx}
theorem k_sorted (hK : X.K = K := by rfl) : CallR X (.builtin "sorted") (rSorted K) := hK ▸ cr_sorted
end

/-! ### the names of a comprehension -/
theorem wipe_get : ∀ (vs : List Nat) (σ : L2.St) (j : Nat), (wipe σ vs)[j]? = if j ∈ vs then (σ[j]?).map (fun _ => none) else σ[j]?
  | [], σ, j => by simp [wipe]
  | v :: r, σ, j => by
    rw [wipe, List.getElem?_set]
    have ih := wipe_get r σ j
    have hl := wipe_length σ r
    by_cases h : v = j
    · subst h
      rw [if_pos rfl, if_pos List.mem_cons_self]
      by_cases h2 : v < (wipe σ r).length
      · rw [if_pos h2, List.getElem?_eq_getElem (by omega)]
        rfl
      · rw [if_neg h2, List.getElem?_eq_none (by omega)]
        rfl
    · rw [if_neg h, ih]
      by_cases h3 : j ∈ r
      · rw [if_pos h3, if_pos (List.mem_cons_of_mem _ h3)]
      · rw [if_neg h3, if_neg (fun z => (List.mem_cons.mp z).elim (fun z => h z.symm) h3)]
theorem wipe_set {vs : List Nat} {σ : L2.St} {i : Nat} {x : Option V} (h : i ∈ vs) : wipe (σ.set i x) vs = wipe σ vs := by
  refine List.ext_getElem? fun j => ?_
  rw [wipe_get, wipe_get]
  by_cases hj : j ∈ vs
  · rw [if_pos hj, if_pos hj, List.getElem?_set]
    by_cases e : i = j
    · subst e
      rw [if_pos rfl]
      by_cases hl : i < σ.length
      · rw [if_pos hl, List.getElem?_eq_getElem hl]
        rfl
      · rw [if_neg hl, List.getElem?_eq_none (by omega)]
    · rw [if_neg e]
  · rw [if_neg hj, if_neg hj, List.getElem?_set_ne (fun e => hj (by rw [← e]; exact h))]
theorem wipe_wipe {vs : List Nat} {σ : L2.St} : wipe (wipe σ vs) vs = wipe σ vs := by
  refine List.ext_getElem? fun j => ?_
  rw [wipe_get, wipe_get]
  by_cases hj : j ∈ vs
  · rw [if_pos hj, if_pos hj]
    cases σ[j]? <;> rfl
  · rw [if_neg hj, if_neg hj]
theorem wipe7 {vs : List Nat} {σ : L2.St} {a b c d e f g : Nat} {x0 x1 x2 x3 x4 x5 x6 : Option V} (h : a ∈ vs ∧ b ∈ vs ∧ c ∈ vs ∧ d ∈ vs ∧ e ∈ vs ∧ f ∈ vs ∧ g ∈ vs) :
    wipe (((((((((wipe σ vs).set a x0).set b x1).set c x2).set d x3).set e x4).set f x5).set g x6)) vs = wipe σ vs := by
  obtain ⟨h0, h1, h2, h3, h4, h5, h6⟩ := h
  rw [wipe_set h6, wipe_set h5, wipe_set h4, wipe_set h3, wipe_set h2, wipe_set h1, wipe_set h0, wipe_wipe]
theorem at_slots {te : TE} {σ σ' : L2.St} {H : Hp} {K : VK} {N : Hp → Prop} (e : σ = σ') (q : te σ' H K) : tYes σ H fun b H3 => if b = true then te σ H3 K else N H3 := by
  subst e
  exact q

section
variable {P : Program} {w : World} {K : PySem.W.Frag} {mg : Str → Option Value} {base : Heap}
--SPLIT
/-! ## readings without a heap: what a name holds is data -/
theorem pe_weak {X : Cx} {e : Expr} {t t' : TE} (h : PE X e t) (w : ∀ σ H Q, t' σ H Q → t σ H Q) : PE X e t' := ⟨fun pins s σ H Q I q => h.run pins s σ H Q I (w _ _ _ q)⟩
theorem pt_weak {X : Cx} {e : Expr} {t t' : TT} (h : PT X e t) (w : ∀ σ H Q, t' σ H Q → t σ H Q) : PT X e t' := ⟨fun pins s σ H Q I q => h.run pins s σ H Q I (w _ _ _ q)⟩
theorem pw_weak {X : Cx} {e : Expr} {t t' : TT} (h : PW X e t) (w : ∀ σ H Q, t' σ H Q → t σ H Q) : PW X e t' := ⟨fun wh pins s σ H Q I q => h.run wh pins s σ H Q I (w _ _ _ q)⟩
theorem pa_weak {X : Cx} {e : List Expr} {t t' : TA} (h : PA X e t) (w : ∀ σ H Q, t' σ H Q → t σ H Q) : PA X e t' := ⟨fun pos pins s σ H Q I q => h.run pos pins s σ H Q I (w _ _ _ q)⟩
theorem ps_weak {X : Cx} {e : Stmt} {t t' : TS} (h : PS X e t) (w : ∀ D σ H, t' D σ H → t D σ H) : PS X e t' := ⟨fun pins s σ H D I q => h.run pins s σ H D I (w _ _ _ q)⟩
theorem pss_weak {X : Cx} {e : List Stmt} {t t' : TS} (h : PSs X e t) (w : ∀ D σ H, t' D σ H → t D σ H) : PSs X e t' := ⟨fun pins s σ H D I q => h.run pins s σ H D I (w _ _ _ q)⟩
theorem pg_weak {X : Cx} {e : Expr} {t t' : TG} (h : PG X e t) (w : ∀ v σ H Q, t' v σ H Q → t v σ H Q) : PG X e t' := ⟨fun pins s σ H v u Q I r q => h.run pins s σ H v u Q I r (w _ _ _ _ q)⟩
theorem pts_weak {X : Cx} {e : List Expr} {t t' : TT} (h : PTs X e t) (w : ∀ σ H Q, t' σ H Q → t σ H Q) : PTs X e t' := ⟨fun pins s σ H Q I q => h.run pins s σ H Q I (w _ _ _ q)⟩
/-- d: data, its lists at S; v: this very value; o: a list of the def's own -/
inductive Av where
  | d (x : PyData)
  | v (x : V)
  | o (ds : List PyData)
abbrev DEnv := List (Option Av)
structure DC where
  M : Addr → Prop
  W : Hp → Prop
  S0 : Addr → Prop
  H0 : Hp
  stab : ∀ H H', (∀ b o, H0 b ≠ none → H b = some o → H' b = some o) → W H → W H'
  lst : ∀ H a, W H → M a → ∃ xs, H a = some (.lst xs)
  w0 : W H0
  sm0 : ∀ a, S0 a → ¬ M a
def AvR (c : DC) (S : Addr → Prop) (H : Hp) : Av → V → Prop
  | .d x, v => Tr S H x v
  | .v y, v => v = y
  | .o ds, v => ∃ D xs, v = .ref D ∧ H D = some (.lst xs) ∧ TrAll S H ds xs ∧ c.H0 D = none ∧ ¬ S D
def AvsR (c : DC) (S : Addr → Prop) (H : Hp) : List Av → List V → Prop
  | [], vs => vs = []
  | a :: r, vs => ∃ v us, vs = v :: us ∧ AvR c S H a v ∧ AvsR c S H r us
structure DH (c : DC) (S : Addr → Prop) (H : Hp) : Prop where
  w : c.W H
  k : KpL c.M c.H0 H
  sub : ∀ a, S a → c.S0 a ∨ c.H0 a = none
  trk : ∀ a, S a → H a ≠ none
structure Step (c : DC) (S : Addr → Prop) (H : Hp) (S' : Addr → Prop) (H' : Hp) : Prop where
  inc : ∀ a, S a → S' a
  k : KpL c.M H H'
  new : ∀ a, S' a → S a ∨ (H a = none ∧ H' a ≠ none)
/-- what a loop walks -/
inductive Gh where
  | l (a : Addr) (vs : List V) (ds : List PyData)
  | t (a : Addr) (vs : List V) (ds : List PyData)
def GhR (S : Addr → Prop) (H : Hp) : Gh → Prop
  | .l a vs ds => S a ∧ H a = some (.lst vs) ∧ TrAll S H ds vs
  | .t a vs ds => H a = some (.tup vs) ∧ TrAll S H ds vs
structure DInv (c : DC) (S : Addr → Prop) (γ : List Gh) (ρ : DEnv) (σ : L2.St) (H : Hp) : Prop where
  h : DH c S H
  gh : ∀ g ∈ γ, GhR S H g
  len : ρ.length = σ.length
  ent : ∀ (i : Nat) (av : Av), ρ[i]? = some (some av) → ∃ v, σ[i]? = some (some v) ∧ AvR c S H av v
  sep : ∀ (i j : Nat) (ds es : List PyData) (a : Addr), ρ[i]? = some (some (.o ds)) → ρ[j]? = some (some (.o es)) → σ[i]? = some (some (.ref a)) → σ[j]? = some (some (.ref a)) → i = j
section
variable {c : DC} {S S' S'' : Addr → Prop} {H H' H'' : Hp} {γ : List Gh} {ρ : DEnv} {σ : L2.St}
theorem DC.new (c : DC) {a : Addr} (e : c.H0 a = none) : ¬ c.M a := fun m => by
  obtain ⟨xs, h⟩ := c.lst _ a c.w0 m
  rw [e] at h
  cases h
theorem DC.same (c : DC) (s : Same H H') (w : c.W H) : c.W H' := c.stab H H' (fun b o _ e => s b o e) w
theorem DC.fwd (c : DC) (w : c.W H') (k : KpL c.M H H') {a : Addr} (h : H a ≠ none) : H' a ≠ none := fun e => by
  by_cases m : c.M a
  · obtain ⟨xs, z⟩ := c.lst _ a w m
    rw [e] at z
    cases z
  · cases z : H a with
    | none => exact h z
    | some o =>
      rw [k.at_ z m] at e
      cases e
theorem DC.back (c : DC) (w : c.W H') (k : KpL c.M H H') {a : Addr} (e : H' a = none) : H a = none := k.free (fun a m => c.lst _ a w m) e
theorem DH.free (h : DH c S H) {a : Addr} (e : H a = none) : c.H0 a = none := c.back h.w h.k e
theorem DH.notM (h : DH c S H) {a : Addr} (s : S a) : ¬ c.M a := fun m => (h.sub a s).elim (fun z => c.sm0 a z m) fun z => c.new z m
theorem Step.refl : Step c S H S H := ⟨fun _ h => h, KpL.refl, fun _ h => .inl h⟩
theorem Step.trans (a : Step c S H S' H') (w : c.W H') (w2 : c.W H'') (b : Step c S' H' S'' H'') : Step c S H S'' H'' :=
  ⟨fun x h => b.inc x (a.inc x h), a.k.trans b.k, fun x h => (b.new x h).elim (fun z => (a.new x z).elim .inl fun e => .inr ⟨e.1, c.fwd w2 b.k e.2⟩) fun e => .inr ⟨c.back w a.k e.1, e.2⟩⟩
theorem Step.same (s : Same H H') : Step c S H S H' := ⟨fun _ h => h, KpL.of s, fun _ h => .inl h⟩
theorem AvR.step (h : DH c S H) (st : Step c S H S' H') : ∀ {av : Av} {v : V}, AvR c S H av v → AvR c S' H' av v
  | .d x, v, r => Tr.mono st.inc _ _ (Tr.kpl st.k (fun _ s => h.notM s) _ _ r)
  | .v y, v, r => r
  | .o ds, v, ⟨D, xs, e, l, t, n, ns⟩ => ⟨D, xs, e, st.k.at_ l (c.new n), TrAll.mono st.inc _ _ (TrAll.kpl st.k (fun _ s => h.notM s) _ _ t), n, fun s => (st.new D s).elim ns fun z => by have z := z.1; rw [l] at z; cases z⟩
theorem AvsR.step (h : DH c S H) (st : Step c S H S' H') : ∀ {avs : List Av} {vs : List V}, AvsR c S H avs vs → AvsR c S' H' avs vs
  | [], _, e => e
  | a :: r, _, ⟨v, us, e, t, q⟩ => ⟨v, us, e, t.step h st, AvsR.step h st q⟩
theorem GhR.step (h : DH c S H) (st : Step c S H S' H') : ∀ {g : Gh}, GhR S H g → GhR S' H' g
  | .l a vs ds, ⟨s, e, t⟩ => ⟨st.inc _ s, st.k.at_ e (h.notM s), TrAll.mono st.inc _ _ (TrAll.kpl st.k (fun _ s => h.notM s) _ _ t)⟩
  | .t a vs ds, ⟨e, t⟩ => ⟨st.k.tup e, TrAll.mono st.inc _ _ (TrAll.kpl st.k (fun _ s => h.notM s) _ _ t)⟩
theorem DH.step (h : DH c S H) (st : Step c S H S' H') (w : c.W H') : DH c S' H' :=
  ⟨w, h.k.trans st.k, fun a s => (st.new a s).elim (h.sub a) fun e => .inr (h.free e.1), fun a s => (st.new a s).elim (fun z => c.fwd w st.k (h.trk a z)) fun e => e.2⟩
theorem DInv.step (I : DInv c S γ ρ σ H) (st : Step c S H S' H') (w : c.W H') : DInv c S' γ ρ σ H' :=
  ⟨I.h.step st w, fun g m => (I.gh g m).step I.h st, I.len, fun i av e => by obtain ⟨v, h1, h2⟩ := I.ent i av e; exact ⟨v, h1, h2.step I.h st⟩, I.sep⟩
theorem DInv.same (I : DInv c S γ ρ σ H) (s : Same H H') : DInv c S γ ρ σ H' := I.step (Step.same s) (c.same s I.h.w)
/-- a new object -/
theorem Step.newL {p : Addr} {o : HO} (n : H p = none) : Step c S H (fun a => S a ∨ a = p) (upd H p o) :=
  ⟨fun _ h => .inl h, KpL.of (same_upd n), fun a h => h.elim .inl fun e => .inr ⟨e ▸ n, by rw [e, upd_same]; exact fun z => nomatch z⟩⟩
theorem DInv.newO (I : DInv c S γ ρ σ H) {p : Addr} {o : HO} (n : H p = none) : DInv c S γ ρ σ (upd H p o) := I.same (same_upd n)
theorem DInv.newL (I : DInv c S γ ρ σ H) {p : Addr} {o : HO} (n : H p = none) : DInv c (fun a => S a ∨ a = p) γ ρ σ (upd H p o) := I.step (Step.newL n) (c.same (same_upd n) I.h.w)
theorem AvsR.len : ∀ {avs : List Av} {vs : List V}, AvsR c S H avs vs → vs.length = avs.length
  | [], _, e => by cases e; rfl
  | a :: r, _, ⟨v, us, e, _, q⟩ => by subst e; rw [List.length_cons, List.length_cons, q.len]
theorem AvsR.all : ∀ {ds : List PyData} {vs : List V}, AvsR c S H (ds.map Av.d) vs → TrAll S H ds vs
  | [], _, e => e
  | d :: r, _, ⟨v, us, e, t, q⟩ => ⟨v, us, e, t, q.all⟩
theorem DInv.put (I : DInv c S γ ρ σ H) (i : Nat) {av : Av} {v : V} (hi : i < ρ.length) (r : AvR c S H av v) (hs : ∀ ds, av = .o ds → ∀ j es a, j ≠ i → ρ[j]? = some (some (.o es)) → σ[j]? = some (some (.ref a)) → v ≠ .ref a) : DInv c S γ (ρ.set i (some av)) (σ.set i (some v)) H := by
  have hi2 : i < σ.length := I.len ▸ hi
  refine ⟨I.h, I.gh, by rw [List.length_set, List.length_set]; exact I.len, fun j a e => ?_, fun j k ds es a e1 e2 e3 e4 => ?_⟩
  · by_cases h : i = j
    · subst h
      rw [List.getElem?_set_self hi] at e
      cases e
      exact ⟨v, List.getElem?_set_self hi2, r⟩
    · rw [List.getElem?_set_ne h] at e ⊢
      exact I.ent j a e
  · by_cases h : i = j
    · by_cases h2 : i = k
      · omega
      · subst h
        rw [List.getElem?_set_self hi] at e1
        rw [List.getElem?_set_self hi2] at e3
        rw [List.getElem?_set_ne h2] at e2 e4
        cases e1
        cases e3
        exact absurd rfl (hs _ rfl k es a (fun e => h2 e.symm) e2 e4)
    · rw [List.getElem?_set_ne h] at e1 e3
      by_cases h2 : i = k
      · subst h2
        rw [List.getElem?_set_self hi] at e2
        rw [List.getElem?_set_self hi2] at e4
        cases e2
        cases e4
        exact absurd rfl (hs _ rfl j ds a (fun e => h e.symm) e1 e3)
      · rw [List.getElem?_set_ne h2] at e2 e4
        exact I.sep j k ds es a e1 e2 e3 e4
/-- an own list is changed -/
theorem DInv.chg (I : DInv c S γ ρ σ H) {i : Nat} {ds es : List PyData} {D : Addr} {ys : List V} (hi : ρ[i]? = some (some (.o ds))) (hs : σ[i]? = some (some (.ref D))) (t : TrAll S H es ys) :
    DInv c S γ (ρ.set i (some (.o es))) σ (upd H D (.lst ys)) := by
  obtain ⟨v, h1, D', xs, e, l, _, n, ns⟩ := I.ent i _ hi
  rw [hs] at h1
  cases h1
  cases e
  have k2 : KpL (fun a => a = D) H (upd H D (.lst ys)) := KpL.refl.put rfl ⟨_, l⟩
  have no : ∀ a, S a → ¬ a = D := fun a s e => ns (e ▸ s)
  have hl := (List.getElem?_eq_some_iff.mp hi).1
  refine ⟨⟨c.stab H _ (fun b o nb e => ?_) I.h.w, I.h.k.new n, I.h.sub, fun a s => by rw [upd_ne (no a s)]; exact I.h.trk a s⟩, fun g m => ?_, by rw [List.length_set]; exact I.len, fun j a e => ?_, fun j k ds1 es1 a e1 e2 e3 e4 => ?_⟩
  · rw [upd_ne (fun z => nb (by rw [z]; exact n))]
    exact e
  · have h := I.gh g m
    cases g with
    | l a vs ds => exact ⟨h.1, k2.at_ h.2.1 (no _ h.1), TrAll.kpl k2 no _ _ h.2.2⟩
    | t a vs ds => exact ⟨k2.tup h.1, TrAll.kpl k2 no _ _ h.2⟩
  · by_cases h : i = j
    · subst h
      rw [List.getElem?_set_self hl] at e
      cases e
      exact ⟨_, hs, D, ys, rfl, upd_same, TrAll.kpl k2 no _ _ t, n, ns⟩
    · rw [List.getElem?_set_ne h] at e
      obtain ⟨v, h1, h2⟩ := I.ent j a e
      refine ⟨v, h1, ?_⟩
      cases a with
      | d x => exact Tr.kpl k2 no _ _ h2
      | v x => exact h2
      | o xs =>
        obtain ⟨D2, zs, e', l2, t2, n2, ns2⟩ := h2
        subst e'
        exact ⟨D2, zs, rfl, k2.at_ l2 (fun z => h (I.sep i j _ _ D hi e hs (z ▸ h1))), TrAll.kpl k2 no _ _ t2, n2, ns2⟩
  · have fix : ∀ {m : Nat} {ds1 : List PyData}, (ρ.set i (some (.o es)))[m]? = some (some (.o ds1)) → ∃ ds2, ρ[m]? = some (some (.o ds2)) := fun {m ds1} e => by
      by_cases h : i = m
      · subst h
        exact ⟨_, hi⟩
      · rw [List.getElem?_set_ne h] at e
        exact ⟨_, e⟩
    obtain ⟨d1, f1⟩ := fix e1
    obtain ⟨d2, f2⟩ := fix e2
    exact I.sep j k d1 d2 a f1 f2 e3 e4
/-- an own list is no longer changed -/
theorem DInv.frz (I : DInv c S γ ρ σ H) {i : Nat} {ds : List PyData} (hi : ρ[i]? = some (some (.o ds))) : ∃ S', DInv c S' γ (ρ.set i (some (.d (.list ds)))) σ H := by
  obtain ⟨v, h1, D, xs, e, l, t, n, ns⟩ := I.ent i _ hi
  subst e
  have hl := (List.getElem?_eq_some_iff.mp hi).1
  have inc : ∀ a, S a → S a ∨ a = D := fun _ s => .inl s
  refine ⟨fun a => S a ∨ a = D, ⟨I.h.w, I.h.k, fun a s => s.elim (I.h.sub a) fun e => .inr (e ▸ n), fun a s => s.elim (I.h.trk a) fun e => by rw [e, l]; exact fun z => nomatch z⟩, fun g m => ?_, by rw [List.length_set]; exact I.len, fun j a e => ?_, fun j k ds1 es1 a e1 e2 e3 e4 => ?_⟩
  · have h := I.gh g m
    cases g with
    | l a vs ds => exact ⟨.inl h.1, h.2.1, TrAll.mono inc _ _ h.2.2⟩
    | t a vs ds => exact ⟨h.1, TrAll.mono inc _ _ h.2⟩
  · by_cases h : i = j
    · subst h
      rw [List.getElem?_set_self hl] at e
      cases e
      exact ⟨_, h1, D, xs, rfl, .inr rfl, l, TrAll.mono inc _ _ t⟩
    · rw [List.getElem?_set_ne h] at e
      obtain ⟨v, g1, h2⟩ := I.ent j a e
      refine ⟨v, g1, ?_⟩
      cases a with
      | d x => exact Tr.mono inc _ _ h2
      | v x => exact h2
      | o xs =>
        obtain ⟨D2, zs, e', l2, t2, n2, ns2⟩ := h2
        subst e'
        exact ⟨D2, zs, rfl, l2, TrAll.mono inc _ _ t2, n2, fun s => s.elim ns2 fun z => h (I.sep i j _ _ D hi e h1 (z ▸ g1))⟩
  · have back : ∀ {m : Nat} {ds1 : List PyData}, (ρ.set i (some (.d (.list ds))))[m]? = some (some (.o ds1)) → ρ[m]? = some (some (.o ds1)) := fun {m ds1} e => by
      by_cases h : i = m
      · subst h
        rw [List.getElem?_set_self hl] at e
        cases e
      · rw [List.getElem?_set_ne h] at e
        exact e
    exact I.sep j k ds1 es1 a (back e1) (back e2) e3 e4
end
abbrev DE := DEnv → (Av → Prop) → Prop
abbrev DA := DEnv → (List Av → Prop) → Prop
abbrev DT := DEnv → (Bool → Prop) → Prop
abbrev DN := DEnv → (List PyData → Prop) → Prop
def tDE (c : DC) (e : DE) : TE := fun σ H Q => ∃ S γ ρ, DInv c S γ ρ σ H ∧ e ρ fun av => ∀ S' v H', Step c S H S' H' → DInv c S' γ ρ σ H' → AvR c S' H' av v → Q v H'
def tDA (c : DC) (a : DA) : TA := fun σ H Q => ∃ S γ ρ, DInv c S γ ρ σ H ∧ a ρ fun avs => ∀ S' vs H', Step c S H S' H' → DInv c S' γ ρ σ H' → AvsR c S' H' avs vs → Q vs H'
def tDT (c : DC) (t : DT) : TT := fun σ H Q => ∃ S γ ρ, DInv c S γ ρ σ H ∧ t ρ fun b => ∀ S' H', Step c S H S' H' → DInv c S' γ ρ σ H' → Q b H'
/-- a new list -/
def tDN (c : DC) (n : DN) : TE := fun σ H Q => ∃ S γ ρ, DInv c S γ ρ σ H ∧ n ρ fun ds => ∀ S' D xs H', Step c S H S' H' → DInv c S' γ ρ σ H' → H' D = some (.lst xs) → TrAll S' H' ds xs → H D = none → ¬ S' D → Q (.ref D) H'
structure PD (X : Cx) (c : DC) (x : Expr) (e : DE) : Prop where
  run : PE X x (tDE c e)
  mono : ∀ {ρ P P'}, (∀ av, P av → P' av) → e ρ P → e ρ P'
structure PDA (X : Cx) (c : DC) (x : List Expr) (e : DA) : Prop where
  run : PA X x (tDA c e)
  mono : ∀ {ρ P P'}, (∀ av, P av → P' av) → e ρ P → e ρ P'
structure PDT (X : Cx) (c : DC) (x : Expr) (e : DT) : Prop where
  run : PT X x (tDT c e)
  mono : ∀ {ρ P P'}, (∀ av, P av → P' av) → e ρ P → e ρ P'
structure PDW (X : Cx) (c : DC) (x : Expr) (e : DT) : Prop where
  run : PW X x (tDT c e)
  mono : ∀ {ρ P P'}, (∀ av, P av → P' av) → e ρ P → e ρ P'
structure PDN (X : Cx) (c : DC) (x : Expr) (e : DN) : Prop where
  run : PE X x (tDN c e)
  mono : ∀ {ρ P P'}, (∀ av, P av → P' av) → e ρ P → e ρ P'

/-! ### expressions -/
def dName (i : Nat) : DE := fun ρ Q => ∃ av, ρ[i]? = some (some av) ∧ Q av
def dC (d : PyData) : DE := fun _ Q => Q (.d d)
def dNil : DA := fun _ Q => Q []
def dCons (e : DE) (a : DA) : DA := fun ρ Q => e ρ fun x => a ρ fun xs => Q (x :: xs)
def dTup (a : DA) : DE := fun ρ Q => a ρ fun avs => ∃ ds, avs = ds.map Av.d ∧ ds.length ≤ 1000 ∧ Q (.d (.tuple ds))
def nLst (a : DA) : DN := fun ρ Q => a ρ fun avs => ∃ ds, avs = ds.map Av.d ∧ ds.length ≤ 1000 ∧ Q ds
def dFrz (n : DN) : DE := fun ρ Q => n ρ fun ds => Q (.d (.list ds))
def Av.dat : Av → Option PyData
  | .d x => some x
  | .v _ => none
  | .o ds => some (.list ds)
def Av.seq : Av → Option (List PyData)
  | .d (.list ds) => some ds
  | .d (.tuple ds) => some ds
  | .o ds => some ds
  | _ => none
section
variable {X : Cx} {c : DC} {S S' : Addr → Prop} {H H' : Hp} {γ : List Gh} {ρ : DEnv} {σ : L2.St} {x x2 : Expr}
theorem pd_name {i : Nat} (h : PE X x (tVar i)) : PD X c x (dName i) :=
  ⟨pe_weak h fun σ H Q ⟨S, γ, ρ, I, av, e, q⟩ => by obtain ⟨v, h1, h2⟩ := I.ent i av e; exact ⟨v, h1, q S v H Step.refl I h2⟩, fun m ⟨av, e, q⟩ => ⟨av, e, m _ q⟩⟩
/-- a constant -/
theorem pd_c {v : V} {d : PyData} (h : PE X x (tC v)) (hd : ∀ S H, Tr S H d v) : PD X c x (dC d) := ⟨pe_weak h fun σ H Q ⟨S, γ, ρ, I, q⟩ => q S v H Step.refl I (hd S H), fun m q => m _ q⟩
theorem pd_int {i : Int} {j pos} : PD X c (.Constant (.int i) j pos) (dC (.int i)) := pd_c pe_int fun _ _ => rfl
theorem pd_bl {b : Bool} {j pos} : PD X c (.Constant (.bool b) j pos) (dC (.bool b)) := pd_c pe_bl fun _ _ => rfl
theorem pd_non {j pos} : PD X c (.Constant .none j pos) (dC .none) := pd_c pe_non fun _ _ => rfl
theorem pd_str {s : Str} {j pos} : PD X c (.Constant (.str s) j pos) (dC (.str s)) := pd_c pe_str fun _ _ => rfl
theorem pda_nil : PDA X c [] dNil := ⟨pa_weak pa_nil fun σ H Q ⟨S, γ, ρ, I, q⟩ => q S [] H Step.refl I rfl, fun m q => m _ q⟩
theorem pda_cons {es : List Expr} {e : DE} {a : DA} (he : PD X c x e) (ha : PDA X c es a) (hs : starEach (x :: es) X.env = (false, eval x X.env) :: starEach es X.env := by rfl) : PDA X c (x :: es) (dCons e a) :=
  ⟨pa_weak (pa_cons he.run ha.run hs) fun σ H Q ⟨S, γ, ρ, I, q⟩ => ⟨S, γ, ρ, I, he.mono (fun av h S1 v H1 st1 I1 r1 => ⟨S1, γ, ρ, I1, ha.mono (fun avs h2 S2 vs H2 st2 I2 r2 =>
      h2 S2 (v :: vs) H2 (st1.trans I1.h.w I2.h.w st2) I2 ⟨v, vs, rfl, r1.step I1.h st2, r2⟩) h⟩) q⟩, fun m q => he.mono (fun _ h => ha.mono (fun _ h2 => m _ h2) h) q⟩
theorem pd_tup {es : List Expr} {k pos} {a : DA} (ha : PDA X c es a) : PD X c (.Tuple es k pos) (dTup a) :=
  ⟨pe_weak (pe_tup ha.run) fun σ H Q ⟨S, γ, ρ, I, q⟩ => ⟨S, γ, ρ, I, ha.mono (fun avs ⟨ds, e, hl, h⟩ S1 vs H1 st1 I1 r1 => by
    subst e
    have t := r1.all
    refine ⟨small100 (by rw [t.len]; exact hl), fun p np => h S1 (.ref p) _ (st1.trans I1.h.w (I1.newO np).h.w (Step.same (same_upd np))) (I1.newO np) ⟨p, vs, rfl, upd_same, t.same (same_upd np)⟩⟩) q⟩,
   fun m q => ha.mono (fun _ ⟨ds, e, hl, h⟩ => ⟨ds, e, hl, m _ h⟩) q⟩
theorem pn_lst {es : List Expr} {pos} {a : DA} (ha : PDA X c es a) : PDN X c (.List es pos) (nLst a) :=
  ⟨pe_weak (pe_lst ha.run) fun σ H Q ⟨S, γ, ρ, I, q⟩ => ⟨S, γ, ρ, I, ha.mono (fun avs ⟨ds, e, hl, h⟩ S1 vs H1 st1 I1 r1 => by
    subst e
    have t := r1.all
    exact ⟨small100 (by rw [t.len]; exact hl), fun p np => h S1 p vs _ (st1.trans I1.h.w (I1.newO np).h.w (Step.same (same_upd np))) (I1.newO np) upd_same (t.same (same_upd np)) (c.back I1.h.w st1.k np) fun s => I1.h.trk p s np⟩) q⟩,
   fun m q => ha.mono (fun _ ⟨ds, e, hl, h⟩ => ⟨ds, e, hl, m _ h⟩) q⟩
theorem DInv.add {S1 : Addr → Prop} {H1 : Hp} {D : Addr} {xs : List V} (I : DInv c S γ ρ σ H) (I1 : DInv c S1 γ ρ σ H1) (n : H D = none) (e : H1 D = some (.lst xs)) : DInv c (fun a => S1 a ∨ a = D) γ ρ σ H1 := by
  have inc : ∀ a, S1 a → S1 a ∨ a = D := fun _ s => .inl s
  refine ⟨⟨I1.h.w, I1.h.k, fun a s => s.elim (I1.h.sub a) fun z => .inr (I.h.free (z ▸ n)), fun a s => s.elim (I1.h.trk a) fun z => by rw [z, e]; exact fun z => nomatch z⟩, fun g m => ?_, I1.len, fun i av h => ?_, I1.sep⟩
  · have h := I1.gh g m
    cases g with
    | l a vs ds => exact ⟨.inl h.1, h.2.1, TrAll.mono inc _ _ h.2.2⟩
    | t a vs ds => exact ⟨h.1, TrAll.mono inc _ _ h.2⟩
  · obtain ⟨v, h1, h2⟩ := I1.ent i av h
    refine ⟨v, h1, ?_⟩
    cases av with
    | d x => exact Tr.mono inc _ _ h2
    | v x => exact h2
    | o zs =>
      obtain ⟨D2, ys, e', l2, t2, n2, ns2⟩ := h2
      obtain ⟨v', g1, D3, ws, e3, l3, _⟩ := I.ent i _ h
      rw [h1] at g1
      cases g1
      subst e'
      cases e3
      exact ⟨D2, ys, rfl, l2, TrAll.mono inc _ _ t2, n2, fun s => s.elim ns2 fun z => by rw [z, n] at l3; cases l3⟩
theorem Step.add {S1 : Addr → Prop} {H1 : Hp} {D : Addr} {xs : List V} (st : Step c S H S1 H1) (n : H D = none) (e : H1 D = some (.lst xs)) : Step c S H (fun a => S1 a ∨ a = D) H1 :=
  ⟨fun a s => .inl (st.inc a s), st.k, fun a s => s.elim (st.new a) fun z => .inr ⟨z ▸ n, by rw [z, e]; exact fun z => nomatch z⟩⟩
/-- a new list, as data -/
theorem pdn {n : DN} (h : PDN X c x n) : PD X c x (dFrz n) :=
  ⟨pe_weak h.run fun σ H Q ⟨S, γ, ρ, I, q⟩ => ⟨S, γ, ρ, I, h.mono (fun ds g S1 D xs H1 st1 I1 e t n ns => g _ (.ref D) H1 (st1.add n e) (I.add I1 n e) ⟨D, xs, rfl, .inr rfl, e, TrAll.mono (fun _ s => .inl s) _ _ t⟩) q⟩, fun m q => h.mono (fun _ g => m _ g) q⟩
/-! operators -/
def GE (c : DC) (S : Addr → Prop) (γ : List Gh) (ρ : DEnv) (σ : L2.St) (H : Hp) (P : Av → Prop) (Q : VK) : Prop := ∀ av S' w H', P av → Step c S H S' H' → DInv c S' γ ρ σ H' → AvR c S' H' av w → Q w H'
def GN (c : DC) (S : Addr → Prop) (γ : List Gh) (ρ : DEnv) (σ : L2.St) (H : Hp) (P : List PyData → Prop) (Q : VK) : Prop := ∀ ds S' D xs H', P ds → Step c S H S' H' → DInv c S' γ ρ σ H' → H' D = some (.lst xs) → TrAll S' H' ds xs → H D = none → ¬ S' D → Q (.ref D) H'
structure DOp (c : DC) (r : R2) (k : Av → Av → (Av → Prop) → Prop) : Prop where
  run : ∀ {S γ ρ σ H x y v u P Q}, DInv c S γ ρ σ H → AvR c S H x v → AvR c S H y u → k x y P → GE c S γ ρ σ H P Q → r v u H Q
  mono : ∀ {x y P P'}, (∀ av, P av → P' av) → k x y P → k x y P'
structure DOpN (c : DC) (r : R2) (k : Av → Av → (List PyData → Prop) → Prop) : Prop where
  run : ∀ {S γ ρ σ H x y v u P Q}, DInv c S γ ρ σ H → AvR c S H x v → AvR c S H y u → k x y P → GN c S γ ρ σ H P Q → r v u H Q
  mono : ∀ {x y P P'}, (∀ av, P av → P' av) → k x y P → k x y P'
structure DUn (c : DC) (r : V → Hp → VK → Prop) (k : Av → (Av → Prop) → Prop) : Prop where
  run : ∀ {S γ ρ σ H x v P Q}, DInv c S γ ρ σ H → AvR c S H x v → k x P → GE c S γ ρ σ H P Q → r v H Q
  mono : ∀ {x P P'}, (∀ av, P av → P' av) → k x P → k x P'
structure DCl (c : DC) (r : List V → Hp → VK → Prop) (k : List Av → (Av → Prop) → Prop) : Prop where
  run : ∀ {S γ ρ σ H x v P Q}, DInv c S γ ρ σ H → AvsR c S H x v → k x P → GE c S γ ρ σ H P Q → r v H Q
  mono : ∀ {x P P'}, (∀ av, P av → P' av) → k x P → k x P'
structure DClN (c : DC) (r : List V → Hp → VK → Prop) (k : List Av → (List PyData → Prop) → Prop) : Prop where
  run : ∀ {S γ ρ σ H x v P Q}, DInv c S γ ρ σ H → AvsR c S H x v → k x P → GN c S γ ρ σ H P Q → r v H Q
  mono : ∀ {x P P'}, (∀ av, P av → P' av) → k x P → k x P'
def dOp {α : Type} (k : Av → Av → (α → Prop) → Prop) (a b : DE) : DEnv → (α → Prop) → Prop := fun ρ Q => a ρ fun x => b ρ fun y => k x y Q
def dUn {α : Type} (k : Av → (α → Prop) → Prop) (a : DE) : DEnv → (α → Prop) → Prop := fun ρ Q => a ρ fun x => k x Q
def dCl {α : Type} (k : List Av → (α → Prop) → Prop) (a : DA) : DEnv → (α → Prop) → Prop := fun ρ Q => a ρ fun x => k x Q
section
variable {e1 e2 : Expr} {a b : DE} {r : R2}
theorem pd_op {k : Av → Av → (Av → Prop) → Prop} (hp : ∀ {ta tb}, PE X e1 ta → PE X e2 tb → PE X x (tOp r ta tb)) (hk : DOp c r k) (ha : PD X c e1 a) (hb : PD X c e2 b) : PD X c x (dOp k a b) :=
  ⟨pe_weak (hp ha.run hb.run) fun σ H Q ⟨S, γ, ρ, I, q⟩ => ⟨S, γ, ρ, I, ha.mono (fun av h S1 v H1 st1 I1 r1 => ⟨S1, γ, ρ, I1, hb.mono (fun bv h2 S2 u H2 st2 I2 r2 =>
    hk.run I2 (r1.step I1.h st2) r2 h2 fun av S3 w H3 g st3 I3 r3 => g S3 w H3 (st1.trans I1.h.w I3.h.w (st2.trans I2.h.w I3.h.w st3)) I3 r3) h⟩) q⟩,
   fun m q => ha.mono (fun _ h => hb.mono (fun _ h2 => hk.mono m h2) h) q⟩
theorem pn_op {k : Av → Av → (List PyData → Prop) → Prop} (hp : ∀ {ta tb}, PE X e1 ta → PE X e2 tb → PE X x (tOp r ta tb)) (hk : DOpN c r k) (ha : PD X c e1 a) (hb : PD X c e2 b) : PDN X c x (dOp k a b) :=
  ⟨pe_weak (hp ha.run hb.run) fun σ H Q ⟨S, γ, ρ, I, q⟩ => ⟨S, γ, ρ, I, ha.mono (fun av h S1 v H1 st1 I1 r1 => ⟨S1, γ, ρ, I1, hb.mono (fun bv h2 S2 u H2 st2 I2 r2 =>
    hk.run I2 (r1.step I1.h st2) r2 h2 fun ds S3 D xs H3 g st3 I3 e t n ns => g S3 D xs H3 (st1.trans I1.h.w I3.h.w (st2.trans I2.h.w I3.h.w st3)) I3 e t (c.back I1.h.w st1.k (c.back I2.h.w st2.k n)) ns) h⟩) q⟩,
   fun m q => ha.mono (fun _ h => hb.mono (fun _ h2 => hk.mono m h2) h) q⟩
theorem pd_un {r : V → Hp → VK → Prop} {k : Av → (Av → Prop) → Prop} (hp : ∀ {ta}, PE X e1 ta → PE X x (tUn r ta)) (hk : DUn c r k) (ha : PD X c e1 a) : PD X c x (dUn k a) :=
  ⟨pe_weak (hp ha.run) fun σ H Q ⟨S, γ, ρ, I, q⟩ => ⟨S, γ, ρ, I, ha.mono (fun av h S1 v H1 st1 I1 r1 =>
    hk.run I1 r1 h fun av S3 w H3 g st3 I3 r3 => g S3 w H3 (st1.trans I1.h.w I3.h.w st3) I3 r3) q⟩, fun m q => ha.mono (fun _ h => hk.mono m h) q⟩
theorem pd_cl {r : List V → Hp → VK → Prop} {k : List Av → (Av → Prop) → Prop} {es : List Expr} {a : DA} (hp : ∀ {ta}, PA X es ta → PE X x (tCB r ta)) (hk : DCl c r k) (ha : PDA X c es a) : PD X c x (dCl k a) :=
  ⟨pe_weak (hp ha.run) fun σ H Q ⟨S, γ, ρ, I, q⟩ => ⟨S, γ, ρ, I, ha.mono (fun av h S1 v H1 st1 I1 r1 =>
    hk.run I1 r1 h fun av S3 w H3 g st3 I3 r3 => g S3 w H3 (st1.trans I1.h.w I3.h.w st3) I3 r3) q⟩, fun m q => ha.mono (fun _ h => hk.mono m h) q⟩
theorem pn_cl {r : List V → Hp → VK → Prop} {k : List Av → (List PyData → Prop) → Prop} {es : List Expr} {a : DA} (hp : ∀ {ta}, PA X es ta → PE X x (tCB r ta)) (hk : DClN c r k) (ha : PDA X c es a) : PDN X c x (dCl k a) :=
  ⟨pe_weak (hp ha.run) fun σ H Q ⟨S, γ, ρ, I, q⟩ => ⟨S, γ, ρ, I, ha.mono (fun av h S1 v H1 st1 I1 r1 =>
    hk.run I1 r1 h fun ds S3 D xs H3 g st3 I3 e t n ns => g S3 D xs H3 (st1.trans I1.h.w I3.h.w st3) I3 e t (c.back I1.h.w st1.k n) ns) q⟩, fun m q => ha.mono (fun _ h => hk.mono m h) q⟩
/-- as a test -/
def dTest (e : DE) : DT := fun ρ Q => e ρ fun av => ∃ b, av = .d (.bool b) ∧ Q b
theorem pdt_op {k : Av → Av → (Av → Prop) → Prop} (hp : ∀ {ta tb}, PE X e1 ta → PE X e2 tb → PT X x (tTest (tOp r ta tb))) (hk : DOp c r k) (ha : PD X c e1 a) (hb : PD X c e2 b) : PDT X c x (dTest (dOp k a b)) :=
  ⟨pt_weak (hp ha.run hb.run) fun σ H Q ⟨S, γ, ρ, I, q⟩ => ⟨S, γ, ρ, I, ha.mono (fun av h S1 v H1 st1 I1 r1 => ⟨S1, γ, ρ, I1, hb.mono (fun bv h2 S2 u H2 st2 I2 r2 =>
    hk.run I2 (r1.step I1.h st2) r2 h2 fun av S3 w H3 ⟨b, e, g⟩ st3 I3 r3 => by subst e; exact ⟨b, r3, g S3 H3 (st1.trans I1.h.w I3.h.w (st2.trans I2.h.w I3.h.w st3)) I3⟩) h⟩) q⟩,
   fun m q => ha.mono (fun _ h => hb.mono (fun _ h2 => hk.mono (fun _ ⟨b, e, g⟩ => ⟨b, e, m _ g⟩) h2) h) q⟩
theorem pdt_val (hp : ∀ {t}, PE X x t → PT X x (tB t)) (ha : PD X c x a) : PDT X c x (dTest a) :=
  ⟨pt_weak (hp ha.run) fun σ H Q ⟨S, γ, ρ, I, q⟩ => ⟨S, γ, ρ, I, ha.mono (fun av ⟨b, e, g⟩ S1 v H1 st1 I1 r1 => by subst e; exact ⟨b, r1, g S1 H1 st1 I1⟩) q⟩, fun m q => ha.mono (fun _ ⟨b, e, g⟩ => ⟨b, e, m _ g⟩) q⟩
/-- by its truth -/
def truD : Av → Option Bool
  | .d .none => some false
  | .d (.bool b) => some b
  | .d (.int i) => some (i != 0)
  | .d (.list ds) => some !ds.isEmpty
  | .d (.tuple ds) => some !ds.isEmpty
  | .o ds => some !ds.isEmpty
  | _ => none
def dTru (e : DE) : DT := fun ρ Q => e ρ fun av => ∃ b, truD av = some b ∧ Q b
theorem isE {ds : List PyData} {xs : List V} (t : TrAll S H ds xs) : (!xs.isEmpty) = !ds.isEmpty := by
  cases ds with
  | nil => cases t; rfl
  | cons d r => obtain ⟨x, us, e, _⟩ := t; subst e; rfl
theorem tru_of {av : Av} {v : V} {b : Bool} {K : PySem.W.Frag} (r1 : AvR c S H av v) (e : truD av = some b) : TruV K v H b := by
  cases av with
  | v y => cases e
  | o ds =>
    obtain ⟨D, xs, e', l, t, _⟩ := r1
    subst e'
    cases e
    exact .inl ⟨xs, SqL.of l, (isE t).symm⟩
  | d y =>
    cases y with
    | none => cases e; cases r1; exact rfl
    | bool b' => cases e; cases r1; exact rfl
    | int i => cases e; cases r1; exact rfl
    | list ds => obtain ⟨D, xs, e', _, l, t⟩ := r1; subst e'; cases e; exact .inl ⟨xs, SqL.of l, (isE t).symm⟩
    | tuple ds => obtain ⟨D, xs, e', l, t⟩ := r1; subst e'; cases e; exact .inr (.inl ⟨xs, SqT.of l, (isE t).symm⟩)
    | str s => cases e
    | dict s => cases e
theorem pdt_tru (hp : ∀ {t}, PE X x t → PT X x (fun σ H Q => t σ H fun x H' => ∃ k, TruV X.K x H' k ∧ Q k H')) (ha : PD X c x a) : PDT X c x (dTru a) :=
  ⟨pt_weak (hp ha.run) fun σ H Q ⟨S, γ, ρ, I, q⟩ => ⟨S, γ, ρ, I, ha.mono (fun av ⟨b, e, g⟩ S1 v H1 st1 I1 r1 => ⟨b, tru_of r1 e, g S1 H1 st1 I1⟩) q⟩, fun m q => ha.mono (fun _ ⟨b, e, g⟩ => ⟨b, e, m _ g⟩) q⟩
def dtNot (t : DT) : DT := fun ρ Q => t ρ fun b => Q (!b)
def dtAnd (t u : DT) : DT := fun ρ Q => t ρ fun b => if b = true then u ρ Q else Q false
def dtOr (t u : DT) : DT := fun ρ Q => t ρ fun b => if b = true then Q true else u ρ Q
theorem ifMono {A B A' B' : Prop} {b : Bool} (h1 : A → A') (h2 : B → B') (h : if b = true then A else B) : if b = true then A' else B' := by cases b <;> simp_all
theorem pdt_not {t : DT} {pos} (h : PDT X c x t) : PDT X c (.UnaryOp .Not x pos) (dtNot t) :=
  ⟨pt_weak (pt_not h.run) fun σ H Q ⟨S, γ, ρ, I, q⟩ => ⟨S, γ, ρ, I, h.mono (fun _ g => g) q⟩, fun m q => h.mono (fun _ g => m _ g) q⟩
theorem pdw_and1 {t : DT} {pos} (h : PDT X c x t) : PDW X c (.BoolOp .And [x] pos) t := ⟨pw_and1 h.run, h.mono⟩
theorem pdw_or1 {t : DT} {pos} (h : PDT X c x t) : PDW X c (.BoolOp .Or [x] pos) t := ⟨pw_or1 h.run, h.mono⟩
theorem pdw_and {t u : DT} {rest : List Expr} {pos} (h : PDT X c x t) (h2 : PDW X c (.BoolOp .And (x2 :: rest) pos) u) : PDW X c (.BoolOp .And (x :: x2 :: rest) pos) (dtAnd t u) :=
  ⟨pw_weak (pw_and h.run h2.run) fun σ H Q ⟨S, γ, ρ, I, q⟩ => ⟨S, γ, ρ, I, h.mono (fun b g S1 H1 st1 I1 => ifMono (fun g => ⟨S1, γ, ρ, I1, h2.mono (fun b g S2 H2 st2 I2 => g S2 H2 (st1.trans I1.h.w I2.h.w st2) I2) g⟩) (fun g => g S1 H1 st1 I1) g) q⟩,
   fun m q => h.mono (fun b g => ifMono (fun g => h2.mono m g) (m _) g) q⟩
theorem pdw_or {t u : DT} {rest : List Expr} {pos} (h : PDT X c x t) (h2 : PDW X c (.BoolOp .Or (x2 :: rest) pos) u) : PDW X c (.BoolOp .Or (x :: x2 :: rest) pos) (dtOr t u) :=
  ⟨pw_weak (pw_or h.run h2.run) fun σ H Q ⟨S, γ, ρ, I, q⟩ => ⟨S, γ, ρ, I, h.mono (fun b g S1 H1 st1 I1 => ifMono (fun g => g S1 H1 st1 I1) (fun g => ⟨S1, γ, ρ, I1, h2.mono (fun b g S2 H2 st2 I2 => g S2 H2 (st1.trans I1.h.w I2.h.w st2) I2) g⟩) g) q⟩,
   fun m q => h.mono (fun b g => ifMono (m _) (fun g => h2.mono m g) g) q⟩
theorem pdw_t {t : DT} (h : PDW X c x t) : PDT X c x t := ⟨PW.pt h.run, h.mono⟩
/-! as values -/
def deNot (e : DE) : DE := fun ρ Q => e ρ fun av => ∃ b, av = .d (.bool b) ∧ Q (.d (.bool !b))
def deAnd (e f : DE) : DE := fun ρ Q => e ρ fun av => ∃ b, av = .d (.bool b) ∧ if b = true then f ρ Q else Q (.d (.bool false))
def deOr (e f : DE) : DE := fun ρ Q => e ρ fun av => ∃ b, av = .d (.bool b) ∧ if b = true then Q (.d (.bool true)) else f ρ Q
def deIf (t : DT) (e f : DE) : DE := fun ρ Q => t ρ fun b => if b = true then e ρ Q else f ρ Q
theorem pd_not {pos} (h : PD X c x a) : PD X c (.UnaryOp .Not x pos) (deNot a) :=
  ⟨pe_weak (pe_not h.run) fun σ H Q ⟨S, γ, ρ, I, q⟩ => ⟨S, γ, ρ, I, h.mono (fun _ ⟨b, e, g⟩ S1 v H1 st1 I1 r1 => by subst e; exact ⟨b, r1, g S1 _ H1 st1 I1 rfl⟩) q⟩, fun m q => h.mono (fun _ ⟨b, e, g⟩ => ⟨b, e, m _ g⟩) q⟩
theorem pd_one {op pos} (h : PD X c x a) : PD X c (.BoolOp op [x] pos) a := ⟨pe_one h.run, h.mono⟩
theorem pd_and {rest : List Expr} {pos} (h : PD X c x a) (h2 : PD X c (.BoolOp .And (x2 :: rest) pos) b) : PD X c (.BoolOp .And (x :: x2 :: rest) pos) (deAnd a b) :=
  ⟨pe_weak (pe_and h.run h2.run) fun σ H Q ⟨S, γ, ρ, I, q⟩ => ⟨S, γ, ρ, I, h.mono (fun _ ⟨b, e, g⟩ S1 v H1 st1 I1 r1 => by subst e; exact ⟨b, r1, ifMono (fun g => ⟨S1, γ, ρ, I1, h2.mono (fun _ g S2 w H2 st2 I2 r2 => g S2 w H2 (st1.trans I1.h.w I2.h.w st2) I2 r2) g⟩) (fun g => g S1 _ H1 st1 I1 rfl) g⟩) q⟩,
   fun m q => h.mono (fun _ ⟨b, e, g⟩ => ⟨b, e, ifMono (fun g => h2.mono m g) (m _) g⟩) q⟩
theorem pd_or {rest : List Expr} {pos} (h : PD X c x a) (h2 : PD X c (.BoolOp .Or (x2 :: rest) pos) b) : PD X c (.BoolOp .Or (x :: x2 :: rest) pos) (deOr a b) :=
  ⟨pe_weak (pe_or h.run h2.run) fun σ H Q ⟨S, γ, ρ, I, q⟩ => ⟨S, γ, ρ, I, h.mono (fun _ ⟨b, e, g⟩ S1 v H1 st1 I1 r1 => by subst e; exact ⟨b, r1, ifMono (fun g => g S1 _ H1 st1 I1 rfl) (fun g => ⟨S1, γ, ρ, I1, h2.mono (fun _ g S2 w H2 st2 I2 r2 => g S2 w H2 (st1.trans I1.h.w I2.h.w st2) I2 r2) g⟩) g⟩) q⟩,
   fun m q => h.mono (fun _ ⟨b, e, g⟩ => ⟨b, e, ifMono (m _) (fun g => h2.mono m g) g⟩) q⟩
theorem pd_if {t : DT} {x3 : Expr} {pos} (h : PDT X c x t) (h1 : PD X c x2 a) (h2 : PD X c x3 b) : PD X c (.IfExp x x2 x3 pos) (deIf t a b) :=
  ⟨pe_weak (pe_ifExp h.run h1.run h2.run) fun σ H Q ⟨S, γ, ρ, I, q⟩ => ⟨S, γ, ρ, I, h.mono (fun b g S1 H1 st1 I1 => ifMono (fun g => ⟨S1, γ, ρ, I1, h1.mono (fun _ g S2 w H2 st2 I2 r2 => g S2 w H2 (st1.trans I1.h.w I2.h.w st2) I2 r2) g⟩) (fun g => ⟨S1, γ, ρ, I1, h2.mono (fun _ g S2 w H2 st2 I2 r2 => g S2 w H2 (st1.trans I1.h.w I2.h.w st2) I2 r2) g⟩) g) q⟩,
   fun m q => h.mono (fun _ g => ifMono (fun g => h1.mono m g) (fun g => h2.mono m g) g) q⟩
end
end

/-! ### operators by data -/
def cutL {α : Type} (xs : List α) (lo hi : Option Int) : List α := (xs.drop (HT.sIx xs.length 0 lo)).take (HT.sIx xs.length xs.length hi - HT.sIx xs.length 0 lo)
def kI (C : Int → Int → Prop) (g : Int → Int → PyData) : Av → Av → (Av → Prop) → Prop := fun x y Q => ∃ i j, x = .d (.int i) ∧ y = .d (.int j) ∧ C i j ∧ Q (.d (g i j))
def kI0 (g : Int → Int → PyData) : Av → Av → (Av → Prop) → Prop := fun x y Q => ∃ i j, x = .d (.int i) ∧ y = .d (.int j) ∧ Q (.d (g i j))
def kU (g : Int → PyData) : Av → (Av → Prop) → Prop := fun x Q => ∃ i, x = .d (.int i) ∧ Q (.d (g i))
def kEq : Av → Av → (Av → Prop) → Prop := fun x y Q => ∃ d e, x.dat = some d ∧ y.dat = some e ∧ SeqAt.shaped d = true ∧ SeqAt.shaped e = true ∧ Q (.d (.bool (PyData.eqv d e)))
def kNe : Av → Av → (Av → Prop) → Prop := fun x y Q => ∃ d e, x.dat = some d ∧ y.dat = some e ∧ SeqAt.shaped d = true ∧ SeqAt.shaped e = true ∧ Q (.d (.bool (!PyData.eqv d e)))
def kIn : Av → Av → (Av → Prop) → Prop := fun x y Q => ∃ d ds, x.dat = some d ∧ y.seq = some ds ∧ SeqAt.shaped d = true ∧ SeqAt.shaped (.list ds) = true ∧ Q (.d (.bool (ds.any fun z => PyData.eqv z d)))
def kNotIn : Av → Av → (Av → Prop) → Prop := fun x y Q => ∃ d ds, x.dat = some d ∧ y.seq = some ds ∧ SeqAt.shaped d = true ∧ SeqAt.shaped (.list ds) = true ∧ Q (.d (.bool (!ds.any fun z => PyData.eqv z d)))
def isNo : PyData → Bool
  | .none => true
  | _ => false
def kIsN : Av → Av → (Av → Prop) → Prop := fun x y Q => ∃ d, x = .d d ∧ y = .d .none ∧ Q (.d (.bool (isNo d)))
def kNotN : Av → Av → (Av → Prop) → Prop := fun x y Q => ∃ d, x = .d d ∧ y = .d .none ∧ Q (.d (.bool (!isNo d)))
def kIx : Av → Av → (Av → Prop) → Prop := fun x y Q => ∃ ds i d, x.seq = some ds ∧ y = .d (.int i) ∧ atI ds i = some d ∧ Q (.d d)
def kCat : Av → Av → (List PyData → Prop) → Prop := fun x y Q => ∃ ds es, x.dat = some (.list ds) ∧ y.dat = some (.list es) ∧ ds.length + es.length ≤ 1000 ∧ Q (ds ++ es)
def kCatT : Av → Av → (Av → Prop) → Prop := fun x y Q => ∃ ds es, x = .d (.tuple ds) ∧ y = .d (.tuple es) ∧ ds.length + es.length ≤ 1000 ∧ Q (.d (.tuple (ds ++ es)))
def kCatS : Av → Av → (Av → Prop) → Prop := fun x y Q => ∃ s t : Str, x = .d (.str s) ∧ y = .d (.str t) ∧ s.length + t.length ≤ sizeLine ∧ Q (.d (.str (s ++ t)))
def kLen : List Av → (Av → Prop) → Prop := fun xs Q => ∃ x ds, xs = [x] ∧ x.seq = some ds ∧ Q (.d (.int ds.length))
def kInt : List Av → (Av → Prop) → Prop := fun xs Q => (∃ i, xs = [.d (.int i)] ∧ Q (.d (.int i))) ∨ ∃ b, xs = [.d (.bool b)] ∧ Q (.d (.int (if b then 1 else 0)))
def kListOf : List Av → (List PyData → Prop) → Prop := fun xs Q => ∃ x ds, xs = [x] ∧ x.seq = some ds ∧ Q ds
def kTupOf : List Av → (Av → Prop) → Prop := fun xs Q => ∃ x ds, xs = [x] ∧ x.dat = some (.list ds) ∧ Q (.d (.tuple ds))
def kAll : List Av → (Av → Prop) → Prop := fun xs Q => ∃ (x : Av) (bs : List Bool), xs = [x] ∧ x.dat = some (.list (bs.map PyData.bool)) ∧ Q (.d (.bool (bs.all id)))
def kAny : List Av → (Av → Prop) → Prop := fun xs Q => ∃ (x : Av) (bs : List Bool), xs = [x] ∧ x.dat = some (.list (bs.map PyData.bool)) ∧ Q (.d (.bool (bs.any id)))
def kSum : List Av → (Av → Prop) → Prop := fun xs Q => ∃ (x : Av) (ns : List Int), xs = [x] ∧ x.dat = some (.list (ns.map PyData.int)) ∧ Q (.d (.int ns.sum))
section
variable {K : PySem.W.Frag} {c : DC} {S S' : Addr → Prop} {H H' : Hp} {γ : List Gh} {ρ : DEnv} {σ : L2.St}
theorem AvR.dat_tr {x : Av} {v : V} {d : PyData} (r : AvR c S H x v) (e : x.dat = some d) : ∃ S1, Tr S1 H d v := by
  cases x with
  | d y => cases e; exact ⟨S, r⟩
  | v y => cases e
  | o ds =>
    cases e
    obtain ⟨D, xs, e, l, t, _⟩ := r
    exact ⟨fun _ => True, D, xs, e, True.intro, l, TrAll.mono (fun _ _ => True.intro) _ _ t⟩
theorem AvR.dp {x : Av} {v : V} {d : PyData} (r : AvR c S H x v) (e : x.dat = some d) (h : SeqAt.shaped d = true) : Dp K H v d := by
  obtain ⟨S1, t⟩ := r.dat_tr e
  exact Tr.dp d v (SeqAt.canLay_of_shaped h) t
theorem AvR.seq {x : Av} {v : V} {ds : List PyData} (r : AvR c S H x v) (e : x.seq = some ds) : ∃ a xs, v = .ref a ∧ (H a = some (.lst xs) ∨ H a = some (.tup xs)) ∧ TrAll S H ds xs := by
  cases x with
  | v y => cases e
  | o es =>
    cases e
    obtain ⟨D, xs, e, l, t, _⟩ := r
    exact ⟨D, xs, e, .inl l, t⟩
  | d y =>
    cases y with
    | list es => cases e; obtain ⟨D, xs, e, _, l, t⟩ := r; exact ⟨D, xs, e, .inl l, t⟩
    | tuple es => cases e; obtain ⟨D, xs, e, l, t⟩ := r; exact ⟨D, xs, e, .inr l, t⟩
    | _ => cases e
theorem AvR.lst {x : Av} {v : V} {ds : List PyData} (r : AvR c S H x v) (e : x.dat = some (.list ds)) : ∃ a xs, v = .ref a ∧ H a = some (.lst xs) ∧ TrAll S H ds xs := by
  cases x with
  | v y => cases e
  | o es => cases e; obtain ⟨D, xs, e, l, t, _⟩ := r; exact ⟨D, xs, e, l, t⟩
  | d y => cases e; obtain ⟨D, xs, e, _, l, t⟩ := r; exact ⟨D, xs, e, l, t⟩
theorem AvR.tup {v : V} {ds : List PyData} (r : AvR c S H (.d (.tuple ds)) v) : ∃ a xs, v = .ref a ∧ H a = some (.tup xs) ∧ TrAll S H ds xs := by
  obtain ⟨D, xs, e, l, t⟩ := r
  exact ⟨D, xs, e, l, t⟩
theorem sqv {a : Addr} {xs : List V} (h : H a = some (.lst xs) ∨ H a = some (.tup xs)) : SqL K H a xs ∨ SqT K H a xs := h.elim (fun h => .inl (SqL.of h)) fun h => .inr (SqT.of h)
theorem TrAll.atI {ds : List PyData} {xs : List V} {i : Int} {d : PyData} (t : TrAll S H ds xs) (e : atI ds i = some d) : ∃ x, atI xs i = some x ∧ Tr S H d x := by
  unfold L2.atI at e ⊢
  rw [t.len]
  cases hn : ixN ds.length i with
  | none => rw [hn] at e; cases e
  | some j =>
    rw [hn] at e
    obtain ⟨x, h1, h2⟩ := t.get' (i := j) e
    exact ⟨x, h1, h2⟩
theorem TrAll.bools : ∀ {bs : List Bool} {us : List V}, TrAll S H (bs.map PyData.bool) us → us = bs.map V.bl
  | [], us, h => h
  | n :: r, us, ⟨x, q, e, t, h⟩ => by
    cases t
    rw [e, h.bools]
    rfl
theorem dk_rI0 {g : Int → Int → V} {gd : Int → Int → PyData} (hg : ∀ i j S H, Tr S H (gd i j) (g i j)) : DOp c (rI0 g) (kI0 gd) :=
  ⟨fun I rx ry ⟨i, j, e1, e2, q⟩ g => by subst e1 e2; exact ⟨i, j, rx, ry, g _ _ _ _ q Step.refl I (hg i j _ _)⟩, fun m ⟨i, j, e1, e2, q⟩ => ⟨i, j, e1, e2, m _ q⟩⟩
theorem dk_rI {C : Int → Int → Prop} {g : Int → Int → V} {gd : Int → Int → PyData} (hg : ∀ i j S H, Tr S H (gd i j) (g i j)) : DOp c (rI C g) (kI C gd) :=
  ⟨fun I rx ry ⟨i, j, e1, e2, hc, q⟩ g => by subst e1 e2; exact ⟨i, j, rx, ry, hc, g _ _ _ _ q Step.refl I (hg i j _ _)⟩, fun m ⟨i, j, e1, e2, hc, q⟩ => ⟨i, j, e1, e2, hc, m _ q⟩⟩
theorem dk_i0 {g : Int → Int → Int} : DOp c (rI0 fun i j => .int (g i j)) (kI0 fun i j => .int (g i j)) := dk_rI0 fun _ _ _ _ => rfl
theorem dk_b0 {g : Int → Int → Bool} : DOp c (rI0 fun i j => .bl (g i j)) (kI0 fun i j => .bool (g i j)) := dk_rI0 fun _ _ _ _ => rfl
theorem dk_i {C : Int → Int → Prop} {g : Int → Int → Int} : DOp c (rI C fun i j => .int (g i j)) (kI C fun i j => .int (g i j)) := dk_rI fun _ _ _ _ => rfl
theorem dk_u {g : Int → Int} : DUn c (rU fun i => .int (g i)) (kU fun i => .int (g i)) := ⟨fun I rx ⟨i, e, q⟩ g => by subst e; exact ⟨i, rx, g _ _ _ _ q Step.refl I rfl⟩, fun m ⟨i, e, q⟩ => ⟨i, e, m _ q⟩⟩
theorem dk_eq : DOp c (rEqD K) kEq := ⟨fun I rx ry ⟨d, e, h1, h2, s1, s2, q⟩ g => ⟨d, e, rx.dp h1 s1, ry.dp h2 s2, s1, s2, g _ _ _ _ q Step.refl I rfl⟩, fun m ⟨d, e, h1, h2, s1, s2, q⟩ => ⟨d, e, h1, h2, s1, s2, m _ q⟩⟩
theorem dk_ne : DOp c (rNeD K) kNe := ⟨fun I rx ry ⟨d, e, h1, h2, s1, s2, q⟩ g => ⟨d, e, rx.dp h1 s1, ry.dp h2 s2, s1, s2, g _ _ _ _ q Step.refl I rfl⟩, fun m ⟨d, e, h1, h2, s1, s2, q⟩ => ⟨d, e, h1, h2, s1, s2, m _ q⟩⟩
theorem sh_lt {ds : List PyData} (h : SeqAt.shaped (.list ds) = true) : SeqAt.shaped (.tuple ds) = true := by
  simpa [SeqAt.shaped, PyData.canLay0, PyData.depth] using h
def rInA (K : PySem.W.Frag) : R2 := fun x y H Q => rInD K x y H Q ∨ rInDT K x y H Q
def rNotInDT (K : PySem.W.Frag) : R2 := fun x y H Q => ∃ d ds, Dp K H x d ∧ Dp K H y (.tuple ds) ∧ SeqAt.shaped d = true ∧ SeqAt.shaped (.tuple ds) = true ∧ Q (.bl (!ds.any fun z => PyData.eqv z d)) H
theorem in_dp {av : Av} {v : V} {ds : List PyData} (r : AvR c S H av v) (e : av.seq = some ds) (h : SeqAt.shaped (.list ds) = true) : Dp K H v (.list ds) ∨ Dp K H v (.tuple ds) := by
  cases av with
  | v y => cases e
  | o es => cases e; exact .inl (r.dp rfl h)
  | d y =>
    cases y with
    | list es => cases e; exact .inl (r.dp rfl h)
    | tuple es => cases e; exact .inr (r.dp rfl (sh_lt h))
    | _ => cases e
theorem dk_in : DOp c (rInA K) kIn := ⟨fun I rx ry ⟨d, ds, h1, h2, s1, s2, q⟩ g => (in_dp ry h2 s2).elim (fun z => .inl ⟨d, ds, rx.dp h1 s1, z, s1, s2, g _ _ _ _ q Step.refl I rfl⟩) fun z => .inr ⟨d, ds, rx.dp h1 s1, z, s1, sh_lt s2, g _ _ _ _ q Step.refl I rfl⟩,
  fun m ⟨d, e, h1, h2, s1, s2, q⟩ => ⟨d, e, h1, h2, s1, s2, m _ q⟩⟩
theorem isNo_tr {d : PyData} {v : V} (t : Tr S H d v) : decide (v = .non) = isNo d := by
  cases d with
  | none => cases t; rfl
  | bool b => cases t; rfl
  | int b => cases t; rfl
  | str b => cases t; rfl
  | list b => obtain ⟨_, _, e, _⟩ := t; subst e; rfl
  | tuple b => obtain ⟨_, _, e, _⟩ := t; subst e; rfl
  | dict b => obtain ⟨_, _, e, _⟩ := t; subst e; rfl
theorem dk_isN : DOp c (fun x y H Q => y = .non ∧ Q (.bl (decide (x = .non))) H) kIsN := ⟨fun I rx ry ⟨d, e1, e2, q⟩ g => by subst e1 e2; exact ⟨ry, by rw [isNo_tr rx]; exact g _ _ _ _ q Step.refl I rfl⟩, fun m ⟨d, e1, e2, q⟩ => ⟨d, e1, e2, m _ q⟩⟩
theorem dk_notN : DOp c (fun x y H Q => y = .non ∧ Q (.bl (!decide (x = .non))) H) kNotN := ⟨fun I rx ry ⟨d, e1, e2, q⟩ g => by subst e1 e2; exact ⟨ry, by rw [isNo_tr rx]; exact g _ _ _ _ q Step.refl I rfl⟩, fun m ⟨d, e1, e2, q⟩ => ⟨d, e1, e2, m _ q⟩⟩
theorem dk_ix : DOp c (rIx K) kIx := ⟨fun I rx ry ⟨ds, i, d, h1, h2, h3, q⟩ g => by
    subst h2
    obtain ⟨a, xs, e, h, t⟩ := rx.seq h1
    obtain ⟨x, hx, tx⟩ := t.atI h3
    exact h.elim (fun h => .inl ⟨a, xs, i, x, e, ry, SqL.of h, hx, g _ _ _ _ q Step.refl I tx⟩) fun h => .inr (.inl ⟨a, xs, i, x, e, ry, SqT.of h, hx, g _ _ _ _ q Step.refl I tx⟩),
  fun m ⟨ds, i, d, h1, h2, h3, q⟩ => ⟨ds, i, d, h1, h2, h3, m _ q⟩⟩
/-- a new list at a free place -/
theorem GN.at {ρ : DEnv} {P : List PyData → Prop} {Q : VK} (g : GN c S γ ρ σ H P Q) (I : DInv c S γ ρ σ H) {ds : List PyData} {xs : List V} {p : Addr} (q : P ds) (t : TrAll S H ds xs) (np : H p = none) : Q (.ref p) (upd H p (.lst xs)) :=
  g ds S p xs _ q (Step.same (same_upd np)) (I.newO np) upd_same (t.same (same_upd np)) np fun s => I.h.trk p s np
theorem GE.tup {ρ : DEnv} {P : Av → Prop} {Q : VK} (g : GE c S γ ρ σ H P Q) (I : DInv c S γ ρ σ H) {ds : List PyData} {xs : List V} {p : Addr} (q : P (.d (.tuple ds))) (t : TrAll S H ds xs) (np : H p = none) : Q (.ref p) (upd H p (.tup xs)) :=
  g _ S (.ref p) _ q (Step.same (same_upd np)) (I.newO np) ⟨p, xs, rfl, upd_same, t.same (same_upd np)⟩
theorem dk_cat : DOpN c rCat kCat := ⟨fun I rx ry ⟨ds, es, h1, h2, hl, q⟩ g => by
    obtain ⟨a, xs, e, l, t⟩ := rx.lst h1
    obtain ⟨b, ys, e2, l2, t2⟩ := ry.lst h2
    exact ⟨a, b, xs, ys, e, e2, l, l2, small100 (by rw [t.len, t2.len]; exact hl), fun p np => g.at I q (t.append t2) np⟩,
  fun m ⟨ds, es, h1, h2, hl, q⟩ => ⟨ds, es, h1, h2, hl, m _ q⟩⟩
theorem dk_catT : DOp c (rCatA K) kCatT := ⟨fun I rx ry ⟨ds, es, h1, h2, hl, q⟩ g => by
    subst h1 h2
    obtain ⟨a, xs, e, l, t⟩ := rx.tup
    obtain ⟨b, ys, e2, l2, t2⟩ := ry.tup
    have lx := t.len
    have ly := t2.len
    refine ⟨a, b, xs, ys, e, e2, SqT.of l, SqT.of l2, small100 (by rw [t.len, t2.len]; exact hl), fun z => ?_, fun _ z => ?_, fun _ _ p np => g.tup I q (t.append t2) np⟩
    · subst z
      have : ds = [] := List.length_eq_zero_iff.mp lx.symm
      subst this
      exact g _ _ _ _ q Step.refl I ⟨b, ys, rfl, l2, t2⟩
    · subst z
      have : es = [] := List.length_eq_zero_iff.mp ly.symm
      subst this
      rw [List.append_nil] at q
      exact g _ _ _ _ q Step.refl I ⟨a, xs, rfl, l, t⟩,
  fun m ⟨ds, es, h1, h2, hl, q⟩ => ⟨ds, es, h1, h2, hl, m _ q⟩⟩
theorem dk_catS : DOp c (fun x y H Q => ∃ i j : Str, x = .str i ∧ y = .str j ∧ i.length + j.length ≤ sizeLine ∧ Q (.str (i ++ j)) H) kCatS :=
  ⟨fun I rx ry ⟨s, t, h1, h2, hl, q⟩ g => by subst h1 h2; exact ⟨s, t, rx, ry, hl, g _ _ _ _ q Step.refl I rfl⟩, fun m ⟨s, t, h1, h2, hl, q⟩ => ⟨s, t, h1, h2, hl, m _ q⟩⟩
theorem AvsR.one {x : Av} {vs : List V} (r : AvsR c S H [x] vs) : ∃ v, vs = [v] ∧ AvR c S H x v := by
  obtain ⟨v, us, e, r1, r2⟩ := r
  cases r2
  exact ⟨v, e, r1⟩
theorem dk_len : DCl c (rLenA K) kLen := ⟨fun I r ⟨x, ds, e, h, q⟩ g => by
    subst e
    obtain ⟨v, e2, r1⟩ := r.one
    subst e2
    obtain ⟨a, xs, e, h, t⟩ := r1.seq h
    subst e
    exact ⟨a, xs, rfl, sqv h, by rw [t.len]; exact g _ _ _ _ q Step.refl I rfl⟩,
  fun m ⟨x, ds, e, h, q⟩ => ⟨x, ds, e, h, m _ q⟩⟩
theorem dk_int : DCl c (fun xs H Q => (∃ i, xs = [V.int i] ∧ Q (.int i) H) ∨ ∃ k : Bool, xs = [.bl k] ∧ Q (.int (if k then 1 else 0)) H) kInt := ⟨fun I r h g => by
    rcases h with ⟨i, e, q⟩ | ⟨b, e, q⟩
    · subst e
      obtain ⟨v, e2, r1⟩ := r.one
      subst e2
      cases r1
      exact .inl ⟨i, rfl, g _ _ _ _ q Step.refl I rfl⟩
    · subst e
      obtain ⟨v, e2, r1⟩ := r.one
      subst e2
      cases r1
      exact .inr ⟨b, rfl, g _ _ _ _ q Step.refl I rfl⟩,
  fun m h => h.elim (fun ⟨i, e, q⟩ => .inl ⟨i, e, m _ q⟩) fun ⟨i, e, q⟩ => .inr ⟨i, e, m _ q⟩⟩
theorem dk_listOf : DClN c (rListL K) kListOf := ⟨fun I r ⟨x, ds, e, h, q⟩ g => by
    subst e
    obtain ⟨v, e2, r1⟩ := r.one
    subst e2
    obtain ⟨a, xs, e, h, t⟩ := r1.seq h
    subst e
    exact ⟨a, xs, rfl, sqv h, fun p np => g.at I q t np⟩,
  fun m ⟨x, ds, e, h, q⟩ => ⟨x, ds, e, h, m _ q⟩⟩
theorem dk_tupOf : DCl c (rTupL K) kTupOf := ⟨fun I r ⟨x, ds, e, h, q⟩ g => by
    subst e
    obtain ⟨v, e2, r1⟩ := r.one
    subst e2
    obtain ⟨a, xs, e, h, t⟩ := r1.lst h
    subst e
    exact ⟨a, xs, rfl, SqL.of h, fun p np => g.tup I q t np⟩,
  fun m ⟨x, ds, e, h, q⟩ => ⟨x, ds, e, h, m _ q⟩⟩
theorem dk_all : DCl c (rAll K) kAll := ⟨fun I r ⟨x, bs, e, h, q⟩ g => by
    subst e
    obtain ⟨v, e2, r1⟩ := r.one
    subst e2
    obtain ⟨a, xs, e, h, t⟩ := r1.lst h
    subst e
    exact ⟨a, bs, rfl, by rw [← t.bools]; exact SqL.of h, g _ _ _ _ q Step.refl I rfl⟩,
  fun m ⟨x, ds, e, h, q⟩ => ⟨x, ds, e, h, m _ q⟩⟩
theorem dk_any : DCl c (rAny K) kAny := ⟨fun I r ⟨x, bs, e, h, q⟩ g => by
    subst e
    obtain ⟨v, e2, r1⟩ := r.one
    subst e2
    obtain ⟨a, xs, e, h, t⟩ := r1.lst h
    subst e
    exact ⟨a, bs, rfl, by rw [← t.bools]; exact SqL.of h, g _ _ _ _ q Step.refl I rfl⟩,
  fun m ⟨x, ds, e, h, q⟩ => ⟨x, ds, e, h, m _ q⟩⟩
theorem dk_sum : DCl c (rSum K) kSum := ⟨fun I r ⟨x, bs, e, h, q⟩ g => by
    subst e
    obtain ⟨v, e2, r1⟩ := r.one
    subst e2
    obtain ⟨a, xs, e, h, t⟩ := r1.lst h
    subst e
    exact ⟨a, bs, rfl, by rw [← t.ints]; exact SqL.of h, g _ _ _ _ q Step.refl I rfl⟩,
  fun m ⟨x, ds, e, h, q⟩ => ⟨x, ds, e, h, m _ q⟩⟩
end
section
variable (K : PySem.W.Frag) {X : Cx}
theorem k_catA (hK : X.K = K := by rfl) : OpR X (binaryOp .Add) (rCatA K) := hK ▸ op_catA
theorem k_slA (hK : X.K = K := by rfl) : SlR X (rSlA K) := hK ▸ sl_tupA
theorem k_any (hK : X.K = K := by rfl) (hc : X.calm = true := by rfl) : CallR X (.builtin "any") (rAny K) := hK ▸ cr_any hc
theorem OpR.or {f : Value → Value → Sem Value} {r r' : R2} (h : OpR X f r) (h' : OpR X f r') : OpR X f (fun x y H Q => r x y H Q ∨ r' x y H Q) := fun pins s σ H x y v u Q I rx ry q => q.elim (h pins s σ H x y v u Q I rx ry) (h' pins s σ H x y v u Q I rx ry)
theorem k_inA (hu : X.A.units + 65 < cLine) (hK : X.K = K := by rfl) : OpR X (compareOp .In) (rInA K) := OpR.or (k_inD K hu hK) (k_inDT K hu hK)
end

--SPLIT
/-! ### targets, comprehensions, statements -/
def dwipe (ρ : DEnv) : List Nat → DEnv
  | [] => ρ
  | v :: vs => (dwipe ρ vs).set v none
theorem dwipe_len (ρ : DEnv) : ∀ vs, (dwipe ρ vs).length = ρ.length
  | [] => rfl
  | v :: vs => by rw [dwipe, List.length_set, dwipe_len ρ vs]
theorem dwipe_get : ∀ {vs : List Nat} {ρ : DEnv} {i : Nat} {x : Av}, (dwipe ρ vs)[i]? = some (some x) → ρ[i]? = some (some x) ∧ i ∉ vs
  | [], ρ, i, x, h => ⟨h, by simp⟩
  | v :: vs, ρ, i, x, h => by
    rw [dwipe] at h
    by_cases e : v = i
    · subst e
      by_cases hl : v < (dwipe ρ vs).length
      · rw [List.getElem?_set_self hl] at h
        cases h
      · rw [List.getElem?_eq_none (by rw [List.length_set]; omega)] at h
        cases h
    · rw [List.getElem?_set_ne e] at h
      obtain ⟨h1, h2⟩ := dwipe_get h
      exact ⟨h1, fun z => (List.mem_cons.mp z).elim (fun z => e z.symm) h2⟩
abbrev DG := PyData → DEnv → (DEnv → Prop) → Prop
abbrev DGs := List PyData → DEnv → (DEnv → Prop) → Prop
def dgName (i : Nat) : DG := fun d ρ Q => Q (ρ.set i (some (.d d)))
def dgNil : DGs := fun ds ρ Q => ds = [] ∧ Q ρ
def dgCons (g : DG) (gs : DGs) : DGs := fun ds ρ Q => ∃ x r, ds = x :: r ∧ g x ρ fun ρ' => gs r ρ' Q
def dgTup (n : Nat) (gs : DGs) : DG := fun d ρ Q => ∃ ds, d = .tuple ds ∧ ds.length = n ∧ gs ds ρ Q
def dgLst (n : Nat) (gs : DGs) : DG := fun d ρ Q => ∃ ds, d = .list ds ∧ ds.length = n ∧ gs ds ρ Q
def tDG (c : DC) (vs : List Nat) (g : DG) : TG := fun v σ H Q => ∃ S γ ρ d, DInv c S γ ρ σ H ∧ Tr S H d v ∧ g d ρ fun ρ' => ∀ σ', wipe σ' vs = wipe σ vs → DInv c S γ ρ' σ' H → Q σ' H
def tDGs (c : DC) (vs : List Nat) (g : DGs) : TGs := fun us σ H Q => ∃ S γ ρ ds, DInv c S γ ρ σ H ∧ TrAll S H ds us ∧ g ds ρ fun ρ' => ∀ σ', wipe σ' vs = wipe σ vs → DInv c S γ ρ' σ' H → Q σ' H
structure PDG (X : Cx) (c : DC) (vs : List Nat) (x : Expr) (g : DG) : Prop where
  run : PG X x (tDG c vs g)
  mono : ∀ {d ρ P P'}, (∀ ρ, P ρ → P' ρ) → g d ρ P → g d ρ P'
structure PDGs (X : Cx) (c : DC) (vs : List Nat) (x : List Expr) (g : DGs) : Prop where
  run : PGs X x (tDGs c vs g)
  mono : ∀ {d ρ P P'}, (∀ ρ, P ρ → P' ρ) → g d ρ P → g d ρ P'
structure PDTs (X : Cx) (c : DC) (x : List Expr) (e : DT) : Prop where
  run : PTs X x (tDT c e)
  mono : ∀ {ρ P P'}, (∀ av, P av → P' av) → e ρ P → e ρ P'
structure DWalk (c : DC) (J : It) (gs : List Gh) (ds : List PyData) : Prop where
  ex : ∃ G Y, Walk J ds.length G Y ∧ (∀ S H, DH c S H → (∀ g ∈ gs, GhR S H g) → G H) ∧ ∀ i S H v H', DH c S H → (∀ g ∈ gs, GhR S H g) → i < ds.length → Y i H v H' → ∃ d, ds[i]? = some d ∧ Same H H' ∧ Tr S H' d v
structure PDI (X : Cx) (c : DC) (tg iter : Expr) (wi : TI) (xs : DN) : Prop where
  pi : PI X tg iter wi
  run : ∀ {S γ ρ σ H P R}, DInv c S γ ρ σ H → xs ρ P → (∀ ds S' H' J gs, P ds → Step c S H S' H' → DInv c S' γ ρ σ H' → (∀ g ∈ gs, GhR S' H' g) → DWalk c J gs ds → R J H') → wi σ H R
  mono : ∀ {ρ P P'}, (∀ av, P av → P' av) → xs ρ P → xs ρ P'
structure DEnds where
  nx : DEnv → Prop
  rt : Av → Prop
  bk : DEnv → Prop
  ct : DEnv → Prop
structure DEnds.Le (E E' : DEnds) : Prop where
  nx : ∀ ρ, E.nx ρ → E'.nx ρ
  rt : ∀ a, E.rt a → E'.rt a
  bk : ∀ ρ, E.bk ρ → E'.bk ρ
  ct : ∀ ρ, E.ct ρ → E'.ct ρ
abbrev DS := DEnds → DEnv → Prop
def dends (c : DC) (γ : List Gh) (D : Ends) : DEnds :=
  ⟨fun ρ => ∀ S σ H, DInv c S γ ρ σ H → D.nx σ H, fun av => ∀ S v H, DH c S H → AvR c S H av v → D.rt v H, fun ρ => ∀ S σ H, DInv c S γ ρ σ H → D.bk σ H, fun ρ => ∀ S σ H, DInv c S γ ρ σ H → D.ct σ H⟩
def tDS (c : DC) (s : DS) : TS := fun D σ H => ∃ S γ ρ, DInv c S γ ρ σ H ∧ s (dends c γ D) ρ
structure PDS (X : Cx) (c : DC) (x : Stmt) (s : DS) : Prop where
  run : PS X x (tDS c s)
  mono : ∀ {E E' : DEnds} {ρ}, E.Le E' → s E ρ → s E' ρ
structure PDSs (X : Cx) (c : DC) (x : List Stmt) (s : DS) : Prop where
  run : PSs X x (tDS c s)
  mono : ∀ {E E' : DEnds} {ρ}, E.Le E' → s E ρ → s E' ρ
section
variable {X : Cx} {c : DC} {S S' : Addr → Prop} {H H' : Hp} {γ : List Gh} {ρ : DEnv} {σ : L2.St} {x x2 : Expr} {vs : List Nat}
theorem DInv.put' (I : DInv c S γ ρ σ H) (i : Nat) {d : PyData} {v : V} (r : Tr S H d v) : DInv c S γ (ρ.set i (some (.d d))) (σ.set i (some v)) H := by
  by_cases h : i < ρ.length
  · exact I.put i (av := .d d) h r fun ds e => nomatch e
  · rw [List.set_eq_of_length_le (by omega), List.set_eq_of_length_le (by rw [← I.len]; omega)]
    exact I
theorem DInv.wipe (I : DInv c S γ ρ σ H) (vs : List Nat) : DInv c S γ (dwipe ρ vs) (wipe σ vs) H := by
  refine ⟨I.h, I.gh, by rw [dwipe_len, wipe_length]; exact I.len, fun i av e => ?_, fun i j ds es a e1 e2 e3 e4 => ?_⟩
  · obtain ⟨h1, h2⟩ := dwipe_get e
    obtain ⟨v, h3, h4⟩ := I.ent i av h1
    exact ⟨v, by rw [wipe_get, if_neg h2]; exact h3, h4⟩
  · obtain ⟨h1, n1⟩ := dwipe_get e1
    obtain ⟨h2, n2⟩ := dwipe_get e2
    rw [wipe_get, if_neg n1] at e3
    rw [wipe_get, if_neg n2] at e4
    exact I.sep i j ds es a h1 h2 e3 e4
theorem DInv.ghs (I : DInv c S γ ρ σ H) {gs : List Gh} (h : ∀ g ∈ gs, GhR S H g) : DInv c S (gs ++ γ) ρ σ H := ⟨I.h, fun g m => (List.mem_append.mp m).elim (h g) (I.gh g), I.len, I.ent, I.sep⟩
theorem DInv.unghs {gs : List Gh} (I : DInv c S (gs ++ γ) ρ σ H) : DInv c S γ ρ σ H := ⟨I.h, fun g m => I.gh g (List.mem_append_right _ m), I.len, I.ent, I.sep⟩
/-- a list that no name holds is changed -/
theorem DInv.chgN (I : DInv c S γ ρ σ H) {D : Addr} {xs ys : List V} (hD : H D = some (.lst xs)) (n : c.H0 D = none) (ns : ¬ S D) (ho : ∀ (j : Nat) (ds : List PyData) (a : Addr), ρ[j]? = some (some (.o ds)) → σ[j]? = some (some (.ref a)) → a ≠ D) :
    DInv c S γ ρ σ (upd H D (.lst ys)) := by
  have k2 : KpL (fun a => a = D) H (upd H D (.lst ys)) := KpL.refl.put rfl ⟨_, hD⟩
  have no : ∀ a, S a → ¬ a = D := fun a s e => ns (e ▸ s)
  refine ⟨⟨c.stab H _ (fun b o nb e => ?_) I.h.w, I.h.k.new n, I.h.sub, fun a s => by rw [upd_ne (no a s)]; exact I.h.trk a s⟩, fun g m => ?_, I.len, fun j av e => ?_, I.sep⟩
  · rw [upd_ne (fun z => nb (by rw [z]; exact n))]
    exact e
  · have h := I.gh g m
    cases g with
    | l a vs ds => exact ⟨h.1, k2.at_ h.2.1 (no _ h.1), TrAll.kpl k2 no _ _ h.2.2⟩
    | t a vs ds => exact ⟨k2.tup h.1, TrAll.kpl k2 no _ _ h.2⟩
  · obtain ⟨v, h1, h2⟩ := I.ent j av e
    refine ⟨v, h1, ?_⟩
    cases av with
    | d x => exact Tr.kpl k2 no _ _ h2
    | v x => exact h2
    | o zs =>
      obtain ⟨D2, us, e', l2, t2, n2, ns2⟩ := h2
      subst e'
      exact ⟨D2, us, rfl, k2.at_ l2 (ho j _ _ e h1), TrAll.kpl k2 no _ _ t2, n2, ns2⟩
theorem pdg_name {i : Nat} (h : PG X x (gName i)) (hi : i ∈ vs) : PDG X c vs x (dgName i) :=
  ⟨pg_weak h fun v σ H Q ⟨S, γ, ρ, d, I, t, q⟩ => q _ (wipe_set hi) (I.put' i t), fun m q => m _ q⟩
theorem pgs_weak {es : List Expr} {t t' : TGs} (h : PGs X es t) (w : ∀ v σ H Q, t' v σ H Q → t v σ H Q) : PGs X es t' := ⟨fun pins s σ H v u Q I r q => h.run pins s σ H v u Q I r (w _ _ _ _ q)⟩
theorem pdgs_nil : PDGs X c vs [] dgNil := ⟨pgs_weak pgs_nil fun us σ H Q ⟨S, γ, ρ, ds, I, t, e, q⟩ => by subst e; exact ⟨t, q σ rfl I⟩, fun m ⟨e, q⟩ => ⟨e, m _ q⟩⟩
theorem pdgs_cons {es : List Expr} {g : DG} {gs : DGs} (hp : ∀ {t u}, PG X x t → PGs X es u → PGs X (x :: es) (gCons t u)) (h1 : PDG X c vs x g) (h2 : PDGs X c vs es gs) : PDGs X c vs (x :: es) (dgCons g gs) :=
  ⟨pgs_weak (hp h1.run h2.run) fun us σ H Q ⟨S, γ, ρ, ds, I, t, d, r, e, q⟩ => by
      subst e
      obtain ⟨v, us', e, t1, t2⟩ := t
      exact ⟨v, us', e, S, γ, ρ, d, I, t1, h1.mono (fun ρ' q σ' hw I' => ⟨S, γ, ρ', r, I', t2, h2.mono (fun ρ2 q σ2 hw2 I2 => q σ2 (hw2.trans hw) I2) q⟩) q⟩,
   fun m ⟨d, r, e, q⟩ => ⟨d, r, e, h1.mono (fun _ q => h2.mono m q) q⟩⟩
theorem pdg_tup {K : PySem.W.Frag} {es : List Expr} {gs : DGs} {n : Nat} (hp : ∀ {t}, PGs X es t → PG X x (gTup K n t)) (h : PDGs X c vs es gs) : PDG X c vs x (dgTup n gs) :=
  ⟨pg_weak (hp h.run) fun v σ H Q ⟨S, γ, ρ, d, I, t, ds, e, l, q⟩ => by
      subst e
      obtain ⟨a, xs, e, h, t⟩ := t
      exact ⟨a, xs, e, SqT.of h, by rw [t.len]; exact l, S, γ, ρ, ds, I, t, q⟩,
   fun m ⟨ds, e, l, q⟩ => ⟨ds, e, l, h.mono m q⟩⟩
theorem pdg_lst {K : PySem.W.Frag} {es : List Expr} {gs : DGs} {n : Nat} (hp : ∀ {t}, PGs X es t → PG X x (gUnl K n t)) (h : PDGs X c vs es gs) : PDG X c vs x (dgLst n gs) :=
  ⟨pg_weak (hp h.run) fun v σ H Q ⟨S, γ, ρ, d, I, t, ds, e, l, q⟩ => by
      subst e
      obtain ⟨a, xs, e, _, h, t⟩ := t
      exact ⟨a, xs, e, SqL.of h, by rw [t.len]; exact l, S, γ, ρ, ds, I, t, q⟩,
   fun m ⟨ds, e, l, q⟩ => ⟨ds, e, l, h.mono m q⟩⟩
def dtYes : DT := fun _ Q => Q true
theorem pdts_nil : PDTs X c [] dtYes := ⟨pts_weak pts_nil fun σ H Q ⟨S, γ, ρ, I, q⟩ => q S H Step.refl I, fun m q => m _ q⟩
theorem pdts_one {t : DT} (h : PDT X c x t) : PDTs X c [x] t := ⟨pts_one h.run, h.mono⟩
/-! what is walked -/
def xsL (e : DE) : DN := fun ρ Q => e ρ fun av => ∃ ds, av = .d (.list ds) ∧ Q ds
def xsT (e : DE) : DN := fun ρ Q => e ρ fun av => ∃ ds, av = .d (.tuple ds) ∧ Q ds
def intsFrom (lo : Int) (n : Nat) : List PyData := (List.range n).map fun (k : Nat) => .int (lo + (k : Int))
def xsR1 (a : DA) : DN := fun ρ Q => a ρ fun avs => ∃ j : Int, avs = [.d (.int j)] ∧ -(2 ^ 62) ≤ j ∧ j < 2 ^ 62 ∧ Q (intsFrom 0 j.toNat)
def xsR2 (a : DA) : DN := fun ρ Q => a ρ fun avs => ∃ i j : Int, avs = [.d (.int i), .d (.int j)] ∧ (-(2 ^ 62) ≤ i ∧ i < 2 ^ 62 ∧ -(2 ^ 62) ≤ j ∧ j < 2 ^ 62) ∧ Q (intsFrom i (j - i).toNat)
theorem pdi_list {K : PySem.W.Frag} {tg : Expr} {e : DE} (hp : ∀ {t}, PE X x t → PI X tg x (iList K t)) (he : PD X c x e) : PDI X c tg x (iList K (tDE c e)) (xsL e) :=
  ⟨hp he.run, fun {S γ ρ σ H P R} I q k => ⟨S, γ, ρ, I, he.mono (fun av ⟨ds, ea, q⟩ S1 v H1 st1 I1 r1 => by
      subst ea
      obtain ⟨a, xs, e, s, h, t⟩ := r1
      subst e
      refine ⟨a, rfl, ⟨xs, SqL.of h⟩, k ds S1 H1 _ [.l a xs ds] q st1 I1 (fun g m => ?_) ⟨_, _, t.len ▸ walk_list (xs := xs), fun S H _ hg => ?_, fun i S H v H' hd hg hi y => ?_⟩⟩
      · rw [List.mem_singleton.mp m]
        exact ⟨s, h, t⟩
      · exact SqL.of (hg _ List.mem_cons_self).2.1
      · obtain ⟨e, y⟩ := y
        subst e
        obtain ⟨d, h1, h2⟩ := (hg _ List.mem_cons_self).2.2.get y
        exact ⟨d, h1, Same.refl _, h2⟩) q⟩,
   fun m q => he.mono (fun _ ⟨ds, e, q⟩ => ⟨ds, e, m _ q⟩) q⟩
theorem pdi_tup {K : PySem.W.Frag} {tg : Expr} {e : DE} (hp : ∀ {t}, PE X x t → PI X tg x (iTup K t)) (he : PD X c x e) : PDI X c tg x (iTup K (tDE c e)) (xsT e) :=
  ⟨hp he.run, fun {S γ ρ σ H P R} I q k => ⟨S, γ, ρ, I, he.mono (fun av ⟨ds, ea, q⟩ S1 v H1 st1 I1 r1 => by
      subst ea
      obtain ⟨a, xs, e, h, t⟩ := r1
      subst e
      refine ⟨a, rfl, ⟨xs, SqT.of h⟩, k ds S1 H1 _ [.t a xs ds] q st1 I1 (fun g m => ?_) ⟨_, _, t.len ▸ walk_tup (xs := xs), fun S H _ hg => ?_, fun i S H v H' hd hg hi y => ?_⟩⟩
      · rw [List.mem_singleton.mp m]
        exact ⟨h, t⟩
      · exact SqT.of (hg _ List.mem_cons_self).1
      · obtain ⟨e, y⟩ := y
        subst e
        obtain ⟨d, h1, h2⟩ := (hg _ List.mem_cons_self).2.get y
        exact ⟨d, h1, Same.refl _, h2⟩) q⟩,
   fun m q => he.mono (fun _ ⟨ds, e, q⟩ => ⟨ds, e, m _ q⟩) q⟩
theorem dw_range {lo : Int} {n : Nat} : DWalk c (Itr lo n) [] (intsFrom lo n) := by
  have hl : (intsFrom lo n).length = n := by unfold intsFrom; rw [List.length_map, List.length_range]
  refine ⟨_, YFn fun i => .int (lo + (i : Int)), by rw [hl]; exact walk_range, fun _ _ _ _ => True.intro, fun i S H v H' _ _ hi y => ?_⟩
  obtain ⟨e1, e2⟩ := y
  subst e1 e2
  rw [hl] at hi
  exact ⟨.int (lo + (i : Int)), by unfold intsFrom; rw [List.getElem?_map, List.getElem?_range hi]; rfl, Same.refl _, rfl⟩
theorem AvsR.ints1 {j : Int} {us : List V} (r : AvsR c S H [.d (.int j)] us) : us = [.int j] := by
  obtain ⟨v, e, r⟩ := r.one
  cases r
  exact e
theorem AvsR.ints2 {i j : Int} {us : List V} (r : AvsR c S H [.d (.int i), .d (.int j)] us) : us = [.int i, .int j] := by
  obtain ⟨v, us', e, r, r2⟩ := r
  cases r
  obtain ⟨v2, e2, r2⟩ := AvsR.one r2
  cases r2
  rw [e, e2]
theorem pdi_range1 {tg : Expr} {es : List Expr} {a : DA} (hp : ∀ {t}, PA X es t → PI X tg x (iRng1 t)) (ha : PDA X c es a) : PDI X c tg x (iRng1 (tDA c a)) (xsR1 a) :=
  ⟨hp ha.run, fun {S γ ρ σ H P R} I q k => ⟨S, γ, ρ, I, ha.mono (fun avs ⟨j, e, l1, l2, q⟩ S1 us H1 st1 I1 r1 => by
      subst e
      exact ⟨j, r1.ints1, l1, l2, k _ S1 H1 _ [] q st1 I1 (fun g m => by cases m) dw_range⟩) q⟩,
   fun m q => ha.mono (fun _ ⟨j, e, l1, l2, q⟩ => ⟨j, e, l1, l2, m _ q⟩) q⟩
theorem pdi_range2 {tg : Expr} {es : List Expr} {a : DA} (hp : ∀ {t}, PA X es t → PI X tg x (iRng2 t)) (ha : PDA X c es a) : PDI X c tg x (iRng2 (tDA c a)) (xsR2 a) :=
  ⟨hp ha.run, fun {S γ ρ σ H P R} I q k => ⟨S, γ, ρ, I, ha.mono (fun avs ⟨i, j, e, l, q⟩ S1 us H1 st1 I1 r1 => by
      subst e
      exact ⟨i, j, r1.ints2, l, k _ S1 H1 _ [] q st1 I1 (fun g m => by cases m) dw_range⟩) q⟩,
   fun m q => ha.mono (fun _ ⟨i, j, e, l, q⟩ => ⟨i, j, e, l, m _ q⟩) q⟩
/-! comprehensions -/
def dLc (vs : List Nat) (xs : DN) (g : DG) (t : DT) (e : DE) : DN := fun ρ Q => xs ρ fun ds => ∃ I : Nat → List PyData → Prop, I 0 [] ∧ (∀ i d acc, ds[i]? = some d → I i acc → g d (dwipe ρ vs) fun ρ' => t ρ' fun b =>
  if b = true then e ρ' (fun av => ∃ z, av = .d z ∧ acc.length < 1000 ∧ I (i + 1) (acc ++ [z])) else I (i + 1) acc) ∧ ∀ acc, I ds.length acc → Q acc
theorem lcw {tg iter elt : Expr} {ifs : List Expr} {scope : Scope} {wi : TI} {xs : DN} {g : DG} {t : DT} {e : DE}
    (hi : PDI X c tg iter wi xs) (hg : ∀ (s : Shared) (H : Hp) (C : Addr) (cl : List (Str × Addr)) (fp : List Addr), PDG (X.blk s H scope (compEnvC scope cl C X.env) fp) c vs tg g)
    (ht : ∀ (s : Shared) (H : Hp) (C : Addr) (cl : List (Str × Addr)) (fp : List Addr), PDTs (X.blk s H scope (compEnvC scope cl C X.env) fp) c ifs t) (he : ∀ (s : Shared) (H : Hp) (C : Addr) (cl : List (Str × Addr)) (fp : List Addr), PD (X.blk s H scope (compEnvC scope cl C X.env) fp) c elt e) :
    ∀ σ H Q, tDN c (dLc vs xs g t e) σ H Q → tLc wi (tDG c vs g) (tDT c t) (tDE c e) vs σ H Q := by
  have g0 := hg X.s_0 X.H_0 0 [] []
  have t0 := ht X.s_0 X.H_0 0 [] []
  have e0 := he X.s_0 X.H_0 0 [] []
  intro σ H Q ⟨S, γ, ρ, I, q⟩
  refine hi.run I q fun ds S1 H1 J gs ⟨Iv, h0, hs, hd⟩ st1 I1 hgs W D nD => ?_
  obtain ⟨G, Y, wk, hG, hY⟩ := W.ex
  have nD0 := I1.h.free nD
  have ho : ∀ (j : Nat) (es : List PyData) (a : Addr), (dwipe ρ vs)[j]? = some (some (.o es)) → (wipe σ vs)[j]? = some (some (.ref a)) → a ≠ D := fun j es a e1 e2 z => by
    obtain ⟨h1, n1⟩ := dwipe_get e1
    rw [wipe_get, if_neg n1] at e2
    obtain ⟨v, h2, D2, us, e3, l3, _⟩ := I1.ent j _ h1
    rw [e2] at h2
    cases h2
    cases e3
    rw [z, nD] at l3
    cases l3
  refine lc_it wk (fun i H' => ∃ S' acc us, DInv c S' (gs ++ γ) (dwipe ρ vs) (wipe σ vs) H' ∧ Step c S1 H1 S' H' ∧ H' D = some (.lst us) ∧ TrAll S' H' acc us ∧ ¬ S' D ∧ Iv i acc) ?_ (fun i H' _ ⟨S', acc, us, I2, _⟩ => hG S' H' I2.h fun g m => I2.gh g (List.mem_append_left _ m)) (fun i v H2 H3 hi ⟨S', acc, us, I2, st2, hD, ta, nS, hI⟩ y => ?_) (fun H' ⟨S', acc, us, I2, st2, hD, ta, nS, hI⟩ => ?_)
  · refine ⟨S1, [], [], ((I1.ghs hgs).wipe vs).newO nD, Step.same (same_upd nD), upd_same, TrAll.nil, fun s => I1.h.trk D s nD, h0⟩
  · obtain ⟨d, hdi, sm, tr⟩ := hY i S' H2 v H3 I2.h (fun g m => I2.gh g (List.mem_append_left _ m)) hi y
    have I3 := I2.same sm
    refine ⟨S', gs ++ γ, dwipe ρ vs, d, I3, tr, g0.mono (fun ρ' hq σ' hw I4 => ⟨hw.trans wipe_wipe, S', gs ++ γ, ρ', I4, t0.mono (fun b hb S5 H5 st5 I5 => ?_) hq⟩) (hs i d acc hdi hI)⟩
    have w3 := I3.h.w
    have w5 := I5.h.w
    have st25 := (Step.same (c := c) (S := S') sm).trans w3 w5 st5
    refine ifMono (fun hb => ?_) (fun hb => ?_) hb
    · refine ⟨S5, gs ++ γ, ρ', I5, e0.mono (fun av hz S6 w H6 st6 I6 r6 => ?_) hb⟩
      obtain ⟨z, ez, hlen, hI'⟩ := hz
      subst ez
      have w6 := I6.h.w
      have st26 := st25.trans w5 w6 st6
      have st16 := st2.trans I2.h.w w6 st26
      have hD6 := st26.k.at_ hD (c.new nD0)
      have nS6 : ¬ S6 D := fun s => (st26.new D s).elim nS fun z => by rw [hD] at z; exact nomatch z.1
      have ta6 : TrAll S6 H6 (acc ++ [z]) (us ++ [w]) := TrAll.snoc (TrAll.mono st26.inc _ _ (TrAll.kpl st26.k (fun _ s => I2.h.notM s) _ _ ta)) r6
      have k2 : KpL (fun a => a = D) H6 (upd H6 D (.lst (us ++ [w]))) := KpL.refl.put rfl ⟨_, hD6⟩
      have no : ∀ a, S6 a → ¬ a = D := fun a s e => nS6 (e ▸ s)
      exact ⟨us, hD6, small1000 (by rw [ta.len]; omega), S6, acc ++ [z], us ++ [w], (I2.step st26 w6).chgN hD6 nD0 nS6 ho, ⟨st16.inc, st16.k.new nD, fun a s => (st16.new a s).elim .inl fun z => .inr ⟨z.1, by rw [upd_ne (no a s)]; exact z.2⟩⟩, upd_same, TrAll.kpl k2 no _ _ ta6, nS6, hI'⟩
    · have hb := hb
      have n5 : ¬ S5 D := fun s => (st25.new D s).elim nS fun z => by rw [hD] at z; exact nomatch z.1
      exact ⟨S5, acc, us, I2.step st25 w5, st2.trans I2.h.w w5 st25, st25.k.at_ hD (c.new nD0), TrAll.mono st25.inc _ _ (TrAll.kpl st25.k (fun _ s => I2.h.notM s) _ _ ta), n5, hb⟩
  · exact hd acc hI S' D us H' (st1.trans I1.h.w I2.h.w st2) (I1.step st2 I2.h.w) hD ta (c.back I1.h.w st1.k nD) nS
theorem dLc_mono {tg iter : Expr} {wi : TI} {xs : DN} {g : DG} {t : DT} {e : DE} (hi : PDI X c tg iter wi xs) : ∀ {ρ P P'}, (∀ ds, P ds → P' ds) → dLc vs xs g t e ρ P → dLc vs xs g t e ρ P' := fun m q => hi.mono (fun ds ⟨J, h0, hs, hd⟩ => ⟨J, h0, hs, fun acc h => m _ (hd acc h)⟩) q
theorem pn_lc {tg iter elt : Expr} {ifs : List Expr} {scope : Scope} {wi : TI} {xs : DN} {g : DG} {t : DT} {e : DE}
    (hp : ∀ {g : TG} {tt : TT} {te : TE}, PI X tg iter wi → (∀ (s : Shared) (H : Hp) (C : Addr) (cl : List (Str × Addr)) (fp : List Addr), PG (X.blk s H scope (compEnvC scope cl C X.env) fp) tg g) →
      (∀ (s : Shared) (H : Hp) (C : Addr) (cl : List (Str × Addr)) (fp : List Addr), PTs (X.blk s H scope (compEnvC scope cl C X.env) fp) ifs tt) → (∀ (s : Shared) (H : Hp) (C : Addr) (cl : List (Str × Addr)) (fp : List Addr), PE (X.blk s H scope (compEnvC scope cl C X.env) fp) elt te) → PE X x (tLc wi g tt te vs))
    (hi : PDI X c tg iter wi xs) (hg : ∀ (s : Shared) (H : Hp) (C : Addr) (cl : List (Str × Addr)) (fp : List Addr), PDG (X.blk s H scope (compEnvC scope cl C X.env) fp) c vs tg g)
    (ht : ∀ (s : Shared) (H : Hp) (C : Addr) (cl : List (Str × Addr)) (fp : List Addr), PDTs (X.blk s H scope (compEnvC scope cl C X.env) fp) c ifs t) (he : ∀ (s : Shared) (H : Hp) (C : Addr) (cl : List (Str × Addr)) (fp : List Addr), PD (X.blk s H scope (compEnvC scope cl C X.env) fp) c elt e) :
    PDN X c x (dLc vs xs g t e) := ⟨pe_weak (hp hi.pi (fun s H C cl fp => (hg s H C cl fp).run) (fun s H C cl fp => (ht s H C cl fp).run) (fun s H C cl fp => (he s H C cl fp).run)) (lcw hi hg ht he), dLc_mono hi⟩
end

/-! ### statements -/
def dSkip : DS := fun E ρ => E.nx ρ
def dSeq (s t : DS) : DS := fun E ρ => s { E with nx := fun ρ' => t E ρ' } ρ
def dSet (i : Nat) (e : DE) : DS := fun E ρ => e ρ fun av => ∃ d, av = .d d ∧ E.nx (ρ.set i (some (.d d)))
def dSetV (i : Nat) (e : DE) : DS := fun E ρ => e ρ fun av => ∃ v, av = .v v ∧ E.nx (ρ.set i (some (.v v)))
def dOwn (i : Nat) (n : DN) : DS := fun E ρ => n ρ fun ds => E.nx (ρ.set i (some (.o ds)))
def dAsg (e : DE) (g : DG) : DS := fun E ρ => e ρ fun av => ∃ d, av = .d d ∧ g d ρ E.nx
def dDo (e : DE) : DS := fun E ρ => e ρ fun _ => E.nx ρ
def dRet (e : DE) : DS := fun E ρ => e ρ E.rt
def dRetN : DS := fun E _ => E.rt (.d .none)
def dIf (t : DT) (s u : DS) : DS := fun E ρ => t ρ fun b => if b = true then s E ρ else u E ρ
def dBrk : DS := fun E ρ => E.bk ρ
def dCnt : DS := fun E ρ => E.ct ρ
def dApp (i : Nat) (e : DE) : DS := fun E ρ => ∃ ds, ρ[i]? = some (some (.o ds)) ∧ e ρ fun av => ∃ d, av = .d d ∧ ds.length < 1000 ∧ E.nx (ρ.set i (some (.o (ds ++ [d]))))
def dPut (i : Nat) (e f : DE) : DS := fun E ρ => ∃ ds, ρ[i]? = some (some (.o ds)) ∧ f ρ fun v => ∃ d, v = .d d ∧ e ρ fun k => ∃ j n, k = .d (.int j) ∧ ixN ds.length j = some n ∧ E.nx (ρ.set i (some (.o (ds.set n d))))
def dFor (xs : DN) (g : DG) (b : DS) : DS := fun E ρ => xs ρ fun ds => ∃ I : Nat → DEnv → Prop, I 0 ρ ∧ (∀ i d ρ', ds[i]? = some d → I i ρ' → g d ρ' fun ρ2 => b ⟨I (i + 1), E.rt, E.nx, I (i + 1)⟩ ρ2) ∧ ∀ ρ', I ds.length ρ' → E.nx ρ'
/-- an own list is data from here on -/
def dThaw (i : Nat) (s : DS) : DS := fun E ρ => ∃ ds, ρ[i]? = some (some (.o ds)) ∧ s E (ρ.set i (some (.d (.list ds))))
def dAug (i : Nat) (k : Av → Av → (Av → Prop) → Prop) (e : DE) : DS := fun E ρ => ∃ x, ρ[i]? = some (some x) ∧ e ρ fun y => k x y fun av => ∃ d, av = .d d ∧ E.nx (ρ.set i (some (.d d)))
section
variable {X : Cx} {c : DC} {S S' : Addr → Prop} {H H' : Hp} {γ : List Gh} {ρ : DEnv} {σ : L2.St} {x x2 : Expr} {st : Stmt} {sts : List Stmt}
theorem DEnds.le_seq {E E' : DEnds} {t : DS} (h : E.Le E') (m : ∀ {ρ}, t E ρ → t E' ρ) : DEnds.Le { E with nx := fun ρ' => t E ρ' } { E' with nx := fun ρ' => t E' ρ' } := ⟨fun _ q => m q, h.rt, h.bk, h.ct⟩
theorem pdss_nil : PDSs X c [] dSkip := ⟨pss_weak pss_nil fun D σ H ⟨S, γ, ρ, I, q⟩ => q S σ H I, fun h q => h.nx _ q⟩
theorem pdss_cons {s t : DS} (h1 : PDS X c st s) (h2 : PDSs X c sts t) : PDSs X c (st :: sts) (dSeq s t) :=
  ⟨pss_weak (pss_cons h1.run h2.run) fun D σ H ⟨S, γ, ρ, I, q⟩ => ⟨S, γ, ρ, I, h1.mono (E := { dends c γ D with nx := fun ρ' => t (dends c γ D) ρ' }) (E' := dends c γ { D with nx := tDS c t D }) ⟨fun ρ' q S' σ' H' I' => ⟨S', γ, ρ', I', q⟩, fun _ q => q, fun _ q => q, fun _ q => q⟩ q⟩,
   fun h q => h1.mono (DEnds.le_seq h (h2.mono h)) q⟩
theorem pdss_one {s : DS} (h1 : PDS X c st s) : PDSs X c [st] s := ⟨pss_one h1.run, h1.mono⟩
theorem set_weak {i : Nat} {e : DE} (m : ∀ {ρ P P'}, (∀ av, P av → P' av) → e ρ P → e ρ P') {D : Ends} : tDS c (dSet i e) D σ H → tDE c e σ H fun x H1 => gName i x σ H1 D.nx :=
  fun ⟨S, γ, ρ, I, q⟩ => ⟨S, γ, ρ, I, m (fun av ⟨d, e, g⟩ S1 v H1 st1 I1 r1 => by subst e; exact g S1 _ H1 (I1.put' i r1)) q⟩
theorem own_weak {i : Nat} {n : DN} (m : ∀ {ρ P P'}, (∀ av, P av → P' av) → n ρ P → n ρ P') {D : Ends} : tDS c (dOwn i n) D σ H → tDN c n σ H fun x H1 => gName i x σ H1 D.nx :=
  fun ⟨S, γ, ρ, I, q⟩ => ⟨S, γ, ρ, I, m (fun ds g S1 D1 xs H1 st1 I1 e t n ns => by
      have r : AvR c S1 H1 (.o ds) (.ref D1) := ⟨D1, xs, rfl, e, t, I.h.free n, ns⟩
      refine g S1 _ H1 ?_
      by_cases h : i < ρ.length
      · refine I1.put i h r fun ds1 e1 j es a hj e2 e3 z => ?_
        cases z
        obtain ⟨v, h1, D2, us, e4, l4, _⟩ := I.ent j _ e2
        rw [e3] at h1
        cases h1
        cases e4
        rw [n] at l4
        cases l4
      · rw [List.set_eq_of_length_le (by omega), List.set_eq_of_length_le (by rw [← I1.len]; omega)]
        exact I1) q⟩
theorem frz_weak {n : DN} (m : ∀ {ρ P P'}, (∀ av, P av → P' av) → n ρ P → n ρ P') {Q : VK} : tDE c (dFrz n) σ H Q → tDN c n σ H Q :=
  fun ⟨S, γ, ρ, I, q⟩ => ⟨S, γ, ρ, I, m (fun ds g S1 D xs H1 st1 I1 e t n ns => g _ (.ref D) H1 (st1.add n e) (I.add I1 n e) ⟨D, xs, rfl, .inr rfl, e, TrAll.mono (fun _ s => .inl s) _ _ t⟩) q⟩
theorem pds_set {i : Nat} {e : DE} (hp : ∀ {t}, PE X x t → PS X st (tAsg t (gName i))) (he : PD X c x e) : PDS X c st (dSet i e) :=
  ⟨ps_weak (hp he.run) fun D σ H => set_weak (e := e) (fun m q => he.mono m q), fun h q => he.mono (fun _ ⟨d, e, g⟩ => ⟨d, e, h.nx _ g⟩) q⟩
theorem pds_own {i : Nat} {n : DN} (hp : ∀ {t}, PE X x t → PS X st (tAsg t (gName i))) (hn : PDN X c x n) : PDS X c st (dOwn i n) :=
  ⟨ps_weak (hp hn.run) fun D σ H => own_weak (n := n) (fun m q => hn.mono m q), fun h q => hn.mono (fun _ g => h.nx _ g) q⟩
section
variable {tg iter elt : Expr} {ifs : List Expr} {scope : Scope} {wi : TI} {xs : DN} {g : DG} {t : DT} {e : DE} {i : Nat} {vs : List Nat}
theorem pds_setLc
    (hp : ∀ {g : TG} {tt : TT} {te : TE}, PI X tg iter wi → (∀ (s : Shared) (H : Hp) (C : Addr) (cl : List (Str × Addr)) (fp : List Addr), PG (X.blk s H scope (compEnvC scope cl C X.env) fp) tg g) →
      (∀ (s : Shared) (H : Hp) (C : Addr) (cl : List (Str × Addr)) (fp : List Addr), PTs (X.blk s H scope (compEnvC scope cl C X.env) fp) ifs tt) → (∀ (s : Shared) (H : Hp) (C : Addr) (cl : List (Str × Addr)) (fp : List Addr), PE (X.blk s H scope (compEnvC scope cl C X.env) fp) elt te) → PS X st (tAsg (tLc wi g tt te vs) (gName i)))
    (hi : PDI X c tg iter wi xs) (hg : ∀ (s : Shared) (H : Hp) (C : Addr) (cl : List (Str × Addr)) (fp : List Addr), PDG (X.blk s H scope (compEnvC scope cl C X.env) fp) c vs tg g)
    (ht : ∀ (s : Shared) (H : Hp) (C : Addr) (cl : List (Str × Addr)) (fp : List Addr), PDTs (X.blk s H scope (compEnvC scope cl C X.env) fp) c ifs t) (he : ∀ (s : Shared) (H : Hp) (C : Addr) (cl : List (Str × Addr)) (fp : List Addr), PD (X.blk s H scope (compEnvC scope cl C X.env) fp) c elt e) : PDS X c st (dSet i (dFrz (dLc vs xs g t e))) :=
  ⟨ps_weak (hp hi.pi (fun s H C cl fp => (hg s H C cl fp).run) (fun s H C cl fp => (ht s H C cl fp).run) (fun s H C cl fp => (he s H C cl fp).run)) fun D σ H h => lcw hi hg ht he _ _ _ (frz_weak (n := dLc vs xs g t e) (fun m q => dLc_mono hi m q) (set_weak (e := dFrz (dLc vs xs g t e)) (fun m q => dLc_mono hi (fun _ g => m _ g) q) h)), fun h q => dLc_mono hi (fun _ ⟨d, e, g⟩ => ⟨d, e, h.nx _ g⟩) q⟩
theorem pds_ownLc
    (hp : ∀ {g : TG} {tt : TT} {te : TE}, PI X tg iter wi → (∀ (s : Shared) (H : Hp) (C : Addr) (cl : List (Str × Addr)) (fp : List Addr), PG (X.blk s H scope (compEnvC scope cl C X.env) fp) tg g) →
      (∀ (s : Shared) (H : Hp) (C : Addr) (cl : List (Str × Addr)) (fp : List Addr), PTs (X.blk s H scope (compEnvC scope cl C X.env) fp) ifs tt) → (∀ (s : Shared) (H : Hp) (C : Addr) (cl : List (Str × Addr)) (fp : List Addr), PE (X.blk s H scope (compEnvC scope cl C X.env) fp) elt te) → PS X st (tAsg (tLc wi g tt te vs) (gName i)))
    (hi : PDI X c tg iter wi xs) (hg : ∀ (s : Shared) (H : Hp) (C : Addr) (cl : List (Str × Addr)) (fp : List Addr), PDG (X.blk s H scope (compEnvC scope cl C X.env) fp) c vs tg g)
    (ht : ∀ (s : Shared) (H : Hp) (C : Addr) (cl : List (Str × Addr)) (fp : List Addr), PDTs (X.blk s H scope (compEnvC scope cl C X.env) fp) c ifs t) (he : ∀ (s : Shared) (H : Hp) (C : Addr) (cl : List (Str × Addr)) (fp : List Addr), PD (X.blk s H scope (compEnvC scope cl C X.env) fp) c elt e) : PDS X c st (dOwn i (dLc vs xs g t e)) :=
  ⟨ps_weak (hp hi.pi (fun s H C cl fp => (hg s H C cl fp).run) (fun s H C cl fp => (ht s H C cl fp).run) (fun s H C cl fp => (he s H C cl fp).run)) fun D σ H h => lcw hi hg ht he _ _ _ (own_weak (n := dLc vs xs g t e) (fun m q => dLc_mono hi m q) h), fun h q => dLc_mono hi (fun _ g => h.nx _ g) q⟩
end
theorem pds_asg {e : DE} {g : DG} {vs : List Nat} (hp : ∀ {t u}, PE X x t → PG X x2 u → PS X st (tAsg t u)) (he : PD X c x e) (hg : PDG X c vs x2 g) : PDS X c st (dAsg e g) :=
  ⟨ps_weak (hp he.run hg.run) fun D σ H ⟨S, γ, ρ, I, q⟩ => ⟨S, γ, ρ, I, he.mono (fun av ⟨d, e, q⟩ S1 v H1 st1 I1 r1 => by
      subst e
      exact ⟨S1, γ, ρ, d, I1, r1, hg.mono (fun ρ' q σ' _ I' => q S1 σ' H1 I') q⟩) q⟩, fun h q => he.mono (fun _ ⟨d, e, g⟩ => ⟨d, e, hg.mono (fun _ q => h.nx _ q) g⟩) q⟩
theorem pds_do {e : DE} (hp : ∀ {t}, PE X x t → PS X st (tDrop t)) (he : PD X c x e) : PDS X c st (dDo e) :=
  ⟨ps_weak (hp he.run) fun D σ H ⟨S, γ, ρ, I, q⟩ => ⟨S, γ, ρ, I, he.mono (fun av g S1 v H1 st1 I1 r1 => g S1 σ H1 I1) q⟩, fun h q => he.mono (fun _ g => h.nx _ g) q⟩
theorem pds_ret {e : DE} {pos} (he : PD X c x e) : PDS X c (.Return (some x) pos) (dRet e) :=
  ⟨ps_weak (ps_ret he.run) fun D σ H ⟨S, γ, ρ, I, q⟩ => ⟨S, γ, ρ, I, he.mono (fun av g S1 v H1 st1 I1 r1 => g S1 v H1 I1.h r1) q⟩, fun h q => he.mono (fun _ g => h.rt _ g) q⟩
theorem pds_retN {pos} : PDS X c (.Return none pos) dRetN := ⟨ps_weak ps_retN fun D σ H ⟨S, γ, ρ, I, q⟩ => q S .non H I.h rfl, fun h q => h.rt _ q⟩
theorem pds_if {t : DT} {s u : DS} {a b : List Stmt} {pos} (ht : PDT X c x t) (hs : PDSs X c a s) (hu : PDSs X c b u) : PDS X c (.If x a b pos) (dIf t s u) :=
  ⟨ps_weak (ps_if ht.run hs.run hu.run) fun D σ H ⟨S, γ, ρ, I, q⟩ => ⟨S, γ, ρ, I, ht.mono (fun b g S1 H1 st1 I1 => ifMono (fun g => ⟨S1, γ, ρ, I1, g⟩) (fun g => ⟨S1, γ, ρ, I1, g⟩) g) q⟩, fun h q => ht.mono (fun _ g => ifMono (hs.mono h) (hu.mono h) g) q⟩
theorem pds_pass {pos} : PDS X c (.Pass pos) dSkip := ⟨ps_weak ps_pass fun D σ H ⟨S, γ, ρ, I, q⟩ => q S σ H I, fun h q => h.nx _ q⟩
theorem pds_brk {pos} : PDS X c (.Break pos) dBrk := ⟨ps_weak ps_break fun D σ H ⟨S, γ, ρ, I, q⟩ => q S σ H I, fun h q => h.bk _ q⟩
theorem pds_cnt {pos} : PDS X c (.Continue pos) dCnt := ⟨ps_weak ps_continue fun D σ H ⟨S, γ, ρ, I, q⟩ => q S σ H I, fun h q => h.ct _ q⟩
theorem pds_app {K : PySem.W.Frag} {i : Nat} {e : DE} (hp : ∀ {t}, PE X x t → PS X st (tDrop (tBM K "list" rAppend (tVar i) (tCons t tNil)))) (he : PD X c x e) : PDS X c st (dApp i e) :=
  ⟨ps_weak (hp he.run) fun D σ H ⟨S, γ, ρ, I, ds, hi, q⟩ => by
      obtain ⟨v, h1, D1, xs, e1, l, t, n, ns⟩ := I.ent i _ hi
      subst e1
      refine ⟨_, h1, .inl ⟨rfl, _, SqL.of l⟩, S, γ, ρ, I, he.mono (fun av ⟨d, e, hl, g⟩ S1 v H1 st1 I1 r1 => ?_) q⟩
      subst e
      have l1 := st1.k.at_ l (c.new n)
      exact ⟨D1, xs, v, rfl, rfl, l1, small1000 (by rw [t.len]; omega), g S1 σ _ (I1.chg hi h1 (TrAll.snoc (TrAll.mono st1.inc _ _ (TrAll.kpl st1.k (fun _ s => I.h.notM s) _ _ t)) r1))⟩,
   fun h ⟨ds, hi, q⟩ => ⟨ds, hi, he.mono (fun _ ⟨d, e, hl, g⟩ => ⟨d, e, hl, h.nx _ g⟩) q⟩⟩
theorem TrAll.set : ∀ {ds : List PyData} {xs : List V} (n : Nat) {d : PyData} {v : V}, TrAll S H ds xs → Tr S H d v → TrAll S H (ds.set n d) (xs.set n v)
  | [], xs, n, d, v, e, t => by cases e; exact TrAll.nil
  | z :: r, _, 0, d, v, ⟨y, us, e, q, w⟩, t => by subst e; exact .cons t w
  | z :: r, _, n + 1, d, v, ⟨y, us, e, q, w⟩, t => by subst e; exact .cons q (TrAll.set n w t)
theorem pds_put {i : Nat} {e f : DE} (hp : ∀ {t u}, PE X x2 u → PE X x t → PS X st (tAsg t (gSub (tVar i) u rSetL))) (he : PD X c x2 e) (hf : PD X c x f) : PDS X c st (dPut i e f) :=
  ⟨ps_weak (hp he.run hf.run) fun D σ H ⟨S, γ, ρ, I, ds, hi, q⟩ => by
      obtain ⟨v, h1, D1, xs, e1, l, t, n, ns⟩ := I.ent i _ hi
      subst e1
      refine ⟨S, γ, ρ, I, hf.mono (fun av ⟨d, e1, q⟩ S1 v H1 st1 I1 r1 => ?_) q⟩
      subst e1
      refine ⟨_, h1, S1, γ, ρ, I1, he.mono (fun kv ⟨j, m, e2, hx, q⟩ S2 u H2 st2 I2 r2 => ?_) q⟩
      subst e2
      have st := st1.trans I1.h.w I2.h.w st2
      have l2 := st.k.at_ l (c.new n)
      have t2 : TrAll S2 H2 ds xs := TrAll.mono st.inc _ _ (TrAll.kpl st.k (fun _ s => I.h.notM s) _ _ t)
      exact ⟨D1, xs, j, m, rfl, r2, l2, by rw [t.len]; exact hx, q S2 σ _ (I2.chg hi h1 (t2.set m (Tr.mono st2.inc _ _ (Tr.kpl st2.k (fun _ s => I1.h.notM s) _ _ r1))))⟩,
   fun h ⟨ds, hi, q⟩ => ⟨ds, hi, hf.mono (fun _ ⟨d, e1, q⟩ => ⟨d, e1, he.mono (fun _ ⟨j, m, e2, hx, q⟩ => ⟨j, m, e2, hx, h.nx _ q⟩) q⟩) q⟩⟩
theorem pds_thaw {i : Nat} {s : DS} (h : PDS X c st s) : PDS X c st (dThaw i s) :=
  ⟨ps_weak h.run fun D σ H ⟨S, γ, ρ, I, ds, hi, q⟩ => by obtain ⟨S', I'⟩ := I.frz hi; exact ⟨S', γ, _, I', q⟩, fun l ⟨ds, hi, q⟩ => ⟨ds, hi, h.mono l q⟩⟩
theorem pds_aug {i : Nat} {e : DE} {r : TIp} {k : Av → Av → (Av → Prop) → Prop} (hp : ∀ {t}, PE X x t → PS X st (tAug i t r)) (hk : DOp c r k) (he : PD X c x e) : PDS X c st (dAug i k e) :=
  ⟨ps_weak (hp he.run) fun D σ H ⟨S, γ, ρ, I, a, hi, q⟩ => by
      obtain ⟨v, h1, r1⟩ := I.ent i _ hi
      exact ⟨v, h1, S, γ, ρ, I, he.mono (fun b g S1 u H1 st1 I1 r2 => hk.run I1 (r1.step I.h st1) r2 g fun av S3 w H3 ⟨d, e, g⟩ st3 I3 r3 => by subst e; exact g S3 _ H3 (I3.put' i r3)) q⟩,
   fun h ⟨a, hi, q⟩ => ⟨a, hi, he.mono (fun _ g => hk.mono (fun _ ⟨d, e, g⟩ => ⟨d, e, h.nx _ g⟩) g) q⟩⟩
theorem pds_for {tg iter : Expr} {wi : TI} {xs : DN} {g : DG} {b : DS} {body : List Stmt} {vs : List Nat} (hp : ∀ {u t}, PI X tg iter wi → PG X tg u → PSs X body t → PS X st (tFor wi u t)) (hi : PDI X c tg iter wi xs) (hg : PDG X c vs tg g) (hb : PDSs X c body b) : PDS X c st (dFor xs g b) :=
  ⟨ps_weak (hp hi.pi hg.run hb.run) fun D σ H ⟨S, γ, ρ, I, q⟩ => hi.run I q fun ds S1 H1 J gs ⟨Iv, h0, hs, hd⟩ st1 I1 hgs W => by
      obtain ⟨G, Y, wk, hG, hY⟩ := W.ex
      refine for_it wk (fun i σ' H' => ∃ S' ρ', DInv c S' (gs ++ γ) ρ' σ' H' ∧ Iv i ρ') ⟨S1, ρ, I1.ghs hgs, h0⟩ (fun i σ' H' _ ⟨S', ρ', I', _⟩ => hG S' H' I'.h fun g m => I'.gh g (List.mem_append_left _ m)) (fun i v σ' H2 H3 hlt ⟨S', ρ', I', hI⟩ y => ?_) (fun σ' H' ⟨S', ρ', I', hI⟩ => hd ρ' hI S' σ' H' I'.unghs)
      obtain ⟨d, hdi, sm, tr⟩ := hY i S' H2 v H3 I'.h (fun g m => I'.gh g (List.mem_append_left _ m)) hlt y
      refine ⟨S', gs ++ γ, ρ', d, I'.same sm, tr, hg.mono (fun ρ2 q σ2 _ I2 => ⟨S', gs ++ γ, ρ2, I2, hb.mono (E := ⟨Iv (i + 1), (dends c γ D).rt, (dends c γ D).nx, Iv (i + 1)⟩) ⟨fun ρ3 q S3 σ3 H3 I3 => ⟨S3, ρ3, I3, q⟩, fun av q S3 v3 H3 h3 r3 => q S3 v3 H3 h3 r3, fun ρ3 q S3 σ3 H3 I3 => q S3 σ3 H3 I3.unghs, fun ρ3 q S3 σ3 H3 I3 => ⟨S3, ρ3, I3, q⟩⟩ q⟩) (hs i d ρ' hdi hI)⟩,
   fun {E E' ρ} h q => hi.mono (fun ds ⟨Iv, h0, hs, hd⟩ => ⟨Iv, h0, fun i d ρ' e z => hg.mono (fun ρ2 q => hb.mono (E := ⟨Iv (i + 1), E.rt, E.nx, Iv (i + 1)⟩) (E' := ⟨Iv (i + 1), E'.rt, E'.nx, Iv (i + 1)⟩) ⟨fun _ q => q, fun a q => h.rt a q, fun ρ q => h.nx ρ q, fun _ q => q⟩ q) (hs i d ρ' e z), fun ρ' z => h.nx _ (hd ρ' z)⟩) q⟩
end

/-! ### isinstance, slices, chains -/
def dIsi (f : PyData → Bool) (e : DE) : DE := fun ρ Q => e ρ fun av => ∃ d, av.dat = some d ∧ Q (.d (.bool (f d)))
def dPart (e : DE) : DEnv → (Option Int → Prop) → Prop := fun ρ Q => e ρ fun av => ∃ i, av = .d (.int i) ∧ Q (some i)
def dNoP : DEnv → (Option Int → Prop) → Prop := fun _ Q => Q none
abbrev DO := DEnv → (Option Int → Prop) → Prop
def tDO (c : DC) (o : DO) : TO := fun σ H Q => ∃ S γ ρ, DInv c S γ ρ σ H ∧ o ρ fun i => ∀ S' H', Step c S H S' H' → DInv c S' γ ρ σ H' → Q i H'
structure PDO (X : Cx) (c : DC) (x : Option Expr) (o : DO) : Prop where
  run : PO X x (tDO c o)
  mono : ∀ {ρ P P'}, (∀ av, P av → P' av) → o ρ P → o ρ P'
theorem po_weak {X : Cx} {e : Option Expr} {t t' : TO} (h : PO X e t) (w : ∀ σ H Q, t' σ H Q → t σ H Q) : PO X e t' := ⟨fun pins s σ H Q I q => h.run pins s σ H Q I (w _ _ _ q)⟩
def nSl (e : DE) (lo hi : DO) : DN := fun ρ Q => e ρ fun av => lo ρ fun l => hi ρ fun h => ∃ ds, av.dat = some (.list ds) ∧ Q (cutL ds l h)
def dSlT (e : DE) (lo hi : DO) : DE := fun ρ Q => e ρ fun av => lo ρ fun l => hi ρ fun h => ∃ ds, av = .d (.tuple ds) ∧ Q (.d (.tuple (cutL ds l h)))
def dChain (p q : Int → Int → Bool) (a b e : DE) : DE := fun ρ Q => a ρ fun x => b ρ fun y => ∃ i j, x = .d (.int i) ∧ y = .d (.int j) ∧ if p i j = true then e ρ (fun z => ∃ k, z = .d (.int k) ∧ Q (.d (.bool (q j k)))) else Q (.d (.bool false))
section
variable {K : PySem.W.Frag} {X : Cx} {c : DC} {S S' : Addr → Prop} {H H' : Hp} {γ : List Gh} {ρ : DEnv} {σ : L2.St} {x x2 : Expr}
theorem AvR.ty {av : Av} {v : V} {d : PyData} (r : AvR c S H av v) (e : av.dat = some d) : TyX K H v (.type (clsN d)) := by
  obtain ⟨S1, t⟩ := r.dat_tr e
  exact tr_ty K t
theorem pd_isi {T : String} {f : PyData → Bool} {e : DE} (hk : ∀ d, PySem.W.kitOne K (.type (clsN d)) (.type T) = some (f d)) (hp : ∀ {t}, PE X x t → PE X x2 (tCB (rIsi K) (tCons t (tCons (tC (.ty T)) tNil)))) (he : PD X c x e) : PD X c x2 (dIsi f e) :=
  ⟨pe_weak (hp he.run) fun σ H Q ⟨S, γ, ρ, I, q⟩ => ⟨S, γ, ρ, I, he.mono (fun av ⟨d, ed, g⟩ S1 v H1 st1 I1 r1 => ⟨v, .ty T, _, _, f d, rfl, .ty T, r1.ty ed, hk d, g S1 _ H1 st1 I1 rfl⟩) q⟩, fun m q => he.mono (fun _ ⟨d, ed, g⟩ => ⟨d, ed, m _ g⟩) q⟩
theorem ki_ltD (K : PySem.W.Frag) (d : PyData) : PySem.W.kitAny K (.type (clsN d)) [.type "list", .type "tuple"] = some (isLs d || isTp d) := by
  unfold PySem.W.kitAny
  rw [ki_list K d]
  cases h : isLs d
  · unfold PySem.W.kitAny
    rw [ki_tuple K d]
    cases h2 : isTp d
    · rfl
    · rfl
  · rfl
/-- isinstance(x, (list, tuple)) -/
theorem pd_isiLT {e : DE} (hp : ∀ {t}, PE X x t → PE X x2 (tCB (rIsiT K) (tCons t (tCons (tTup (tCons (tC (.ty "list")) (tCons (tC (.ty "tuple")) tNil))) tNil)))) (he : PD X c x e) : PD X c x2 (dIsi (fun d => isLs d || isTp d) e) :=
  ⟨pe_weak (hp he.run) fun σ H Q ⟨S, γ, ρ, I, q⟩ => ⟨S, γ, ρ, I, he.mono (fun av ⟨d, ed, g⟩ S1 v H1 st1 I1 r1 => ⟨small100 (n := 2) (by decide), fun p np => ⟨v, p, _, _, _, _, rfl, upd_same, .cons (.ty _) (.cons (.ty _) .nil), (r1.step I1.h (Step.same (same_upd np))).ty ed, ki_ltD K d, g S1 _ _ (st1.trans I1.h.w (I1.newO np).h.w (Step.same (same_upd np))) (I1.newO np) rfl⟩⟩) q⟩,
   fun m q => he.mono (fun _ ⟨d, ed, g⟩ => ⟨d, ed, m _ g⟩) q⟩
theorem pdo_none : PDO X c none dNoP := ⟨po_weak po_none fun σ H Q ⟨S, γ, ρ, I, q⟩ => q S H Step.refl I, fun m q => m _ q⟩
theorem pdo_some {e : DE} (he : PD X c x e) : PDO X c (some x) (dPart e) :=
  ⟨po_weak (po_some he.run) fun σ H Q ⟨S, γ, ρ, I, q⟩ => ⟨S, γ, ρ, I, he.mono (fun av ⟨i, e, g⟩ S1 v H1 st1 I1 r1 => by subst e; exact ⟨i, r1, g S1 H1 st1 I1⟩) q⟩, fun m q => he.mono (fun _ ⟨i, e, g⟩ => ⟨i, e, m _ g⟩) q⟩
theorem cut_tr {ds : List PyData} {xs : List V} {lo hi : Option Int} (t : TrAll S H ds xs) : TrAll S H (cutL ds lo hi) (cutV xs lo hi) := by
  unfold cutL cutV
  rw [t.len]
  exact (t.drop _).take _
theorem pn_sl {e : DE} {lo hi : Option Expr} {l h : DO} (hp : ∀ {t u w}, PE X x t → PO X lo u → PO X hi w → PE X x2 (tSl (rSlL K) t u w)) (he : PD X c x e) (hl : PDO X c lo l) (hh : PDO X c hi h) : PDN X c x2 (nSl e l h) :=
  ⟨pe_weak (hp he.run hl.run hh.run) fun σ H Q ⟨S, γ, ρ, I, q⟩ => ⟨S, γ, ρ, I, he.mono (fun av q S1 v H1 st1 I1 r1 => ⟨S1, γ, ρ, I1, hl.mono (fun i q S2 H2 st2 I2 => ⟨S2, γ, ρ, I2, hh.mono (fun j ⟨ds, ed, g⟩ S3 H3 st3 I3 => by
      have st13 := st2.trans I2.h.w I3.h.w st3
      obtain ⟨a, xs, e, hx, t⟩ := (r1.step I1.h st13).lst ed
      have st03 := st1.trans I1.h.w I3.h.w st13
      refine ⟨a, xs, e, SqL.of hx, fun p np => ?_⟩
      exact g S3 p _ _ (st03.trans I3.h.w (I3.newO np).h.w (Step.same (same_upd np))) (I3.newO np) upd_same ((cut_tr t).same (same_upd np)) (c.back I3.h.w st03.k np) fun s => I3.h.trk p s np) q⟩) q⟩) q⟩,
   fun m q => he.mono (fun _ q => hl.mono (fun _ q => hh.mono (fun _ ⟨ds, ed, g⟩ => ⟨ds, ed, m _ g⟩) q) q) q⟩
theorem pd_slT {e : DE} {lo hi : Option Expr} {l h : DO} (hp : ∀ {t u w}, PE X x t → PO X lo u → PO X hi w → PE X x2 (tSl (rSlA K) t u w)) (he : PD X c x e) (hl : PDO X c lo l) (hh : PDO X c hi h) : PD X c x2 (dSlT e l h) :=
  ⟨pe_weak (hp he.run hl.run hh.run) fun σ H Q ⟨S, γ, ρ, I, q⟩ => ⟨S, γ, ρ, I, he.mono (fun av q S1 v H1 st1 I1 r1 => ⟨S1, γ, ρ, I1, hl.mono (fun i q S2 H2 st2 I2 => ⟨S2, γ, ρ, I2, hh.mono (fun j ⟨ds, ed, g⟩ S3 H3 st3 I3 => by
      subst ed
      have st13 := st2.trans I2.h.w I3.h.w st3
      obtain ⟨a, xs, e, hx, t⟩ := (r1.step I1.h st13).tup
      have st03 := st1.trans I1.h.w I3.h.w st13
      refine ⟨a, xs, e, SqT.of hx, fun z => ?_, fun _ p np => ?_⟩
      · have e1 : cutL ds i j = ds := by
          unfold cutL
          rw [← t.len, z.1, z.2, List.drop_zero, Nat.sub_zero, t.len]
          exact List.take_length ..
        rw [e1] at g
        exact g S3 _ H3 st03 I3 ⟨a, xs, rfl, hx, t⟩
      · exact g S3 (.ref p) _ (st03.trans I3.h.w (I3.newO np).h.w (Step.same (same_upd np))) (I3.newO np) ⟨p, _, rfl, upd_same, (cut_tr t).same (same_upd np)⟩) q⟩) q⟩) q⟩,
   fun m q => he.mono (fun _ q => hl.mono (fun _ q => hh.mono (fun _ ⟨ds, ed, g⟩ => ⟨ds, ed, m _ g⟩) q) q) q⟩
/-! ### promises by data -/
abbrev FD := List PyData → (PyData → Prop) → Prop
def spF (F : FD) : Sp := fun vs H Q _ => ∃ S ds, TrAll S H ds vs ∧ F ds fun d => ∀ v H', Same H H' → Tr (fun a => S a ∨ H a = none) H' d v → Q v H'
def spP (F : FD) : Sp := fun vs H Q _ => ∃ p L S ds us, vs = .ref p :: us ∧ Pool H p L ∧ (2 ≤ L ∧ L ≤ 64) ∧ ¬ S p ∧ TrAll S H ds us ∧ F ds fun d => ∀ v H', Kp p H H' → Pool H' p L → Tr (fun a => S a ∨ H a = none) H' d v → Q v H'
structure FMono (F : FD) : Prop where
  m : ∀ {ds P P'}, (∀ d, P d → P' d) → F ds P → F ds P'
structure DPl (c : DC) (p : Addr) (L : Nat) : Prop where
  m : c.M p
  pl : ∀ H, c.W H → Pool H p L
  keep : ∀ H H', c.W H → Kp p H H' → Pool H' p L → c.W H'
  lim : 2 ≤ L ∧ L ≤ 64
def dCallF (F : FD) (a : DA) : DE := fun ρ Q => a ρ fun avs => ∃ ds, avs = ds.map Av.d ∧ F ds fun d => Q (.d d)
def dCallP (p : Addr) (F : FD) (a : DA) : DE := fun ρ Q => a ρ fun avs => ∃ ds, avs = .v (.ref p) :: ds.map Av.d ∧ F ds fun d => Q (.d d)
theorem kpl_kp {p : Addr} {M : Addr → Prop} {H H' : Hp} (k : Kp p H H') (m : M p) (h : ∃ ys, H p = some (.lst ys)) : KpL M H H' := KpL.kp k m h
theorem pd_callF {F : FD} {es : List Expr} {a : DA} {E : XK} (hF : FMono F) (hp : ∀ {t}, PA X es t → PE X x (tCall (spF F) [] E t)) (ha : PDA X c es a) : PD X c x (dCallF F a) :=
  ⟨pe_weak (hp ha.run) fun σ H Q ⟨S, γ, ρ, I, q⟩ => ⟨S, γ, ρ, I, ha.mono (fun avs ⟨ds, e, q⟩ S1 vs H1 st1 I1 r1 => by
      subst e
      refine ⟨S1, ds, by rw [List.append_nil]; exact r1.all, hF.m (fun d g v H2 sm t => ?_) q⟩
      have w2 := c.same sm I1.h.w
      have st2 : Step c S1 H1 (fun a => (S1 a ∨ H1 a = none) ∧ H2 a ≠ none) H2 := ⟨fun a s => ⟨.inl s, c.fwd w2 (KpL.of sm) (I1.h.trk a s)⟩, KpL.of sm, fun a s => s.1.elim .inl fun z => .inr ⟨z, s.2⟩⟩
      exact g _ v H2 (st1.trans I1.h.w w2 st2) (I1.step st2 w2) (Tr.tracked _ _ t)) q⟩,
   fun m q => ha.mono (fun _ ⟨ds, e, g⟩ => ⟨ds, e, hF.m (fun _ z => m _ z) g⟩) q⟩
theorem pd_callP {F : FD} {es : List Expr} {a : DA} {E : XK} {p : Addr} {L : Nat} (hP : DPl c p L) (hF : FMono F) (hp : ∀ {t}, PA X es t → PE X x (tCall (spP F) [] E t)) (ha : PDA X c es a) : PD X c x (dCallP p F a) :=
  ⟨pe_weak (hp ha.run) fun σ H Q ⟨S, γ, ρ, I, q⟩ => ⟨S, γ, ρ, I, ha.mono (fun avs ⟨ds, e, q⟩ S1 vs H1 st1 I1 r1 => by
      subst e
      obtain ⟨v, us, e, r0, r1⟩ := r1
      subst e
      cases r0
      have np : ¬ S1 p := fun s => I1.h.notM s hP.m
      refine ⟨p, L, S1, ds, us, by rw [List.append_nil], hP.pl _ I1.h.w, hP.lim, np, r1.all, hF.m (fun d g v H2 k pl t => ?_) q⟩
      have w2 := hP.keep _ _ I1.h.w k pl
      have kl : KpL c.M H1 H2 := KpL.kp k hP.m (c.lst _ p I1.h.w hP.m)
      have st2 : Step c S1 H1 (fun a => (S1 a ∨ H1 a = none) ∧ H2 a ≠ none) H2 := ⟨fun a s => ⟨.inl s, c.fwd w2 kl (I1.h.trk a s)⟩, kl, fun a s => s.1.elim .inl fun z => .inr ⟨z, s.2⟩⟩
      exact g _ v H2 (st1.trans I1.h.w w2 st2) (I1.step st2 w2) (Tr.tracked _ _ t)) q⟩,
   fun m q => ha.mono (fun _ ⟨ds, e, g⟩ => ⟨ds, e, hF.m (fun _ z => m _ z) g⟩) q⟩
end
def pureC (S : Addr → Prop) (H : Hp) : DC := ⟨fun _ => False, fun _ => True, S, H, fun _ _ _ w => w, fun _ _ _ m => m.elim, True.intro, fun _ _ m => m⟩
theorem pool_lst {H : Hp} {p a : Addr} {L : Nat} (h : Pool H p L) (e : a = p) : ∃ xs, H a = some (.lst xs) := by
  obtain ⟨ns, h, _⟩ := h
  exact ⟨_, by rw [e]; exact h⟩
theorem pool_stab {H0 H H' : Hp} {p : Addr} {L : Nat} (h0 : Pool H0 p L) (k : ∀ b o, H0 b ≠ none → H b = some o → H' b = some o) (h : Pool H p L) : Pool H' p L := by
  obtain ⟨ns, h, e⟩ := h
  obtain ⟨ms, h0, _⟩ := h0
  exact ⟨ns, k _ _ (by rw [h0]; exact fun z => nomatch z) h, e⟩
def poolC (p : Addr) (L : Nat) (S : Addr → Prop) (H : Hp) (h : Pool H p L) (ns : ¬ S p) : DC :=
  ⟨fun a => a = p, fun H' => Pool H' p L, S, H, fun _ _ k w => pool_stab h k w, fun _ _ w m => pool_lst w m, h, fun a s m => ns (m ▸ s)⟩
theorem poolC_pl {p : Addr} {L : Nat} {S : Addr → Prop} {H : Hp} {h : Pool H p L} {ns : ¬ S p} (l : 2 ≤ L ∧ L ≤ 64) : DPl (poolC p L S H h ns) p L := ⟨rfl, fun _ w => w, fun _ _ _ _ w => w, l⟩
/-- the names at the start -/
def dstart (N : List Str) (avs : List Av) : DEnv := avs.map some ++ List.replicate (N.length - avs.length) none
theorem start_inv {c : DC} {S : Addr → Prop} {H : Hp} {N : List Str} : ∀ {avs : List Av} {vs : List V}, DH c S H → AvsR c S H avs vs → (∀ ds, Av.o ds ∉ avs) → DInv c S [] (dstart N avs) (L2.start N vs) H := by
  intro avs vs h r no
  have hl := r.len
  refine ⟨h, fun g m => absurd m List.not_mem_nil, ?_, fun i av e => ?_, fun i j ds es a e1 e2 e3 e4 => ?_⟩
  · unfold dstart L2.start
    rw [List.length_append, List.length_append, List.length_map, List.length_map, List.length_replicate, List.length_replicate, hl]
  · unfold dstart at e
    unfold L2.start
    rw [List.getElem?_append] at e ⊢
    rw [List.length_map] at e ⊢
    by_cases hi : i < avs.length
    · rw [if_pos hi] at e
      rw [if_pos (by omega)]
      have key : ∀ {avs : List Av} {vs : List V} {i : Nat}, AvsR c S H avs vs → (avs.map some)[i]? = some (some av) → ∃ v, (vs.map some)[i]? = some (some v) ∧ AvR c S H av v := by
        intro avs
        induction avs with
        | nil => intro vs i _ e; simp at e
        | cons a r ih =>
          intro vs i q e
          obtain ⟨v, us, e0, q1, q2⟩ := q
          subst e0
          cases i with
          | zero => simp at e; subst e; exact ⟨v, rfl, q1⟩
          | succ i => exact ih (i := i) q2 (by simpa using e)
      exact key r e
    · rw [if_neg hi] at e
      rw [List.getElem?_replicate] at e
      split at e <;> cases e
  · have key : some (Av.o ds) ∈ dstart N avs := List.mem_of_getElem? e1
    unfold dstart at key
    rcases List.mem_append.mp key with k | k
    · obtain ⟨x, hx, e⟩ := List.mem_map.mp k
      cases e
      exact absurd hx (no ds)
    · have := List.eq_of_mem_replicate k
      cases this
def retD (Q : PyData → Prop) : Av → Prop := fun av => ∃ d, av.dat = some d ∧ Q d
def fends (Q : PyData → Prop) : DEnds := ⟨fun _ => Q .none, retD Q, fun _ => False, fun _ => False⟩
theorem AvR.ret {c : DC} {S : Addr → Prop} {H : Hp} {av : Av} {v : V} {d : PyData} (h : DH c S H) (r : AvR c S H av v) (e : av.dat = some d) : Tr (fun a => c.S0 a ∨ c.H0 a = none) H d v := by
  cases av with
  | d y => cases e; exact Tr.mono h.sub _ _ r
  | v y => cases e
  | o ds =>
    cases e
    obtain ⟨D, xs, e, l, t, n, _⟩ := r
    exact ⟨D, xs, e, .inr n, l, TrAll.mono h.sub _ _ t⟩
section
variable {P : Program} {w : World} {K : PySem.W.Frag} {mg : Str → Option Value} {base : Heap} {x qual : Str} {st : Stmt} {f : Addr} {fd : FuncData} {N ps : List Str} {k : Nat}
theorem noO : ∀ {ds : List PyData} {es : List PyData}, Av.o es ∉ ds.map Av.d := fun {ds es} h => by
  obtain ⟨d, _, e⟩ := List.mem_map.mp h
  cases e
theorem avs_of {c : DC} {S : Addr → Prop} {H : Hp} : ∀ {ds : List PyData} {vs : List V}, TrAll S H ds vs → AvsR c S H (ds.map Av.d) vs
  | [], _, e => e
  | d :: r, _, ⟨v, us, e, t, q⟩ => ⟨v, us, e, t, avs_of q⟩
/-- a def by data -/
theorem fnF {F : FD} {s : DS} (hF : FMono F) (Fn : Fun K x qual st f fd) (sc : FnScope N ps (defScope st)) (hl : ∀ ds Q, F ds Q → ds.length = ps.length)
    (hb : ∀ (c : DC) (cdv : Value) (A : Around) (outer : List Env) (sh : Shared) (H : Hp) (E : XK), Room k (A.deeper (envOfC qual (defScope st) sh.heap.objs.size f cdv)) → PDSs (cxOf CX0 P w K mg base N qual (defScope st) f cdv A outer sh H E).nox c (defBody st) s)
    (hs : ∀ ds Q, F ds Q → s (fends Q) (dstart N (ds.map Av.d))) : FnOk P w K mg base CX0 (k + 1) f fd ps (spF F) := by
  refine Fn.ok sc (fun vs H Q E h => ?_) (fun cdv A outer sh H vs Q E hr h => ?_)
  · obtain ⟨S, ds, t, q⟩ := h
    rw [t.len]
    exact hl ds _ q
  · obtain ⟨S, ds, t, q⟩ := h
    have t := TrAll.tracked _ _ t
    refine ⟨_, (hb (pureC (fun a => S a ∧ H a ≠ none) H) cdv A outer sh H E hr).run, fun a => S a ∧ H a ≠ none, [], _, start_inv ⟨True.intro, KpL.refl, fun a s => .inl s, fun a s => s.2⟩ (avs_of t) (fun _ => noO), ?_⟩
    have key := hs ds _ q
    refine (hb (pureC (fun a => S a ∧ H a ≠ none) H) cdv A outer sh H E hr).mono (E := fends _) ⟨fun ρ q S' σ' H' I => ?_, fun av ⟨d, e, q⟩ S' v H' h' r => ?_, fun _ z => z.elim, fun _ z => z.elim⟩ key
    · exact q .non H' (I.h.k.same fun a z => z.elim) rfl
    · exact q v H' (h'.k.same fun a z => z.elim) (Tr.mono (fun a s => s.elim (fun s => .inl s.1) .inr) _ _ (r.ret h' e))
theorem fnP {F : FD} {s : Addr → DS} (hF : FMono F) (Fn : Fun K x qual st f fd) (sc : FnScope N ps (defScope st)) (hl : ∀ ds Q, F ds Q → ds.length + 1 = ps.length)
    (hb : ∀ (c : DC) (p : Addr) (L : Nat) (hP : DPl c p L) (cdv : Value) (A : Around) (outer : List Env) (sh : Shared) (H : Hp) (E : XK), Room k (A.deeper (envOfC qual (defScope st) sh.heap.objs.size f cdv)) → PDSs (cxOf CX0 P w K mg base N qual (defScope st) f cdv A outer sh H E).nox c (defBody st) (s p))
    (hs : ∀ p ds Q, F ds Q → s p (fends Q) (dstart N (.v (.ref p) :: ds.map Av.d))) : FnOk P w K mg base CX0 (k + 1) f fd ps (spP F) := by
  refine Fn.ok sc (fun vs H Q E h => ?_) (fun cdv A outer sh H vs Q E hr h => ?_)
  · obtain ⟨p, L, S, ds, us, rfl, _, _, _, t, q⟩ := h
    rw [List.length_cons, t.len]
    exact hl ds _ q
  · obtain ⟨p, L, S, ds, us, rfl, pl, lim, ns, t, q⟩ := h
    have t := TrAll.tracked _ _ t
    have ns' : ¬ (S p ∧ H p ≠ none) := fun z => ns z.1
    have b := hb (poolC p L (fun a => S a ∧ H a ≠ none) H pl ns') p L (poolC_pl lim) cdv A outer sh H E hr
    refine ⟨_, b.run, fun a => S a ∧ H a ≠ none, [], _, start_inv (avs := .v (.ref p) :: ds.map Av.d) ⟨pl, KpL.refl, fun a s => .inl s, fun a s => s.2⟩ ⟨_, _, rfl, rfl, avs_of t⟩ (fun es m => (List.mem_cons.mp m).elim (fun z => nomatch z) noO), ?_⟩
    have key := hs p ds _ q
    have toKp : ∀ {H' : Hp}, KpL (fun a => a = p) H H' → Kp p H H' := fun k b o n e => k b o (fun m => absurd m n) e
    refine b.mono (E := fends _) ⟨fun ρ q S' σ' H' I => ?_, fun av ⟨d, e, q⟩ S' v H' h' r => ?_, fun _ z => z.elim, fun _ z => z.elim⟩ key
    · exact q .non H' (toKp I.h.k) I.h.w rfl
    · exact q v H' (toKp h'.k) h'.w (Tr.mono (fun a s => s.elim (fun s => .inl s.1) .inr) _ _ (r.ret h' e))
end
section
variable {K : PySem.W.Frag} {X : Cx} {c : DC} {x x2 x3 x4 : Expr}
theorem op_notInDT {X : Cx} (hu : X.A.units + 65 < cLine) : OpR X (compareOp .NotIn) (rNotInDT X.K) := by
  intro pins s σ H x y v u Q I rx ry h
  obtain ⟨d, ds, hd, he, sd, se, q⟩ := h
  obtain ⟨as, r1⟩ := Dp.reads I d x v hd rx
  obtain ⟨bs, r2⟩ := Dp.reads I (.tuple ds) y u he ry
  exact SeqAt.notIn_tuple_reads r2 r1 (SeqAt.canLay_of_shaped se) (SeqAt.canLay_of_shaped sd) (room_in_shaped sd hu) ⟨.bl _, H, I, rfl, q⟩
def rNotInA (K : PySem.W.Frag) : R2 := fun x y H Q => rNotInD K x y H Q ∨ rNotInDT K x y H Q
theorem dk_notIn : DOp c (rNotInA K) kNotIn := ⟨fun I rx ry ⟨d, ds, h1, h2, s1, s2, q⟩ g => (in_dp ry h2 s2).elim (fun z => .inl ⟨d, ds, rx.dp h1 s1, z, s1, s2, g _ _ _ _ q Step.refl I rfl⟩) fun z => .inr ⟨d, ds, rx.dp h1 s1, z, s1, sh_lt s2, g _ _ _ _ q Step.refl I rfl⟩,
  fun m ⟨d, e, h1, h2, s1, s2, q⟩ => ⟨d, e, h1, h2, s1, s2, m _ q⟩⟩
theorem k_notInA (K : PySem.W.Frag) (hu : X.A.units + 65 < cLine) (hK : X.K = K := by rfl) : OpR X (compareOp .NotIn) (rNotInA K) := hK ▸ OpR.or (op_notInD hu) (op_notInDT hu)
theorem dk_ipadd : DOp c (ipI fun i j => i + j) (kI0 fun i j => .int (i + j)) := dk_i0
theorem dk_ipsub : DOp c (ipI fun i j => i - j) (kI0 fun i j => .int (i - j)) := dk_i0
theorem pd_callF0 {F : FD} {E : XK} (hF : FMono F) (hp : PE X x (tCall (spF F) [] E tNil)) : PD X c x (dCallF F dNil) :=
  ⟨pe_weak hp fun σ H Q ⟨S, γ, ρ, I, ds, e, q⟩ => by
      have e : ds = [] := by cases ds with | nil => rfl | cons d r => cases e
      subst e
      refine ⟨S, [], rfl, hF.m (fun d g v H2 sm t => ?_) q⟩
      have w2 := c.same sm I.h.w
      have st2 : Step c S H (fun a => (S a ∨ H a = none) ∧ H2 a ≠ none) H2 := ⟨fun a s => ⟨.inl s, c.fwd w2 (KpL.of sm) (I.h.trk a s)⟩, KpL.of sm, fun a s => s.1.elim .inl fun z => .inr ⟨z, s.2⟩⟩
      exact g _ v H2 st2 (I.step st2 w2) (Tr.tracked _ _ t),
   fun m ⟨ds, e, g⟩ => ⟨ds, e, hF.m (fun _ z => m _ z) g⟩⟩
theorem pd_chain {p q : Int → Int → Bool} {a b e : DE} (hp : ∀ {ta tb tc}, PE X x ta → PE X x2 tb → PE X x3 tc → PE X x4 (tChain (rI0 fun i j => .bl (p i j)) (rI0 fun i j => .bl (q i j)) ta tb tc)) (ha : PD X c x a) (hb : PD X c x2 b) (he : PD X c x3 e) : PD X c x4 (dChain p q a b e) :=
  ⟨pe_weak (hp ha.run hb.run he.run) fun σ H Q ⟨S, γ, ρ, I, h⟩ => ⟨S, γ, ρ, I, ha.mono (fun x h S1 v H1 st1 I1 r1 => ⟨S1, γ, ρ, I1, hb.mono (fun y ⟨i, j, e1, e2, h2⟩ S2 u H2 st2 I2 r2 => by
      subst e1 e2
      cases r1
      cases r2
      have st12 := st1.trans I1.h.w I2.h.w st2
      exact ⟨i, j, rfl, rfl, p i j, rfl, ifMono (fun h => ⟨S2, γ, ρ, I2, he.mono (fun z ⟨k, ez, h⟩ S3 w H3 st3 I3 r3 => by
        subst ez
        cases r3
        exact ⟨j, k, rfl, rfl, h S3 _ H3 (st12.trans I2.h.w I3.h.w st3) I3 rfl⟩) h⟩) (fun h => h S2 _ H2 st12 I2 rfl) h2⟩) h⟩) h⟩,
   fun m h => ha.mono (fun x h => hb.mono (fun y ⟨i, j, e1, e2, h⟩ => ⟨i, j, e1, e2, ifMono (fun h => he.mono (fun z ⟨k, ez, h⟩ => ⟨k, ez, m _ h⟩) h) (m _) h⟩) h) h⟩
theorem pdt_chain {p q : Int → Int → Bool} {a b e : DE} (hp : ∀ {ta tb tc}, PE X x ta → PE X x2 tb → PE X x3 tc → PT X x4 (tTest (tChain (rI0 fun i j => .bl (p i j)) (rI0 fun i j => .bl (q i j)) ta tb tc))) (ha : PD X c x a) (hb : PD X c x2 b) (he : PD X c x3 e) : PDT X c x4 (dTest (dChain p q a b e)) :=
  ⟨pt_weak (hp ha.run hb.run he.run) fun σ H Q ⟨S, γ, ρ, I, h⟩ => ⟨S, γ, ρ, I, ha.mono (fun x h S1 v H1 st1 I1 r1 => ⟨S1, γ, ρ, I1, hb.mono (fun y ⟨i, j, e1, e2, h2⟩ S2 u H2 st2 I2 r2 => by
      subst e1 e2
      cases r1
      cases r2
      have st12 := st1.trans I1.h.w I2.h.w st2
      exact ⟨i, j, rfl, rfl, p i j, rfl, ifMono (fun h => ⟨S2, γ, ρ, I2, he.mono (fun z ⟨k, ez, b, eb, h⟩ S3 w H3 st3 I3 r3 => by
        subst ez
        cases r3
        cases eb
        exact ⟨j, k, rfl, rfl, _, rfl, h S3 H3 (st12.trans I2.h.w I3.h.w st3) I3⟩) h⟩) (fun ⟨b, eb, h⟩ => by
        cases eb
        exact ⟨_, rfl, h S2 H2 st12 I2⟩) h2⟩) h⟩) h⟩,
   fun m h => ha.mono (fun x h => hb.mono (fun y ⟨i, j, e1, e2, h⟩ => ⟨i, j, e1, e2, ifMono (fun h => he.mono (fun z ⟨k, ez, b, eb, h⟩ => ⟨k, ez, b, eb, m _ h⟩) h) (fun ⟨b, eb, h⟩ => ⟨b, eb, m _ h⟩) h⟩) h) h⟩
/-- the law's draw -/
def F__law_draw : FD := fun ds Q => ∃ m : Int, ds = [.int m] ∧ 0 < m ∧ m ≤ 1000 ∧ ∀ r : Int, 0 ≤ r → r < m → Q (.int r)
theorem FM__law_draw : FMono F__law_draw := ⟨fun m ⟨k, e, h0, h1, q⟩ => ⟨k, e, h0, h1, fun r a b => m _ (q r a b)⟩⟩
end
def zipD (ds es : List PyData) : List PyData := List.zipWith (fun a b => .tuple [a, b]) ds es
def xsZ (a : DA) : DN := fun ρ Q => a ρ fun avs => ∃ ds es, avs = [.d (.list ds), .d (.list es)] ∧ Q (zipD ds es)
def enumD (ds : List PyData) : List PyData := List.zipWith (fun (i : Nat) b => .tuple [.int i, b]) (List.range ds.length) ds
def xsE (a : DA) : DN := fun ρ Q => a ρ fun avs => ∃ ds, avs = [.d (.list ds)] ∧ Q (enumD ds)
section
variable {K : PySem.W.Frag} {X : Cx} {c : DC} {x : Expr}
theorem pair_tr {S : Addr → Prop} {H H' : Hp} {T : Addr} {x y : V} {a b : PyData} (n : H T = none) (e : H' = upd H T (.tup [x, y])) (ta : Tr S H a x) (tb : Tr S H b y) : Same H H' ∧ Tr S H' (.tuple [a, b]) (.ref T) := by
  subst e
  exact ⟨same_upd n, T, [x, y], rfl, upd_same, .cons (ta.same (same_upd n)) (.cons (tb.same (same_upd n)) .nil)⟩
theorem pdi_zip {tg : Expr} {es : List Expr} {a : DA} (hp : ∀ {t}, PA X es t → PI X tg x (iZip K t)) (ha : PDA X c es a) : PDI X c tg x (iZip K (tDA c a)) (xsZ a) :=
  ⟨hp ha.run, fun {S γ ρ σ H P R} I q k => ⟨S, γ, ρ, I, ha.mono (fun avs ⟨ds, es, e, q⟩ S1 us H1 st1 I1 r1 => by
      subst e
      obtain ⟨v, us', e, r, r2⟩ := r1
      obtain ⟨v2, e2, r2⟩ := AvsR.one r2
      obtain ⟨p, xs, e3, s1, l1, t1⟩ := r
      obtain ⟨p2, ys, e4, s2, l2, t2⟩ := r2
      subst e3 e4 e2
      refine ⟨p, p2, xs, ys, e, SqL.of l1, SqL.of l2, k _ S1 H1 _ [.l p xs ds, .l p2 ys es] q st1 I1 (fun g m => ?_) ⟨_, _, walk_zip (xs := xs) (ys := ys) (by unfold zipD; rw [List.length_zipWith, t1.len, t2.len]), fun S H _ hg => ?_, fun i S H v H' hd hg hi y => ?_⟩⟩
      · rcases List.mem_cons.mp m with e | m
        · rw [e]
          exact ⟨s1, l1, t1⟩
        · rw [List.mem_singleton.mp m]
          exact ⟨s2, l2, t2⟩
      · exact ⟨SqL.of (hg _ List.mem_cons_self).2.1, SqL.of (hg _ (List.mem_cons_of_mem _ List.mem_cons_self)).2.1⟩
      · obtain ⟨T, x, y, e, n, e', hx, hy⟩ := y
        obtain ⟨d1, h1, h2⟩ := (hg _ List.mem_cons_self).2.2.get hx
        obtain ⟨d2, h3, h4⟩ := (hg _ (List.mem_cons_of_mem _ List.mem_cons_self)).2.2.get hy
        obtain ⟨sm, tr⟩ := pair_tr n e' h2 h4
        subst e
        exact ⟨.tuple [d1, d2], by unfold zipD; rw [List.getElem?_zipWith, h1, h3], sm, tr⟩) q⟩,
   fun m q => ha.mono (fun _ ⟨ds, es, e, q⟩ => ⟨ds, es, e, m _ q⟩) q⟩
theorem pdi_enum {tg : Expr} {es : List Expr} {a : DA} (hp : ∀ {t}, PA X es t → PI X tg x (iEnum K t)) (ha : PDA X c es a) : PDI X c tg x (iEnum K (tDA c a)) (xsE a) :=
  ⟨hp ha.run, fun {S γ ρ σ H P R} I q k => ⟨S, γ, ρ, I, ha.mono (fun avs ⟨ds, e, q⟩ S1 us H1 st1 I1 r1 => by
      subst e
      obtain ⟨v, e, r⟩ := r1.one
      obtain ⟨p, xs, e3, s1, l1, t1⟩ := r
      subst e3
      refine ⟨p, xs, e, SqL.of l1, k _ S1 H1 _ [.l p xs ds] q st1 I1 (fun g m => ?_) ⟨_, _, (by unfold enumD; rw [List.length_zipWith, List.length_range, Nat.min_self, ← t1.len]; exact walk_enum (xs := xs)), fun S H _ hg => ?_, fun i S H v H' hd hg hi y => ?_⟩⟩
      · rw [List.mem_singleton.mp m]
        exact ⟨s1, l1, t1⟩
      · exact SqL.of (hg _ List.mem_cons_self).2.1
      · obtain ⟨T, x, y, e, n, e', hx, hy⟩ := y
        cases hx
        obtain ⟨d2, h3, h4⟩ := (hg _ List.mem_cons_self).2.2.get hy
        obtain ⟨sm, tr⟩ := pair_tr (a := .int i) n e' rfl h4
        subst e
        have hlt := (List.getElem?_eq_some_iff.mp h3).1
        exact ⟨.tuple [.int i, d2], by unfold enumD; rw [List.getElem?_zipWith, List.getElem?_range hlt, h3], sm, tr⟩) q⟩,
   fun m q => ha.mono (fun _ ⟨ds, e, q⟩ => ⟨ds, e, m _ q⟩) q⟩
end
/-- a comprehension that gives f of each item -/
theorem lc_map {ds : List PyData} {Q : List PyData → Prop} {g : DG} {e : DE} {ρw : DEnv} (f : PyData → PyData) (hl : ds.length ≤ 1000) (he : ∀ d, d ∈ ds → ∀ P : Av → Prop, P (.d (f d)) → g d ρw fun ρ' => dtYes ρ' fun b => if b = true then e ρ' P else False) (q : Q (ds.map f))
    (mg : ∀ {d ρ} {P P' : DEnv → Prop}, (∀ ρ, P ρ → P' ρ) → g d ρ P → g d ρ P') :
    ∃ I : Nat → List PyData → Prop, I 0 [] ∧ (∀ i d acc, ds[i]? = some d → I i acc → g d ρw fun ρ' => dtYes ρ' fun b => if b = true then e ρ' (fun av => ∃ z, av = .d z ∧ acc.length < 1000 ∧ I (i + 1) (acc ++ [z])) else I (i + 1) acc) ∧ ∀ acc, I ds.length acc → Q acc := by
  refine ⟨fun i acc => acc = (ds.take i).map f, by simp, fun i d acc h ea => ?_, fun acc e => by rw [e, List.take_length]; exact q⟩
  have hi := (List.getElem?_eq_some_iff.mp h).1
  refine mg (P := fun ρ' => dtYes ρ' fun b => if b = true then e ρ' (fun av => ∃ z, av = .d z ∧ acc.length < 1000 ∧ (fun i acc => acc = (ds.take i).map f) (i + 1) (acc ++ [z])) else False) (fun ρ' z => z) (he d (List.mem_of_getElem? h) _ ⟨f d, rfl, ?_, ?_⟩)
  · rw [ea, List.length_map, List.length_take]
    omega
  · show acc ++ [f d] = (ds.take (i + 1)).map f
    rw [List.take_add_one, h, List.map_append, ← show acc = (ds.take i).map f from ea]
    rfl
theorem mgN {i : Nat} {d : PyData} {ρ : DEnv} {P P' : DEnv → Prop} (h : ∀ ρ, P ρ → P' ρ) (q : dgName i d ρ P) : dgName i d ρ P' := h _ q
/-- a list's method -/
def dMt (k : Av → List Av → (Av → Prop) → Prop) (e : DE) (a : DA) : DE := fun ρ Q => e ρ fun x => (∃ ds, x.dat = some (.list ds)) ∧ a ρ fun ys => k x ys Q
structure DMt (c : DC) (r : V → List V → Hp → VK → Prop) (k : Av → List Av → (Av → Prop) → Prop) : Prop where
  run : ∀ {S γ ρ σ H x v ys us P Q}, DInv c S γ ρ σ H → AvR c S H x v → AvsR c S H ys us → k x ys P → GE c S γ ρ σ H P Q → r v us H Q
  mono : ∀ {x ys P P'}, (∀ av, P av → P' av) → k x ys P → k x ys P'
def kIndex : Av → List Av → (Av → Prop) → Prop := fun x ys Q => ∃ ds y d j z, x.dat = some (.list ds) ∧ ys = [y] ∧ y.dat = some d ∧ SeqAt.shaped d = true ∧ SeqAt.shaped (.list ds) = true ∧ ds[j]? = some z ∧ PyData.eqv z d = true ∧ (∀ i w, i < j → ds[i]? = some w → PyData.eqv w d = false) ∧ Q (.d (.int (j : Nat)))
section
variable {K : PySem.W.Frag} {X : Cx} {c : DC} {x o : Expr} {es : List Expr}
theorem pd_mt {r : V → List V → Hp → VK → Prop} {k : Av → List Av → (Av → Prop) → Prop} {e : DE} {a : DA} (hp : ∀ {t u}, PE X o t → PA X es u → PE X x (tBM K "list" r t u)) (hk : DMt c r k) (he : PD X c o e) (ha : PDA X c es a) : PD X c x (dMt k e a) :=
  ⟨pe_weak (hp he.run ha.run) fun σ H Q ⟨S, γ, ρ, I, q⟩ => ⟨S, γ, ρ, I, he.mono (fun av ⟨⟨ds, ed⟩, q⟩ S1 v H1 st1 I1 r1 => by
      obtain ⟨p, xs, e1, l, t⟩ := r1.lst ed
      subst e1
      exact ⟨.inl ⟨rfl, _, SqL.of l⟩, S1, γ, ρ, I1, ha.mono (fun avs g S2 us H2 st2 I2 r2 => hk.run I2 (r1.step I1.h st2) r2 g fun av S3 w H3 g st3 I3 r3 => g S3 w H3 (st1.trans I1.h.w I3.h.w (st2.trans I2.h.w I3.h.w st3)) I3 r3) q⟩) q⟩,
   fun m q => he.mono (fun _ ⟨h, q⟩ => ⟨h, ha.mono (fun _ g => hk.mono m g) q⟩) q⟩
theorem dk_index : DMt c (rIndexD K) kIndex := ⟨fun I rx ry ⟨ds, y, d, j, z, e1, e2, e3, s1, s2, h1, h2, h3, q⟩ g => by
    subst e2
    obtain ⟨v, e, r⟩ := ry.one
    obtain ⟨p, xs, e4, l, t⟩ := rx.lst e1
    subst e4 e
    exact ⟨p, v, d, ds, j, z, rfl, rfl, rx.dp e1 s2, r.dp e3 s1, s2, s1, h1, h2, h3, g _ _ _ _ q Step.refl I rfl⟩,
  fun m ⟨ds, y, d, j, z, e1, e2, e3, s1, s2, h1, h2, h3, q⟩ => ⟨ds, y, d, j, z, e1, e2, e3, s1, s2, h1, h2, h3, m _ q⟩⟩
end
section
variable (K : PySem.W.Frag) {X : Cx}
theorem k_mtIndexD (hu : X.A.units + 65 < cLine) (hK : X.K = K := by rfl) : MtR X "list.index" (rIndexD K) := hK ▸ mt_indexD hu
end
theorem spP_draw {F : FD} {vs : List V} {H : Hp} {Q : VK} {E : XK} (hF : ∀ ds Q, F ds Q → ∃ m : Int, ds = [.int m] ∧ 0 < m ∧ m ≤ 1000 ∧ ∀ r : Int, 0 ≤ r → r < m → Q (.int r)) (h : spP F vs H Q E) :
    ∃ (p : Addr) (L : Nat) (m : Int), vs = [.ref p, .int m] ∧ Pool H p L ∧ 2 ≤ L ∧ L ≤ 64 ∧ 0 < m ∧ m ≤ 1000 ∧ ∀ (r : Int) (H' : Hp), 0 ≤ r → r < m → Kp p H H' → Pool H' p L → Q (.int r) H' := by
  obtain ⟨p, L, S, ds, us, rfl, pl, lim, ns, t, q⟩ := h
  obtain ⟨m, rfl, h0, h1, q⟩ := hF ds _ q
  obtain ⟨v, us', rfl, tv, tn⟩ := t
  cases tv
  cases tn
  exact ⟨p, L, m, rfl, pl, lim.1, lim.2, h0, h1, fun r H' r0 r1 k pl' => q r r0 r1 _ H' k pl' rfl⟩
theorem pd_dnew {X : Cx} {c : DC} {pos : Pos} : PD X c (.Dict [] [] pos) (dC (.dict [])) :=
  ⟨pe_weak pe_dnewK fun σ H Q ⟨S, γ, ρ, I, q⟩ => fun p np => q S (.ref p) _ (Step.same (same_upd np)) (I.newO np) ⟨p, [], rfl, upd_same, fun _ => rfl⟩, fun m q => m _ q⟩
/-- what a statement leaves is said once -/
def dCut (s t : DS) : DS := fun E ρ => ∃ P : DEnv → Prop, s { E with nx := P } ρ ∧ ∀ ρ', P ρ' → t E ρ'
theorem pdss_cut {X : Cx} {c : DC} {st : Stmt} {sts : List Stmt} {s t : DS} (h1 : PDS X c st s) (h2 : PDSs X c sts t) : PDSs X c (st :: sts) (dCut s t) :=
  ⟨pss_weak (pdss_cons h1 h2).run fun D σ H ⟨S, γ, ρ, I, P, q1, q2⟩ => ⟨S, γ, ρ, I, h1.mono (E := { dends c γ D with nx := P }) (E' := { dends c γ D with nx := fun ρ' => t (dends c γ D) ρ' }) ⟨q2, fun _ q => q, fun _ q => q, fun _ q => q⟩ q1⟩,
   fun {E E' ρ} h ⟨P, q1, q2⟩ => ⟨P, h1.mono (E := { E with nx := P }) (E' := { E' with nx := P }) ⟨fun _ q => q, h.rt, h.bk, h.ct⟩ q1, fun ρ' z => h2.mono h (q2 ρ' z)⟩⟩

theorem shB (b : Bool) : SeqAt.shaped (.bool b) = true := by simp [SeqAt.shaped, PyData.canLay0, PyData.depth]
theorem shI (i : Int) : SeqAt.shaped (.int i) = true := by simp [SeqAt.shaped, PyData.canLay0, PyData.depth]
theorem atI_mem {ds : List PyData} {r : Int} (h0 : 0 ≤ r) (h1 : r < ds.length) : ∃ d, atI ds r = some d ∧ d ∈ ds := by
  have hi : r.toNat < ds.length := by omega
  refine ⟨ds[r.toNat], ?_, List.getElem_mem hi⟩
  have e : (r.toNat : Int) = r := Int.toNat_of_nonneg h0
  have h : atI ds (r.toNat : Int) = some ds[r.toNat] := atI_nat (List.getElem?_eq_getElem hi)
  rw [e] at h
  exact h
theorem eqvI (i j : Int) : PyData.eqv (.int i) (.int j) = decide (i = j) := by
  rw [PyData.eqv]
  by_cases h : i = j
  · subst h; simp
  · simp [h]
theorem eqvI2 (i j : Int) : PyData.eqv (.int i) (.int j) = (i == j) := by rw [PyData.eqv]
theorem eqvB (i j : Bool) : PyData.eqv (.bool i) (.bool j) = (i == j) := by rw [PyData.eqv]
theorem eqvS (i j : Str) : PyData.eqv (.str i) (.str j) = (i == j) := by rw [PyData.eqv]
theorem avd1 {x : PyData} {r : List Av} {ds : List PyData} : (Av.d x :: r = List.map Av.d ds) ↔ ∃ es, r = List.map Av.d es ∧ ds = x :: es := by
  constructor
  · intro h
    cases ds with
    | nil => cases h
    | cons y es =>
      cases h
      exact ⟨es, rfl, rfl⟩
  · rintro ⟨es, rfl, rfl⟩
    rfl
theorem avd0 {ds : List PyData} : (([] : List Av) = List.map Av.d ds) ↔ ds = [] := by
  cases ds with
  | nil => exact ⟨fun _ => rfl, fun _ => rfl⟩
  | cons y es => exact ⟨fun h => (nomatch h), fun h => (nomatch h)⟩

--SPLIT
def topS (i : Nat) : Stmt := PySem.Challenge.pw_penhome_k12_faulty_statement_anywhere.main.body.getD i (.Pass ⟨0, 0, 0, 0⟩)
theorem bt_all : bootBuiltins "all" = some (.builtin "all") := by decide +kernel
theorem bt_bool : bootBuiltins "bool" = some (.type "bool") := by decide +kernel
theorem bt_enumerate : bootBuiltins "enumerate" = some (.type "enumerate") := by decide +kernel
theorem bt_int : bootBuiltins "int" = some (.type "int") := by decide +kernel
theorem bt_isinstance : bootBuiltins "isinstance" = some (.builtin "isinstance") := by decide +kernel
theorem bt_len : bootBuiltins "len" = some (.builtin "len") := by decide +kernel
theorem bt_list : bootBuiltins "list" = some (.type "list") := by decide +kernel
theorem bt_range : bootBuiltins "range" = some (.type "range") := by decide +kernel
theorem bt_sorted : bootBuiltins "sorted" = some (.builtin "sorted") := by decide +kernel
theorem bt_str : bootBuiltins "str" = some (.type "str") := by decide +kernel
theorem bt_tuple : bootBuiltins "tuple" = some (.type "tuple") := by decide +kernel
theorem bt_zip : bootBuiltins "zip" = some (.type "zip") := by decide +kernel
abbrev s_NoBook___init__ : Stmt := inClass (topS 4) 0
abbrev N_NoBook___init__ : List Str := ["self", "procedure", "path"]
theorem sc_NoBook___init__ : FnScope N_NoBook___init__ ["self", "procedure", "path"] (defScope s_NoBook___init__) := ⟨rfl, rfl, rfl, by decide +kernel, rfl, by decide +kernel, by decide +kernel⟩
abbrev s_is_integer : Stmt := topS 8
abbrev N_is_integer : List Str := ["thing"]
theorem sc_is_integer : FnScope N_is_integer ["thing"] (defScope s_is_integer) := ⟨rfl, rfl, rfl, by decide +kernel, rfl, by decide +kernel, by decide +kernel⟩
abbrev s_is_within : Stmt := topS 9
abbrev N_is_within : List Str := ["thing", "bounds", "low", "high"]
theorem sc_is_within : FnScope N_is_within ["thing", "bounds"] (defScope s_is_within) := ⟨rfl, rfl, rfl, by decide +kernel, rfl, by decide +kernel, by decide +kernel⟩
abbrev s_is_bit : Stmt := topS 10
abbrev N_is_bit : List Str := ["thing"]
theorem sc_is_bit : FnScope N_is_bit ["thing"] (defScope s_is_bit) := ⟨rfl, rfl, rfl, by decide +kernel, rfl, by decide +kernel, by decide +kernel⟩
abbrev s_is_command : Stmt := topS 11
abbrev N_is_command : List Str := ["thing", "word", "numbers", "bounds", "number", "pair"]
theorem sc_is_command : FnScope N_is_command ["thing"] (defScope s_is_command) := ⟨rfl, rfl, rfl, by decide +kernel, rfl, by decide +kernel, by decide +kernel⟩
abbrev s_is_index : Stmt := topS 17
abbrev N_is_index : List Str := ["thing", "many"]
theorem sc_is_index : FnScope N_is_index ["thing", "many"] (defScope s_is_index) := ⟨rfl, rfl, rfl, by decide +kernel, rfl, by decide +kernel, by decide +kernel⟩
abbrev s_are_blocks : Stmt := topS 18
abbrev N_are_blocks : List Str := ["thing", "many", "block"]
theorem sc_are_blocks : FnScope N_are_blocks ["thing", "many"] (defScope s_are_blocks) := ⟨rfl, rfl, rfl, by decide +kernel, rfl, by decide +kernel, by decide +kernel⟩
abbrev s_is_call : Stmt := topS 19
abbrev N_is_call : List Str := ["thing", "procedures", "_", "procedure", "saved", "blocks"]
theorem sc_is_call : FnScope N_is_call ["thing", "procedures"] (defScope s_is_call) := ⟨rfl, rfl, rfl, by decide +kernel, rfl, by decide +kernel, by decide +kernel⟩
abbrev s_is_statement : Stmt := topS 20
abbrev N_is_statement : List Str := ["thing", "level", "procedures", "word"]
theorem sc_is_statement : FnScope N_is_statement ["thing", "level", "procedures"] (defScope s_is_statement) := ⟨rfl, rfl, rfl, by decide +kernel, rfl, by decide +kernel, by decide +kernel⟩
abbrev s_blocks_of : Stmt := topS 21
abbrev N_blocks_of : List Str := ["statement", "word"]
theorem sc_blocks_of : FnScope N_blocks_of ["statement"] (defScope s_blocks_of) := ⟨rfl, rfl, rfl, by decide +kernel, rfl, by decide +kernel, by decide +kernel⟩
abbrev s_with_blocks : Stmt := topS 22
abbrev N_with_blocks : List Str := ["statement", "blocks", "word"]
theorem sc_with_blocks : FnScope N_with_blocks ["statement", "blocks"] (defScope s_with_blocks) := ⟨rfl, rfl, rfl, by decide +kernel, rfl, by decide +kernel, by decide +kernel⟩
abbrev s_copied_statement : Stmt := topS 23
abbrev N_copied_statement : List Str := ["statement", "block"]
theorem sc_copied_statement : FnScope N_copied_statement ["statement"] (defScope s_copied_statement) := ⟨rfl, rfl, rfl, by decide +kernel, rfl, by decide +kernel, by decide +kernel⟩
abbrev s_copied : Stmt := topS 24
abbrev N_copied : List Str := ["block", "statement"]
theorem sc_copied : FnScope N_copied ["block"] (defScope s_copied) := ⟨rfl, rfl, rfl, by decide +kernel, rfl, by decide +kernel, by decide +kernel⟩
abbrev s_check_block : Stmt := topS 28
abbrev N_check_block : List Str := ["block", "procedure", "ahead", "read", "procedures", "at", "statement", "path", "number", "inner"]
theorem sc_check_block : FnScope N_check_block ["block", "procedure", "ahead", "read", "procedures"] (defScope s_check_block) := ⟨rfl, rfl, rfl, by decide +kernel, rfl, by decide +kernel, by decide +kernel⟩
abbrev s_check_bodies : Stmt := topS 29
abbrev N_check_bodies : List Str := ["bodies", "procedure", "body"]
theorem sc_check_bodies : FnScope N_check_bodies ["bodies"] (defScope s_check_bodies) := ⟨rfl, rfl, rfl, by decide +kernel, rfl, by decide +kernel, by decide +kernel⟩
abbrev s_Book___init__ : Stmt := inClass (topS 31) 0
abbrev N_Book___init__ : List Str := ["self", "bodies", "body"]
theorem sc_Book___init__ : FnScope N_Book___init__ ["self", "bodies"] (defScope s_Book___init__) := ⟨rfl, rfl, rfl, by decide +kernel, rfl, by decide +kernel, by decide +kernel⟩
abbrev s_Book___len__ : Stmt := inClass (topS 31) 1
abbrev N_Book___len__ : List Str := ["self"]
theorem sc_Book___len__ : FnScope N_Book___len__ ["self"] (defScope s_Book___len__) := ⟨rfl, rfl, rfl, by decide +kernel, rfl, by decide +kernel, by decide +kernel⟩
abbrev s_Book_bodies : Stmt := inClass (topS 31) 6
abbrev N_Book_bodies : List Str := ["self", "body"]
theorem sc_Book_bodies : FnScope N_Book_bodies ["self"] (defScope s_Book_bodies) := ⟨rfl, rfl, rfl, by decide +kernel, rfl, by decide +kernel, by decide +kernel⟩
abbrev s__law_pool : Stmt := topS 33
abbrev N__law_pool : List Str := ["_law_script", "_law_cell"]
theorem sc__law_pool : FnScope N__law_pool ["_law_script"] (defScope s__law_pool) := ⟨rfl, rfl, rfl, by decide +kernel, rfl, by decide +kernel, by decide +kernel⟩
abbrev s__law_draw : Stmt := topS 34
abbrev N__law_draw : List Str := ["_law_pool_here", "_law_many", "_law_at", "_law_cell", "_law_number"]
theorem sc__law_draw : FnScope N__law_draw ["_law_pool_here", "_law_many"] (defScope s__law_draw) := ⟨rfl, rfl, rfl, by decide +kernel, rfl, by decide +kernel, by decide +kernel⟩
abbrev s__law_command : Stmt := topS 35
abbrev N__law_command : List Str := ["_law_pool_here", "_law_mood", "_law_menus", "_law_menu", "_law_kind", "_law_far"]
theorem sc__law_command : FnScope N__law_command ["_law_pool_here", "_law_mood"] (defScope s__law_command) := ⟨rfl, rfl, rfl, by decide +kernel, rfl, by decide +kernel, by decide +kernel⟩
abbrev s__law_pair : Stmt := topS 36
abbrev N__law_pair : List Str := ["_law_pool_here", "_law_mood", "_law_k", "_law_kind", "_law_rows"]
theorem sc__law_pair : FnScope N__law_pair ["_law_pool_here", "_law_mood"] (defScope s__law_pair) := ⟨rfl, rfl, rfl, by decide +kernel, rfl, by decide +kernel, by decide +kernel⟩
abbrev s__law_block : Stmt := topS 37
abbrev N__law_block : List Str := ["_law_pool_here", "_law_mood", "_law_level", "_law_room", "_law_calls", "_law_low", "_law_block_here", "_law_turn"]
theorem sc__law_block : FnScope N__law_block ["_law_pool_here", "_law_mood", "_law_level", "_law_room", "_law_calls", "_law_low"] (defScope s__law_block) := ⟨rfl, rfl, rfl, by decide +kernel, rfl, by decide +kernel, by decide +kernel⟩
abbrev s__law_piece : Stmt := topS 38
abbrev N__law_piece : List Str := ["_law_pool_here", "_law_mood", "_law_level", "_law_room", "_law_calls", "_law_low", "_law_kind", "_law_pair_here", "_law_inner", "_law_one", "_law_goal", "_law_saved"]
theorem sc__law_piece : FnScope N__law_piece ["_law_pool_here", "_law_mood", "_law_level", "_law_room", "_law_calls", "_law_low"] (defScope s__law_piece) := ⟨rfl, rfl, rfl, by decide +kernel, rfl, by decide +kernel, by decide +kernel⟩
abbrev s__law_around : Stmt := topS 39
abbrev N__law_around : List Str := ["_law_pool_here", "_law_mood", "_law_room", "_law_calls", "_law_goal", "_law_saved", "_law_at", "_law_pair_here", "_law_rows"]
theorem sc__law_around : FnScope N__law_around ["_law_pool_here", "_law_mood", "_law_room", "_law_calls"] (defScope s__law_around) := ⟨rfl, rfl, rfl, by decide +kernel, rfl, by decide +kernel, by decide +kernel⟩
abbrev s__law_body : Stmt := topS 40
abbrev N__law_body : List Str := ["_law_pool_here", "_law_mood", "_law_room", "_law_calls", "_law_low", "_law_ending", "_law_body_here", "_law_turn", "_law_rows"]
theorem sc__law_body : FnScope N__law_body ["_law_pool_here", "_law_mood", "_law_room", "_law_calls", "_law_low"] (defScope s__law_body) := ⟨rfl, rfl, rfl, by decide +kernel, rfl, by decide +kernel, by decide +kernel⟩
abbrev s__law_book : Stmt := topS 41
abbrev N__law_book : List Str := ["_law_pool_here", "_law_most", "_law_size", "_law_mood", "_law_wild", "_law_many", "_law_calls", "_law_bodies", "_law_procedure", "_law_room", "_law_low"]
theorem sc__law_book : FnScope N__law_book ["_law_pool_here", "_law_most", "_law_size"] (defScope s__law_book) := ⟨rfl, rfl, rfl, by decide +kernel, rfl, by decide +kernel, by decide +kernel⟩
abbrev s__law_blocks : Stmt := topS 42
abbrev N__law_blocks : List Str := ["_law_statement", "_law_item"]
theorem sc__law_blocks : FnScope N__law_blocks ["_law_statement"] (defScope s__law_blocks) := ⟨rfl, rfl, rfl, by decide +kernel, rfl, by decide +kernel, by decide +kernel⟩
abbrev s__law_with : Stmt := topS 43
abbrev N__law_with : List Str := ["_law_statement", "_law_blocks_here"]
theorem sc__law_with : FnScope N__law_with ["_law_statement", "_law_blocks_here"] (defScope s__law_with) := ⟨rfl, rfl, rfl, by decide +kernel, rfl, by decide +kernel, by decide +kernel⟩
abbrev s__law_copy : Stmt := topS 44
abbrev N__law_copy : List Str := ["_law_block_here", "_law_row", "_law_inner"]
theorem sc__law_copy : FnScope N__law_copy ["_law_block_here"] (defScope s__law_copy) := ⟨rfl, rfl, rfl, by decide +kernel, rfl, by decide +kernel, by decide +kernel⟩
abbrev s__law_copies : Stmt := topS 45
abbrev N__law_copies : List Str := ["_law_bodies", "_law_body_here"]
theorem sc__law_copies : FnScope N__law_copies ["_law_bodies"] (defScope s__law_copies) := ⟨rfl, rfl, rfl, by decide +kernel, rfl, by decide +kernel, by decide +kernel⟩
abbrev s__law_places : Stmt := topS 46
abbrev N__law_places : List Str := ["_law_block_here", "_law_path", "_law_places_here", "_law_at", "_law_blocks_here", "_law_number"]
theorem sc__law_places : FnScope N__law_places ["_law_block_here", "_law_path"] (defScope s__law_places) := ⟨rfl, rfl, rfl, by decide +kernel, rfl, by decide +kernel, by decide +kernel⟩
abbrev s__law_all_places : Stmt := topS 47
abbrev N__law_all_places : List Str := ["_law_bodies", "_law_places_here", "_law_procedure", "_law_place"]
theorem sc__law_all_places : FnScope N__law_all_places ["_law_bodies"] (defScope s__law_all_places) := ⟨rfl, rfl, rfl, by decide +kernel, rfl, by decide +kernel, by decide +kernel⟩
abbrev s__law_replaced : Stmt := topS 48
abbrev N__law_replaced : List Str := ["_law_block_here", "_law_path", "_law_value", "_law_result", "_law_blocks_here", "_law_number"]
theorem sc__law_replaced : FnScope N__law_replaced ["_law_block_here", "_law_path", "_law_value"] (defScope s__law_replaced) := ⟨rfl, rfl, rfl, by decide +kernel, rfl, by decide +kernel, by decide +kernel⟩
abbrev s__law_same : Stmt := topS 49
abbrev N__law_same : List Str := ["_law_one", "_law_other", "_law_k"]
theorem sc__law_same : FnScope N__law_same ["_law_one", "_law_other"] (defScope s__law_same) := ⟨rfl, rfl, rfl, by decide +kernel, rfl, by decide +kernel, by decide +kernel⟩
abbrev s__law_bad_statement : Stmt := topS 50
abbrev N__law_bad_statement : List Str := ["_law_pool_here", "_law_many", "_law_blocks_here", "_law_wrong"]
theorem sc__law_bad_statement : FnScope N__law_bad_statement ["_law_pool_here", "_law_many"] (defScope s__law_bad_statement) := ⟨rfl, rfl, rfl, by decide +kernel, rfl, by decide +kernel, by decide +kernel⟩
abbrev s__law_made : Stmt := topS 51
abbrev N__law_made : List Str := ["_law_bodies", "_law_book_here", "e"]
theorem sc__law_made : FnScope N__law_made ["_law_bodies"] (defScope s__law_made) := ⟨rfl, rfl, rfl, by decide +kernel, rfl, by decide +kernel, by decide +kernel⟩
abbrev s_law : Stmt := topS 52
abbrev N_law : List Str := ["_law_script", "_law_pool_here", "_law_many", "_law_bodies", "_law_places_here", "_law_good", "_law_chosen", "_law_step", "_law_faulty", "_law_at", "_law_place", "_law_value", "_law_first", "_law_answer", "_law_again"]
theorem sc_law : FnScope N_law ["_law_script"] (defScope s_law) := ⟨rfl, rfl, rfl, by decide +kernel, rfl, by decide +kernel, by decide +kernel⟩
structure Top (w : World) (K : PySem.W.Frag) (mg : Str → Option Value) where
  C_Book : Addr
  g_Book : mg "Book" = some (.ref C_Book)
  cl_Book : Cls K C_Book
  na_Book__bodies : NoAttr K C_Book "_bodies"
  C_NoBook : Addr
  g_NoBook : mg "NoBook" = some (.ref C_NoBook)
  O_NoBook : OexC K C_NoBook
  x_NoBook : PySem.W.exmOne K (.ref C_NoBook) (.ref C_NoBook) = some true
  xf_NoBook : XfC K C_NoBook
  no_NoBook_procedure : PySem.W.findIn K (.ref C_NoBook) "procedure" = some none
  no_NoBook_path : PySem.W.findIn K (.ref C_NoBook) "path" = some none
  a_NoBook___init__ : Addr
  d_NoBook___init__ : FuncData
  F_NoBook___init__ : Fun K "__init__" "NoBook.__init__" s_NoBook___init__ a_NoBook___init__ d_NoBook___init__
  io_NoBook : PySem.W.findIn K (.ref C_NoBook) "__init__" = some (some (.ref a_NoBook___init__))
  to_NoBook : PySem.W.typeIn K (.ref a_NoBook___init__) = some (.type "function")
  a_is_integer : Addr
  d_is_integer : FuncData
  F_is_integer : Fun K "is_integer" "is_integer" s_is_integer a_is_integer d_is_integer
  g_is_integer : mg "is_integer" = some (.ref a_is_integer)
  a_is_within : Addr
  d_is_within : FuncData
  F_is_within : Fun K "is_within" "is_within" s_is_within a_is_within d_is_within
  g_is_within : mg "is_within" = some (.ref a_is_within)
  a_is_bit : Addr
  d_is_bit : FuncData
  F_is_bit : Fun K "is_bit" "is_bit" s_is_bit a_is_bit d_is_bit
  g_is_bit : mg "is_bit" = some (.ref a_is_bit)
  a_is_command : Addr
  d_is_command : FuncData
  F_is_command : Fun K "is_command" "is_command" s_is_command a_is_command d_is_command
  g_is_command : mg "is_command" = some (.ref a_is_command)
  a_is_index : Addr
  d_is_index : FuncData
  F_is_index : Fun K "is_index" "is_index" s_is_index a_is_index d_is_index
  g_is_index : mg "is_index" = some (.ref a_is_index)
  a_are_blocks : Addr
  d_are_blocks : FuncData
  F_are_blocks : Fun K "are_blocks" "are_blocks" s_are_blocks a_are_blocks d_are_blocks
  g_are_blocks : mg "are_blocks" = some (.ref a_are_blocks)
  a_is_call : Addr
  d_is_call : FuncData
  F_is_call : Fun K "is_call" "is_call" s_is_call a_is_call d_is_call
  g_is_call : mg "is_call" = some (.ref a_is_call)
  a_is_statement : Addr
  d_is_statement : FuncData
  F_is_statement : Fun K "is_statement" "is_statement" s_is_statement a_is_statement d_is_statement
  g_is_statement : mg "is_statement" = some (.ref a_is_statement)
  a_blocks_of : Addr
  d_blocks_of : FuncData
  F_blocks_of : Fun K "blocks_of" "blocks_of" s_blocks_of a_blocks_of d_blocks_of
  g_blocks_of : mg "blocks_of" = some (.ref a_blocks_of)
  a_with_blocks : Addr
  d_with_blocks : FuncData
  F_with_blocks : Fun K "with_blocks" "with_blocks" s_with_blocks a_with_blocks d_with_blocks
  g_with_blocks : mg "with_blocks" = some (.ref a_with_blocks)
  a_copied_statement : Addr
  d_copied_statement : FuncData
  F_copied_statement : Fun K "copied_statement" "copied_statement" s_copied_statement a_copied_statement d_copied_statement
  g_copied_statement : mg "copied_statement" = some (.ref a_copied_statement)
  a_copied : Addr
  d_copied : FuncData
  F_copied : Fun K "copied" "copied" s_copied a_copied d_copied
  g_copied : mg "copied" = some (.ref a_copied)
  a_check_block : Addr
  d_check_block : FuncData
  F_check_block : Fun K "check_block" "check_block" s_check_block a_check_block d_check_block
  g_check_block : mg "check_block" = some (.ref a_check_block)
  a_check_bodies : Addr
  d_check_bodies : FuncData
  F_check_bodies : Fun K "check_bodies" "check_bodies" s_check_bodies a_check_bodies d_check_bodies
  g_check_bodies : mg "check_bodies" = some (.ref a_check_bodies)
  a_Book___init__ : Addr
  d_Book___init__ : FuncData
  F_Book___init__ : Fun K "__init__" "Book.__init__" s_Book___init__ a_Book___init__ d_Book___init__
  mk_Book : Mk K C_Book a_Book___init__
  a_Book___len__ : Addr
  d_Book___len__ : FuncData
  F_Book___len__ : Fun K "__len__" "Book.__len__" s_Book___len__ a_Book___len__ d_Book___len__
  m_Book___len__ : Meth K C_Book "__len__" a_Book___len__
  a_Book_bodies : Addr
  d_Book_bodies : FuncData
  F_Book_bodies : Fun K "bodies" "Book.bodies" s_Book_bodies a_Book_bodies d_Book_bodies
  m_Book_bodies : Meth K C_Book "bodies" a_Book_bodies
  a__law_pool : Addr
  d__law_pool : FuncData
  F__law_pool : Fun K "_law_pool" "_law_pool" s__law_pool a__law_pool d__law_pool
  g__law_pool : mg "_law_pool" = some (.ref a__law_pool)
  a__law_draw : Addr
  d__law_draw : FuncData
  F__law_draw : Fun K "_law_draw" "_law_draw" s__law_draw a__law_draw d__law_draw
  g__law_draw : mg "_law_draw" = some (.ref a__law_draw)
  a__law_command : Addr
  d__law_command : FuncData
  F__law_command : Fun K "_law_command" "_law_command" s__law_command a__law_command d__law_command
  g__law_command : mg "_law_command" = some (.ref a__law_command)
  a__law_pair : Addr
  d__law_pair : FuncData
  F__law_pair : Fun K "_law_pair" "_law_pair" s__law_pair a__law_pair d__law_pair
  g__law_pair : mg "_law_pair" = some (.ref a__law_pair)
  a__law_block : Addr
  d__law_block : FuncData
  F__law_block : Fun K "_law_block" "_law_block" s__law_block a__law_block d__law_block
  g__law_block : mg "_law_block" = some (.ref a__law_block)
  a__law_piece : Addr
  d__law_piece : FuncData
  F__law_piece : Fun K "_law_piece" "_law_piece" s__law_piece a__law_piece d__law_piece
  g__law_piece : mg "_law_piece" = some (.ref a__law_piece)
  a__law_around : Addr
  d__law_around : FuncData
  F__law_around : Fun K "_law_around" "_law_around" s__law_around a__law_around d__law_around
  g__law_around : mg "_law_around" = some (.ref a__law_around)
  a__law_body : Addr
  d__law_body : FuncData
  F__law_body : Fun K "_law_body" "_law_body" s__law_body a__law_body d__law_body
  g__law_body : mg "_law_body" = some (.ref a__law_body)
  a__law_book : Addr
  d__law_book : FuncData
  F__law_book : Fun K "_law_book" "_law_book" s__law_book a__law_book d__law_book
  g__law_book : mg "_law_book" = some (.ref a__law_book)
  a__law_blocks : Addr
  d__law_blocks : FuncData
  F__law_blocks : Fun K "_law_blocks" "_law_blocks" s__law_blocks a__law_blocks d__law_blocks
  g__law_blocks : mg "_law_blocks" = some (.ref a__law_blocks)
  a__law_with : Addr
  d__law_with : FuncData
  F__law_with : Fun K "_law_with" "_law_with" s__law_with a__law_with d__law_with
  g__law_with : mg "_law_with" = some (.ref a__law_with)
  a__law_copy : Addr
  d__law_copy : FuncData
  F__law_copy : Fun K "_law_copy" "_law_copy" s__law_copy a__law_copy d__law_copy
  g__law_copy : mg "_law_copy" = some (.ref a__law_copy)
  a__law_copies : Addr
  d__law_copies : FuncData
  F__law_copies : Fun K "_law_copies" "_law_copies" s__law_copies a__law_copies d__law_copies
  g__law_copies : mg "_law_copies" = some (.ref a__law_copies)
  a__law_places : Addr
  d__law_places : FuncData
  F__law_places : Fun K "_law_places" "_law_places" s__law_places a__law_places d__law_places
  g__law_places : mg "_law_places" = some (.ref a__law_places)
  a__law_all_places : Addr
  d__law_all_places : FuncData
  F__law_all_places : Fun K "_law_all_places" "_law_all_places" s__law_all_places a__law_all_places d__law_all_places
  g__law_all_places : mg "_law_all_places" = some (.ref a__law_all_places)
  a__law_replaced : Addr
  d__law_replaced : FuncData
  F__law_replaced : Fun K "_law_replaced" "_law_replaced" s__law_replaced a__law_replaced d__law_replaced
  g__law_replaced : mg "_law_replaced" = some (.ref a__law_replaced)
  a__law_same : Addr
  d__law_same : FuncData
  F__law_same : Fun K "_law_same" "_law_same" s__law_same a__law_same d__law_same
  g__law_same : mg "_law_same" = some (.ref a__law_same)
  a__law_bad_statement : Addr
  d__law_bad_statement : FuncData
  F__law_bad_statement : Fun K "_law_bad_statement" "_law_bad_statement" s__law_bad_statement a__law_bad_statement d__law_bad_statement
  g__law_bad_statement : mg "_law_bad_statement" = some (.ref a__law_bad_statement)
  a__law_made : Addr
  d__law_made : FuncData
  F__law_made : Fun K "_law_made" "_law_made" s__law_made a__law_made d__law_made
  g__law_made : mg "_law_made" = some (.ref a__law_made)
  a_law : Addr
  d_law : FuncData
  F_law : Fun K "law" "law" s_law a_law d_law
  g_law : mg "law" = some (.ref a_law)
  c_DEEPEST_LEVEL : ∃ u, mg "DEEPEST_LEVEL" = some u ∧ RelV (.int 3) u
  c_MOST_IN_A_LIST : ∃ u, mg "MOST_IN_A_LIST" = some u ∧ RelV (.int 8) u
  c_MOST_IN_A_PROCEDURE : ∃ u, mg "MOST_IN_A_PROCEDURE" = some u ∧ RelV (.int 12) u
  c_MOST_PROCEDURES : ∃ u, mg "MOST_PROCEDURES" = some u ∧ RelV (.int 3) u
  z_all : mg "all" = none
  z_bool : mg "bool" = none
  z_enumerate : mg "enumerate" = none
  z_int : mg "int" = none
  z_isinstance : mg "isinstance" = none
  z_len : mg "len" = none
  z_list : mg "list" = none
  z_range : mg "range" = none
  z_reversed : mg "reversed" = none
  z_sorted : mg "sorted" = none
  z_str : mg "str" = none
  z_tuple : mg "tuple" = none
  z_zip : mg "zip" = none
  a_BOUNDS : Addr
  c_BOUNDS : ∃ u, mg "BOUNDS" = some u ∧ RelV (.ref a_BOUNDS) u
  e_B : Array DictEntry
  n_B : Nat
  D_B : KDict K w a_BOUNDS e_B n_B
  L_B : Lims w K a_BOUNDS
  W_B : ∀ s ∈ oddWords, PySem.W.nsIn K a_BOUNDS s = some none
theorem b_NoBook___init__ {w : World} {K : PySem.W.Frag} {mg : Str → Option Value} (T : Top w K mg) : Binds K T.d_NoBook___init__ ["self", "procedure", "path"] [] := T.F_NoBook___init__.binds (ps := ["self", "procedure", "path"]) fun _ _ _ _ _ _ us hl => match us, hl with | [_, _, _], _ => rfl
theorem b_is_integer {w : World} {K : PySem.W.Frag} {mg : Str → Option Value} (T : Top w K mg) : Binds K T.d_is_integer ["thing"] [] := T.F_is_integer.binds (ps := ["thing"]) fun _ _ _ _ _ _ us hl => match us, hl with | [_], _ => rfl
theorem b_is_within {w : World} {K : PySem.W.Frag} {mg : Str → Option Value} (T : Top w K mg) : Binds K T.d_is_within ["thing", "bounds"] [] := T.F_is_within.binds (ps := ["thing", "bounds"]) fun _ _ _ _ _ _ us hl => match us, hl with | [_, _], _ => rfl
theorem b_is_bit {w : World} {K : PySem.W.Frag} {mg : Str → Option Value} (T : Top w K mg) : Binds K T.d_is_bit ["thing"] [] := T.F_is_bit.binds (ps := ["thing"]) fun _ _ _ _ _ _ us hl => match us, hl with | [_], _ => rfl
theorem b_is_command {w : World} {K : PySem.W.Frag} {mg : Str → Option Value} (T : Top w K mg) : Binds K T.d_is_command ["thing"] [] := T.F_is_command.binds (ps := ["thing"]) fun _ _ _ _ _ _ us hl => match us, hl with | [_], _ => rfl
theorem b_is_index {w : World} {K : PySem.W.Frag} {mg : Str → Option Value} (T : Top w K mg) : Binds K T.d_is_index ["thing", "many"] [] := T.F_is_index.binds (ps := ["thing", "many"]) fun _ _ _ _ _ _ us hl => match us, hl with | [_, _], _ => rfl
theorem b_are_blocks {w : World} {K : PySem.W.Frag} {mg : Str → Option Value} (T : Top w K mg) : Binds K T.d_are_blocks ["thing", "many"] [] := T.F_are_blocks.binds (ps := ["thing", "many"]) fun _ _ _ _ _ _ us hl => match us, hl with | [_, _], _ => rfl
theorem b_is_call {w : World} {K : PySem.W.Frag} {mg : Str → Option Value} (T : Top w K mg) : Binds K T.d_is_call ["thing", "procedures"] [] := T.F_is_call.binds (ps := ["thing", "procedures"]) fun _ _ _ _ _ _ us hl => match us, hl with | [_, _], _ => rfl
theorem b_is_statement {w : World} {K : PySem.W.Frag} {mg : Str → Option Value} (T : Top w K mg) : Binds K T.d_is_statement ["thing", "level", "procedures"] [] := T.F_is_statement.binds (ps := ["thing", "level", "procedures"]) fun _ _ _ _ _ _ us hl => match us, hl with | [_, _, _], _ => rfl
theorem b_blocks_of {w : World} {K : PySem.W.Frag} {mg : Str → Option Value} (T : Top w K mg) : Binds K T.d_blocks_of ["statement"] [] := T.F_blocks_of.binds (ps := ["statement"]) fun _ _ _ _ _ _ us hl => match us, hl with | [_], _ => rfl
theorem b_with_blocks {w : World} {K : PySem.W.Frag} {mg : Str → Option Value} (T : Top w K mg) : Binds K T.d_with_blocks ["statement", "blocks"] [] := T.F_with_blocks.binds (ps := ["statement", "blocks"]) fun _ _ _ _ _ _ us hl => match us, hl with | [_, _], _ => rfl
theorem b_copied_statement {w : World} {K : PySem.W.Frag} {mg : Str → Option Value} (T : Top w K mg) : Binds K T.d_copied_statement ["statement"] [] := T.F_copied_statement.binds (ps := ["statement"]) fun _ _ _ _ _ _ us hl => match us, hl with | [_], _ => rfl
theorem b_copied {w : World} {K : PySem.W.Frag} {mg : Str → Option Value} (T : Top w K mg) : Binds K T.d_copied ["block"] [] := T.F_copied.binds (ps := ["block"]) fun _ _ _ _ _ _ us hl => match us, hl with | [_], _ => rfl
theorem b_check_block {w : World} {K : PySem.W.Frag} {mg : Str → Option Value} (T : Top w K mg) : Binds K T.d_check_block ["block", "procedure", "ahead", "read", "procedures"] [] := T.F_check_block.binds (ps := ["block", "procedure", "ahead", "read", "procedures"]) fun _ _ _ _ _ _ us hl => match us, hl with | [_, _, _, _, _], _ => rfl
theorem b_check_bodies {w : World} {K : PySem.W.Frag} {mg : Str → Option Value} (T : Top w K mg) : Binds K T.d_check_bodies ["bodies"] [] := T.F_check_bodies.binds (ps := ["bodies"]) fun _ _ _ _ _ _ us hl => match us, hl with | [_], _ => rfl
theorem b_Book___init__ {w : World} {K : PySem.W.Frag} {mg : Str → Option Value} (T : Top w K mg) : Binds K T.d_Book___init__ ["self", "bodies"] [] := T.F_Book___init__.binds (ps := ["self", "bodies"]) fun _ _ _ _ _ _ us hl => match us, hl with | [_, _], _ => rfl
theorem b_Book___len__ {w : World} {K : PySem.W.Frag} {mg : Str → Option Value} (T : Top w K mg) : Binds K T.d_Book___len__ ["self"] [] := T.F_Book___len__.binds (ps := ["self"]) fun _ _ _ _ _ _ us hl => match us, hl with | [_], _ => rfl
theorem b_Book_bodies {w : World} {K : PySem.W.Frag} {mg : Str → Option Value} (T : Top w K mg) : Binds K T.d_Book_bodies ["self"] [] := T.F_Book_bodies.binds (ps := ["self"]) fun _ _ _ _ _ _ us hl => match us, hl with | [_], _ => rfl
theorem b__law_pool {w : World} {K : PySem.W.Frag} {mg : Str → Option Value} (T : Top w K mg) : Binds K T.d__law_pool ["_law_script"] [] := T.F__law_pool.binds (ps := ["_law_script"]) fun _ _ _ _ _ _ us hl => match us, hl with | [_], _ => rfl
theorem b__law_draw {w : World} {K : PySem.W.Frag} {mg : Str → Option Value} (T : Top w K mg) : Binds K T.d__law_draw ["_law_pool_here", "_law_many"] [] := T.F__law_draw.binds (ps := ["_law_pool_here", "_law_many"]) fun _ _ _ _ _ _ us hl => match us, hl with | [_, _], _ => rfl
theorem b__law_command {w : World} {K : PySem.W.Frag} {mg : Str → Option Value} (T : Top w K mg) : Binds K T.d__law_command ["_law_pool_here", "_law_mood"] [] := T.F__law_command.binds (ps := ["_law_pool_here", "_law_mood"]) fun _ _ _ _ _ _ us hl => match us, hl with | [_, _], _ => rfl
theorem b__law_pair {w : World} {K : PySem.W.Frag} {mg : Str → Option Value} (T : Top w K mg) : Binds K T.d__law_pair ["_law_pool_here", "_law_mood"] [] := T.F__law_pair.binds (ps := ["_law_pool_here", "_law_mood"]) fun _ _ _ _ _ _ us hl => match us, hl with | [_, _], _ => rfl
theorem b__law_block {w : World} {K : PySem.W.Frag} {mg : Str → Option Value} (T : Top w K mg) : Binds K T.d__law_block ["_law_pool_here", "_law_mood", "_law_level", "_law_room", "_law_calls", "_law_low"] [] := T.F__law_block.binds (ps := ["_law_pool_here", "_law_mood", "_law_level", "_law_room", "_law_calls", "_law_low"]) fun _ _ _ _ _ _ us hl => match us, hl with | [_, _, _, _, _, _], _ => rfl
theorem b__law_piece {w : World} {K : PySem.W.Frag} {mg : Str → Option Value} (T : Top w K mg) : Binds K T.d__law_piece ["_law_pool_here", "_law_mood", "_law_level", "_law_room", "_law_calls", "_law_low"] [] := T.F__law_piece.binds (ps := ["_law_pool_here", "_law_mood", "_law_level", "_law_room", "_law_calls", "_law_low"]) fun _ _ _ _ _ _ us hl => match us, hl with | [_, _, _, _, _, _], _ => rfl
theorem b__law_around {w : World} {K : PySem.W.Frag} {mg : Str → Option Value} (T : Top w K mg) : Binds K T.d__law_around ["_law_pool_here", "_law_mood", "_law_room", "_law_calls"] [] := T.F__law_around.binds (ps := ["_law_pool_here", "_law_mood", "_law_room", "_law_calls"]) fun _ _ _ _ _ _ us hl => match us, hl with | [_, _, _, _], _ => rfl
theorem b__law_body {w : World} {K : PySem.W.Frag} {mg : Str → Option Value} (T : Top w K mg) : Binds K T.d__law_body ["_law_pool_here", "_law_mood", "_law_room", "_law_calls", "_law_low"] [] := T.F__law_body.binds (ps := ["_law_pool_here", "_law_mood", "_law_room", "_law_calls", "_law_low"]) fun _ _ _ _ _ _ us hl => match us, hl with | [_, _, _, _, _], _ => rfl
theorem b__law_book {w : World} {K : PySem.W.Frag} {mg : Str → Option Value} (T : Top w K mg) : Binds K T.d__law_book ["_law_pool_here", "_law_most", "_law_size"] [] := T.F__law_book.binds (ps := ["_law_pool_here", "_law_most", "_law_size"]) fun _ _ _ _ _ _ us hl => match us, hl with | [_, _, _], _ => rfl
theorem b__law_blocks {w : World} {K : PySem.W.Frag} {mg : Str → Option Value} (T : Top w K mg) : Binds K T.d__law_blocks ["_law_statement"] [] := T.F__law_blocks.binds (ps := ["_law_statement"]) fun _ _ _ _ _ _ us hl => match us, hl with | [_], _ => rfl
theorem b__law_with {w : World} {K : PySem.W.Frag} {mg : Str → Option Value} (T : Top w K mg) : Binds K T.d__law_with ["_law_statement", "_law_blocks_here"] [] := T.F__law_with.binds (ps := ["_law_statement", "_law_blocks_here"]) fun _ _ _ _ _ _ us hl => match us, hl with | [_, _], _ => rfl
theorem b__law_copy {w : World} {K : PySem.W.Frag} {mg : Str → Option Value} (T : Top w K mg) : Binds K T.d__law_copy ["_law_block_here"] [] := T.F__law_copy.binds (ps := ["_law_block_here"]) fun _ _ _ _ _ _ us hl => match us, hl with | [_], _ => rfl
theorem b__law_copies {w : World} {K : PySem.W.Frag} {mg : Str → Option Value} (T : Top w K mg) : Binds K T.d__law_copies ["_law_bodies"] [] := T.F__law_copies.binds (ps := ["_law_bodies"]) fun _ _ _ _ _ _ us hl => match us, hl with | [_], _ => rfl
theorem b__law_places {w : World} {K : PySem.W.Frag} {mg : Str → Option Value} (T : Top w K mg) : Binds K T.d__law_places ["_law_block_here", "_law_path"] [] := T.F__law_places.binds (ps := ["_law_block_here", "_law_path"]) fun _ _ _ _ _ _ us hl => match us, hl with | [_, _], _ => rfl
theorem b__law_all_places {w : World} {K : PySem.W.Frag} {mg : Str → Option Value} (T : Top w K mg) : Binds K T.d__law_all_places ["_law_bodies"] [] := T.F__law_all_places.binds (ps := ["_law_bodies"]) fun _ _ _ _ _ _ us hl => match us, hl with | [_], _ => rfl
theorem b__law_replaced {w : World} {K : PySem.W.Frag} {mg : Str → Option Value} (T : Top w K mg) : Binds K T.d__law_replaced ["_law_block_here", "_law_path", "_law_value"] [] := T.F__law_replaced.binds (ps := ["_law_block_here", "_law_path", "_law_value"]) fun _ _ _ _ _ _ us hl => match us, hl with | [_, _, _], _ => rfl
theorem b__law_same {w : World} {K : PySem.W.Frag} {mg : Str → Option Value} (T : Top w K mg) : Binds K T.d__law_same ["_law_one", "_law_other"] [] := T.F__law_same.binds (ps := ["_law_one", "_law_other"]) fun _ _ _ _ _ _ us hl => match us, hl with | [_, _], _ => rfl
theorem b__law_bad_statement {w : World} {K : PySem.W.Frag} {mg : Str → Option Value} (T : Top w K mg) : Binds K T.d__law_bad_statement ["_law_pool_here", "_law_many"] [] := T.F__law_bad_statement.binds (ps := ["_law_pool_here", "_law_many"]) fun _ _ _ _ _ _ us hl => match us, hl with | [_, _], _ => rfl
theorem b__law_made {w : World} {K : PySem.W.Frag} {mg : Str → Option Value} (T : Top w K mg) : Binds K T.d__law_made ["_law_bodies"] [] := T.F__law_made.binds (ps := ["_law_bodies"]) fun _ _ _ _ _ _ us hl => match us, hl with | [_], _ => rfl
theorem b_law {w : World} {K : PySem.W.Frag} {mg : Str → Option Value} (T : Top w K mg) : Binds K T.d_law ["_law_script"] [] := T.F_law.binds (ps := ["_law_script"]) fun _ _ _ _ _ _ us hl => match us, hl with | [_], _ => rfl
--SPLIT
def sp_is_integer : Sp := fun vs H Q _ => ∃ (S : Addr → Prop) (d : PyData) (v : V), vs = [v] ∧ Tr S H d v ∧ Q (.bl (isI d)) H
theorem ok_is_integer (T : Top w K mg) : FnOk P w K mg base CX0 1 T.a_is_integer T.d_is_integer ["thing"] sp_is_integer := by
  refine T.F_is_integer.ok sc_is_integer (fun vs H Q E h => ?_) (fun cdv A outer s H vs Q E hr h => ?_)
  · obtain ⟨S, d, v, rfl, _⟩ := h
    rfl
  · obtain ⟨S, d, v, rfl, hv, q⟩ := h
    refine ⟨_, (pss_one (ps_ret (pe_and (pe_callB (k_isi K) (by rfl) T.z_isinstance bt_isinstance (pa_cons (pv 0) (pa_cons (pe_bltn (v := .ty "int") (by rfl) T.z_int bt_int rfl) pa_nil))) (pe_one (pe_not (pe_callB (k_isi K) (by rfl) T.z_isinstance bt_isinstance (pa_cons (pv 0) (pa_cons (pe_bltn (v := .ty "bool") (by rfl) T.z_bool bt_bool rfl) pa_nil)))))))), ?_⟩
    refine ⟨_, rfl, _, _, _, _, isNum d, rfl, .ty _, tr_ty K hv, ki_int K d, _, rfl, ?_⟩
    cases d with
    | int z => exact iteT ⟨_, rfl, _, _, _, _, _, rfl, .ty _, tr_ty K hv, ki_bool K _, _, rfl, q⟩
    | bool b => exact iteT ⟨_, rfl, _, _, _, _, _, rfl, .ty _, tr_ty K hv, ki_bool K _, _, rfl, q⟩
    | _ => exact q
def sp_is_within (K : PySem.W.Frag) : Sp := fun vs H Q _ => ∃ (S : Addr → Prop) (t : Addr) (d : PyData) (v : V) (l : Int × Int), vs = [v, .ref t] ∧ Tr S H d v ∧ SqT K H t [.int l.1, .int l.2] ∧ Q (.bl (inD d l)) H
theorem ok_is_within (T : Top w K mg) : FnOk P w K mg base CX0 2 T.a_is_within T.d_is_within ["thing", "bounds"] (sp_is_within K) := by
  refine T.F_is_within.ok sc_is_within (fun vs H Q E h => ?_) (fun cdv A outer s H vs Q E hr h => ?_)
  · obtain ⟨S, t, d, v, l, rfl, _⟩ := h
    rfl
  · obtain ⟨S, t, d, v, l, rfl, hv, ht, q⟩ := h
    refine ⟨_, (pss_cons (ps_asg (pv 1) (pg_tup rfl (pgs_cons (pg_name (i := 2) sc_is_within.nd rfl (Or.inl rfl)) (pgs_cons (pg_name (i := 3) sc_is_within.nd rfl (Or.inl rfl)) pgs_nil))))
      (pss_one (ps_ret (pe_and (pe_call (ok_is_integer T) hr (by rfl) T.g_is_integer T.F_is_integer.kp (b_is_integer T) .nil pass0 (pa_cons (pv 0) pa_nil)) (pe_one (pe_chain op_le op_le (pv 2) (pv 0) (pv 3))))))), ?_⟩
    refine ⟨_, rfl, t, _, rfl, ht, rfl, _, _, rfl, _, _, rfl, rfl, ?_⟩
    refine ⟨_, rfl, S, d, v, rfl, hv, ⟨isI d, rfl, ?_⟩⟩
    cases d with
    | int z =>
      cases hv
      refine iteT ⟨_, rfl, _, rfl, _, _, rfl, rfl, _, rfl, ?_⟩
      by_cases h1 : l.1 ≤ z
      · refine iteP h1 ⟨_, rfl, _, _, rfl, rfl, ?_⟩
        have e : inD (.int z) l = decide (z ≤ l.2) := by
          show (decide (l.1 ≤ z) && decide (z ≤ l.2)) = _
          rw [decide_eq_true h1, Bool.true_and]
        rw [e] at q
        exact q
      · refine iteN h1 ?_
        have e : inD (.int z) l = false := by
          show (decide (l.1 ≤ z) && decide (z ≤ l.2)) = _
          rw [decide_eq_false h1, Bool.false_and]
        rw [e] at q
        exact q
    | _ => exact q
def sp_is_bit (K : PySem.W.Frag) : Sp := fun vs H Q _ => ∃ (S : Addr → Prop) (d : PyData) (v : V), vs = [v] ∧ Tr S H d v ∧ ∀ H', Same H H' → Q (.bl (inD d (0, 1))) H'
theorem ok_is_bit (T : Top w K mg) : FnOk P w K mg base CX0 3 T.a_is_bit T.d_is_bit ["thing"] (sp_is_bit K) := by
  refine T.F_is_bit.ok sc_is_bit (fun vs H Q E h => ?_) (fun cdv A outer s H vs Q E hr h => ?_)
  · obtain ⟨S, d, v, rfl, _⟩ := h
    rfl
  · obtain ⟨S, d, v, rfl, hv, q⟩ := h
    refine ⟨_, (pss_one (ps_ret (pe_call (ok_is_within T) hr (by rfl) T.g_is_within T.F_is_within.kp (b_is_within T) .nil pass0 (pa_cons (pv 0) (pa_cons (pe_tup (pa_cons pe_int (pa_cons pe_int pa_nil))) pa_nil))))), ?_⟩
    refine ⟨_, rfl, small100 (n := 2) (by decide), fun t nt => ?_⟩
    have s1 := same_upd (o := .tup [V.int 0, V.int 1]) nt
    exact ⟨S, t, d, v, (0, 1), rfl, hv.same s1, SqT.of upd_same, q _ s1⟩
def sp_is_index (K : PySem.W.Frag) : Sp := fun vs H Q _ => ∃ (S : Addr → Prop) (d : PyData) (v : V) (n : Int), vs = [v, .int n] ∧ Tr S H d v ∧ ∀ H', Same H H' → Q (.bl (inD d (0, n - 1))) H'
theorem ok_is_index (T : Top w K mg) : FnOk P w K mg base CX0 3 T.a_is_index T.d_is_index ["thing", "many"] (sp_is_index K) := by
  refine T.F_is_index.ok sc_is_index (fun vs H Q E h => ?_) (fun cdv A outer s H vs Q E hr h => ?_)
  · obtain ⟨S, d, v, n, rfl, _⟩ := h
    rfl
  · obtain ⟨S, d, v, n, rfl, hv, q⟩ := h
    refine ⟨_, (pss_one (ps_ret (pe_call (ok_is_within T) hr (by rfl) T.g_is_within T.F_is_within.kp (b_is_within T) .nil pass0 (pa_cons (pv 0) (pa_cons (pe_tup (pa_cons pe_int (pa_cons (pe_op op_sub (pv 1) pe_int) pa_nil))) pa_nil))))), ?_⟩
    refine ⟨_, rfl, _, rfl, _, _, rfl, rfl, small100 (n := 2) (by decide), fun t nt => ?_⟩
    have s1 := same_upd (o := .tup [V.int 0, V.int (n - 1)]) nt
    exact ⟨S, t, d, v, (0, n - 1), rfl, hv.same s1, SqT.of upd_same, q _ s1⟩

def sp_is_command : Sp := fun vs H Q _ => ∃ (S : Addr → Prop) (d : PyData) (v : V), vs = [v] ∧ Tr S H d v ∧ WordOk d ∧ ∀ H', Same H H' → Q (.bl (cmdOk d)) H'
theorem zipTake (ns : List PyData) (ls : List (Int × Int)) (i : Nat) {d : PyData} {l : Int × Int} (h1 : ns[i]? = some d) (h2 : ls[i]? = some l) : ((List.zipWith inD ns ls).take (i + 1)).map V.bl = ((List.zipWith inD ns ls).take i).map V.bl ++ [.bl (inD d l)] := by
  rw [List.take_add_one, List.getElem?_zipWith, h1, h2, List.map_append]
  rfl
theorem ok_is_command (T : Top w K mg) : FnOk P w K mg base CX0 3 T.a_is_command T.d_is_command ["thing"] sp_is_command := by
  refine T.F_is_command.ok sc_is_command (fun vs H Q E h => ?_) (fun cdv A outer s H vs Q E hr h => ?_)
  · obtain ⟨S, d, v, rfl, _⟩ := h
    rfl
  · obtain ⟨S, d, v, rfl, hv, hw, q⟩ := h
    refine ⟨_, (pss_cons (ps_if (PW.pt (pw_or (pt_not (pt_val (pe_callB (k_isi K) (by rfl) T.z_isinstance bt_isinstance (pa_cons (pv 0) (pa_cons (pe_bltn (v := .ty "tuple") (by rfl) T.z_tuple bt_tuple rfl) pa_nil))))) (pw_or1 (pt_cmpR op_eq (pe_callB (k_len K) (by rfl) T.z_len bt_len (pa_cons (pv 0) pa_nil)) pe_int (nomark _))))) (pss_one (ps_ret pe_bl)) pss_nil)
      (pss_cons (ps_asg (pv 0) (pg_star K rfl (pg_name (i := 1) sc_is_command.nd rfl (Or.inl rfl)) (pg_name (i := 2) sc_is_command.nd rfl (Or.inl rfl))))
      (pss_cons (ps_if (PW.pt (pw_or (pt_not (pt_val (pe_callB (k_isi K) (by rfl) T.z_isinstance bt_isinstance (pa_cons (pv 1) (pa_cons (pe_bltn (v := .ty "str") (by rfl) T.z_str bt_str rfl) pa_nil))))) (pw_or1 (pt_cmpR (op_notIn_kd T.D_B) (pv 1) (C8.pe_gc rfl T.c_BOUNDS) rfl)))) (pss_one (ps_ret pe_bl)) pss_nil)
      (pss_cons (ps_set (i := 3) sc_is_command.nd rfl (Or.inl rfl) (pe_ix ix_kdict (C8.pe_gc rfl T.c_BOUNDS) (pv 1) (fun _ _ => rfl)))
      (pss_cons (ps_if (pt_cmpR op_ne (pe_callB (k_len K) (by rfl) T.z_len bt_len (pa_cons (pv 2) pa_nil)) (pe_callB (k_len K) (by rfl) T.z_len bt_len (pa_cons (pv 3) pa_nil)) (nomark _)) (pss_one (ps_ret pe_bl)) pss_nil)
      (pss_one (ps_ret (pe_callB (k_all K) (by rfl) T.z_all bt_all (pa_cons (pe_lc (own := [("number", 4), ("pair", 5)]) (g := (gTup K 2 (gCons (gName 4) (gCons (gName 5) gNil)))) (tt := tYes) rfl sc_is_command.nd (pi_zipLT K (by rfl) T.z_zip (pa_cons (pv 2) (pa_cons (pv 3) pa_nil))) (blkOk_by (N := N_is_command) (sc := defScope s_is_command) (by decide +kernel)) (fun _ _ _ _ _ => (pg_tup rfl (pgs_cons (pg_name (i := 4) sc_is_command.nd rfl (Or.inl rfl)) (pgs_cons (pg_name (i := 5) sc_is_command.nd rfl (Or.inl rfl)) pgs_nil)))) (fun _ _ _ _ _ => pts_nil) (fun _ _ _ _ _ => (pe_call (ok_is_within T) hr (by rfl) T.g_is_within T.F_is_within.kp (b_is_within T) .nil pass0 (pa_cons (pv 4) (pa_cons (pv 5) pa_nil))))) pa_nil))))))))), ?_⟩
    cases d with
    | tuple ds =>
      refine ⟨_, rfl, _, _, _, _, _, rfl, .ty _, tr_ty K hv, ki_tuple K _, _, rfl, ?_⟩
      obtain ⟨a, xs, rfl, ha, hs⟩ := hv
      cases ds with
      | nil =>
        cases hs
        exact ⟨_, rfl, _, _, rfl, .inr (SqT.of ha), rfl, _, rfl, iteP rfl (q H (Same.refl _))⟩
      | cons x ns =>
        obtain ⟨y, r, rfl, hx, hr2⟩ := hs
        refine ⟨_, rfl, a, _, rfl, .inr (SqT.of ha), rfl, _, rfl, iteN (fun e => ?_) ?_⟩
        · have := V.int.inj e
          rw [List.length_cons] at this
          omega
        refine ⟨_, rfl, a, _, _, rfl, SqT.of ha, fun b nb => ?_⟩
        have s1 := same_upd (o := .lst r) nb
        have hb : (upd H b (.lst r)) b = some (.lst r) := upd_same
        generalize upd H b (.lst r) = H1 at *
        have hx := hx.same s1
        have hr2 := hr2.same s1
        refine ⟨_, rfl, _, _, _, _, _, rfl, .ty _, tr_ty K hx, ki_str K _, _, rfl, ?_⟩
        cases x with
        | str sw =>
          cases hx
          rcases hw with hw | ⟨c, rfl⟩
          · refine ⟨_, rfl, _, none, rfl, rfl, T.W_B _ hw, _, rfl, ?_⟩
            have e : cmdOk (.tuple (.str sw :: ns)) = false := by
              unfold cmdOk
              dsimp only
              rw [bounds_odd hw]
            rw [← e]
            exact q _ s1
          · obtain ⟨ab, ps, hd, hab, hpl, hll, hps⟩ := T.L_B.row c
            obtain ⟨es, n, u, hl, hk, hn, hu⟩ := id hd
            have hlen : c.nums.length ≤ 2 := by cases c <;> simp [Cm.nums]
            have lr := hr2.len
            refine ⟨_, rfl, _, some u, rfl, rfl, hn, _, rfl, ?_⟩
            refine ⟨_, rfl, _, _, _, rfl, rfl, hd, ?_⟩
            have e : cmdOk (.tuple (.str c.word :: ns)) = (decide (ns.length = c.lims.length) && (List.zipWith inD ns c.lims).all id) := by
              unfold cmdOk
              dsimp only
              rw [bounds_cm]
            by_cases l : ns.length = c.nums.length
            · refine ⟨_, rfl, b, _, rfl, .inl (SqL.of hb), _, rfl, ab, _, rfl, .inr (hab _), rfl, _, rfl, iteNS (by rw [List.length_map, hpl, lr, l]) ?_⟩
              have lz : (List.zipWith inD ns c.lims).length = c.nums.length := by rw [List.length_zipWith, hll, l]; omega
              refine ⟨_, rfl, _, rfl, b, ab, _, _, rfl, SqL.of hb, hab _, fun D nD => ?_⟩
              refine lc_it (walk_zipLT (xs := r) (ys := ps.map V.ref) (n := c.nums.length) (by rw [lr, l]) (by rw [List.length_map, hpl])) (fun i H' => Same H1 H' ∧ H' D = some (.lst (((List.zipWith inD ns c.lims).take i).map V.bl))) ⟨same_upd nD, upd_same⟩ (fun i H' _ h => ⟨SqL.of (h.1 _ _ hb), hab _⟩) (fun i x H' H2 hi h y => ?_) (fun H' h => ?_)
              · obtain ⟨sm, hD⟩ := h
                obtain ⟨t, x, y, rfl, nt, rfl, hx, hy⟩ := y
                have hx : r[i]? = some x := hx
                have hy : (ps.map V.ref)[i]? = some y := hy
                have gy : ps[i]? = some ps[i] := List.getElem?_eq_getElem (by omega)
                rw [List.getElem?_map, gy] at hy
                cases hy
                obtain ⟨lm, hl1, hl2⟩ := hps i _ gy
                obtain ⟨dx, hdx, tx⟩ := hr2.get hx
                have sm2 := sm.trans (same_upd (o := .tup [x, V.ref ps[i]]) nt)
                have hD2 := same_upd (o := .tup [x, V.ref ps[i]]) nt _ _ hD
                refine ⟨t, [x, V.ref ps[i]], rfl, SqT.of upd_same, rfl, _, _, rfl, _, _, rfl, rfl, rfl, _, rfl, _, rfl, S, ps[i], dx, x, lm, rfl, tx.same sm2, hl2 _, _, hD2, ?_, same_new sm2 nD, ?_⟩
                · rw [List.length_map, List.length_take]
                  exact small1000 (by omega)
                · rw [upd_same, zipTake ns c.lims i hdx hl1]
              · rw [← lz, List.take_length] at h
                refine ⟨D, _, rfl, SqL.of h.2, ?_⟩
                have e2 : cmdOk (.tuple (.str c.word :: ns)) = (List.zipWith inD ns c.lims).all id := by rw [e, decide_eq_true (by rw [l, hll]), Bool.true_and]
                rw [← e2]
                exact q _ (s1.trans h.1)
            · refine ⟨_, rfl, b, _, rfl, .inl (SqL.of hb), _, rfl, ab, _, rfl, .inr (hab _), rfl, _, rfl, iteNN (fun e => l (by have := V.int.inj e; rw [List.length_map, hpl, lr] at this; omega)) ?_⟩
              have e2 : cmdOk (.tuple (.str c.word :: ns)) = false := by rw [e, decide_eq_false (by rw [hll]; exact l), Bool.false_and]
              rw [← e2]
              exact q _ s1
        | _ => exact q _ s1
    | _ => exact ⟨_, rfl, _, _, _, _, _, rfl, .ty _, tr_ty K hv, ki_tuple K _, _, rfl, q H (Same.refl _)⟩

--SPLIT
def sp_are_blocks : Sp := fun vs H Q _ => ∃ (S : Addr → Prop) (d : PyData) (v : V) (n : Nat), vs = [v, .int n] ∧ n ≤ 100 ∧ Tr S H d v ∧ ∀ H', Same H H' → Q (.bl (areBl n d)) H'
theorem ok_are_blocks (T : Top w K mg) : FnOk P w K mg base CX0 1 T.a_are_blocks T.d_are_blocks ["thing", "many"] sp_are_blocks := by
  refine T.F_are_blocks.ok sc_are_blocks (fun vs H Q E h => ?_) (fun cdv A outer s H vs Q E hr h => ?_)
  · obtain ⟨S, d, v, n, rfl, _⟩ := h
    rfl
  · obtain ⟨S, d, v, n, rfl, hn, hv, q⟩ := h
    refine ⟨_, (pss_one (ps_ret (pe_and (pe_callB (k_isi K) (by rfl) T.z_isinstance bt_isinstance (pa_cons (pv 0) (pa_cons (pe_bltn (v := .ty "list") (by rfl) T.z_list bt_list rfl) pa_nil))) (pe_and (pe_cmpR op_eq (pe_callB (k_len K) (by rfl) T.z_len bt_len (pa_cons (pv 0) pa_nil)) (pv 1) (nomark _)) (pe_one (pe_callB (k_all K) (by rfl) T.z_all bt_all (pa_cons (pe_lc (own := [("block", 2)]) (g := (gName 2)) (tt := tYes) rfl sc_are_blocks.nd (k_piL K (pv 0)) (blkOk_by (N := N_are_blocks) (sc := defScope s_are_blocks) (by decide +kernel)) (fun _ _ _ _ _ => (pg_name (i := 2) sc_are_blocks.nd rfl (Or.inl rfl))) (fun _ _ _ _ _ => pts_nil) (fun _ _ _ _ _ => (pe_callB (k_isi K) (by rfl) T.z_isinstance bt_isinstance (pa_cons (pv 2) (pa_cons (pe_bltn (v := .ty "list") (by rfl) T.z_list bt_list rfl) pa_nil))))) pa_nil))))))), ?_⟩
    refine ⟨_, rfl, _, _, _, _, _, rfl, .ty _, tr_ty K hv, ki_list K _, _, rfl, ?_⟩
    cases d with
    | list ds =>
      obtain ⟨a, xs, rfl, sa, ha, hs⟩ := hv
      have hl := hs.len
      refine iteT ⟨_, rfl, a, _, rfl, .inl (SqL.of ha), _, rfl, rfl, _, rfl, ?_⟩
      by_cases e : ds.length = n
      · refine iteP (by rw [hl, e]) ?_
        refine ⟨_, rfl, a, rfl, ⟨_, SqL.of ha⟩, fun D nD => ?_⟩
        refine lc_list (xs := xs) (fun i H' => Same H H' ∧ H' D = some (.lst (((ds.map isLs).take i).map V.bl))) ⟨same_upd nD, upd_same⟩ (fun i H' _ h => h.1.seq (SqL.of ha)) (fun i x H' hx h => ?_) (fun H' h => ?_)
        · obtain ⟨dx, hdx, tx⟩ := hs.get hx
          have hi := (List.getElem?_eq_some_iff.mp hx).1
          refine ⟨rfl, _, rfl, _, _, _, _, _, rfl, .ty _, tr_ty K (tx.same h.1), ki_list K _, _, h.2, ?_, same_new h.1 nD, ?_⟩
          · rw [List.length_map, List.length_take]
            exact small1000 (by omega)
          · rw [upd_same, List.take_add_one, List.getElem?_map, hdx, List.map_append]
            rfl
        · rw [hl, ← List.length_map (f := isLs), List.take_length] at h
          refine ⟨D, _, rfl, SqL.of h.2, ?_⟩
          have e2 : areBl n (.list ds) = (ds.map isLs).all id := by
            show (decide (ds.length = n) && ds.all isLs) = _
            rw [decide_eq_true e, Bool.true_and, List.all_map]
            rfl
          rw [← e2]
          exact q _ h.1
      · refine iteN (fun z => e (by have := V.int.inj z; omega)) ?_
        have e2 : areBl n (.list ds) = false := by
          show (decide (ds.length = n) && ds.all isLs) = _
          rw [decide_eq_false e, Bool.false_and]
        rw [← e2]
        exact q _ (Same.refl _)
    | _ => exact q _ (Same.refl _)
def sp_is_call : Sp := fun vs H Q _ => ∃ (S : Addr → Prop) (ds : List PyData) (v : V) (n : Int), vs = [v, .int n] ∧ Tr S H (.tuple ds) v ∧ ∀ H', Same H H' → Q (.bl (callOk n ds)) H'
theorem ok_is_call (T : Top w K mg) : FnOk P w K mg base CX0 4 T.a_is_call T.d_is_call ["thing", "procedures"] sp_is_call := by
  refine T.F_is_call.ok sc_is_call (fun vs H Q E h => ?_) (fun cdv A outer s H vs Q E hr h => ?_)
  · obtain ⟨S, ds, v, n, rfl, _⟩ := h
    rfl
  · obtain ⟨S, ds, v, n, rfl, hv, q⟩ := h
    refine ⟨_, (pss_cons (ps_if (pt_cmpR op_ne (pe_callB (k_len K) (by rfl) T.z_len bt_len (pa_cons (pv 0) pa_nil)) pe_int (nomark _)) (pss_one (ps_ret pe_bl)) pss_nil)
      (pss_cons (ps_asg (pv 0) (pg_tup rfl (pgs_cons (pg_name (i := 2) sc_is_call.nd rfl (Or.inl rfl)) (pgs_cons (pg_name (i := 3) sc_is_call.nd rfl (Or.inl rfl)) (pgs_cons (pg_name (i := 4) sc_is_call.nd rfl (Or.inl rfl)) (pgs_cons (pg_name (i := 5) sc_is_call.nd rfl (Or.inl rfl)) pgs_nil))))))
      (pss_one (ps_ret (pe_and (pe_call (ok_is_index T) hr (by rfl) T.g_is_index T.F_is_index.kp (b_is_index T) .nil pass0 (pa_cons (pv 3) (pa_cons (pv 1) pa_nil))) (pe_and (pe_callB (k_isi K) (by rfl) T.z_isinstance bt_isinstance (pa_cons (pv 4) (pa_cons (pe_bltn (v := .ty "bool") (by rfl) T.z_bool bt_bool rfl) pa_nil))) (pe_one (pe_call (ok_are_blocks T) (hr.mono (by decide)) (by rfl) T.g_are_blocks T.F_are_blocks.kp (b_are_blocks T) .nil pass0 (pa_cons (pv 5) (pa_cons pe_int pa_nil)))))))))), ?_⟩
    obtain ⟨a, xs, rfl, ha, hs⟩ := hv
    have hl := hs.len
    refine ⟨_, rfl, a, _, rfl, .inr (SqT.of ha), rfl, _, rfl, ?_⟩
    by_cases e : ds.length = 4
    · refine iteNS (by rw [hl, e]; rfl) ?_
      match ds, e, hs with
      | [d0, d1, d2, d3], _, ⟨x0, _, e0, t0, x1, _, e1, t1, x2, _, e2, t2, x3, _, e3, t3, e4⟩ =>
        subst e4 e3 e2 e1 e0
        refine ⟨_, rfl, a, _, rfl, SqT.of ha, rfl, _, _, rfl, _, _, rfl, _, _, rfl, _, _, rfl, rfl, ?_⟩
        refine ⟨_, rfl, _, rfl, S, d1, x1, n, rfl, t1, fun H1 s1 => ⟨_, rfl, ?_⟩⟩
        cases c1 : inD d1 (0, n - 1)
        · have e : callOk n [d0, d1, d2, d3] = false := by simp [callOk, c1]
          have q := q _ s1
          rw [e] at q
          exact q
        · refine iteT ⟨_, rfl, _, _, _, _, _, rfl, .ty _, tr_ty K (t2.same s1), ki_bool K _, _, rfl, ?_⟩
          cases c2 : isBl d2
          · have e : callOk n [d0, d1, d2, d3] = false := by simp [callOk, c2]
            have q := q _ s1
            rw [e] at q
            exact q
          · refine iteT ⟨_, rfl, S, d3, x3, 2, rfl, by decide, t3.same s1, fun H2 s2 => ?_⟩
            have e : callOk n [d0, d1, d2, d3] = areBl 2 d3 := by simp [callOk, c1, c2]
            rw [← e]
            exact q _ (s1.trans s2)
    · refine iteNN (fun z => e (by have := V.int.inj z; omega)) ?_
      have e2 : callOk n ds = false := by
        unfold callOk
        split
        · exact absurd rfl e
        · rfl
      rw [← e2]
      exact q _ (Same.refl _)
def sp_is_statement : Sp := fun vs H Q _ => ∃ (S : Addr → Prop) (d : PyData) (v : V) (level n : Int), vs = [v, .int level, .int n] ∧ Tr S H d v ∧ WordOk d ∧ (∀ x r, d = .tuple (x :: r) → SeqAt.shaped x = true) ∧ ∀ H', Same H H' → Q (.bl (stOk level n d)) H'
set_option maxHeartbeats 1000000 in
theorem ok_is_statement (T : Top w K mg) : FnOk P w K mg base CX0 5 T.a_is_statement T.d_is_statement ["thing", "level", "procedures"] sp_is_statement := by
  refine T.F_is_statement.ok sc_is_statement (fun vs H Q E h => ?_) (fun cdv A outer s H vs Q E hr h => ?_)
  · obtain ⟨S, d, v, l, n, rfl, _⟩ := h
    rfl
  · obtain ⟨S, d, v, l, n, rfl, hv, hw, hx, q⟩ := h
    refine ⟨_, (pss_cons (ps_if (pt_val (pe_call (ok_is_command T) (hr.mono (by decide)) (by rfl) T.g_is_command T.F_is_command.kp (b_is_command T) .nil pass0 (pa_cons (pv 0) pa_nil))) (pss_one (ps_ret pe_bl)) pss_nil)
      (pss_cons (ps_if (PW.pt (pw_or (pt_not (pt_val (pe_callB (k_isi K) (by rfl) T.z_isinstance bt_isinstance (pa_cons (pv 0) (pa_cons (pe_bltn (v := .ty "tuple") (by rfl) T.z_tuple bt_tuple rfl) pa_nil))))) (pw_or1 (pt_cmpR op_eq (pe_callB (k_len K) (by rfl) T.z_len bt_len (pa_cons (pv 0) pa_nil)) pe_int (nomark _))))) (pss_one (ps_ret pe_bl)) pss_nil)
      (pss_cons (ps_set (i := 3) sc_is_statement.nd rfl (Or.inl rfl) (pe_ix (k_ixT K) (pv 0) pe_int (fun _ _ => rfl)))
      (pss_cons (ps_if (pt_cmpR (op_eqD (hu64 hr)) (pv 3) pe_str (nomark _)) (pss_one (ps_ret (pe_and (pe_cmpR op_eq (pe_callB (k_len K) (by rfl) T.z_len bt_len (pa_cons (pv 0) pa_nil)) pe_int (nomark _)) (pe_one (pe_call (ok_is_bit T) (hr.mono (by decide)) (by rfl) T.g_is_bit T.F_is_bit.kp (b_is_bit T) .nil pass0 (pa_cons (pe_ix (k_ixT K) (pv 0) pe_int (fun _ _ => rfl)) pa_nil)))))) pss_nil)
      (pss_cons (ps_if (pt_cmpR op_eq (pv 1) (C8.pe_gc rfl T.c_DEEPEST_LEVEL) (nomark _)) (pss_one (ps_ret pe_bl)) pss_nil)
      (pss_cons (ps_if (pt_cmpR (op_eqD (hu64 hr)) (pv 3) pe_str (nomark _)) (pss_one (ps_ret (pe_call (ok_is_call T) hr (by rfl) T.g_is_call T.F_is_call.kp (b_is_call T) .nil pass0 (pa_cons (pv 0) (pa_cons (pv 2) pa_nil))))) pss_nil)
      (pss_cons (ps_if (pt_cmpR (op_eqD (hu64 hr)) (pv 3) pe_str (nomark _)) (pss_one (ps_ret (pe_call (ok_are_blocks T) (hr.mono (by decide)) (by rfl) T.g_are_blocks T.F_are_blocks.kp (b_are_blocks T) .nil pass0 (pa_cons (pe_callTy (k_list K) (by rfl) T.z_list bt_list (pa_cons (pe_slice (k_slT K) (pv 0) (po_some pe_int) po_none) pa_nil)) (pa_cons pe_int pa_nil))))) pss_nil)
      (pss_one (ps_ret (pe_and (pe_cmpR (k_inDT K (hu65 hr)) (pv 3) (pe_tup (pa_cons pe_str (pa_cons pe_str pa_nil))) rfl) (pe_one (pe_call (ok_are_blocks T) (hr.mono (by decide)) (by rfl) T.g_are_blocks T.F_are_blocks.kp (b_are_blocks T) .nil pass0 (pa_cons (pe_callTy (k_list K) (by rfl) T.z_list bt_list (pa_cons (pe_slice (k_slT K) (pv 0) (po_some pe_int) po_none) pa_nil)) (pa_cons pe_int pa_nil)))))))))))))), ?_⟩
    refine ⟨_, rfl, S, d, v, rfl, hv, hw, fun H1 s1 => ⟨_, rfl, ?_⟩⟩
    cases c : cmdOk d
    · refine iteF ?_
      have hv1 := hv.same s1
      have e0 : stOk l n d = stRest l n d := by
        unfold stOk
        rw [c, Bool.false_or]
      refine ⟨_, rfl, _, _, _, _, _, rfl, .ty _, tr_ty K hv1, ki_tuple K _, _, rfl, ?_⟩
      rw [e0] at q
      cases d with
      | tuple ds =>
        obtain ⟨a, xs, rfl, ha, hs⟩ := hv1
        refine iteF ?_
        cases ds with
        | nil =>
          cases hs
          exact ⟨_, rfl, _, _, rfl, .inr (SqT.of ha), rfl, _, rfl, iteP rfl (q _ s1)⟩
        | cons x ns =>
          obtain ⟨y, r, rfl, hy, hr2⟩ := hs
          have hsx := hx x ns rfl
          have e1 : stRest l n (.tuple (x :: ns)) = (if PyData.eqv x (.str "end") then endOk ns
            else if l = 3 then false
            else if PyData.eqv x (.str "call") then callOk n (x :: ns)
            else if PyData.eqv x (.str "either") then areBlT 2 ns
            else (PyData.eqv x (.str "keep") || PyData.eqv x (.str "again")) && areBlT 1 ns) := rfl
          rw [e1] at q
          clear hx hv e0 e1 hw
          refine ⟨_, rfl, a, _, rfl, .inr (SqT.of ha), rfl, _, rfl, iteN (fun e => ?_) ?_⟩
          · have := V.int.inj e
            rw [List.length_cons] at this
            omega
          refine ⟨_, rfl, a, _, 0, y, rfl, rfl, SqT.of ha, at_of (j := 0) (by decide) rfl, ?_⟩
          refine ⟨_, rfl, x, .str "end", Tr.dp x y (canOf hsx) hy, .str _, hsx, sh_str (by decide +kernel), _, rfl, ?_⟩
          have lr := hr2.len
          refine ifB (fun c1 => ?_) (fun c1 => ?_)
          · rw [if_pos c1] at q
            refine ⟨_, rfl, a, _, rfl, .inr (SqT.of ha), rfl, _, rfl, ?_⟩
            match ns, r, hr2, lr with
            | [z], [u], ⟨_, _, e1, tz, e2⟩, _ =>
              cases e1
              refine iteP rfl ⟨_, rfl, a, _, 1, u, rfl, rfl, SqT.of ha, at_of (j := 1) (by decide) rfl, S, z, u, rfl, tz, fun H2 s2 => q _ (s1.trans s2)⟩
            | [], r, _, lr =>
              refine iteN (fun e => ?_) (q _ s1)
              have := V.int.inj e
              rw [List.length_cons, lr] at this
              cases this
            | _ :: _ :: ns', r, _, lr =>
              refine iteN (fun e => ?_) (q _ s1)
              have := V.int.inj e
              rw [List.length_cons, lr, List.length_cons, List.length_cons] at this
              omega
          · rw [if_neg (by rw [c1]; exact Bool.false_ne_true)] at q
            refine ⟨_, rfl, rfl, _, rfl, ite2 (fun c2 => ?_) (fun c2 => ?_)⟩
            · rw [if_pos (dec_int' c2)] at q
              exact q _ s1
            · rw [if_neg (dec_int c2)] at q
              refine ⟨_, rfl, x, .str "call", Tr.dp x y (canOf hsx) hy, .str _, hsx, sh_str (by decide +kernel), _, rfl, ?_⟩
              refine ifB (fun c3 => ?_) (fun c3 => ?_)
              · rw [if_pos c3] at q
                exact ⟨_, rfl, _, rfl, S, x :: ns, .ref a, n, rfl, ⟨a, _, rfl, ha, y, r, rfl, hy, hr2⟩, fun H2 s2 => q _ (s1.trans s2)⟩
              · rw [if_neg (by rw [c3]; exact Bool.false_ne_true)] at q
                refine ⟨_, rfl, x, .str "either", Tr.dp x y (canOf hsx) hy, .str _, hsx, sh_str (by decide +kernel), _, rfl, ?_⟩
                have slice : ∀ (k : Nat) {p2 : V → Hp → Prop}, k ≤ 100 → (∀ H', Same H1 H' → p2 (.bl (areBlT k ns)) H') → ∀ t, H1 t = none → ∀ l, (upd H1 t (.tup (cutV (y :: r) (some 1) none))) l = none → ∃ (S : Addr → Prop) (d : PyData) (v : V) (n : Nat), [V.ref l, V.int (k : Int)] = [v, .int n] ∧ n ≤ 100 ∧ Tr S (upd (upd H1 t (.tup (cutV (y :: r) (some 1) none))) l (.lst (cutV (y :: r) (some 1) none))) d v ∧ ∀ H', Same (upd (upd H1 t (.tup (cutV (y :: r) (some 1) none))) l (.lst (cutV (y :: r) (some 1) none))) H' → p2 (.bl (areBl n d)) H' := by
                  intro k p2 hk hp t nt l nl
                  have s2 := same_upd (o := .tup (cutV (y :: r) (some 1) none)) nt
                  have s3 := s2.trans (same_upd (o := .lst (cutV (y :: r) (some 1) none)) nl)
                  refine ⟨fun _ => True, .list ns, .ref l, k, rfl, hk, ⟨l, r, rfl, True.intro, by rw [upd_same, cut_from1], (TrAll.mono (S' := fun _ => True) (fun _ _ => True.intro) _ _ hr2).same s3⟩, fun H' s4 => hp _ (s3.trans s4)⟩
                refine ifB (fun c4 => ?_) (fun c4 => ?_)
                · rw [if_pos c4] at q
                  refine ⟨_, rfl, _, rfl, a, _, rfl, SqT.of ha, cut_ne1, fun t nt => ⟨t, _, rfl, .inr (SqT.of upd_same), fun l nl => ?_⟩⟩
                  exact slice 2 (by decide) (fun H' s => q _ (s1.trans s)) t nt l nl
                · rw [if_neg (by rw [c4]; exact Bool.false_ne_true)] at q
                  refine ⟨_, rfl, small100 (n := 2) (by decide), fun t0 nt0 => ?_⟩
                  have s0 := same_upd (o := .tup [V.str "keep", V.str "again"]) nt0
                  have ht0 : (upd H1 t0 (.tup [V.str "keep", V.str "again"])) t0 = some (.tup [V.str "keep", V.str "again"]) := upd_same
                  generalize upd H1 t0 (.tup [V.str "keep", V.str "again"]) = H2 at *
                  refine ⟨x, [.str "keep", .str "again"], Tr.dp x y (canOf hsx) (hy.same s0), .tup (SqT.of ht0) (dp_strs ["keep", "again"]), hsx, sh_strs (ss := ["keep", "again"]) (by decide +kernel), _, rfl, ?_⟩
                  have ea : ([PyData.str "keep", PyData.str "again"].any fun z => PyData.eqv z x) = (PyData.eqv x (.str "keep") || PyData.eqv x (.str "again")) := by
                    show (PyData.eqv (.str "keep") x || (PyData.eqv (.str "again") x || false)) = _
                    rw [Bool.or_false, eqv_strC, eqv_strC]
                  rw [ea]
                  refine ifB (fun c5 => ?_) (fun c5 => ?_)
                  · rw [c5, Bool.true_and] at q
                    have ha2 := s0 _ _ ha
                    have hr3 := hr2.same s0
                    refine ⟨_, rfl, _, rfl, a, _, rfl, SqT.of ha2, cut_ne1, fun t nt => ⟨t, _, rfl, .inr (SqT.of upd_same), fun l nl => ?_⟩⟩
                    have s2 := same_upd (o := .tup (cutV (y :: r) (some 1) none)) nt
                    have s3 := s2.trans (same_upd (o := .lst (cutV (y :: r) (some 1) none)) nl)
                    exact ⟨fun _ => True, .list ns, .ref l, 1, rfl, by decide, ⟨l, r, rfl, True.intro, by rw [upd_same, cut_from1], (TrAll.mono (S' := fun _ => True) (fun _ _ => True.intro) _ _ hr3).same s3⟩, fun H' s4 => q _ ((s1.trans s0).trans (s3.trans s4))⟩
                  · rw [c5, Bool.false_and] at q
                    exact q _ (s1.trans s0)
      | _ => exact q _ s1
    · refine iteT ?_
      have e : stOk l n d = true := by
        unfold stOk
        rw [c, Bool.true_or]
      rw [← e]
      exact q _ s1

--SPLIT
section
variable (K : PySem.W.Frag) {X : Cx}
theorem k_inS (hK : X.K = K := by rfl) : OpR X (compareOp .In) (rIn K false) := hK ▸ op_in_seq
theorem k_notInS (hK : X.K = K := by rfl) : OpR X (compareOp .NotIn) (rIn K true) := hK ▸ op_notIn_seq
end
def sp_blocks_of : Sp := fun vs H Q _ => ∃ (S : Addr → Prop) (sw : Str) (r : List PyData) (v : V), vs = [v] ∧ Tr S H (.tuple (.str sw :: r)) v ∧ (sw = "call" → ∃ p q bs, r = [p, q, .list bs]) ∧
  ∀ (q : Addr) (ys : List V) (H' : Hp), Same H H' → (S q ∨ H q = none) → H' q = some (.lst ys) → TrAll S H' (blocksR sw r) ys → Q (.ref q) H'
theorem ok_blocks_of (T : Top w K mg) : FnOk P w K mg base CX0 1 T.a_blocks_of T.d_blocks_of ["statement"] sp_blocks_of := by
  refine T.F_blocks_of.ok sc_blocks_of (fun vs H Q E h => ?_) (fun cdv A outer s H vs Q E hr h => ?_)
  · obtain ⟨S, sw, r, v, rfl, _⟩ := h
    rfl
  · obtain ⟨S, sw, r, v, rfl, hv, hc, q⟩ := h
    obtain ⟨a, xs, rfl, ha, y, us, rfl, hy, hs⟩ := hv
    cases hy
    refine ⟨_, (pss_cons (ps_set (i := 1) sc_blocks_of.nd rfl (Or.inl rfl) (pe_ix (k_ixT K) (pv 0) pe_int (fun _ _ => rfl)))
      (pss_cons (ps_if (pt_cmpR op_eq (pv 1) pe_str (nomark _)) (pss_one (ps_ret (pe_ix (k_ixT K) (pv 0) pe_int (fun _ _ => rfl)))) pss_nil)
      (pss_cons (ps_if (pt_cmpR (k_inS K) (pv 1) (pe_tup (pa_cons pe_str (pa_cons pe_str (pa_cons pe_str pa_nil)))) rfl) (pss_one (ps_ret (pe_callTy (k_list K) (by rfl) T.z_list bt_list (pa_cons (pe_slice (k_slT K) (pv 0) (po_some pe_int) po_none) pa_nil)))) pss_nil)
      (pss_one (ps_ret (pe_lst pa_nil)))))), ?_⟩
    refine ⟨_, rfl, a, _, 0, _, rfl, rfl, SqT.of ha, at_of (j := 0) (by decide) rfl, ?_⟩
    refine ⟨_, rfl, rfl, _, rfl, ite2 (fun c => ?_) (fun c => ?_)⟩
    · have c : sw = "call" := V.str.inj (of_decide_eq_true c)
      obtain ⟨p, z, bs, rfl⟩ := hc c
      obtain ⟨x1, _, rfl, t1, x2, _, rfl, t2, x3, _, rfl, ⟨b, ys, rfl, sb, hb, tb⟩, rfl⟩ := hs
      refine ⟨_, rfl, a, _, 3, _, rfl, rfl, SqT.of ha, at_of (j := 3) (by decide) rfl, ?_⟩
      refine q b ys H (Same.refl _) (.inl sb) hb ?_
      rw [blocksR, if_pos c]
      exact tb
    · have c : ¬ sw = "call" := fun e => c (by rw [e]; exact decide_eq_true rfl)
      refine ⟨_, rfl, small100 (n := 3) (by decide), fun t nt => ?_⟩
      have s1 := same_upd (o := .tup [V.str "keep", V.str "either", V.str "again"]) nt
      have ht : (upd H t (.tup [V.str "keep", V.str "either", V.str "again"])) t = some (.tup [V.str "keep", V.str "either", V.str "again"]) := upd_same
      generalize upd H t (.tup [V.str "keep", V.str "either", V.str "again"]) = H1 at *
      refine ⟨t, _, rfl, .inr (SqT.of ht), rfl, rfl, _, rfl, ifB (fun c2 => ?_) (fun c2 => ?_)⟩
      · have hb : blocksR sw r = r := by
          rw [blocksR, if_neg c, if_pos (show isBlk sw = true from c2)]
        refine ⟨_, rfl, _, rfl, a, _, rfl, SqT.of (s1 _ _ ha), cut_ne1, fun u nu => ⟨u, _, rfl, .inr (SqT.of upd_same), fun l nl => ?_⟩⟩
        have s2 := same_upd (o := .tup (cutV (V.str sw :: us) (some 1) none)) nu
        have s3 := s2.trans (same_upd (o := .lst (cutV (V.str sw :: us) (some 1) none)) nl)
        exact q l us _ (s1.trans s3) (.inr ((s1.trans s2).free nl)) (by rw [upd_same, cut_from1]) (by rw [hb]; exact hs.same (s1.trans s3))
      · have hb : blocksR sw r = [] := by
          rw [blocksR, if_neg c, if_neg (by rw [show isBlk sw = false from c2]; exact Bool.false_ne_true)]
        refine ⟨small100 (n := 0) (by decide), fun l nl => ?_⟩
        exact q l [] _ (s1.trans (same_upd nl)) (.inr (s1.free nl)) upd_same (by rw [hb]; exact TrAll.nil)
def sp_with_blocks : Sp := fun vs H Q _ => ∃ (S S' : Addr → Prop) (z : Stm) (v : V) (b : Addr) (ys : List V), vs = [v, .ref b] ∧ Tr S H z.d v ∧ S' b ∧ H b = some (.lst ys) ∧ TrAll S' H (z.blocks.map bD) ys ∧
  ∀ (r : V) (H' : Hp), Same H H' → Tr S' H' z.d r → Q r H'
theorem ok_with_blocks (T : Top w K mg) : FnOk P w K mg base CX0 1 T.a_with_blocks T.d_with_blocks ["statement", "blocks"] sp_with_blocks := by
  refine T.F_with_blocks.ok sc_with_blocks (fun vs H Q E h => ?_) (fun cdv A outer s H vs Q E hr h => ?_)
  · obtain ⟨S, S', z, v, b, ys, rfl, _⟩ := h
    rfl
  · obtain ⟨S, S', z, v, b, ys, rfl, hv, sb, hb, tb, q⟩ := h
    rw [Stm.d_eq] at hv
    obtain ⟨a, xs, rfl, ha, y, us, rfl, hy, hs⟩ := hv
    cases hy
    refine ⟨_, (pss_cons (ps_set (i := 2) sc_with_blocks.nd rfl (Or.inl rfl) (pe_ix (k_ixT K) (pv 0) pe_int (fun _ _ => rfl)))
      (pss_cons (ps_if (pt_cmpR op_eq (pv 2) pe_str (nomark _)) (pss_one (ps_ret (pe_tup (k_star K (pe_slice (k_slT K) (pv 0) po_none (po_some pe_int)) (pa_cons (pv 1) pa_nil))))) pss_nil)
      (pss_cons (ps_if (pt_cmpR (k_inS K) (pv 2) (pe_tup (pa_cons pe_str (pa_cons pe_str (pa_cons pe_str pa_nil)))) rfl) (pss_one (ps_ret (pe_tup (pa_cons (pv 2) (k_star K (pv 1) pa_nil))))) pss_nil)
      (pss_one (ps_ret (pv 0)))))), ?_⟩
    refine ⟨_, rfl, a, _, 0, _, rfl, rfl, SqT.of ha, at_of (j := 0) (by decide) rfl, ?_⟩
    refine ⟨_, rfl, rfl, _, rfl, ite2 (fun c => ?_) (fun c => ?_)⟩
    · have c : z.word = "call" := V.str.inj (of_decide_eq_true c)
      cases z with
      | call p sv b0 b1 =>
        obtain ⟨x1, _, rfl, t1, x2, _, rfl, t2, x3, _, rfl, t3, rfl⟩ := hs
        cases t1
        cases t2
        refine ⟨_, rfl, _, rfl, a, _, rfl, SqT.of ha, cut_ne (n := 3) (xs := [V.str (Stm.call p sv b0 b1).word, V.int p, V.bl sv, x3]) (by show 3 < 4; decide), fun u nu => ⟨u, _, rfl, .inl (SqT.of upd_same), ?_⟩⟩
        have s1 := same_upd (o := .tup (cutV [V.str (Stm.call p sv b0 b1).word, V.int p, V.bl sv, x3] none (some 3))) nu
        refine ⟨_, rfl, ?_⟩
        rw [show cutV [V.str (Stm.call p sv b0 b1).word, V.int p, V.bl sv, x3] none (some 3) = [V.str "call", V.int p, V.bl sv] from cut_to (n := 3)] at *
        refine ⟨small100 (n := 4) (by decide), fun t nt => ?_⟩
        have s2 := s1.trans (same_upd (o := .tup [V.str "call", V.int p, V.bl sv, V.ref b]) nt)
        refine q _ _ s2 ?_
        refine ⟨t, _, rfl, upd_same, .cons rfl (.cons rfl (.cons rfl (.cons ?_ .nil)))⟩
        exact ⟨b, ys, rfl, sb, s2 _ _ hb, tb.same s2⟩
      | cmd c' => exact absurd c (cm_call c')
      | fin w => exact absurd c (show ¬ ("end" : Str) = "call" by decide +kernel)
      | keep w => exact absurd c (show ¬ ("keep" : Str) = "call" by decide +kernel)
      | again w => exact absurd c (show ¬ ("again" : Str) = "call" by decide +kernel)
      | either w z => exact absurd c (show ¬ ("either" : Str) = "call" by decide +kernel)
    · have c : ¬ z.word = "call" := fun e => c (by rw [e]; exact decide_eq_true rfl)
      refine ⟨_, rfl, small100 (n := 3) (by decide), fun t nt => ?_⟩
      have s1 := same_upd (o := .tup [V.str "keep", V.str "either", V.str "again"]) nt
      have ht : (upd H t (.tup [V.str "keep", V.str "either", V.str "again"])) t = some (.tup [V.str "keep", V.str "either", V.str "again"]) := upd_same
      generalize upd H t (.tup [V.str "keep", V.str "either", V.str "again"]) = H1 at *
      refine ⟨t, _, rfl, .inr (SqT.of ht), rfl, rfl, _, rfl, ifB (fun c2 => ?_) (fun c2 => ?_)⟩
      · have hz : z.rest = z.blocks.map bD := by
          have := blocksR_d z
          rw [blocksR, if_neg c, if_pos (show isBlk z.word = true from c2)] at this
          exact this
        have hl := tb.len
        have hl2 := z.rest_len
        rw [← hz] at hl tb
        refine ⟨_, rfl, _, rfl, b, _, rfl, .inr (SqL.of (s1 _ _ hb)), ?_⟩
        refine ⟨small100 (n := (V.str z.word :: (ys ++ [])).length) (by rw [List.append_nil, List.length_cons]; omega), fun u nu => ?_⟩
        rw [List.append_nil] at *
        have s2 := s1.trans (same_upd (o := .tup (V.str z.word :: ys)) nu)
        refine q _ _ s2 ?_
        rw [Stm.d_eq]
        exact ⟨u, _, rfl, upd_same, .cons rfl (tb.same s2)⟩
      · refine ⟨_, rfl, q _ _ s1 ?_⟩
        rw [Stm.d_eq]
        have flat : ∀ {us : List V}, TrAll S H z.rest us → TrAll S' H1 z.rest us := by
          intro us hs
          cases z with
          | cmd c' =>
            have hs : TrAll S H (c'.nums.map PyData.int) us := hs
            rw [hs.ints]
            exact TrAll.ofInts c'.nums
          | fin w' =>
            obtain ⟨x, r', rfl, t, rfl⟩ := hs
            exact ⟨x, [], rfl, t, rfl⟩
          | call p sv b0 b1 => exact absurd rfl c
          | keep b0 => exact absurd (show isBlk "keep" = true by decide +kernel) (by rw [show isBlk "keep" = false from c2]; exact Bool.false_ne_true)
          | again b0 => exact absurd (show isBlk "again" = true by decide +kernel) (by rw [show isBlk "again" = false from c2]; exact Bool.false_ne_true)
          | either b0 b1 => exact absurd (show isBlk "either" = true by decide +kernel) (by rw [show isBlk "either" = false from c2]; exact Bool.false_ne_true)
        exact ⟨a, _, rfl, s1 _ _ ha, .cons rfl (flat hs)⟩

--SPLIT
def sp_NoBook___init__ (C : Addr) : Sp := fun vs H Q _ => ∃ (a : Addr) (x y : V), vs = [.ref a, x, y] ∧ H a = some (exo a C none) ∧
  ∀ dx, H dx = none → dx ≠ a → Q .non (upd (upd (upd H dx (exd dx [("procedure", x)])) a (exo a C (some dx))) dx (exd dx [("path", y), ("procedure", x)]))
theorem ok_NoBook___init__ (T : Top w K mg) : FnOk P w K mg base CX0 1 T.a_NoBook___init__ T.d_NoBook___init__ ["self", "procedure", "path"] (sp_NoBook___init__ T.C_NoBook) := by
  refine T.F_NoBook___init__.ok sc_NoBook___init__ (fun vs H Q E h => ?_) (fun cdv A outer s H vs Q E hr h => ?_)
  · obtain ⟨a, x, y, rfl, _⟩ := h
    rfl
  · obtain ⟨a, x, y, rfl, ha, q⟩ := h
    refine ⟨_, (pss_cons (ps_ost (pv 0) (pv 1))
      (pss_one (ps_ost (pv 0) (pv 2)))), ?_⟩
    refine ⟨_, rfl, _, rfl, a, T.C_NoBook, rfl, T.O_NoBook, T.no_NoBook_procedure, .inl ⟨ha, fun dx nd ne => ?_⟩⟩
    refine ⟨_, rfl, _, rfl, a, T.C_NoBook, rfl, T.O_NoBook, T.no_NoBook_path, .inr ⟨dx, [("procedure", x)], upd_same, ?_, (show 1 ≤ 900 by decide), q dx nd ne⟩⟩
    rw [upd_ne ne]
    exact upd_same
/-- raise NoBook(x, y): what is known behind it -/
theorem made_NB {C : Addr} {H1 : Hp} {x y : V} {W : XK} (q : ∀ (d : Addr) (H' : Hp), Same H1 H' → H1 d = none → H' d = some (.xd [("path", y), ("procedure", x)]) → W (.ref C) (some d) H') (a : Addr) (na : H1 a = none) :
    sp_NoBook___init__ C [.ref a, x, y] (upd H1 a (exo a C none)) (fun v H2 => v = .non ∧ ∃ (d : Addr) (fs : List (Str × V)), H2 a = some (exo a C (some d)) ∧ H2 d = some (exd d fs) ∧ H1 d = none ∧ W (.ref C) (some d) (upd (del H2 a) d (.xd fs))) (fun _ _ _ => False) := by
  refine ⟨a, x, y, rfl, upd_same, fun dx nd ne => ⟨rfl, dx, _, by rw [upd_ne (fun e => ne e.symm)]; exact upd_same, upd_same, ?_, q dx _ (fun b o e => ?_) ?_ upd_same⟩⟩
  · rw [upd_ne ne] at nd
    exact nd
  · have hb : b ≠ a := ne_of_none e na
    have hd : b ≠ dx := fun z => by
      rw [upd_ne ne] at nd
      rw [z, nd] at e
      cases e
    rw [upd_ne hd, del_ne hb, upd_ne hd, upd_ne hb, upd_ne hd, upd_ne hb]
    exact e
  · rw [upd_ne ne] at nd
    exact nd

--SPLIT
/-! ### what check_block says of any block -/
theorem eqv_str {x : PyData} {s : Str} (h : PyData.eqv x (.str s) = true) : x = .str s := by
  cases x <;> simp_all [PyData.eqv]
theorem all_len {n : Nat} {bs : List PyData} (h : areBlT n bs = true) : bs.length = n ∧ bs.all isLs = true := by
  unfold areBlT at h
  rw [Bool.and_eq_true] at h
  exact ⟨of_decide_eq_true h.1, h.2⟩
theorem isBlk_bounds {s : Str} {ls : List (Int × Int)} (h : boundsOf s = some ls) : ¬ s = "call" ∧ isBlk s = false := by
  have no : ∀ t : Str, t ∈ oddWords → s ≠ t := fun t ht e => by
    rw [e, bounds_odd ht] at h
    cases h
  refine ⟨no _ (by simp [oddWords]), ?_⟩
  have h1 := no "keep" (by simp [oddWords])
  have h2 := no "either" (by simp [oddWords])
  have h3 := no "again" (by simp [oddWords])
  have e1 : eqV (V.str "keep") (V.str s) = false := decide_eq_false fun e => h1 e.symm
  have e2 : eqV (V.str "either") (V.str s) = false := decide_eq_false fun e => h2 e.symm
  have e3 : eqV (V.str "again") (V.str s) = false := decide_eq_false fun e => h3 e.symm
  simp [isBlk, inV, e1, e2, e3]
/-- how a value looks that the program takes for a statement -/
theorem stOk_form {level many : Int} {d : PyData} (h : stOk level many d = true) : ∃ sw r, d = .tuple (.str sw :: r) ∧ (sw = "call" → ∃ p q bs, r = [p, q, .list bs]) ∧ (blocksR sw r).all isLs = true ∧ (blocksR sw r).length ≤ 2 ∧ (level = 3 → blocksR sw r = []) := by
  unfold stOk at h
  rw [Bool.or_eq_true] at h
  rcases h with h | h
  · unfold cmdOk at h
    split at h
    · rename_i s ns
      split at h
      · rename_i ls hb
        obtain ⟨n1, n2⟩ := isBlk_bounds hb
        have e : blocksR s ns = [] := by
          unfold blocksR
          rw [if_neg n1, if_neg (by rw [n2]; exact Bool.false_ne_true)]
        exact ⟨s, ns, rfl, fun e => absurd e n1, by rw [e]; rfl, by rw [e]; decide, fun _ => e⟩
      · cases h
    · cases h
  · unfold stRest at h
    split at h
    · rename_i x r
      split at h
      · rename_i e
        have e := eqv_str e
        subst e
        have n1 : ¬ (("end" : Str) = "call") := by decide +kernel
        have n2 : isBlk "end" = false := by decide +kernel
        have e : blocksR "end" r = [] := by
          unfold blocksR
          rw [if_neg n1, if_neg (by rw [n2]; exact Bool.false_ne_true)]
        exact ⟨_, r, rfl, fun e => absurd e n1, by rw [e]; rfl, by rw [e]; decide, fun _ => e⟩
      · split at h
        · cases h
        · rename_i nl
          split at h
          · rename_i e
            have e := eqv_str e
            subst e
            unfold callOk at h
            split at h
            · rename_i p s b e
              cases e
              rw [Bool.and_eq_true, Bool.and_eq_true] at h
              unfold areBl at h
              cases b with
              | list bs =>
                have h2 : areBlT 2 bs = true := h.2
                obtain ⟨l1, l2⟩ := all_len h2
                have e : blocksR "call" [p, s, .list bs] = bs := by
                  unfold blocksR
                  rw [if_pos rfl]
                  rfl
                exact ⟨_, _, rfl, fun _ => ⟨p, s, bs, rfl⟩, by rw [e]; exact l2, by rw [e, l1]; decide, fun e => absurd e nl⟩
              | _ => exact absurd h.2 (by simp)
            · cases h
          · have blk : ∀ (s : Str) (n : Nat), x = .str s → n ≤ 2 → ¬ s = "call" → isBlk s = true → areBlT n r = true → ∃ sw r', PyData.tuple (x :: r) = .tuple (.str sw :: r') ∧ (sw = "call" → ∃ p q bs, r' = [p, q, .list bs]) ∧ (blocksR sw r').all isLs = true ∧ (blocksR sw r').length ≤ 2 ∧ (level = 3 → blocksR sw r' = []) := fun s n e hn n1 n2 hb => by
              subst e
              obtain ⟨l1, l2⟩ := all_len hb
              have e : blocksR s r = r := by
                unfold blocksR
                rw [if_neg n1, if_pos n2]
              exact ⟨s, r, rfl, fun e => absurd e n1, by rw [e]; exact l2, by rw [e, l1]; exact hn, fun e => absurd e nl⟩
            split at h
            · rename_i e
              exact blk _ 2 (eqv_str e) (by decide) (by decide +kernel) (by decide +kernel) h
            · rw [Bool.and_eq_true, Bool.or_eq_true] at h
              rcases h.1 with e | e
              · exact blk _ 1 (eqv_str e) (by decide) (by decide +kernel) (by decide +kernel) h.2
              · exact blk _ 1 (eqv_str e) (by decide) (by decide +kernel) (by decide +kernel) h.2
    · cases h
def itemsL : PyData → List PyData
  | .list ds => ds
  | _ => []
def blocksOfD : PyData → List PyData
  | .tuple (.str sw :: r) => blocksR sw r
  | _ => []
/-- the first fault's path, or how many have been read -/
def chkBs (g : List PyData → List Nat → Nat → List Nat ⊕ Nat) : List PyData → List Nat → Nat → Nat → List Nat ⊕ Nat
  | [], _, _, rd => .inr rd
  | b :: r, p, j, rd => match g (itemsL b) (p ++ [j]) rd with
    | .inl e => .inl e
    | .inr n => chkBs g r p (j + 1) n
def chkL (g : List PyData → List Nat → Nat → List Nat ⊕ Nat) (many : Int) : List PyData → List Nat → Nat → Nat → List Nat ⊕ Nat
  | [], _, _, rd => .inr rd
  | d :: r, p, i, rd =>
    if i = 8 ∨ 12 < rd + 1 then .inl (p ++ [i]) else
    if stOk (((p.length + 1) / 2 : Nat) : Int) many d = false then .inl (p ++ [i]) else
    match chkBs g (blocksOfD d) (p ++ [i]) 0 (rd + 1) with
    | .inl e => .inl e
    | .inr n => chkL g many r p (i + 1) n
def chk (many : Int) : Nat → List PyData → List Nat → Nat → List Nat ⊕ Nat
  | 0 => fun _ _ rd => .inr rd
  | n + 1 => fun ds p rd => chkL (chk many n) many ds p 0 rd
/-- values that a list of statements may hold, n levels deep -/
def Gd : Nat → List PyData → Prop
  | 0, _ => True
  | n + 1, ds => ∀ d ∈ ds, WordOk d ∧ (∀ x r, d = .tuple (x :: r) → SeqAt.shaped x = true) ∧ ∀ e ∈ blocksOfD d, Gd n (itemsL e)

--SPLIT
theorem drop_at {α : Type} {xs : List α} {i : Nat} {x : α} (h : xs[i]? = some x) : xs.drop i = x :: xs.drop (i + 1) := by
  obtain ⟨hi, e⟩ := List.getElem?_eq_some_iff.mp h
  rw [List.drop_eq_getElem_cons hi, e]
theorem natSnoc (p : List Nat) (i : Nat) : p.map natV ++ [V.int (i : Int)] = (p ++ [i]).map natV := by rw [List.map_append]; rfl
/-! ### check_block, of any block -/
def sp_check_block (n : Nat) (C : Addr) : Sp := fun vs H Q E => ∃ (S : Addr → Prop) (ds : List PyData) (v : V) (many : Int) (l rd : Nat) (pr : Int) (t : Addr) (p : List Nat), vs = [v, .int pr, .ref t, .int rd, .int many] ∧ Tr S H (.list ds) v ∧ Gd n ds ∧ H t = some (.tup (p.map natV)) ∧ p.length = 2 * l ∧ l ≤ 3 ∧ 4 ≤ l + n ∧
  (∀ (m : Nat) (H' : Hp), chk many n ds p rd = .inr m → Same H H' → Q (.int m) H') ∧
  ∀ (e : List Nat) (d t' : Addr) (H' : Hp), chk many n ds p rd = .inl e → Same H H' → H d = none → H' d = some (.xd [("path", .ref t'), ("procedure", .int pr)]) → H' t' = some (.tup (e.map natV)) → E (.ref C) (some d) H'
theorem ok_checkx_step (T : Top w K mg) (n : Nat) (G_check_block : FnOk P w K mg base (L2.CX P w) (n + 6) T.a_check_block T.d_check_block ["block", "procedure", "ahead", "read", "procedures"] (sp_check_block n T.C_NoBook)) :
    FnOk P w K mg base (L2.CX P w) (n + 7) T.a_check_block T.d_check_block ["block", "procedure", "ahead", "read", "procedures"] (sp_check_block (n + 1) T.C_NoBook) := by
  refine T.F_check_block.okX sc_check_block (fun vs H Q E h => ?_) (fun cdv A outer s H vs Q E hr h => ?_)
  · obtain ⟨S, ds, v, many, l, rd, pr, t, p, rfl, _⟩ := h
    rfl
  · obtain ⟨S, ds, v, many, l, rd, pr, t, p, rfl, hv, hg, ht, hpl, hl3, hln, q, qe⟩ := h
    refine ⟨_, (pss_cons (ps_for (passes_of rfl) rfl (pi_enum (by rfl) T.z_enumerate (pa_cons (pv 0) pa_nil)) (pg_tup rfl (pgs_cons (pg_name (i := 5) sc_check_block.nd rfl (Or.inl rfl)) (pgs_cons (pg_name (i := 6) sc_check_block.nd rfl (Or.inl rfl)) pgs_nil))) (pss_cons (ps_set (i := 7) sc_check_block.nd rfl (Or.inl rfl) (pe_tup (k_star K (pv 2) (pa_cons (pv 5) pa_nil))))
        (pss_cons (ps_set (i := 3) sc_check_block.nd rfl (Or.inl rfl) (pe_op op_add (pv 3) pe_int))
        (pss_cons (ps_if (PW.pt (pw_or (pt_cmpR op_eq (pv 5) (C8.pe_gc rfl T.c_MOST_IN_A_LIST) (nomark _)) (pw_or1 (pt_cmpR op_gt (pv 3) (C8.pe_gc rfl T.c_MOST_IN_A_PROCEDURE) (nomark _))))) (pss_one (ps_raise rfl (takes_of rfl rfl rfl rfl) (pmk_oex T.O_NoBook T.io_NoBook T.to_NoBook (ok_NoBook___init__ T) (hr.mono (by omega)) (b_NoBook___init__ T) .nil pass0 (by rfl) T.g_NoBook (pa_cons (pv 1) (pa_cons (pv 7) pa_nil))))) pss_nil)
        (pss_cons (ps_if (pt_not (pt_val (pe_call (ok_is_statement T) (hr.mono (by omega)) (by rfl) T.g_is_statement T.F_is_statement.kp (b_is_statement T) .nil pass0 (pa_cons (pv 6) (pa_cons (pe_op op_fdiv (pe_callB (k_len K) (by rfl) T.z_len bt_len (pa_cons (pv 7) pa_nil)) pe_int) (pa_cons (pv 4) pa_nil)))))) (pss_one (ps_raise rfl (takes_of rfl rfl rfl rfl) (pmk_oex T.O_NoBook T.io_NoBook T.to_NoBook (ok_NoBook___init__ T) (hr.mono (by omega)) (b_NoBook___init__ T) .nil pass0 (by rfl) T.g_NoBook (pa_cons (pv 1) (pa_cons (pv 7) pa_nil))))) pss_nil)
        (pss_one (ps_for (passes_of rfl) rfl (pi_enum (by rfl) T.z_enumerate (pa_cons (pe_call (ok_blocks_of T) (hr.mono (by omega)) (by rfl) T.g_blocks_of T.F_blocks_of.kp (b_blocks_of T) .nil pass0 (pa_cons (pv 6) pa_nil)) pa_nil)) (pg_tup rfl (pgs_cons (pg_name (i := 8) sc_check_block.nd rfl (Or.inl rfl)) (pgs_cons (pg_name (i := 9) sc_check_block.nd rfl (Or.inl rfl)) pgs_nil))) (pss_one (ps_set (i := 3) sc_check_block.nd rfl (Or.inl rfl) (pe_callS G_check_block (hr.mono (by omega)) (by rfl) T.g_check_block T.F_check_block.kp (b_check_block T) (fun σ => passAt (takes_of rfl rfl rfl rfl) σ) (pa_cons (pv 9) (pa_cons (pv 1) (pa_cons (pe_tup (k_star K (pv 7) (pa_cons (pv 8) pa_nil))) (pa_cons (pv 3) (pa_cons (pv 4) pa_nil)))))))))))))))
      (pss_one (ps_ret (pv 3)))), ?_⟩
    obtain ⟨a, ys, rfl, sa, ha, hs⟩ := hv
    have hl2 := hs.len
    have chk1 : chk many (n + 1) ds p rd = chkL (chk many n) many ds p 0 rd := rfl
    rw [chk1] at q qe
    refine ⟨_, rfl, a, ys, rfl, SqL.of ha, ?_⟩
    refine for_it (walk_enum (xs := ys)) (fun i σ H' => ∃ (y5 y6 y7 y8 y9 : Option V) (ri : Nat), σ = [some (.ref a), some (.int pr), some (.ref t), some (.int ri), some (.int many), y5, y6, y7, y8, y9] ∧ Same H H' ∧ chkL (chk many n) many ds p 0 rd = chkL (chk many n) many (ds.drop i) p i ri) ⟨none, none, none, none, none, rd, rfl, Same.refl _, rfl⟩ (fun i σ H' _ h => ?_) (fun i x σ H' H2 hi h y => ?_) (fun σ H' h => ?_)
    · obtain ⟨_, _, _, _, _, _, _, sm, _⟩ := h
      exact SqL.of (sm _ _ ha)
    · obtain ⟨y5, y6, y7, y8, y9, ri, rfl, sm, ec⟩ := h
      obtain ⟨u, x, y, rfl, nu, rfl, hx, hy⟩ := y
      cases hx
      have hy : ys[i]? = some y := hy
      obtain ⟨d, hd, tx⟩ := hs.get hy
      obtain ⟨wo, sh, gb⟩ := hg d (List.mem_of_getElem? hd)
      rw [drop_at hd, chkL] at ec
      have s1 := sm.trans (same_upd (o := .tup [V.int (i : Int), y]) nu)
      have hu : (upd H' u (.tup [V.int (i : Int), y])) u = some (.tup [V.int (i : Int), y]) := upd_same
      generalize upd H' u (.tup [V.int (i : Int), y]) = H1 at *
      refine ⟨u, _, rfl, SqT.of hu, rfl, _, _, rfl, _, _, rfl, rfl, ?_⟩
      refine ⟨_, rfl, t, p.map natV, rfl, .inl (SqT.of (s1 _ _ ht)), _, rfl, ?_⟩
      have lp : (p ++ [i]).length = 2 * l + 1 := by rw [List.length_append, hpl]; rfl
      refine ⟨small100 (by rw [List.length_append, List.length_map, hpl]; show 2 * l + 1 ≤ 1000; omega), fun pth np => ?_⟩
      have s2 := s1.trans (same_upd (o := .tup (p.map natV ++ [V.int (i : Int)])) np)
      have hp : (upd H1 pth (.tup (p.map natV ++ [V.int (i : Int)]))) pth = some (.tup ((p ++ [i]).map natV)) := by rw [upd_same, natSnoc]
      generalize upd H1 pth _ = H2 at *
      refine ⟨_, rfl, _, _, rfl, rfl, ?_⟩
      have bad : ∀ {J : Hp}, Same H2 J → chkL (chk many n) many ds p 0 rd = .inl (p ++ [i]) → ∀ (e : Addr), J e = none → sp_NoBook___init__ T.C_NoBook [.ref e, .int pr, .ref pth] (upd J e (exo e T.C_NoBook none)) (fun v H2 => v = .non ∧ ∃ (d : Addr) (fs : List (Str × V)), H2 e = some (exo e T.C_NoBook (some d)) ∧ H2 d = some (exd d fs) ∧ J d = none ∧ E (.ref T.C_NoBook) (some d) (upd (del H2 e) d (.xd fs))) (fun _ _ _ => False) :=
        fun sJ hc => made_NB fun d H9 s9 nd hd9 => qe _ d pth H9 hc (s2.trans (sJ.trans s9)) ((s2.trans sJ).free nd) hd9 (s9 _ _ (sJ _ _ hp))
      refine ⟨_, rfl, rfl, _, rfl, ifB (fun c => ?_) (fun c => ?_)⟩
      · have c : i = 8 := by have := V.int.inj (of_decide_eq_true c); omega
        rw [if_pos (.inl c)] at ec
        exact ⟨_, rfl, _, rfl, (show 2 ≤ 1000 by decide), bad (Same.refl _) ec⟩
      have c1 : ¬ i = 8 := fun e => by
        subst e
        exact absurd c (by simp)
      refine ⟨_, rfl, _, _, rfl, rfl, _, rfl, ifB (fun c => ?_) (fun c => ?_)⟩
      · have c : 12 < ri + 1 := by have := of_decide_eq_true c; omega
        rw [if_pos (.inr c)] at ec
        exact ⟨_, rfl, _, rfl, (show 2 ≤ 1000 by decide), bad (Same.refl _) ec⟩
      have c2 : ¬ 12 < ri + 1 := fun e => by
        have := of_decide_eq_false c
        omega
      rw [if_neg (fun h => h.elim c1 c2)] at ec
      refine ⟨_, rfl, _, rfl, pth, _, rfl, .inr (SqT.of hp), _, _, rfl, rfl, ⟨by decide, by decide⟩, _, rfl, ?_⟩
      have el : ((((p ++ [i]).map natV).length : Nat) : Int) / 2 = (l : Int) := by rw [List.length_map, lp]; omega
      have el2 : (p.length + 1) / 2 = l := by omega
      dsimp only
      rw [el]
      rw [el2] at ec
      refine ⟨S, d, y, (l : Int), many, rfl, tx.same s2, wo, sh, fun H3 s3 => ?_⟩
      refine ⟨_, rfl, ?_⟩
      cases hst : stOk (l : Int) many d with
      | false =>
        rw [if_pos hst] at ec
        exact ⟨_, rfl, _, rfl, (show 2 ≤ 1000 by decide), bad s3 ec⟩
      | true =>
        rw [if_neg (by rw [hst]; exact Bool.noConfusion)] at ec
        obtain ⟨sw, r, rfl, hcall, hall, hb2, hb3⟩ := stOk_form hst
        have gb : ∀ e ∈ blocksR sw r, Gd n (itemsL e) := gb
        have ec : chkL (chk many n) many ds p 0 rd = match chkBs (chk many n) (blocksR sw r) (p ++ [i]) 0 (ri + 1) with
          | .inl e => .inl e
          | .inr m => chkL (chk many n) many (ds.drop (i + 1)) p (i + 1) m := ec
        refine ⟨_, rfl, S, sw, r, y, rfl, tx.same (s2.trans s3), hcall, fun qa zs H4 s4 _ hqa hzs => ?_⟩
        have s24 := s2.trans (s3.trans s4)
        have hl5 := hzs.len
        refine ⟨qa, zs, rfl, SqL.of hqa, ?_⟩
        refine for_it (walk_enum (xs := zs)) (fun j σ H' => ∃ (y8 y9 : Option V) (rj : Nat), σ = [some (.ref a), some (.int pr), some (.ref t), some (.int rj), some (.int many), some (.int i), some y, some (.ref pth), y8, y9] ∧ Same H4 H' ∧ chkBs (chk many n) (blocksR sw r) (p ++ [i]) 0 (ri + 1) = chkBs (chk many n) ((blocksR sw r).drop j) (p ++ [i]) j rj) ⟨y8, y9, ri + 1, rfl, Same.refl _, rfl⟩ (fun j σ H' _ h => ?_) (fun j x σ H' H6 hj h y => ?_) (fun σ H' h => ?_)
        · obtain ⟨_, _, _, _, sj, _⟩ := h
          exact SqL.of (sj _ _ hqa)
        · obtain ⟨y8, y9, rj, rfl, sj, ej⟩ := h
          obtain ⟨u2, x2, y2, rfl, nu2, rfl, hx2, hy2⟩ := y
          cases hx2
          have hy2 : zs[j]? = some y2 := hy2
          obtain ⟨d2, hd2, tx2⟩ := hzs.get hy2
          have hm2 := List.mem_of_getElem? hd2
          have g2 := gb d2 hm2
          have i2 := List.all_eq_true.mp hall d2 hm2
          have l3 : l ≠ 3 := fun e => by
            rw [hb3 (by rw [e]; rfl)] at hm2
            cases hm2
          obtain ⟨dz, rfl⟩ : ∃ dz, d2 = .list dz := by
            cases d2 with
            | list dz => exact ⟨dz, rfl⟩
            | _ => cases i2
          rw [drop_at hd2, chkBs] at ej
          have s5 := sj.trans (same_upd (o := .tup [V.int (j : Int), y2]) nu2)
          have hu2 : (upd H' u2 (.tup [V.int (j : Int), y2])) u2 = some (.tup [V.int (j : Int), y2]) := upd_same
          generalize upd H' u2 (.tup [V.int (j : Int), y2]) = H5 at *
          refine ⟨u2, _, rfl, SqT.of hu2, rfl, _, _, rfl, _, _, rfl, rfl, ?_⟩
          refine ⟨_, rfl, _, rfl, _, rfl, pth, _, rfl, .inl (SqT.of (s5 _ _ ((s3.trans s4) _ _ hp))), _, rfl, small100 (by rw [List.length_append, List.length_map, lp]; show 2 * l + 1 + 1 ≤ 1000; omega), fun p2 np2 => ?_⟩
          have s6 := s5.trans (same_upd (o := .tup ((p ++ [i]).map natV ++ [V.int (j : Int)])) np2)
          have hp2 : (upd H5 p2 (.tup ((p ++ [i]).map natV ++ [V.int (j : Int)]))) p2 = some (.tup ((p ++ [i] ++ [j]).map natV)) := by rw [upd_same, natSnoc]
          generalize upd H5 p2 _ = H8 at *
          refine ⟨_, rfl, _, rfl, S, dz, y2, many, l + 1, rj, pr, p2, p ++ [i] ++ [j], rfl, tx2.same s6, g2, hp2, by rw [List.length_append, lp]; show 2 * l + 1 + 1 = _; omega, by omega, by omega, fun m H7 hm s7 => ?_, fun e d9 t9 H7 he s7 nd hd9 ht9 => ?_⟩
          · have hm : chk many n (itemsL (.list dz)) (p ++ [i] ++ [j]) rj = .inr m := hm
            rw [hm] at ej
            exact ⟨some (.int (j : Int)), some y2, m, rfl, s6.trans s7, ej⟩
          · have he : chk many n (itemsL (.list dz)) (p ++ [i] ++ [j]) rj = .inl e := he
            rw [he] at ej
            rw [ej] at ec
            have sH := s24.trans s6
            exact qe e d9 t9 H7 ec (sH.trans s7) (sH.free nd) hd9 ht9
        · obtain ⟨y8, y9, rj, rfl, sj, ej⟩ := h
          rw [hl5, List.drop_length, chkBs] at ej
          rw [ej] at ec
          exact ⟨some (.int (i : Int)), some y, some (.ref pth), y8, y9, rj, rfl, s24.trans sj, ec⟩
    · obtain ⟨y5, y6, y7, y8, y9, ri, rfl, sm, ec⟩ := h
      rw [hl2, List.drop_length, chkL] at ec
      exact ⟨_, rfl, q ri H' ec sm⟩
theorem none_checkx (T : Top w K mg) : FnOk P w K mg base (L2.CX P w) 6 T.a_check_block T.d_check_block ["block", "procedure", "ahead", "read", "procedures"] (sp_check_block 0 T.C_NoBook) := by
  have no : ∀ vs H Q E, ¬ sp_check_block 0 T.C_NoBook vs H Q E := fun vs H Q E ⟨_, _, _, _, l, _, _, _, _, _, _, _, _, _, h1, h2, _⟩ => by omega
  exact ⟨fun vs H Q E h => absurd h (no vs H Q E), fun A outer s H args us vs Q E _ _ _ _ h => absurd h (no vs H Q E)⟩
theorem all_checkx (T : Top w K mg) : ∀ n : Nat, FnOk P w K mg base (L2.CX P w) (n + 6) T.a_check_block T.d_check_block ["block", "procedure", "ahead", "read", "procedures"] (sp_check_block n T.C_NoBook)
  | 0 => none_checkx T
  | n + 1 => ok_checkx_step T n (all_checkx T n)
theorem ok_check_block (T : Top w K mg) : FnOk P w K mg base (L2.CX P w) 10 T.a_check_block T.d_check_block ["block", "procedure", "ahead", "read", "procedures"] (sp_check_block 4 T.C_NoBook) := all_checkx T 4
/-! ### check_bodies, of any value -/
def chkP (many : Int) : List PyData → Nat → Option (Nat × List Nat)
  | [], _ => none
  | b :: r, k => match b with
    | .list ds => match chk many 4 ds [] 0 with
      | .inl e => some (k, e)
      | .inr _ => chkP many r (k + 1)
    | _ => some (k, [])
/-- the fault that the document names, if there is one -/
def faultOf : PyData → Option (Int × List Nat)
  | .list bs => if 1 ≤ bs.length ∧ bs.length ≤ 3 then (chkP bs.length bs 0).map fun x => ((x.1 : Int), x.2) else some (-1, [])
  | _ => some (-1, [])
def sp_check_bodies (C : Addr) : Sp := fun vs H Q E => ∃ (S : Addr → Prop) (d : PyData) (v : V), vs = [v] ∧ Tr S H d v ∧ (∀ bs, d = .list bs → ∀ ds, .list ds ∈ bs → Gd 4 ds) ∧
  (faultOf d = none → ∀ H', Same H H' → Q .non H') ∧
  ∀ (k : Int) (e : List Nat) (x t' : Addr) (H' : Hp), faultOf d = some (k, e) → Same H H' → H x = none → H' x = some (.xd [("path", .ref t'), ("procedure", .int k)]) → H' t' = some (.tup (e.map natV)) → E (.ref C) (some x) H'
theorem ok_check_bodies (T : Top w K mg) : FnOk P w K mg base (L2.CX P w) 11 T.a_check_bodies T.d_check_bodies ["bodies"] (sp_check_bodies T.C_NoBook) := by
  refine T.F_check_bodies.okX sc_check_bodies (fun vs H Q E h => ?_) (fun cdv A outer s H vs Q E hr h => ?_)
  · obtain ⟨S, d, v, rfl, _⟩ := h
    rfl
  · obtain ⟨S, d, v, rfl, hv, hg, q, qe⟩ := h
    refine ⟨_, (pss_cons (ps_if (PW.pt (pw_or (pt_not (pt_val (pe_callB (k_isi K) (by rfl) T.z_isinstance bt_isinstance (pa_cons (pv 0) (pa_cons (pe_bltn (v := .ty "list") (by rfl) T.z_list bt_list rfl) pa_nil))))) (pw_or1 (pt_not (pt_chain op_le op_le pe_int (pe_callB (k_len K) (by rfl) T.z_len bt_len (pa_cons (pv 0) pa_nil)) (C8.pe_gc rfl T.c_MOST_PROCEDURES)))))) (pss_one (ps_raise rfl (takes_of rfl rfl rfl rfl) (pmk_oex T.O_NoBook T.io_NoBook T.to_NoBook (ok_NoBook___init__ T) (hr.mono (by decide)) (b_NoBook___init__ T) .nil pass0 (by rfl) T.g_NoBook (pa_cons (pe_un un_neg pe_int) (pa_cons (pe_tup pa_nil) pa_nil))))) pss_nil)
      (pss_one (ps_for (passes_of rfl) rfl (pi_enum (by rfl) T.z_enumerate (pa_cons (pv 0) pa_nil)) (pg_tup rfl (pgs_cons (pg_name (i := 1) sc_check_bodies.nd rfl (Or.inl rfl)) (pgs_cons (pg_name (i := 2) sc_check_bodies.nd rfl (Or.inl rfl)) pgs_nil))) (pss_cons (ps_if (pt_not (pt_val (pe_callB (k_isi K) (by rfl) T.z_isinstance bt_isinstance (pa_cons (pv 2) (pa_cons (pe_bltn (v := .ty "list") (by rfl) T.z_list bt_list rfl) pa_nil))))) (pss_one (ps_raise rfl (takes_of rfl rfl rfl rfl) (pmk_oex T.O_NoBook T.io_NoBook T.to_NoBook (ok_NoBook___init__ T) (hr.mono (by decide)) (b_NoBook___init__ T) .nil pass0 (by rfl) T.g_NoBook (pa_cons (pv 1) (pa_cons (pe_tup pa_nil) pa_nil))))) pss_nil)
        (pss_one (ps_expr (pe_callS (ok_check_block T) hr (by rfl) T.g_check_block T.F_check_block.kp (b_check_block T) (fun σ => passAt (takes_of rfl rfl rfl rfl) σ) (pa_cons (pv 2) (pa_cons (pv 1) (pa_cons (pe_tup pa_nil) (pa_cons pe_int (pa_cons (pe_callB (k_len K) (by rfl) T.z_len bt_len (pa_cons (pv 0) pa_nil)) pa_nil)))))))))))), ?_⟩
    have bad : ∀ {J J2 : Hp} {k : Int} {e : List Nat} {t : Addr}, Same H J → faultOf d = some (k, e) → J t = some (.tup (e.map natV)) → ∀ (x : Addr), J x = none → sp_NoBook___init__ T.C_NoBook [.ref x, .int k, .ref t] (upd J x (exo x T.C_NoBook none)) (fun v H2 => v = .non ∧ ∃ (d : Addr) (fs : List (Str × V)), H2 x = some (exo x T.C_NoBook (some d)) ∧ H2 d = some (exd d fs) ∧ J d = none ∧ E (.ref T.C_NoBook) (some d) (upd (del H2 x) d (.xd fs))) (fun _ _ _ => False) :=
      fun {J J2 k e t} sJ hc ht => made_NB fun d H9 s9 nd hd9 => qe k e d t H9 hc (sJ.trans s9) (sJ.free nd) hd9 (s9 _ _ ht)
    refine ⟨_, rfl, _, _, _, _, _, rfl, .ty _, tr_ty K hv, ki_list K _, _, rfl, ifB (fun c => ?_) (fun c => ?_)⟩
    · have hf : faultOf d = some (-1, []) := by
        cases d with
        | list bs => cases c
        | _ => rfl
      exact ⟨_, rfl, small100 (n := 0) (by decide), fun t nt => ⟨(show 2 ≤ 1000 by decide), bad (J2 := H) (same_upd nt) hf upd_same⟩⟩
    · cases d with
      | list bs =>
        obtain ⟨a, ys, rfl, sa, ha, hs⟩ := hv
        have hl2 := hs.len
        refine ⟨_, rfl, a, _, rfl, .inl (SqL.of ha), _, _, rfl, rfl, _, rfl, ?_⟩
        by_cases h1 : 1 ≤ bs.length
        · refine iteP (by rw [hl2]; omega) ⟨_, _, rfl, rfl, _, rfl, ?_⟩
          by_cases h3 : bs.length ≤ 3
          · rw [decide_eq_true (by rw [hl2]; omega)]
            have ef : faultOf (.list bs) = (chkP bs.length bs 0).map fun x => ((x.1 : Int), x.2) := if_pos ⟨h1, h3⟩
            rw [ef] at q
            refine ⟨_, rfl, a, ys, rfl, SqL.of ha, ?_⟩
            refine for_it (walk_enum (xs := ys)) (fun i σ H' => ∃ y1 y2, σ = [some (.ref a), y1, y2] ∧ Same H H' ∧ chkP bs.length bs 0 = chkP bs.length (bs.drop i) i) ⟨_, _, rfl, Same.refl _, rfl⟩ (fun i σ H' _ h => ?_) (fun i x σ H' H2 hi h y => ?_) (fun σ H' h => ?_)
            · obtain ⟨_, _, _, sm, _⟩ := h
              exact SqL.of (sm _ _ ha)
            · obtain ⟨y1, y2, rfl, sm, ec⟩ := h
              obtain ⟨u, x, y, rfl, nu, rfl, hx, hy⟩ := y
              cases hx
              have hy : ys[i]? = some y := hy
              obtain ⟨d, hd, tx⟩ := hs.get hy
              rw [drop_at hd] at ec
              have s1 := sm.trans (same_upd (o := .tup [V.int (i : Int), y]) nu)
              have hu : (upd H' u (.tup [V.int (i : Int), y])) u = some (.tup [V.int (i : Int), y]) := upd_same
              generalize upd H' u (.tup [V.int (i : Int), y]) = H1 at *
              refine ⟨u, _, rfl, SqT.of hu, rfl, _, _, rfl, _, _, rfl, rfl, ?_⟩
              refine ⟨_, rfl, _, _, _, _, _, rfl, .ty _, tr_ty K (tx.same s1), ki_list K _, _, rfl, ifB (fun c => ?_) (fun c => ?_)⟩
              · have hc : chkP bs.length bs 0 = some (i, []) := by
                  rw [ec]
                  cases d with
                  | list ds => cases c
                  | _ => rfl
                exact ⟨_, rfl, small100 (n := 0) (by decide), fun t nt => ⟨(show 2 ≤ 1000 by decide), bad (J2 := H) (s1.trans (same_upd nt)) (by rw [ef, hc]; rfl) upd_same⟩⟩
              · cases d with
                | list ds =>
                  refine ⟨_, rfl, _, rfl, small100 (n := 0) (by decide), fun t nt => ?_⟩
                  have s2 := s1.trans (same_upd (o := .tup []) nt)
                  refine ⟨_, rfl, a, _, rfl, .inl (SqL.of (s2 _ _ ha)), ?_⟩
                  have ec : chkP bs.length bs 0 = match chk (bs.length : Int) 4 ds [] 0 with
                    | .inl e => some (i, e)
                    | .inr _ => chkP bs.length (bs.drop (i + 1)) (i + 1) := ec
                  refine ⟨S, ds, y, bs.length, 0, 0, (i : Int), t, [], by rw [hl2]; rfl, tx.same s2, hg bs rfl ds (List.mem_of_getElem? hd), upd_same, rfl, by decide, by decide, fun m H3 hm s3 => ?_, fun e d9 t9 H3 he s3 nd hd9 ht9 => ?_⟩
                  · rw [hm] at ec
                    exact ⟨_, _, rfl, s2.trans s3, ec⟩
                  · rw [he] at ec
                    exact qe i e d9 t9 H3 (by rw [ef, ec]; rfl) (s2.trans s3) (s2.free nd) hd9 ht9
                | _ => cases c
            · obtain ⟨y1, y2, rfl, sm, ec⟩ := h
              rw [hl2, List.drop_length] at ec
              exact q (by rw [ec]; rfl) _ sm
          · rw [decide_eq_false (by rw [hl2]; omega)]
            have hf : faultOf (.list bs) = some (-1, []) := if_neg fun h => h3 h.2
            exact ⟨_, rfl, small100 (n := 0) (by decide), fun t nt => ⟨(show 2 ≤ 1000 by decide), bad (J2 := H) (same_upd nt) hf upd_same⟩⟩
        · have hf : faultOf (.list bs) = some (-1, []) := if_neg fun h => h1 h.1
          refine iteN (by rw [hl2]; omega) ?_
          exact ⟨_, rfl, _, rfl, small100 (n := 0) (by decide), fun t nt => ⟨(show 2 ≤ 1000 by decide), bad (J2 := H) (same_upd nt) hf upd_same⟩⟩
      | _ => cases c

--SPLIT
/-! ### what is accepted is a block of statements -/
theorem inD_int {d : PyData} {l : Int × Int} (h : inD d l = true) : ∃ z : Int, d = .int z ∧ l.1 ≤ z ∧ z ≤ l.2 := by
  cases d with
  | int z =>
    unfold inD at h
    rw [Bool.and_eq_true] at h
    exact ⟨z, rfl, of_decide_eq_true h.1, of_decide_eq_true h.2⟩
  | _ => cases h
theorem nums0 {ns : List PyData} (h : (decide (ns.length = ([] : List (Int × Int)).length) && (List.zipWith inD ns []).all id) = true) : ns = [] := by
  rw [Bool.and_eq_true] at h
  exact List.eq_nil_of_length_eq_zero (of_decide_eq_true h.1)
theorem nums1 {ns : List PyData} {l : Int × Int} (h : (decide (ns.length = [l].length) && (List.zipWith inD ns [l]).all id) = true) : ∃ z : Int, ns = [.int z] ∧ l.1 ≤ z ∧ z ≤ l.2 := by
  rw [Bool.and_eq_true] at h
  obtain ⟨h1, h2⟩ := h
  have h1 := of_decide_eq_true h1
  match ns, h1 with
  | [y], _ =>
    have h2 : (inD y l && true) = true := h2
    rw [Bool.and_true] at h2
    obtain ⟨z, rfl, h⟩ := inD_int h2
    exact ⟨z, rfl, h⟩
theorem nums2 {ns : List PyData} {l k : Int × Int} (h : (decide (ns.length = [l, k].length) && (List.zipWith inD ns [l, k]).all id) = true) : ∃ z w : Int, ns = [.int z, .int w] ∧ (l.1 ≤ z ∧ z ≤ l.2) ∧ k.1 ≤ w ∧ w ≤ k.2 := by
  rw [Bool.and_eq_true] at h
  obtain ⟨h1, h2⟩ := h
  have h1 := of_decide_eq_true h1
  match ns, h1 with
  | [y, x], _ =>
    have h2 : (inD y l && (inD x k && true)) = true := h2
    rw [Bool.and_true, Bool.and_eq_true] at h2
    obtain ⟨z, rfl, h⟩ := inD_int h2.1
    obtain ⟨w, rfl, h'⟩ := inD_int h2.2
    exact ⟨z, w, rfl, h, h'⟩
theorem okA0 {c : Cm} (h : c.nums = []) : c.ok := fun i z l e _ => by rw [h] at e; simp at e
theorem okA1 {c : Cm} {z : Int} {l : Int × Int} (h : c.nums = [z]) (hl : c.lims = [l]) (o : l.1 ≤ z ∧ z ≤ l.2) : c.ok := fun i z' l' e e' => by
  rw [h] at e
  rw [hl] at e'
  match i, e, e' with
  | 0, e, e' => cases e; cases e'; exact o
theorem okA2 {c : Cm} {z w : Int} {l k : Int × Int} (h : c.nums = [z, w]) (hl : c.lims = [l, k]) (o : l.1 ≤ z ∧ z ≤ l.2) (o' : k.1 ≤ w ∧ w ≤ k.2) : c.ok := fun i z' l' e e' => by
  rw [h] at e
  rw [hl] at e'
  match i, e, e' with
  | 0, e, e' => cases e; cases e'; exact o
  | 1, e, e' => cases e; cases e'; exact o'
theorem cmd_of {d : PyData} (h : cmdOk d = true) : ∃ c : Cm, d = c.d ∧ c.ok := by
  unfold cmdOk at h
  split at h
  · rename_i s ns
    split at h
    · rename_i ls hb
      unfold boundsOf at hb
      split at hb
      · rename_i e; subst e; cases hb
        obtain ⟨z, rfl, o⟩ := nums1 h
        exact ⟨.go z, rfl, okA1 rfl rfl o⟩
      split at hb
      · rename_i e; subst e; cases hb
        obtain ⟨z, rfl, o⟩ := nums1 h
        exact ⟨.turn z, rfl, okA1 rfl rfl o⟩
      split at hb
      · rename_i e; subst e; cases hb
        obtain rfl := nums0 h
        exact ⟨.mirror, rfl, okA0 rfl⟩
      split at hb
      · rename_i e; subst e; cases hb
        obtain ⟨z, rfl, o⟩ := nums1 h
        exact ⟨.scale z, rfl, okA1 rfl rfl o⟩
      split at hb
      · rename_i e; subst e; cases hb
        obtain ⟨z, w, rfl, o, o'⟩ := nums2 h
        exact ⟨.aim z w, rfl, okA2 rfl rfl o o'⟩
      split at hb
      · rename_i e; subst e; cases hb
        obtain ⟨z, w, rfl, o, o'⟩ := nums2 h
        exact ⟨.place z w, rfl, okA2 rfl rfl o o'⟩
      split at hb
      · rename_i e; subst e; cases hb
        obtain rfl := nums0 h
        exact ⟨.mark, rfl, okA0 rfl⟩
      split at hb
      · rename_i e; subst e; cases hb
        obtain rfl := nums0 h
        exact ⟨.ret, rfl, okA0 rfl⟩
      split at hb
      · rename_i e; subst e; cases hb
        obtain rfl := nums0 h
        exact ⟨.exch, rfl, okA0 rfl⟩
      cases hb
    · cases h
  · cases h
theorem map1 {bs : List (List Stm)} {r : List PyData} (e : r = bs.map bD) (l : r.length = 1) : ∃ b, bs = [b] ∧ r = [bD b] := by
  subst e
  rw [List.length_map] at l
  match bs, l with
  | [b], _ => exact ⟨b, rfl, rfl⟩
theorem map2 {bs : List (List Stm)} {r : List PyData} (e : r = bs.map bD) (l : r.length = 2) : ∃ a b, bs = [a, b] ∧ r = [bD a, bD b] := by
  subst e
  rw [List.length_map] at l
  match bs, l with
  | [a, b], _ => exact ⟨a, b, rfl, rfl⟩
theorem st_of {many l : Nat} {d : PyData} (hl : l ≤ 3) (h : stOk (l : Int) many d = true) {bs : List (List Stm)} (hb : blocksOfD d = bs.map bD) (ho : ∀ b ∈ bs, b.length ≤ 8 ∧ okB many b (l + 1)) : ∃ z : Stm, d = z.d ∧ z.ok many l ∧ z.blocks = bs := by
  unfold stOk at h
  rw [Bool.or_eq_true] at h
  rcases h with h | h
  · obtain ⟨c, rfl, oc⟩ := cmd_of h
    refine ⟨.cmd c, rfl, oc, ?_⟩
    have e : blocksOfD c.d = [] := by
      show blocksR c.word (c.nums.map PyData.int) = []
      unfold blocksR
      rw [if_neg (cm_call c), if_neg (by rw [isBlk_cm]; exact Bool.false_ne_true)]
    rw [e] at hb
    exact (List.map_eq_nil_iff.mp hb.symm).symm
  · unfold stRest at h
    split at h
    · rename_i x r
      split at h
      · rename_i e
        have e := eqv_str e
        subst e
        have n1 : ¬ (("end" : Str) = "call") := by decide +kernel
        have n2 : isBlk "end" = false := by decide +kernel
        have e : blocksOfD (.tuple (.str "end" :: r)) = [] := by
          show blocksR "end" r = []
          unfold blocksR
          rw [if_neg n1, if_neg (by rw [n2]; exact Bool.false_ne_true)]
        rw [e] at hb
        have eb := (List.map_eq_nil_iff.mp hb.symm).symm
        unfold endOk at h
        split at h
        · rename_i y
          obtain ⟨z, rfl, o1, o2⟩ := inD_int h
          have o1 : 0 ≤ z := o1
          have o2 : z ≤ 1 := o2
          by_cases hz : z = 1
          · subst hz
            exact ⟨.fin true, rfl, True.intro, eb⟩
          · obtain rfl : z = 0 := by omega
            exact ⟨.fin false, rfl, True.intro, eb⟩
        · cases h
      · split at h
        · cases h
        · rename_i nl
          have l3 : l < 3 := by
            have : l ≠ 3 := fun e => nl (by rw [e]; rfl)
            omega
          have blk : ∀ (s : Str), x = .str s → ¬ s = "call" → isBlk s = true → r = bs.map bD := fun s e n1 n2 => by
            subst e
            rw [← hb]
            show r = blocksR s r
            unfold blocksR
            rw [if_neg n1, if_pos n2]
          split at h
          · rename_i e
            have e := eqv_str e
            subst e
            unfold callOk at h
            split at h
            · rename_i p s b e
              cases e
              rw [Bool.and_eq_true, Bool.and_eq_true] at h
              obtain ⟨⟨hp, hs⟩, hab⟩ := h
              obtain ⟨z, rfl, o1, o2⟩ := inD_int hp
              have o1 : 0 ≤ z := o1
              have o2 : z ≤ (many : Int) - 1 := o2
              cases s with
              | bool sv =>
                cases b with
                | list cs =>
                  have h2 : areBlT 2 cs = true := hab
                  obtain ⟨l1, l2⟩ := all_len h2
                  have e : blocksOfD (.tuple [.str "call", .int z, .bool sv, .list cs]) = cs := by
                    show blocksR "call" [.int z, .bool sv, .list cs] = cs
                    unfold blocksR
                    rw [if_pos rfl]
                    rfl
                  rw [e] at hb
                  obtain ⟨a, b, rfl, rfl⟩ := map2 hb l1
                  refine ⟨.call z.toNat sv a b, ?_, ⟨l3, by omega, ho a (by simp), ho b (by simp)⟩, rfl⟩
                  show _ = PyData.tuple [.str "call", .int (z.toNat : Int), .bool sv, .list [bD a, bD b]]
                  rw [show (z.toNat : Int) = z by omega]
                | _ => cases hab
              | _ => cases hs
            · cases h
          · split at h
            · rename_i e
              have e := eqv_str e
              have er := blk _ e (by decide +kernel) (by decide +kernel)
              subst e
              obtain ⟨l1, l2⟩ := all_len h
              obtain ⟨a, b, rfl, rfl⟩ := map2 er l1
              exact ⟨.either a b, rfl, ⟨l3, ho a (by simp), ho b (by simp)⟩, rfl⟩
            · rw [Bool.and_eq_true, Bool.or_eq_true] at h
              obtain ⟨l1, l2⟩ := all_len h.2
              rcases h.1 with e | e
              · have e := eqv_str e
                have er := blk _ e (by decide +kernel) (by decide +kernel)
                subst e
                obtain ⟨b, rfl, rfl⟩ := map1 er l1
                exact ⟨.keep b, rfl, ⟨l3, ho b (by simp)⟩, rfl⟩
              · have e := eqv_str e
                have er := blk _ e (by decide +kernel) (by decide +kernel)
                subst e
                obtain ⟨b, rfl, rfl⟩ := map1 er l1
                exact ⟨.again b, rfl, ⟨l3, ho b (by simp)⟩, rfl⟩
    · cases h
theorem blks_of {many l : Nat} {g : List PyData → List Nat → Nat → List Nat ⊕ Nat} (hg : ∀ (ds : List PyData) (p : List Nat) (rd m : Nat), l + 1 ≤ 3 → p.length = 2 * (l + 1) → rd ≤ 12 → g ds p rd = .inr m → ∃ b : List Stm, ds = blkD b ∧ b.length ≤ 8 ∧ okB many b (l + 1) ∧ m = rd + cntB b ∧ m ≤ 12)
    {q : List Nat} (hq : q.length = 2 * l + 1) (l3 : l < 3) : ∀ (es : List PyData) (j rd m : Nat), es.all isLs = true → rd ≤ 12 → chkBs g es q j rd = .inr m → ∃ bs : List (List Stm), es = bs.map bD ∧ (∀ b ∈ bs, b.length ≤ 8 ∧ okB many b (l + 1)) ∧ m = rd + cntBs bs ∧ m ≤ 12
  | [], j, rd, m, _, hr, h => by
    rw [chkBs] at h
    cases h
    exact ⟨[], rfl, by simp, rfl, hr⟩
  | e :: r, j, rd, m, ha, hr, h => by
    rw [List.all_cons, Bool.and_eq_true] at ha
    obtain ⟨ds, rfl⟩ : ∃ ds, e = .list ds := by
      cases e with
      | list ds => exact ⟨ds, rfl⟩
      | _ => cases ha.1
    rw [chkBs] at h
    cases hc : g (itemsL (.list ds)) (q ++ [j]) rd with
    | inl e => rw [hc] at h; cases h
    | inr m1 =>
      rw [hc] at h
      obtain ⟨b, e1, e2, e3, e4, e5⟩ := hg ds (q ++ [j]) rd m1 l3 (by rw [List.length_append, hq]; show 2 * l + 1 + 1 = _; omega) hr hc
      obtain ⟨bs, f1, f2, f3, f4⟩ := blks_of hg hq l3 r (j + 1) m1 m ha.2 e5 h
      refine ⟨b :: bs, by rw [e1, f1]; rfl, fun c hc => ?_, by rw [cntBs]; omega, f4⟩
      rcases List.mem_cons.mp hc with rfl | hc
      · exact ⟨e2, e3⟩
      · exact f2 c hc
theorem blk_of {many l : Nat} {g : List PyData → List Nat → Nat → List Nat ⊕ Nat} (hg : ∀ (ds : List PyData) (p : List Nat) (rd m : Nat), l + 1 ≤ 3 → p.length = 2 * (l + 1) → rd ≤ 12 → g ds p rd = .inr m → ∃ b : List Stm, ds = blkD b ∧ b.length ≤ 8 ∧ okB many b (l + 1) ∧ m = rd + cntB b ∧ m ≤ 12)
    {p : List Nat} (hp : p.length = 2 * l) (l3 : l ≤ 3) : ∀ (ds : List PyData) (i rd m : Nat), i ≤ 8 → rd ≤ 12 → chkL g many ds p i rd = .inr m → ∃ b : List Stm, ds = blkD b ∧ i + b.length ≤ 8 ∧ okB many b l ∧ m = rd + cntB b ∧ m ≤ 12
  | [], i, rd, m, hi, hr, h => by
    rw [chkL] at h
    cases h
    exact ⟨[], rfl, hi, True.intro, rfl, hr⟩
  | d :: r, i, rd, m, hi, hr, h => by
    rw [chkL] at h
    by_cases c : i = 8 ∨ 12 < rd + 1
    · rw [if_pos c] at h
      cases h
    rw [if_neg c] at h
    rw [show (p.length + 1) / 2 = l by omega] at h
    cases hst : stOk (l : Int) many d with
    | false =>
      rw [if_pos hst] at h
      cases h
    | true =>
      rw [if_neg (by rw [hst]; exact Bool.noConfusion)] at h
      obtain ⟨sw, r', e, _, hall, _, hb3⟩ := stOk_form hst
      have eb : blocksOfD d = blocksR sw r' := by rw [e]; rfl
      cases hc : chkBs g (blocksOfD d) (p ++ [i]) 0 (rd + 1) with
      | inl e => rw [hc] at h; cases h
      | inr m1 =>
        rw [hc] at h
        have hrd : rd + 1 ≤ 12 := by omega
        have hbs : ∃ bs : List (List Stm), blocksOfD d = bs.map bD ∧ (∀ b ∈ bs, b.length ≤ 8 ∧ okB many b (l + 1)) ∧ m1 = rd + 1 + cntBs bs ∧ m1 ≤ 12 := by
          by_cases l4 : l = 3
          · have e0 : blocksOfD d = [] := by rw [eb]; exact hb3 (by rw [l4]; rfl)
            rw [e0, chkBs] at hc
            cases hc
            exact ⟨[], e0, by simp, rfl, hrd⟩
          · exact blks_of hg (by rw [List.length_append, hp]; rfl) (by omega) _ 0 (rd + 1) m1 (by rw [eb]; exact hall) hrd hc
        obtain ⟨bs, f1, f2, f3, f4⟩ := hbs
        obtain ⟨z, rfl, oz, rfl⟩ := st_of l3 hst f1 f2
        obtain ⟨b, g1, g2, g3, g4, g5⟩ := blk_of hg hp l3 r (i + 1) m1 m (by omega) f4 h
        have cz := cnt_blocks z
        exact ⟨z :: b, by rw [g1]; rfl, by rw [List.length_cons]; omega, ⟨oz, g3⟩, by rw [cntB]; omega, g5⟩
theorem chk_of {many : Nat} : ∀ (n l : Nat) (ds : List PyData) (p : List Nat) (rd m : Nat), l ≤ 3 → 4 ≤ l + n → p.length = 2 * l → rd ≤ 12 → chk many n ds p rd = .inr m → ∃ b : List Stm, ds = blkD b ∧ b.length ≤ 8 ∧ okB many b l ∧ m = rd + cntB b ∧ m ≤ 12
  | 0, l, ds, p, rd, m, h1, h2, _, _, _ => by omega
  | n + 1, l, ds, p, rd, m, h1, h2, hp, hr, h => by
    obtain ⟨b, e1, e2, e3⟩ := blk_of (g := chk many n) (l := l) (many := many) (fun ds p rd m hl hp hr h => chk_of n (l + 1) ds p rd m hl (by omega) hp hr h) hp h1 ds 0 rd m (by decide) hr h
    exact ⟨b, e1, by omega, e3⟩
theorem bodies_of {many : Nat} : ∀ (bs : List PyData) (k : Nat), chkP many bs k = none → ∃ cs : List (List Stm), bs = cs.map bD ∧ ∀ b ∈ cs, b.length ≤ 8 ∧ cntB b ≤ 12 ∧ okB many b 0
  | [], k, _ => ⟨[], rfl, by simp⟩
  | e :: r, k, h => by
    cases e with
    | list ds =>
      rw [chkP] at h
      cases hc : chk (many : Int) 4 ds [] 0 with
      | inl e => rw [hc] at h; cases h
      | inr m =>
        rw [hc] at h
        obtain ⟨b, e1, e2, e3, e4, e5⟩ := chk_of 4 0 ds [] 0 m (by decide) (by decide) rfl (by decide) hc
        obtain ⟨cs, f1, f2⟩ := bodies_of r (k + 1) h
        refine ⟨b :: cs, by rw [e1, f1]; rfl, fun c hc => ?_⟩
        rcases List.mem_cons.mp hc with rfl | hc
        · exact ⟨e2, by omega, e3⟩
        · exact f2 c hc
    | _ => simp [chkP] at h
/-- what check_bodies accepts is a book -/
theorem book_of {d : PyData} (h : faultOf d = none) : ∃ bs : List (List Stm), d = bookD bs ∧ OkBook bs := by
  cases d with
  | list ds =>
    unfold faultOf at h
    by_cases c : 1 ≤ ds.length ∧ ds.length ≤ 3
    · dsimp only at h
      rw [if_pos c, Option.map_eq_none_iff] at h
      obtain ⟨cs, rfl, f⟩ := bodies_of ds 0 h
      rw [List.length_map] at c f
      exact ⟨cs, rfl, ⟨c.1, c.2, f⟩⟩
    · dsimp only at h
      rw [if_neg c] at h
      cases h
  | _ => cases h

--SPLIT
/-! ### copies -/
def sp_copied (n : Nat) : Sp := fun vs H Q _ => ∃ (S : Addr → Prop) (b : List Stm) (v : V) (many l : Nat), vs = [v] ∧ Tr S H (bD b) v ∧ b.length ≤ 8 ∧ okB many b l ∧ l ≤ 3 ∧ 4 ≤ l + n ∧
  ∀ (r : V) (H' : Hp), Same H H' → Tr (New H) H' (bD b) r → Q r H'
def sp_copied_statement (n : Nat) : Sp := fun vs H Q _ => ∃ (S : Addr → Prop) (z : Stm) (v : V) (many l : Nat), vs = [v] ∧ Tr S H z.d v ∧ z.ok many l ∧ 3 ≤ l + n ∧
  ∀ (r : V) (H' : Hp), Same H H' → Tr (New H) H' z.d r → Q r H'
/-- what a statement's blocks are -/
theorem ok_block {many : Nat} {z : Stm} {l : Nat} (h : z.ok many l) {b : List Stm} (hb : b ∈ z.blocks) : l < 3 ∧ b.length ≤ 8 ∧ okB many b (l + 1) := by
  cases z with
  | cmd c => cases hb
  | fin w => cases hb
  | keep c => cases List.mem_singleton.mp hb; exact h
  | again c => cases List.mem_singleton.mp hb; exact h
  | either c d =>
    rcases List.mem_cons.mp hb with rfl | hb
    · exact ⟨h.1, h.2.1⟩
    · cases List.mem_singleton.mp hb
      exact ⟨h.1, h.2.2⟩
  | call p s c d =>
    rcases List.mem_cons.mp hb with rfl | hb
    · exact ⟨h.1, h.2.2.1⟩
    · cases List.mem_singleton.mp hb
      exact ⟨h.1, h.2.2.2⟩
theorem blocks_len (z : Stm) : z.blocks.length ≤ 2 := by cases z <;> simp [Stm.blocks]
theorem get_blocks {z : Stm} {i : Nat} {d : PyData} (h : (z.blocks.map bD)[i]? = some d) : ∃ b, z.blocks[i]? = some b ∧ b ∈ z.blocks ∧ d = bD b := by
  rw [List.getElem?_map] at h
  cases e : z.blocks[i]? with
  | none => rw [e] at h; cases h
  | some b => rw [e] at h; cases h; exact ⟨b, rfl, List.mem_of_getElem? e, rfl⟩
theorem ok_cs (T : Top w K mg) (n : Nat) (G_copied : FnOk P w K mg base CX0 (2 * n + 2) T.a_copied T.d_copied ["block"] (sp_copied n)) :
    FnOk P w K mg base CX0 (2 * n + 3) T.a_copied_statement T.d_copied_statement ["statement"] (sp_copied_statement n) := by
  refine T.F_copied_statement.ok sc_copied_statement (fun vs H Q E h => ?_) (fun cdv A outer s H vs Q E hr h => ?_)
  · obtain ⟨S, z, v, many, l, rfl, _⟩ := h
    rfl
  · obtain ⟨S, z, v, many, l, rfl, hv, ho, hl, q⟩ := h
    refine ⟨_, (pss_one (ps_ret (pe_call (ok_with_blocks T) (hr.mono (by omega)) (by rfl) T.g_with_blocks T.F_with_blocks.kp (b_with_blocks T) .nil pass0 (pa_cons (pv 0) (pa_cons (pe_lc (own := [("block", 1)]) (g := (gName 1)) (tt := tYes) rfl sc_copied_statement.nd (k_piL K (pe_call (ok_blocks_of T) (hr.mono (by omega)) (by rfl) T.g_blocks_of T.F_blocks_of.kp (b_blocks_of T) .nil pass0 (pa_cons (pv 0) pa_nil))) (blkOk_by (N := N_copied_statement) (sc := defScope s_copied_statement) (by decide +kernel)) (fun _ _ _ _ _ => (pg_name (i := 1) sc_copied_statement.nd rfl (Or.inl rfl))) (fun _ _ _ _ _ => pts_nil) (fun _ _ _ _ _ => (pe_call G_copied (hr.mono (by omega)) (by rfl) T.g_copied T.F_copied.kp (b_copied T) .nil pass0 (pa_cons (pv 1) pa_nil)))) pa_nil))))), ?_⟩
    refine ⟨_, rfl, _, rfl, S, z.word, z.rest, v, rfl, by rw [← Stm.d_eq]; exact hv, fun e => Stm.rest_call e, fun a ys H1 s1 _ ha hs => ?_⟩
    rw [blocksR_d] at hs
    have hl2 := hs.len
    have hl3 := blocks_len z
    rw [List.length_map] at hl2
    refine ⟨a, rfl, ⟨_, SqL.of ha⟩, fun D nD => ?_⟩
    refine lc_list (xs := ys) (fun i H' => Bld H1 D ((z.blocks.map bD).take i) H') (Bld.nil nD) (fun i H' _ h => h.1.seq (SqL.of ha)) (fun i x H' hx h => ?_) (fun H' h => ?_)
    · obtain ⟨d, hd, tx⟩ := hs.get hx
      obtain ⟨b, hb, mb, rfl⟩ := get_blocks hd
      obtain ⟨o1, o2, o3⟩ := ok_block ho mb
      refine ⟨rfl, _, rfl, S, b, x, many, l + 1, rfl, tx.same h.1, o2, o3, by omega, by omega, fun r H2 s2 tr => ?_⟩
      obtain ⟨zs, hD, lz, m⟩ := h.push nD s2 tr
      have hi := (List.getElem?_eq_some_iff.mp hx).1
      refine ⟨zs, hD, ?_, ?_⟩
      · rw [lz, List.length_take]
        exact small1000 (by omega)
      · rw [List.take_add_one, hd]
        exact m
    · rw [hl2, ← List.length_map (f := bD), List.take_length] at h
      obtain ⟨zs, hD, lz⟩ := h.len
      have st := s1.trans h.1
      obtain ⟨_, zs', e', sD, hD', tz⟩ := h.done nD
      cases e'
      refine ⟨S, New H, z, v, D, zs', rfl, hv.same st, s1.free nD, hD', tz.newer s1, fun r H2 s2 tr => ?_⟩
      exact q r H2 (st.trans s2) tr
theorem ok_cp (T : Top w K mg) (n : Nat) (G_copied_statement : FnOk P w K mg base CX0 (2 * n + 3) T.a_copied_statement T.d_copied_statement ["statement"] (sp_copied_statement n)) :
    FnOk P w K mg base CX0 (2 * n + 4) T.a_copied T.d_copied ["block"] (sp_copied (n + 1)) := by
  refine T.F_copied.ok sc_copied (fun vs H Q E h => ?_) (fun cdv A outer s H vs Q E hr h => ?_)
  · obtain ⟨S, z, v, many, l, rfl, _⟩ := h
    rfl
  · obtain ⟨S, b, v, many, l, rfl, hv, h8, ho, hl3, hl, q⟩ := h
    refine ⟨_, (pss_one (ps_ret (pe_lc (own := [("statement", 1)]) (g := (gName 1)) (tt := tYes) rfl sc_copied.nd (k_piL K (pv 0)) (blkOk_by (N := N_copied) (sc := defScope s_copied) (by decide +kernel)) (fun _ _ _ _ _ => (pg_name (i := 1) sc_copied.nd rfl (Or.inl rfl))) (fun _ _ _ _ _ => pts_nil) (fun _ _ _ _ _ => (pe_call G_copied_statement (hr.mono (by omega)) (by rfl) T.g_copied_statement T.F_copied_statement.kp (b_copied_statement T) .nil pass0 (pa_cons (pv 1) pa_nil)))))), ?_⟩
    obtain ⟨a, ys, rfl, sa, ha, hs⟩ := hv
    have hl2 := hs.len
    rw [blkD_len] at hl2
    refine ⟨_, rfl, a, rfl, ⟨_, SqL.of ha⟩, fun D nD => ?_⟩
    refine lc_list (xs := ys) (fun i H' => Bld H D ((blkD b).take i) H') (Bld.nil nD) (fun i H' _ h => h.1.seq (SqL.of ha)) (fun i x H' hx h => ?_) (fun H' h => ?_)
    · obtain ⟨d, hd, tx⟩ := hs.get hx
      obtain ⟨z, hz, rfl⟩ := blkD_get hd
      refine ⟨rfl, _, rfl, S, z, x, many, l, rfl, tx.same h.1, okB_get ho hz, by omega, fun r H2 s2 tr => ?_⟩
      obtain ⟨zs, hD, lz, m⟩ := h.push nD s2 tr
      have hi := (List.getElem?_eq_some_iff.mp hx).1
      refine ⟨zs, hD, ?_, ?_⟩
      · rw [lz, List.length_take]
        exact small1000 (by omega)
      · rw [List.take_add_one, hd]
        exact m
    · rw [hl2, ← blkD_len, List.take_length] at h
      exact q _ _ h.1 (h.done nD)
theorem none_copied (T : Top w K mg) : FnOk P w K mg base CX0 2 T.a_copied T.d_copied ["block"] (sp_copied 0) := by
  have no : ∀ vs H Q E, ¬ sp_copied 0 vs H Q E := fun vs H Q E ⟨_, _, _, _, l, _, _, _, _, h1, h2, _⟩ => by omega
  exact ⟨fun vs H Q E h => absurd h (no vs H Q E), fun A outer s H args us vs Q E _ _ _ _ h => absurd h (no vs H Q E)⟩
theorem all_copied (T : Top w K mg) : ∀ n : Nat, FnOk P w K mg base CX0 (2 * n + 2) T.a_copied T.d_copied ["block"] (sp_copied n)
  | 0 => none_copied T
  | n + 1 => ok_cp T n (ok_cs T n (all_copied T n))
theorem ok_copied (T : Top w K mg) : FnOk P w K mg base CX0 10 T.a_copied T.d_copied ["block"] (sp_copied 4) := all_copied T 4

/-! ### Book(v), v any value -/
def bf (q : Addr) : List (Str × V) := putF "_bodies" (.ref q) []
theorem bf_get (q : Addr) : (bf q).lookup ("_bodies" : Str) = some (.ref q) := by
  unfold bf
  rw [lookup_putF, if_pos rfl]
theorem bf_no (q : Addr) {m : Str} (h : ¬ m = "_bodies") : (bf q).lookup m = none := by
  unfold bf
  rw [lookup_putF, if_neg h]
  rfl
/-- a Book of the bodies bs stands at p, its lists at S -/
def BookV (S : Addr → Prop) (C : Addr) (H : Hp) (p : Addr) (bs : List (List Stm)) : Prop := ∃ dx q, H p = some (.ins C dx (bf q)) ∧ Tr S H (bookD bs) (.ref q)
theorem BookV.kpl {S M : Addr → Prop} {C : Addr} {H H' : Hp} {p : Addr} {bs : List (List Stm)} (k : KpL M H H') (h : ∀ a, S a → ¬ M a) (b : BookV S C H p bs) : BookV S C H' p bs := by
  obtain ⟨dx, q, hp, t⟩ := b
  exact ⟨dx, q, k.ins hp, Tr.kpl k h _ _ t⟩
theorem BookV.same {S : Addr → Prop} {C : Addr} {H H' : Hp} {p : Addr} {bs : List (List Stm)} (k : Same H H') (b : BookV S C H p bs) : BookV S C H' p bs := b.kpl (M := fun _ => False) (KpL.of k) fun _ _ h => h
theorem BookV.mono {S S' : Addr → Prop} {C : Addr} {H : Hp} {p : Addr} {bs : List (List Stm)} (h : ∀ a, S a → S' a) (b : BookV S C H p bs) : BookV S' C H p bs := by
  obtain ⟨dx, q, hp, t⟩ := b
  exact ⟨dx, q, hp, Tr.mono h _ _ t⟩
def sp_Book_initX (C CE : Addr) : Sp := fun vs H Q E => ∃ (S : Addr → Prop) (p dx : Addr) (d : PyData) (v : V), vs = [.ref p, v] ∧ H p = some (.ins C dx []) ∧ Tr S H d v ∧ (∀ bs, d = .list bs → ∀ ds, .list ds ∈ bs → Gd 4 ds) ∧
  (faultOf d = none → ∀ (H' : Hp) (bs : List (List Stm)), d = bookD bs → OkBook bs → (∀ b o, H b = some o → b ≠ p → H' b = some o) → BookV (New H) C H' p bs → Q .non H') ∧
  ∀ (k : Int) (e : List Nat) (x t' : Addr) (H' : Hp), faultOf d = some (k, e) → Same H H' → H x = none → H' x = some (.xd [("path", .ref t'), ("procedure", .int k)]) → H' t' = some (.tup (e.map natV)) → E (.ref CE) (some x) H'
theorem ok_Book___init__ (T : Top w K mg) : FnOk P w K mg base (L2.CX P w) 12 T.a_Book___init__ T.d_Book___init__ ["self", "bodies"] (sp_Book_initX T.C_Book T.C_NoBook) := by
  refine T.F_Book___init__.okX sc_Book___init__ (fun vs H Q E h => ?_) (fun cdv A outer s H vs Q E hr h => ?_)
  · obtain ⟨S, p, dx, d, v, rfl, _⟩ := h
    rfl
  · obtain ⟨S, p, dx, d, v, rfl, hp, hv, hg, q, qe⟩ := h
    refine ⟨_, (pss_cons (ps_expr (pe_callS (ok_check_bodies T) hr (by rfl) T.g_check_bodies T.F_check_bodies.kp (b_check_bodies T) (fun σ => passAt (takes_of rfl rfl rfl rfl) σ) (pa_cons (pv 1) pa_nil)))
      (pss_one (ps_fld (pv 0) (pe_lc (own := [("body", 2)]) (g := (gName 2)) (tt := tYes) rfl sc_Book___init__.nd (k_piL K (pv 1)) (blkOk_by (N := N_Book___init__) (sc := defScope s_Book___init__) (by decide +kernel)) (fun _ _ _ _ _ => (pg_name (i := 2) sc_Book___init__.nd rfl (Or.inl rfl))) (fun _ _ _ _ _ => pts_nil) (fun _ _ _ _ _ => (pe_call (ok_copied T) (hr.mono (by decide)) (by rfl) T.g_copied T.F_copied.kp (b_copied T) .nil pass0 (pa_cons (pv 2) pa_nil)))) rfl))), ?_⟩
    refine ⟨_, rfl, S, d, v, rfl, hv, hg, fun hf H1 s1 => ?_, qe⟩
    · obtain ⟨bs, rfl, ho⟩ := book_of hf
      have hv1 := hv.same s1
      obtain ⟨a, ys, rfl, sa, ha, hs⟩ := hv1
      have hl2 := hs.len
      rw [List.length_map] at hl2
      have hi3 := ho.hi
      refine ⟨_, rfl, a, rfl, ⟨_, SqL.of ha⟩, fun D nD => ?_⟩
      refine lc_list (xs := ys) (fun i H' => Bld H1 D ((bs.map bD).take i) H') (Bld.nil nD) (fun i H' _ h => h.1.seq (SqL.of ha)) (fun i x H' hx h => ?_) (fun H' h => ?_)
      · obtain ⟨d, hd, tx⟩ := hs.get hx
        obtain ⟨b, hb, mb, rfl⟩ := get_bodies hd
        obtain ⟨o1, o2, o3⟩ := ho.each b mb
        refine ⟨rfl, _, rfl, S, b, x, bs.length, 0, rfl, tx.same h.1, o1, o3, by decide, by decide, fun r H2 s2 tr => ?_⟩
        obtain ⟨zs, hD, lz, m⟩ := h.push nD s2 tr
        have hi := (List.getElem?_eq_some_iff.mp hx).1
        refine ⟨zs, hD, ?_, ?_⟩
        · rw [lz, List.length_take]
          exact small1000 (by omega)
        · rw [List.take_add_one, hd]
          exact m
      · rw [hl2, ← List.length_map (f := bD), List.take_length] at h
        have st := s1.trans h.1
        have hp' := st _ _ hp
        refine ⟨_, rfl, p, T.C_Book, dx, [], rfl, hp', T.cl_Book, T.na_Book__bodies, by decide, ?_⟩
        refine q hf _ bs rfl ho (fun b o e nb => by rw [upd_ne nb]; exact st _ _ e) ⟨dx, D, upd_same, ?_⟩
        have t := (h.done nD).newer s1
        exact Tr.put hp' t

--SPLIT
def sp_Book_bodies (C : Addr) : Sp := fun vs H Q _ => ∃ (S : Addr → Prop) (p : Addr) (bs : List (List Stm)), vs = [.ref p] ∧ BookV S C H p bs ∧ OkBook bs ∧ ∀ r H', Same H H' → Tr (New H) H' (bookD bs) r → Q r H'
theorem ok_Book_bodies (T : Top w K mg) : FnOk P w K mg base CX0 11 T.a_Book_bodies T.d_Book_bodies ["self"] (sp_Book_bodies T.C_Book) := by
  refine T.F_Book_bodies.ok sc_Book_bodies (fun vs H Q E h => ?_) (fun cdv A outer s H vs Q E hr h => ?_)
  · obtain ⟨S, p, bs, rfl, _⟩ := h
    rfl
  · obtain ⟨S, p, bs, rfl, ⟨dx, qa, hp, hv⟩, ho, q⟩ := h
    refine ⟨_, (pss_one (ps_ret (pe_lc (own := [("body", 1)]) (g := (gName 1)) (tt := tYes) rfl sc_Book_bodies.nd (k_piL K (pe_fld (pv 0) rfl)) (blkOk_by (N := N_Book_bodies) (sc := defScope s_Book_bodies) (by decide +kernel)) (fun _ _ _ _ _ => (pg_name (i := 1) sc_Book_bodies.nd rfl (Or.inl rfl))) (fun _ _ _ _ _ => pts_nil) (fun _ _ _ _ _ => (pe_call (ok_copied T) hr (by rfl) T.g_copied T.F_copied.kp (b_copied T) .nil pass0 (pa_cons (pv 1) pa_nil)))))), ?_⟩
    obtain ⟨a, ys, ea, sa, ha, hs⟩ := hv
    cases ea
    have hl2 := hs.len
    rw [List.length_map] at hl2
    have hi3 := ho.hi
    refine ⟨_, rfl, p, T.C_Book, dx, _, _, rfl, hp, T.cl_Book, T.na_Book__bodies, bf_get _, qa, rfl, ⟨_, SqL.of ha⟩, fun D nD => ?_⟩
    refine lc_list (xs := ys) (fun i H' => Bld H D ((bs.map bD).take i) H') (Bld.nil nD) (fun i H' _ h => h.1.seq (SqL.of ha)) (fun i x H' hx h => ?_) (fun H' h => ?_)
    · obtain ⟨d, hd, tx⟩ := hs.get hx
      obtain ⟨b, hb, mb, rfl⟩ := get_bodies hd
      obtain ⟨o1, o2, o3⟩ := ho.each b mb
      refine ⟨rfl, _, rfl, S, b, x, bs.length, 0, rfl, tx.same h.1, o1, o3, by decide, by decide, fun r H2 s2 tr => ?_⟩
      obtain ⟨zs, hD, lz, m⟩ := h.push nD s2 tr
      have hi := (List.getElem?_eq_some_iff.mp hx).1
      refine ⟨zs, hD, ?_, ?_⟩
      · rw [lz, List.length_take]
        exact small1000 (by omega)
      · rw [List.take_add_one, hd]
        exact m
    · rw [hl2, ← List.length_map (f := bD), List.take_length] at h
      exact q _ _ h.1 (h.done nD)

def sp_Book_len (C : Addr) : Sp := fun vs H Q _ => ∃ (S : Addr → Prop) (p : Addr) (bs : List (List Stm)), vs = [.ref p] ∧ BookV S C H p bs ∧ Q (.int bs.length) H
theorem ok_Book___len__ (T : Top w K mg) : FnOk P w K mg base CX0 1 T.a_Book___len__ T.d_Book___len__ ["self"] (sp_Book_len T.C_Book) := by
  refine T.F_Book___len__.ok sc_Book___len__ (fun vs H Q E h => ?_) (fun cdv A outer s H vs Q E hr h => ?_)
  · obtain ⟨S, p, bs, rfl, _⟩ := h
    rfl
  · obtain ⟨S, p, bs, rfl, ⟨dx, qa, hp, hv⟩, q⟩ := h
    refine ⟨_, (pss_one (ps_ret (pe_callB (k_len K) (by rfl) T.z_len bt_len (pa_cons (pe_fld (pv 0) rfl) pa_nil)))), ?_⟩
    obtain ⟨a, ys, ea, sa, ha, hs⟩ := hv
    cases ea
    have hl2 := hs.len
    rw [List.length_map] at hl2
    refine ⟨_, rfl, p, T.C_Book, dx, _, _, rfl, hp, T.cl_Book, T.na_Book__bodies, bf_get _, qa, _, rfl, .inl (SqL.of ha), ?_⟩
    rw [hl2]
    exact q

def sp__law_blocks : Sp := fun vs H Q _ => ∃ (S : Addr → Prop) (z : Stm) (v : V), vs = [v] ∧ Tr S H z.d v ∧
  ∀ (q : Addr) (ys : List V) (H' : Hp), Same H H' → H q = none → H' q = some (.lst ys) → TrAll S H' (z.blocks.map bD) ys → Q (.ref q) H'
theorem filt_rest (z : Stm) (h : ¬ z.word = "call") : z.rest.filter isLs = z.blocks.map bD := by
  cases z with
  | cmd c => show (c.nums.map PyData.int).filter isLs = []; generalize c.nums = ns; induction ns with
    | nil => rfl
    | cons n r ih => simpa [isLs] using ih
  | fin w => rfl
  | keep b => rfl
  | again b => rfl
  | either a b => rfl
  | call p s a b => exact absurd rfl h
theorem ok__law_blocks (T : Top w K mg) : FnOk P w K mg base CX0 1 T.a__law_blocks T.d__law_blocks ["_law_statement"] sp__law_blocks := by
  refine T.F__law_blocks.ok sc__law_blocks (fun vs H Q E h => ?_) (fun cdv A outer s H vs Q E hr h => ?_)
  · obtain ⟨S, z, v, rfl, _⟩ := h
    rfl
  · obtain ⟨S, z, v, rfl, hv, q⟩ := h
    rw [Stm.d_eq] at hv
    obtain ⟨a, xs, rfl, ha, y, us, rfl, hy, hs⟩ := hv
    cases hy
    refine ⟨_, (pss_cons (ps_if (pt_cmpR op_eq (pe_ix (k_ixT K) (pv 0) pe_int (fun _ _ => rfl)) pe_str (nomark _)) (pss_one (ps_ret (pe_callTy (k_list K) (by rfl) T.z_list bt_list (pa_cons (pe_ix (k_ixT K) (pv 0) pe_int (fun _ _ => rfl)) pa_nil)))) pss_nil)
      (pss_one (ps_ret (pe_lc (own := [("_law_item", 1)]) (g := (gName 1)) rfl sc__law_blocks.nd (k_piT K (pe_slice (k_slT K) (pv 0) (po_some pe_int) po_none)) (blkOk_by (N := N__law_blocks) (sc := defScope s__law_blocks) (by decide +kernel)) (fun _ _ _ _ _ => (pg_name (i := 1) sc__law_blocks.nd rfl (Or.inl rfl))) (fun _ _ _ _ _ => (pts_one (pt_val (pe_callB (k_isi K) (by rfl) T.z_isinstance bt_isinstance (pa_cons (pv 1) (pa_cons (pe_bltn (v := .ty "list") (by rfl) T.z_list bt_list rfl) pa_nil)))))) (fun _ _ _ _ _ => (pv 1)))))), ?_⟩
    refine ⟨_, rfl, a, _, 0, _, rfl, rfl, SqT.of ha, at_of (j := 0) (by decide) rfl, ?_⟩
    refine ⟨rfl, _, rfl, ite2 (fun c => ?_) (fun c => ?_)⟩
    · have c : z.word = "call" := V.str.inj (of_decide_eq_true c)
      have hb := blocksR_d z
      obtain ⟨p, z', bs, e⟩ := Stm.rest_call c
      rw [e] at hs hb
      rw [blocksR, if_pos c] at hb
      obtain ⟨x1, _, rfl, t1, x2, _, rfl, t2, x3, _, rfl, ⟨b, ys, rfl, sb, hb2, tb⟩, rfl⟩ := hs
      refine ⟨_, rfl, a, _, 3, _, rfl, rfl, SqT.of ha, at_of (j := 3) (by decide) rfl, b, _, rfl, .inl (SqL.of hb2), fun l nl => ?_⟩
      have s1 := same_upd (o := .lst ys) nl
      exact q l ys _ s1 nl upd_same (by rw [← hb]; exact tb.same s1)
    · have c : ¬ z.word = "call" := fun e => c (by rw [e]; exact decide_eq_true rfl)
      have hl := hs.len
      have hs := TrAll.tracked _ _ hs
      have hl3 := z.rest_len
      refine ⟨_, rfl, _, rfl, a, _, rfl, SqT.of ha, cut_ne1, fun u nu => ⟨u, rfl, ⟨_, SqT.of upd_same⟩, fun D nD => ?_⟩⟩
      have s1 := same_upd (o := .tup (cutV (V.str z.word :: us) (some 1) none)) nu
      have hu : (upd H u (.tup (cutV (V.str z.word :: us) (some 1) none))) u = some (.tup us) := by rw [upd_same, cut_from1]
      generalize upd H u _ = H1 at *
      refine lc_tup (xs := us) (fun i H' => Same H1 H' ∧ ∃ zs, H' D = some (.lst zs) ∧ zs.length ≤ i ∧ TrAll (fun a => S a ∧ H a ≠ none) H' ((z.rest.take i).filter isLs) zs) ⟨same_upd nD, [], upd_same, Nat.le_refl _, TrAll.nil⟩ (fun i H' _ h => SqT.of (h.1 _ _ hu)) (fun i x H' hx h => ?_) (fun H' h => ?_)
      · obtain ⟨sm, zs, hD, lz, tz⟩ := h
        obtain ⟨d, hd, tx⟩ := hs.get hx
        have tx := tx.same (s1.trans sm)
        have hi := (List.getElem?_eq_some_iff.mp hx).1
        refine ⟨rfl, _, rfl, _, _, _, _, _, rfl, .ty _, tr_ty K tx, ki_list K _, _, rfl, ?_⟩
        have et : (z.rest.take (i + 1)).filter isLs = (z.rest.take i).filter isLs ++ (if isLs d = true then [d] else []) := by
          rw [List.take_add_one, hd, List.filter_append]
          cases d <;> rfl
        refine ifB (fun g => ?_) (fun g => ?_)
        · refine ⟨_, rfl, zs, hD, small1000 (by omega), same_new sm nD, zs ++ [x], upd_same, by rw [List.length_append, List.length_singleton]; omega, ?_⟩
          have k2 : KpL (fun a => a = D) H' (upd H' D (.lst (zs ++ [x]))) := KpL.refl.put rfl ⟨_, hD⟩
          rw [et, if_pos g]
          have no : ∀ a, S a ∧ H a ≠ none → ¬ a = D := fun a n e => n.2 (by rw [e]; exact s1.free nD)
          exact TrAll.snoc (TrAll.kpl k2 no _ _ tz) (Tr.kpl k2 no _ _ tx)
        · refine ⟨sm, zs, hD, by omega, ?_⟩
          rw [et, if_neg (by rw [g]; exact Bool.false_ne_true), List.append_nil]
          exact tz
      · obtain ⟨sm, zs, hD, lz, tz⟩ := h
        rw [hl, List.take_length, filt_rest z c] at tz
        exact q D zs _ (s1.trans sm) (s1.free nD) hD (TrAll.mono (fun a n => n.1) _ _ tz)
def sp__law_with : Sp := fun vs H Q _ => ∃ (S S' : Addr → Prop) (z : Stm) (v : V) (b : Addr) (ys : List V), vs = [v, .ref b] ∧ Tr S H z.d v ∧ S' b ∧ H b = some (.lst ys) ∧ TrAll S' H (z.blocks.map bD) ys ∧
  ∀ (r : V) (H' : Hp), Same H H' → Tr S' H' z.d r → Q r H'
theorem flat_rest {S S' : Addr → Prop} {H H1 : Hp} {z : Stm} (c : z.blocks = []) (s : Same H H1) {us : List V} (hs : TrAll S H z.rest us) : TrAll S' H1 z.rest us := by
  cases z with
  | cmd c' =>
    have hs : TrAll S H (c'.nums.map PyData.int) us := hs
    rw [hs.ints]
    exact TrAll.ofInts c'.nums
  | fin w' =>
    obtain ⟨x, r', rfl, t, rfl⟩ := hs
    exact ⟨x, [], rfl, t, rfl⟩
  | call p sv b0 b1 => cases c
  | keep b0 => cases c
  | again b0 => cases c
  | either b0 b1 => cases c
theorem rest_blocks {z : Stm} (h : ¬ z.word = "call") (h2 : z.blocks ≠ []) : z.rest = z.blocks.map bD := by
  cases z with
  | cmd c => exact absurd rfl h2
  | fin w => exact absurd rfl h2
  | call p s a b => exact absurd rfl h
  | _ => rfl
theorem ok__law_with (T : Top w K mg) : FnOk P w K mg base CX0 1 T.a__law_with T.d__law_with ["_law_statement", "_law_blocks_here"] sp__law_with := by
  refine T.F__law_with.ok sc__law_with (fun vs H Q E h => ?_) (fun cdv A outer s H vs Q E hr h => ?_)
  · obtain ⟨S, S', z, v, b, ys, rfl, _⟩ := h
    rfl
  · obtain ⟨S, S', z, v, b, ys, rfl, hv, sb, hb, tb, q⟩ := h
    rw [Stm.d_eq] at hv
    obtain ⟨a, xs, rfl, ha, y, us, rfl, hy, hs⟩ := hv
    cases hy
    have lb := tb.len
    rw [List.length_map] at lb
    refine ⟨_, (pss_cons (ps_if (pt_cmpR op_eq (pe_ix (k_ixT K) (pv 0) pe_int (fun _ _ => rfl)) pe_str (nomark _)) (pss_one (ps_ret (pe_op (k_catT K) (pe_slice (k_slT K) (pv 0) po_none (po_some pe_int)) (pe_tup (pa_cons (pv 1) pa_nil))))) pss_nil)
      (pss_cons (ps_if (pt_cmpR op_eq (pe_callB (k_len K) (by rfl) T.z_len bt_len (pa_cons (pv 1) pa_nil)) pe_int (nomark _)) (pss_one (ps_ret (pv 0))) pss_nil)
      (pss_one (ps_ret (pe_op (k_catT K) (pe_tup (pa_cons (pe_ix (k_ixT K) (pv 0) pe_int (fun _ _ => rfl)) pa_nil)) (pe_callTy (k_tuple K) (by rfl) T.z_tuple bt_tuple (pa_cons (pv 1) pa_nil))))))), ?_⟩
    refine ⟨_, rfl, a, _, 0, _, rfl, rfl, SqT.of ha, at_of (j := 0) (by decide) rfl, ?_⟩
    refine ⟨rfl, _, rfl, ite2 (fun c => ?_) (fun c => ?_)⟩
    · have c : z.word = "call" := V.str.inj (of_decide_eq_true c)
      cases z with
      | call p sv b0 b1 =>
        obtain ⟨x1, _, rfl, t1, x2, _, rfl, t2, x3, _, rfl, t3, rfl⟩ := hs
        cases t1
        cases t2
        refine ⟨_, rfl, _, rfl, a, _, rfl, SqT.of ha, cut_ne (n := 3) (xs := [V.str (Stm.call p sv b0 b1).word, V.int p, V.bl sv, x3]) (by show 3 < 4; decide), fun u nu => ?_⟩
        have s1 := same_upd (o := .tup (cutV [V.str (Stm.call p sv b0 b1).word, V.int p, V.bl sv, x3] none (some 3))) nu
        have hu : (upd H u (.tup (cutV [V.str (Stm.call p sv b0 b1).word, V.int p, V.bl sv, x3] none (some 3)))) u = some (.tup [V.str "call", V.int p, V.bl sv]) := by
          rw [upd_same, show cutV [V.str (Stm.call p sv b0 b1).word, V.int p, V.bl sv, x3] none (some 3) = [V.str "call", V.int p, V.bl sv] from cut_to (n := 3)]
        generalize upd H u _ = H1 at *
        refine ⟨_, rfl, small100 (n := 1) (by decide), fun t nt => ?_⟩
        have s2 := same_upd (o := .tup [V.ref b]) nt
        have ht : (upd H1 t (.tup [V.ref b])) t = some (.tup [V.ref b]) := upd_same
        have hu2 := s2 _ _ hu
        have s3 := s1.trans s2
        generalize upd H1 t _ = H2 at *
        refine ⟨u, t, _, _, rfl, rfl, SqT.of hu2, SqT.of ht, by simp, small100 (n := 4) (by decide), fun e => absurd e (List.cons_ne_nil _ _), fun _ r nr => ?_⟩
        have s4 := s3.trans (same_upd (o := .tup ([V.str "call", V.int p, V.bl sv] ++ [V.ref b])) nr)
        refine q _ _ s4 ⟨r, _, rfl, upd_same, .cons rfl (.cons rfl (.cons rfl (.cons ?_ .nil)))⟩
        exact ⟨b, ys, rfl, sb, s4 _ _ hb, tb.same s4⟩
      | cmd c' => exact absurd c (cm_call c')
      | fin w => exact absurd c (show ¬ ("end" : Str) = "call" by decide +kernel)
      | keep w => exact absurd c (show ¬ ("keep" : Str) = "call" by decide +kernel)
      | again w => exact absurd c (show ¬ ("again" : Str) = "call" by decide +kernel)
      | either w z => exact absurd c (show ¬ ("either" : Str) = "call" by decide +kernel)
    · have c : ¬ z.word = "call" := fun e => c (by rw [e]; exact decide_eq_true rfl)
      refine ⟨_, rfl, b, _, rfl, .inl (SqL.of hb), rfl, _, rfl, ite2 (fun g => ?_) (fun g => ?_)⟩
      · have g : ys.length = 0 := by have := dec_int' g; omega
        refine ⟨_, rfl, q _ _ (Same.refl _) ?_⟩
        rw [Stm.d_eq]
        exact ⟨a, _, rfl, ha, .cons rfl (flat_rest (List.length_eq_zero_iff.mp (by omega)) (Same.refl _) hs)⟩
      · have g : ys ≠ [] := fun e => g (by rw [e]; rfl)
        have g2 : z.blocks ≠ [] := fun e => g (List.length_eq_zero_iff.mp (by rw [lb, e]; rfl))
        have hl3 := blocks_len z
        refine ⟨_, rfl, a, _, 0, _, rfl, rfl, SqT.of ha, at_of (j := 0) (by decide) rfl, small100 (n := 1) (by decide), fun u nu => ?_⟩
        have s1 := same_upd (o := .tup [V.str z.word]) nu
        have hu : (upd H u (.tup [V.str z.word])) u = some (.tup [V.str z.word]) := upd_same
        generalize upd H u _ = H1 at *
        refine ⟨_, rfl, b, _, rfl, SqL.of (s1 _ _ hb), fun t nt => ?_⟩
        have s2 := same_upd (o := .tup ys) nt
        have ht : (upd H1 t (.tup ys)) t = some (.tup ys) := upd_same
        have hu2 := s2 _ _ hu
        have s3 := s1.trans s2
        generalize upd H1 t _ = H2 at *
        refine ⟨u, t, _, _, rfl, rfl, SqT.of hu2, SqT.of ht, by simp, small100 (by rw [List.length_singleton]; omega), fun e => absurd e g, fun _ r nr => ?_⟩
        have s4 := s3.trans (same_upd (o := .tup ([V.str z.word] ++ ys)) nr)
        refine q _ _ s4 ?_
        rw [Stm.d_eq, rest_blocks c g2]
        exact ⟨r, _, rfl, upd_same, .cons rfl (tb.same s4)⟩

--SPLIT
theorem passes_len {X : Cx} {W : WX} (tk : Takes X W) : Passes (L2.CX X.prog X.w) X (fun c d H => ∀ σ : L2.St, σ.length = X.N.length → W c d σ H) := fun pins σ H s e s' I c => tk e s' (XE.of_call I (fun _ _ _ h => h σ I.len) c)
def sp__law_made : Sp := fun vs H Q _ => ∃ (S : Addr → Prop) (d : PyData) (v : V), vs = [v] ∧ Tr S H d v ∧ (∀ bs, d = .list bs → ∀ ds, .list ds ∈ bs → Gd 4 ds) ∧
  (faultOf d = none → ∀ (H' : Hp) (q : Addr) (r : V) (bs : List (List Stm)), d = bookD bs → OkBook bs → Same H H' → H q = none → H' q = some (.tup [.str "told", .int bs.length, r]) → Tr (New H) H' (bookD bs) r → Q (.ref q) H') ∧
  ∀ (k : Int) (e : List Nat) (q t' : Addr) (H' : Hp), faultOf d = some (k, e) → Same H H' → H q = none → H' q = some (.tup [.str "NoBook", .int k, .ref t']) → H' t' = some (.tup (e.map natV)) → Q (.ref q) H'
theorem ok__law_made (T : Top w K mg) : FnOk P w K mg base CX0 14 T.a__law_made T.d__law_made ["_law_bodies"] sp__law_made := by
  refine T.F__law_made.ok sc__law_made (fun vs H Q E h => ?_) (fun cdv A outer s H vs Q E hr h => ?_)
  · obtain ⟨S, d, v, rfl, _⟩ := h
    rfl
  · obtain ⟨S, d, v, rfl, hv, hg, q, qe⟩ := h
    refine ⟨_, (pss_cons (ps_try_as (i := 2) (tb := fun W => tAsg (tMake T.C_Book (sp_Book_initX T.C_Book T.C_NoBook) [] (fun c d H => ∀ σ : L2.St, σ.length = 3 → W c d σ H) (tCons (tVar 0) tNil)) (gName 1)) (ts := fun a cls d => tRet (tTup (tCons (tC (.str "NoBook")) (tCons (tXf a cls d T.C_NoBook "procedure" (tVar 2)) (tCons (tXf a cls d T.C_NoBook "path" (tVar 2)) tNil))))) rfl rfl sc__law_made.nd rfl rfl ⟨rfl, by decide, Or.inl T.g_NoBook⟩ takes0 (fun W pn xe tk _ => pss_one (ps_set (i := 1) sc__law_made.nd rfl (Or.inl rfl) (pe_make T.mk_Book (ok_Book___init__ T) (hr.mono (by decide)) (by rfl) T.g_Book (b_Book___init__ T) .nil (passes_len tk) (pa_cons (pv 0) pa_nil)))) (fun a oe cls d pn hz hf => pss_one (ps_ret (pe_tup (pa_cons pe_str (pa_cons (pe_xf T.xf_NoBook T.no_NoBook_procedure hz hf (pv 2)) (pa_cons (pe_xf T.xf_NoBook T.no_NoBook_path hz hf (pv 2)) pa_nil)))))))
      (pss_one (ps_ret (pe_tup (pa_cons pe_str (pa_cons (pe_callB (call_lenO (ok_Book___len__ T) T.m_Book___len__ (hr.mono (by decide)) (b_Book___len__ T) pass0) (by rfl) T.z_len bt_len (pa_cons (pv 1) pa_nil)) (pa_cons (pe_meth0 (pv 1) T.cl_Book T.m_Book_bodies (ok_Book_bodies T) (hr.mono (by decide)) (b_Book_bodies T) .nil pass0) pa_nil))))))), ?_⟩
    refine ⟨_, rfl, fun o dx no nd ne => ?_⟩
    have s1 : Same H (upd (upd H dx (.own o)) o (.ins T.C_Book dx [])) := fun b x e => by
      rw [upd_ne (ne_of_none e no), upd_ne (ne_of_none e nd)]
      exact e
    refine ⟨S, o, dx, d, v, rfl, upd_same, hv.same s1, hg, fun hf H' bs e ho k B => ⟨rfl, ?_⟩, fun k e x t' H' hf sm nx hx ht σ hσ => ?_⟩
    · obtain ⟨ody, oy, hoy, hty⟩ := id B
      have sB : Same H H' := fun b x e => k b x (s1 _ _ e) (ne_of_none e no)
      have h3 := ho.hi
      refine ⟨_, rfl, o, ody, _, rfl, hoy, _, o, bs, rfl, B, _, rfl, ⟨by omega, by omega⟩, ?_⟩
      refine ⟨_, rfl, o, ody, _, rfl, hoy, bf_no _ (by decide), _, o, bs, rfl, B, ho, fun r H2 s2 tr => ⟨small100 (n := 3) (by decide), fun p nq => ?_⟩⟩
      exact q hf _ p r bs e ho (sB.trans (s2.trans (same_upd nq))) ((sB.trans s2).free nq) upd_same ((tr.newer sB).same (same_upd nq))
    · match σ, hσ with
      | [y0, y1, y2], _ =>
        refine ⟨true, T.x_NoBook, fun _ a0 na => ?_, fun z => Bool.noConfusion z⟩
        exact ⟨_, rfl, rfl, rfl, x, _, .int k, rfl, hx, rfl, _, rfl, rfl, rfl, x, _, .ref t', rfl, hx, rfl, small100 (n := 3) (by decide), fun q nq => qe k e q t' _ hf (s1.trans (sm.trans (same_upd nq))) ((s1.trans sm).free nq) upd_same (same_upd nq _ _ ht)⟩

--SPLIT
def sp__law_pool (K : PySem.W.Frag) : Sp := fun vs H Q _ => ∃ (a : Addr) (ns : List Int), vs = [.ref a] ∧ SqL K H a (ns.map V.int) ∧ ns.length ≤ 63 ∧
  ∀ (H' : Hp) (p : Addr) (L : Nat), Same H H' → H p = none → Pool H' p L → 2 ≤ L → L ≤ 64 → Q (.ref p) H'
theorem cut63 {ns : List Int} (h : ns.length ≤ 63) : cutV (ns.map V.int) none (some 63) = ns.map V.int := by
  unfold cutV
  rw [HT.sIx_none, show HT.sIx (ns.map V.int).length (ns.map V.int).length (some 63) = min 63 (ns.map V.int).length from HT.sIx_nat _ _ 63, List.drop_zero, Nat.sub_zero]
  refine List.take_of_length_le ?_
  rw [List.length_map]
  omega
theorem ok__law_pool (T : Top w K mg) : FnOk P w K mg base CX0 1 T.a__law_pool T.d__law_pool ["_law_script"] (sp__law_pool K) := by
  refine T.F__law_pool.ok sc__law_pool (fun vs H Q E h => ?_) (fun cdv A outer s H vs Q E hr h => ?_)
  · obtain ⟨a, ns, rfl, _⟩ := h
    rfl
  · obtain ⟨a, ns, rfl, hS, hlen, q⟩ := h
    refine ⟨_, (pss_one (ps_ret (pe_op op_cat (pe_lst (pa_cons pe_int pa_nil)) (pe_orT (pe_lc (own := [("_law_cell", 1)]) (g := (gName 1)) (tt := tYes) rfl sc__law_pool.nd (k_piL K (pe_slice (k_slL K) (pv 0) po_none (po_some pe_int))) (blkOk_by (N := N__law_pool) (sc := defScope s__law_pool) (by decide +kernel)) (fun _ _ _ _ _ => (pg_name (i := 1) sc__law_pool.nd rfl (Or.inl rfl))) (fun _ _ _ _ _ => pts_nil) (fun _ _ _ _ _ => (pe_callTy call_intI (by rfl) T.z_int bt_int (pa_cons (pv 1) pa_nil)))) (pe_one (pe_lst (pa_cons pe_int pa_nil))))))), ?_⟩
    refine ⟨small100 (n := 1) (by decide), fun l0 n0 => ?_⟩
    have s1 : Same H (upd H l0 (.lst [.int 0])) := same_upd n0
    refine ⟨_, rfl, 63, rfl, a, _, rfl, s1.seq hS, fun c nc => ?_⟩
    rw [cut63 hlen]
    have s2 := s1.trans (same_upd (o := .lst (ns.map V.int)) nc)
    have hl0 : (upd (upd H l0 (.lst [.int 0])) c (.lst (ns.map V.int))) l0 = some (.lst [.int 0]) := by
      rw [upd_ne (ne_of_none upd_same nc), upd_same]
    refine ⟨c, rfl, ⟨_, SqL.of upd_same⟩, fun D nD => ?_⟩
    refine lc_list (xs := ns.map V.int) (fun i H' => Same (upd (upd H l0 (.lst [.int 0])) c (.lst (ns.map V.int))) H' ∧ H' D = some (.lst ((ns.take i).map V.int))) ⟨same_upd nD, ?_⟩ (fun i H' _ h => h.1.seq (SqL.of upd_same)) (fun i x H' hx h => ?_) (fun H' h => ?_)
    · rw [upd_same]
      rfl
    · obtain ⟨hs, hD⟩ := h
      rw [List.getElem?_map] at hx
      cases e : ns[i]? with
      | none =>
        rw [e] at hx
        cases hx
      | some n =>
        rw [e] at hx
        cases hx
        refine ⟨rfl, _, rfl, n, rfl, _, hD, ?_, same_new hs nD, ?_⟩
        · rw [List.length_map, List.length_take]
          exact small1000 (by omega)
        · rw [upd_same, List.take_add_one, e, List.map_append]
          rfl
    · obtain ⟨hs, hD⟩ := h
      rw [len_map, List.take_length] at hD
      have hl0' := hs _ _ hl0
      have hD0 : H D = none := s2.free nD
      refine ⟨!(ns.map V.int).isEmpty, .inl ⟨_, SqL.of hD, rfl⟩, ?_⟩
      have hne : D ≠ l0 := (ne_of_none hl0 nD).symm
      cases ns with
      | nil =>
        refine ⟨small100 (n := 1) (by decide), fun l2 n2 => ?_⟩
        have hl2 : (upd H' l2 (.lst [.int 0])) l0 = some (.lst [.int 0]) := by
          rw [upd_ne (ne_of_none hl0' n2)]
          exact hl0'
        refine ⟨l0, l2, _, _, rfl, rfl, hl2, upd_same, small100 (n := 2) (by decide), fun p np => ?_⟩
        have s3 := same_new (s2.trans hs) (o := .lst [.int 0]) ((s2.trans hs).free n2)
        exact q _ p 2 (same_new s3 (s3.free np)) (s3.free np) ⟨[0, 0], upd_same, rfl⟩ (by decide) (by decide)
      | cons n r =>
        refine ⟨l0, D, _, _, rfl, rfl, hl0', hD, ?_, fun p np => ?_⟩
        · show 1 + ((n :: r).map V.int).length ≤ sizeLine
          rw [len_map]
          exact small100 (by omega)
        · have s3 := s2.trans hs
          refine q _ p (1 + (n :: r).length) (same_new s3 (s3.free np)) (s3.free np) ⟨0 :: n :: r, upd_same, ?_⟩ ?_ ?_
          · rw [List.length_cons]
            omega
          · rw [List.length_cons]
            omega
          · omega
def sp__law_draw (K : PySem.W.Frag) : Sp := fun vs H Q _ => ∃ (p : Addr) (L : Nat) (m : Int), vs = [.ref p, .int m] ∧ Pool H p L ∧ 2 ≤ L ∧ L ≤ 64 ∧ 0 < m ∧ m ≤ 1000 ∧
  ∀ (r : Int) (H' : Hp), 0 ≤ r → r < m → Kp p H H' → Pool H' p L → Q (.int r) H'
theorem ok__law_draw (T : Top w K mg) : FnOk P w K mg base CX0 1 T.a__law_draw T.d__law_draw ["_law_pool_here", "_law_many"] (sp__law_draw K) := by
  refine T.F__law_draw.ok sc__law_draw (fun vs H Q E h => ?_) (fun cdv A outer s H vs Q E hr h => ?_)
  · obtain ⟨p, L, m, rfl, _⟩ := h
    rfl
  · obtain ⟨p, L, m, rfl, ⟨ns, hp, hL⟩, h2, h64, hm0, hm1, q⟩ := h
    refine ⟨_, (pss_cons (ps_augS (pv 0) pe_int (k_getL K) pe_int ip_add set_list)
      (pss_cons (ps_set (i := 2) sc__law_draw.nd rfl (Or.inl rfl) (pe_op op_add pe_int (pe_op op_mod (pe_callTy call_intI (by rfl) T.z_int bt_int (pa_cons (pe_ix (k_ixL K) (pv 0) pe_int (fun _ _ => rfl)) pa_nil)) (pe_op op_sub (pe_callB (k_len K) (by rfl) T.z_len bt_len (pa_cons (pv 0) pa_nil)) pe_int))))
      (pss_cons (ps_set (i := 3) sc__law_draw.nd rfl (Or.inl rfl) (pe_callTy call_intI (by rfl) T.z_int bt_int (pa_cons (pe_ix (k_ixL K) (pv 0) (pv 2) (fun _ _ => rfl)) pa_nil)))
      (pss_cons (ps_if (pt_cmpR op_ge (pv 3) (pe_op op_pow pe_int pe_int) (nomark _)) (pss_cons (ps_asg (pe_op op_fdiv (pv 3) (pv 1)) (pg_sub (pv 0) (pv 2) set_list))
        (pss_one (ps_ret (pe_op op_mod (pv 3) (pv 1))))) pss_nil)
      (pss_cons (ps_set (i := 4) sc__law_draw.nd rfl (Or.inl rfl) (pe_op op_mod (pe_op op_mul (pe_callTy call_intI (by rfl) T.z_int bt_int (pa_cons (pe_op op_add (pe_op op_add (pv 3) (pe_op op_mul pe_int (pe_ix (k_ixL K) (pv 0) pe_int (fun _ _ => rfl)))) pe_int) pa_nil)) pe_int) pe_int))
      (pss_cons (ps_set (i := 4) sc__law_draw.nd rfl (Or.inl rfl) (pe_op op_mod (pe_op op_mul (pv 4) (pe_op op_add (pe_op op_fdiv (pv 4) pe_int) pe_int)) pe_int))
      (pss_cons (ps_set (i := 4) sc__law_draw.nd rfl (Or.inl rfl) (pe_op op_mod (pe_op op_mul (pv 4) (pe_op op_add (pe_op op_fdiv (pv 4) pe_int) pe_int)) pe_int))
      (pss_one (ps_ret (pe_op op_mod (pe_op op_fdiv (pv 4) pe_int) (pv 1))))))))))), ?_⟩
    obtain ⟨c0, g0, _⟩ := at_map (ns := ns) (i := 0) (by decide) (by omega)
    refine ⟨_, rfl, p, ns.map V.int, 0, .int c0, rfl, rfl, by decide, SqL.of hp, get_map g0, c0, 1, rfl, rfl, p, _, 0, 0, rfl, rfl, hp, ixN_in (by decide) (by rw [len_map]; omega), ?_⟩
    rw [set_map]
    generalize e1 : ns.set 0 (c0 + 1) = ms
    have hms : ms.length = L := by
      rw [← e1, List.length_set]
      exact hL
    clear e1
    have k1 : Kp p H (upd H p (.lst (ms.map V.int))) := Kp.upd
    have hp1 : (upd H p (.lst (ms.map V.int))) p = some (.lst (ms.map V.int)) := upd_same
    generalize upd H p (.lst (ms.map V.int)) = H1 at *
    obtain ⟨c1, _, g1⟩ := at_map (ns := ms) (i := 0) (by decide) (by omega)
    have hL1 : (0 : Int) < ((ms.map V.int).length : Int) - 1 := by
      rw [len_map]
      omega
    refine ⟨_, rfl, p, _, 0, _, rfl, rfl, SqL.of hp1, g1, c1, rfl, _, rfl, p, _, rfl, .inl (SqL.of hp1), _, _, rfl, rfl, _, _, rfl, rfl, hL1, _, _, rfl, rfl, ?_⟩
    have b0 : 0 ≤ 1 + c1 % (((ms.map V.int).length : Int) - 1) := by
      have := Int.emod_nonneg c1 (Int.ne_of_gt hL1)
      omega
    have b1 : 1 + c1 % (((ms.map V.int).length : Int) - 1) < ms.length := by
      have := Int.emod_lt_of_pos c1 hL1
      rw [len_map] at this ⊢
      omega
    dsimp only
    generalize 1 + c1 % (((ms.map V.int).length : Int) - 1) = j at *
    obtain ⟨c2, _, g2⟩ := at_map (ns := ms) (i := j) b0 b1
    refine ⟨_, rfl, _, rfl, p, _, j, _, rfl, rfl, SqL.of hp1, g2, c2, rfl, ?_⟩
    refine ⟨_, rfl, 10, 18, rfl, rfl, ⟨by decide, by decide, by decide⟩, _, _, rfl, rfl, _, rfl, ite2 (fun _ => ?_) (fun _ => ?_)⟩
    · refine ⟨_, rfl, _, rfl, _, _, rfl, rfl, ⟨hm0, by omega⟩, _, rfl, _, rfl, p, _, j, j.toNat, rfl, rfl, hp1, ixN_in b0 (by rw [len_map]; exact b1), ?_⟩
      rw [set_map]
      refine ⟨_, rfl, _, rfl, _, _, rfl, rfl, hm0, ?_⟩
      exact q _ _ (Int.emod_nonneg _ (Int.ne_of_gt hm0)) (Int.emod_lt_of_pos _ hm0) (k1.trans Kp.upd) ⟨_, upd_same, by rw [List.length_set]; exact hms⟩
    · obtain ⟨c3, _, g3⟩ := at_map (ns := ms) (i := 0) (by decide) (by omega)
      refine ⟨_, rfl, _, rfl, p, _, 0, _, rfl, rfl, SqL.of hp1, g3, _, c3, rfl, rfl, .inl ⟨by decide, by decide⟩, _, _, rfl, rfl, _, _, rfl, rfl, _, rfl, _, _, rfl, rfl, .inr ⟨by decide, by decide⟩, _, _, rfl, rfl, (show (0 : Int) < 2147483647 by decide), ?_⟩
      dsimp only
      generalize ez : (c2 + 7919 * c3 + 1) * 48271 % 2147483647 = z
      have z0 : 0 ≤ z := by rw [← ez]; exact Int.emod_nonneg _ (by decide)
      have z1 : z < 2147483647 := by rw [← ez]; exact Int.emod_lt_of_pos _ (by decide)
      refine ⟨_, rfl, _, rfl, _, _, rfl, rfl, ⟨by decide, by decide⟩, _, _, rfl, rfl, _, _, rfl, rfl, .inl ⟨by omega, by omega⟩, _, _, rfl, rfl, (show (0 : Int) < 2147483647 by decide), ?_⟩
      dsimp only
      generalize ey : z * (z / 1009 + 69621) % 2147483647 = y
      have y0 : 0 ≤ y := by rw [← ey]; exact Int.emod_nonneg _ (by decide)
      have y1 : y < 2147483647 := by rw [← ey]; exact Int.emod_lt_of_pos _ (by decide)
      refine ⟨_, rfl, _, rfl, _, _, rfl, rfl, ⟨by decide, by decide⟩, _, _, rfl, rfl, _, _, rfl, rfl, .inl ⟨by omega, by omega⟩, _, _, rfl, rfl, (show (0 : Int) < 2147483399 by decide), ?_⟩
      refine ⟨_, rfl, _, _, rfl, rfl, ⟨by decide, by decide⟩, _, rfl, _, _, rfl, rfl, hm0, ?_⟩
      exact q _ _ (Int.emod_nonneg _ (Int.ne_of_gt hm0)) (Int.emod_lt_of_pos _ hm0) k1 ⟨_, hp1, hms⟩

--SPLIT
theorem ok0 {c : Cm} (h : c.nums = []) : c.ok := fun i z l e => by
  rw [h] at e
  cases e
theorem ok1 {c : Cm} {z : Int} {l : Int × Int} (h : c.nums = [z]) (hl : c.lims = [l]) (h1 : l.1 ≤ z) (h2 : z ≤ l.2) : c.ok := fun i y k e f => by
  rw [h] at e
  rw [hl] at f
  match i, e, f with
  | 0, e, f =>
    cases e
    cases f
    exact ⟨h1, h2⟩
theorem ok2 {c : Cm} {z y : Int} {l : Int × Int} (h : c.nums = [z, y]) (hl : c.lims = [l, l]) (h1 : l.1 ≤ z) (h2 : z ≤ l.2) (h3 : l.1 ≤ y) (h4 : y ≤ l.2) : c.ok := fun i x k e f => by
  rw [h] at e
  rw [hl] at f
  match i, e, f with
  | 0, e, f =>
    cases e
    cases f
    exact ⟨h1, h2⟩
  | 1, e, f =>
    cases e
    cases f
    exact ⟨h3, h4⟩

def sp__law_command : Sp := fun vs H Q _ => ∃ (p : Addr) (L : Nat) (mood : Int), vs = [.ref p, .int mood] ∧ Pool H p L ∧ 2 ≤ L ∧ L ≤ 64 ∧ 0 ≤ mood ∧ mood < 8 ∧
  ∀ (q : Addr) (c : Cm) (H' : Hp), c.ok → Kp p H H' → Pool H' p L → H q = none → H' q = some (.tup c.vals) → Q (.ref q) H'
set_option maxHeartbeats 1000000 in
theorem ok__law_command (T : Top w K mg) : FnOk P w K mg base CX0 2 T.a__law_command T.d__law_command ["_law_pool_here", "_law_mood"] sp__law_command := by
  refine T.F__law_command.ok sc__law_command (fun vs H Q E h => ?_) (fun cdv A outer s H vs Q E hr h => ?_)
  · obtain ⟨p, L, mood, rfl, _⟩ := h
    rfl
  · obtain ⟨p, L, mood, rfl, pl, h2, h64, m0, m8, q⟩ := h
    refine ⟨_, (pss_cons (ps_set (i := 2) sc__law_command.nd rfl (Or.inl rfl) (pe_lst (pa_cons (pe_lst (pa_cons pe_int (pa_cons pe_int (pa_cons pe_int (pa_cons pe_int (pa_cons pe_int pa_nil)))))) (pa_cons (pe_lst (pa_cons pe_int (pa_cons pe_int (pa_cons pe_int (pa_cons pe_int (pa_cons pe_int pa_nil)))))) (pa_cons (pe_lst (pa_cons pe_int (pa_cons pe_int (pa_cons pe_int (pa_cons pe_int (pa_cons pe_int pa_nil)))))) (pa_cons (pe_lst (pa_cons pe_int (pa_cons pe_int (pa_cons pe_int (pa_cons pe_int (pa_cons pe_int pa_nil)))))) (pa_cons (pe_lst (pa_cons pe_int (pa_cons pe_int (pa_cons pe_int (pa_cons pe_int (pa_cons pe_int pa_nil)))))) pa_nil)))))))
      (pss_cons (ps_set (i := 2) sc__law_command.nd rfl (Or.inl rfl) (pe_op op_cat (pv 2) (pe_lst (pa_cons (pe_lst (pa_cons pe_int (pa_cons pe_int (pa_cons pe_int (pa_cons pe_int (pa_cons pe_int (pa_cons pe_int (pa_cons pe_int (pa_cons pe_int (pa_cons pe_int pa_nil)))))))))) (pa_cons (pe_lst (pa_cons pe_int (pa_cons pe_int (pa_cons pe_int (pa_cons pe_int (pa_cons pe_int pa_nil)))))) (pa_cons (pe_lst (pa_cons pe_int (pa_cons pe_int (pa_cons pe_int (pa_cons pe_int (pa_cons pe_int pa_nil)))))) pa_nil))))))
      (C8.pss_cut (ps_set (i := 3) sc__law_command.nd rfl (Or.inl rfl) (pe_ix (k_ixL K) (pv 2) (pv 1) (fun _ _ => rfl)))
      (pss_cons (ps_set (i := 4) sc__law_command.nd rfl (Or.inl rfl) (pe_ix (k_ixL K) (pv 3) (pe_call (ok__law_draw T) hr (by rfl) T.g__law_draw T.F__law_draw.kp (b__law_draw T) .nil pass0 (pa_cons (pv 0) (pa_cons (pe_callB (k_len K) (by rfl) T.z_len bt_len (pa_cons (pv 3) pa_nil)) pa_nil))) (fun _ _ => rfl)))
      (pss_cons (ps_if (pt_cmpR op_eq (pv 4) pe_int (nomark _)) (pss_cons (ps_set (i := 5) sc__law_command.nd rfl (Or.inl rfl) (pe_op op_sub (pe_call (ok__law_draw T) hr (by rfl) T.g__law_draw T.F__law_draw.kp (b__law_draw T) .nil pass0 (pa_cons (pv 0) (pa_cons pe_int pa_nil))) pe_int))
        (pss_one (ps_ret (pe_tup (pa_cons pe_str (pa_cons (pe_ix (k_ixL K) (pe_lst (pa_cons (pv 5) (pa_cons pe_int (pa_cons (pe_op op_sub (pe_op op_mod (pe_callTy call_intI (by rfl) T.z_int bt_int (pa_cons (pv 5) pa_nil)) pe_int) pe_int) (pa_cons pe_int pa_nil))))) (pe_call (ok__law_draw T) hr (by rfl) T.g__law_draw T.F__law_draw.kp (b__law_draw T) .nil pass0 (pa_cons (pv 0) (pa_cons pe_int pa_nil))) (fun _ _ => rfl)) pa_nil)))))) pss_nil)
      (pss_cons (ps_if (pt_cmpR op_eq (pv 4) pe_int (nomark _)) (pss_one (ps_ret (pe_tup (pa_cons pe_str (pa_cons (pe_op op_add pe_int (pe_call (ok__law_draw T) hr (by rfl) T.g__law_draw T.F__law_draw.kp (b__law_draw T) .nil pass0 (pa_cons (pv 0) (pa_cons pe_int pa_nil)))) pa_nil))))) pss_nil)
      (pss_cons (ps_if (pt_cmpR op_eq (pv 4) pe_int (nomark _)) (pss_one (ps_ret (pe_tup (pa_cons pe_str pa_nil)))) pss_nil)
      (pss_cons (ps_if (pt_cmpR op_eq (pv 4) pe_int (nomark _)) (pss_one (ps_ret (pe_tup (pa_cons pe_str (pa_cons (pe_ix (k_ixT K) (pe_tup (pa_cons (pe_un un_neg pe_int) (pa_cons (pe_un un_neg pe_int) (pa_cons (pe_un un_neg pe_int) (pa_cons pe_int (pa_cons pe_int (pa_cons pe_int (pa_cons pe_int (pa_cons (pe_un un_neg pe_int) pa_nil))))))))) (pe_call (ok__law_draw T) hr (by rfl) T.g__law_draw T.F__law_draw.kp (b__law_draw T) .nil pass0 (pa_cons (pv 0) (pa_cons pe_int pa_nil))) (fun _ _ => rfl)) pa_nil))))) pss_nil)
      (pss_cons (ps_if (pt_cmpR op_lt (pv 4) pe_int (nomark _)) (pss_one (ps_ret (pe_tup (pa_cons (pe_ix (k_ixT K) (pe_tup (pa_cons pe_str (pa_cons pe_str pa_nil))) (pe_op op_sub (pv 4) pe_int) (fun _ _ => rfl)) (pa_cons (pe_op op_sub (pe_call (ok__law_draw T) hr (by rfl) T.g__law_draw T.F__law_draw.kp (b__law_draw T) .nil pass0 (pa_cons (pv 0) (pa_cons pe_int pa_nil))) pe_int) (pa_cons (pe_op op_sub (pe_call (ok__law_draw T) hr (by rfl) T.g__law_draw T.F__law_draw.kp (b__law_draw T) .nil pass0 (pa_cons (pv 0) (pa_cons pe_int pa_nil))) pe_int) pa_nil)))))) pss_nil)
      (pss_one (ps_ret (pe_tup (pa_cons (pe_ix (k_ixT K) (pe_tup (pa_cons pe_str (pa_cons pe_str (pa_cons pe_str pa_nil)))) (pe_op op_sub (pv 4) pe_int) (fun _ _ => rfl)) pa_nil))))))))))))), ?_⟩
    refine ⟨small100 (n := 5) (by decide), fun a0 na0 => ?_⟩
    have sa0 : Same H (upd H a0 (.lst [V.int 0, V.int 0, V.int 0, V.int 1, V.int 1])) := same_upd na0
    have ha0 : (upd H a0 (.lst [V.int 0, V.int 0, V.int 0, V.int 1, V.int 1])) a0 = some (.lst [V.int 0, V.int 0, V.int 0, V.int 1, V.int 1]) := upd_same
    generalize upd H a0 (.lst [V.int 0, V.int 0, V.int 0, V.int 1, V.int 1]) = Ja0 at *
    have za0 : H a0 = none := na0
    have st := sa0
    refine ⟨small100 (n := 5) (by decide), fun a1 na1 => ?_⟩
    have sa1 : Same Ja0 (upd Ja0 a1 (.lst [V.int 0, V.int 0, V.int 2, V.int 3, V.int 1])) := same_upd na1
    have ha1 : (upd Ja0 a1 (.lst [V.int 0, V.int 0, V.int 2, V.int 3, V.int 1])) a1 = some (.lst [V.int 0, V.int 0, V.int 2, V.int 3, V.int 1]) := upd_same
    generalize upd Ja0 a1 (.lst [V.int 0, V.int 0, V.int 2, V.int 3, V.int 1]) = Ja1 at *
    have za1 : H a1 = none := st.free na1
    have ha0 := sa1 _ _ ha0
    have st := st.trans sa1
    refine ⟨small100 (n := 5) (by decide), fun a2 na2 => ?_⟩
    have sa2 : Same Ja1 (upd Ja1 a2 (.lst [V.int 0, V.int 6, V.int 7, V.int 8, V.int 8])) := same_upd na2
    have ha2 : (upd Ja1 a2 (.lst [V.int 0, V.int 6, V.int 7, V.int 8, V.int 8])) a2 = some (.lst [V.int 0, V.int 6, V.int 7, V.int 8, V.int 8]) := upd_same
    generalize upd Ja1 a2 (.lst [V.int 0, V.int 6, V.int 7, V.int 8, V.int 8]) = Ja2 at *
    have za2 : H a2 = none := st.free na2
    have ha0 := sa2 _ _ ha0
    have ha1 := sa2 _ _ ha1
    have st := st.trans sa2
    refine ⟨small100 (n := 5) (by decide), fun a3 na3 => ?_⟩
    have sa3 : Same Ja2 (upd Ja2 a3 (.lst [V.int 0, V.int 4, V.int 5, V.int 6, V.int 7])) := same_upd na3
    have ha3 : (upd Ja2 a3 (.lst [V.int 0, V.int 4, V.int 5, V.int 6, V.int 7])) a3 = some (.lst [V.int 0, V.int 4, V.int 5, V.int 6, V.int 7]) := upd_same
    generalize upd Ja2 a3 (.lst [V.int 0, V.int 4, V.int 5, V.int 6, V.int 7]) = Ja3 at *
    have za3 : H a3 = none := st.free na3
    have ha0 := sa3 _ _ ha0
    have ha1 := sa3 _ _ ha1
    have ha2 := sa3 _ _ ha2
    have st := st.trans sa3
    refine ⟨small100 (n := 5) (by decide), fun a4 na4 => ?_⟩
    have sa4 : Same Ja3 (upd Ja3 a4 (.lst [V.int 0, V.int 1, V.int 3, V.int 6, V.int 8])) := same_upd na4
    have ha4 : (upd Ja3 a4 (.lst [V.int 0, V.int 1, V.int 3, V.int 6, V.int 8])) a4 = some (.lst [V.int 0, V.int 1, V.int 3, V.int 6, V.int 8]) := upd_same
    generalize upd Ja3 a4 (.lst [V.int 0, V.int 1, V.int 3, V.int 6, V.int 8]) = Ja4 at *
    have za4 : H a4 = none := st.free na4
    have ha0 := sa4 _ _ ha0
    have ha1 := sa4 _ _ ha1
    have ha2 := sa4 _ _ ha2
    have ha3 := sa4 _ _ ha3
    have st := st.trans sa4
    refine ⟨small100 (n := 5) (by decide), fun b0 nb0 => ?_⟩
    have sb0 : Same Ja4 (upd Ja4 b0 (.lst [V.ref a0, V.ref a1, V.ref a2, V.ref a3, V.ref a4])) := same_upd nb0
    have hb0 : (upd Ja4 b0 (.lst [V.ref a0, V.ref a1, V.ref a2, V.ref a3, V.ref a4])) b0 = some (.lst [V.ref a0, V.ref a1, V.ref a2, V.ref a3, V.ref a4]) := upd_same
    generalize upd Ja4 b0 (.lst [V.ref a0, V.ref a1, V.ref a2, V.ref a3, V.ref a4]) = Jb0 at *
    have zb0 : H b0 = none := st.free nb0
    have ha0 := sb0 _ _ ha0
    have ha1 := sb0 _ _ ha1
    have ha2 := sb0 _ _ ha2
    have ha3 := sb0 _ _ ha3
    have ha4 := sb0 _ _ ha4
    have st := st.trans sb0
    refine ⟨_, rfl, ?_⟩
    refine ⟨small100 (n := 9) (by decide), fun a5 na5 => ?_⟩
    have sa5 : Same Jb0 (upd Jb0 a5 (.lst [V.int 0, V.int 1, V.int 2, V.int 3, V.int 4, V.int 5, V.int 6, V.int 7, V.int 8])) := same_upd na5
    have ha5 : (upd Jb0 a5 (.lst [V.int 0, V.int 1, V.int 2, V.int 3, V.int 4, V.int 5, V.int 6, V.int 7, V.int 8])) a5 = some (.lst [V.int 0, V.int 1, V.int 2, V.int 3, V.int 4, V.int 5, V.int 6, V.int 7, V.int 8]) := upd_same
    generalize upd Jb0 a5 (.lst [V.int 0, V.int 1, V.int 2, V.int 3, V.int 4, V.int 5, V.int 6, V.int 7, V.int 8]) = Ja5 at *
    have za5 : H a5 = none := st.free na5
    have ha0 := sa5 _ _ ha0
    have ha1 := sa5 _ _ ha1
    have ha2 := sa5 _ _ ha2
    have ha3 := sa5 _ _ ha3
    have ha4 := sa5 _ _ ha4
    have hb0 := sa5 _ _ hb0
    have st := st.trans sa5
    refine ⟨small100 (n := 5) (by decide), fun a6 na6 => ?_⟩
    have sa6 : Same Ja5 (upd Ja5 a6 (.lst [V.int 1, V.int 1, V.int 2, V.int 3, V.int 4])) := same_upd na6
    have ha6 : (upd Ja5 a6 (.lst [V.int 1, V.int 1, V.int 2, V.int 3, V.int 4])) a6 = some (.lst [V.int 1, V.int 1, V.int 2, V.int 3, V.int 4]) := upd_same
    generalize upd Ja5 a6 (.lst [V.int 1, V.int 1, V.int 2, V.int 3, V.int 4]) = Ja6 at *
    have za6 : H a6 = none := st.free na6
    have ha0 := sa6 _ _ ha0
    have ha1 := sa6 _ _ ha1
    have ha2 := sa6 _ _ ha2
    have ha3 := sa6 _ _ ha3
    have ha4 := sa6 _ _ ha4
    have hb0 := sa6 _ _ hb0
    have ha5 := sa6 _ _ ha5
    have st := st.trans sa6
    refine ⟨small100 (n := 5) (by decide), fun a7 na7 => ?_⟩
    have sa7 : Same Ja6 (upd Ja6 a7 (.lst [V.int 5, V.int 6, V.int 7, V.int 8, V.int 8])) := same_upd na7
    have ha7 : (upd Ja6 a7 (.lst [V.int 5, V.int 6, V.int 7, V.int 8, V.int 8])) a7 = some (.lst [V.int 5, V.int 6, V.int 7, V.int 8, V.int 8]) := upd_same
    generalize upd Ja6 a7 (.lst [V.int 5, V.int 6, V.int 7, V.int 8, V.int 8]) = Ja7 at *
    have za7 : H a7 = none := st.free na7
    have ha0 := sa7 _ _ ha0
    have ha1 := sa7 _ _ ha1
    have ha2 := sa7 _ _ ha2
    have ha3 := sa7 _ _ ha3
    have ha4 := sa7 _ _ ha4
    have hb0 := sa7 _ _ hb0
    have ha5 := sa7 _ _ ha5
    have ha6 := sa7 _ _ ha6
    have st := st.trans sa7
    refine ⟨small100 (n := 3) (by decide), fun b1 nb1 => ?_⟩
    have sb1 : Same Ja7 (upd Ja7 b1 (.lst [V.ref a5, V.ref a6, V.ref a7])) := same_upd nb1
    have hb1 : (upd Ja7 b1 (.lst [V.ref a5, V.ref a6, V.ref a7])) b1 = some (.lst [V.ref a5, V.ref a6, V.ref a7]) := upd_same
    generalize upd Ja7 b1 (.lst [V.ref a5, V.ref a6, V.ref a7]) = Jb1 at *
    have zb1 : H b1 = none := st.free nb1
    have ha0 := sb1 _ _ ha0
    have ha1 := sb1 _ _ ha1
    have ha2 := sb1 _ _ ha2
    have ha3 := sb1 _ _ ha3
    have ha4 := sb1 _ _ ha4
    have hb0 := sb1 _ _ hb0
    have ha5 := sb1 _ _ ha5
    have ha6 := sb1 _ _ ha6
    have ha7 := sb1 _ _ ha7
    have st := st.trans sb1
    refine ⟨b0, b1, _, _, rfl, rfl, hb0, hb1, small100 (n := 8) (by decide), fun d nd => ?_⟩
    have sd : Same Jb1 (upd Jb1 d (.lst [V.ref a0, V.ref a1, V.ref a2, V.ref a3, V.ref a4, V.ref a5, V.ref a6, V.ref a7])) := same_upd nd
    have hd : (upd Jb1 d (.lst [V.ref a0, V.ref a1, V.ref a2, V.ref a3, V.ref a4, V.ref a5, V.ref a6, V.ref a7])) d = some (.lst [V.ref a0, V.ref a1, V.ref a2, V.ref a3, V.ref a4, V.ref a5, V.ref a6, V.ref a7]) := upd_same
    refine ⟨fun σ J => ∃ (m : Addr) (ks : List Int), σ = [some (.ref p), some (.int mood), some (.ref d), some (.ref m), none, none] ∧ Same H J ∧ H m = none ∧ J m = some (.lst (ks.map V.int)) ∧ ks ≠ [] ∧ ks.length ≤ 9 ∧ ∀ k ∈ ks, 0 ≤ k ∧ k ≤ 8, ?_, fun σ J h => ?_⟩
    · rcases (show mood = 0 ∨ mood = 1 ∨ mood = 2 ∨ mood = 3 ∨ mood = 4 ∨ mood = 5 ∨ mood = 6 ∨ mood = 7 by omega) with rfl | rfl | rfl | rfl | rfl | rfl | rfl | rfl
      · exact ⟨_, rfl, _, rfl, d, _, _, _, rfl, rfl, SqL.of hd, at_of (j := 0) (by decide) rfl, a0, [0, 0, 0, 1, 1], rfl, st.trans sd, za0, sd _ _ ha0, by decide, by decide, by decide⟩
      · exact ⟨_, rfl, _, rfl, d, _, _, _, rfl, rfl, SqL.of hd, at_of (j := 1) (by decide) rfl, a1, [0, 0, 2, 3, 1], rfl, st.trans sd, za1, sd _ _ ha1, by decide, by decide, by decide⟩
      · exact ⟨_, rfl, _, rfl, d, _, _, _, rfl, rfl, SqL.of hd, at_of (j := 2) (by decide) rfl, a2, [0, 6, 7, 8, 8], rfl, st.trans sd, za2, sd _ _ ha2, by decide, by decide, by decide⟩
      · exact ⟨_, rfl, _, rfl, d, _, _, _, rfl, rfl, SqL.of hd, at_of (j := 3) (by decide) rfl, a3, [0, 4, 5, 6, 7], rfl, st.trans sd, za3, sd _ _ ha3, by decide, by decide, by decide⟩
      · exact ⟨_, rfl, _, rfl, d, _, _, _, rfl, rfl, SqL.of hd, at_of (j := 4) (by decide) rfl, a4, [0, 1, 3, 6, 8], rfl, st.trans sd, za4, sd _ _ ha4, by decide, by decide, by decide⟩
      · exact ⟨_, rfl, _, rfl, d, _, _, _, rfl, rfl, SqL.of hd, at_of (j := 5) (by decide) rfl, a5, [0, 1, 2, 3, 4, 5, 6, 7, 8], rfl, st.trans sd, za5, sd _ _ ha5, by decide, by decide, by decide⟩
      · exact ⟨_, rfl, _, rfl, d, _, _, _, rfl, rfl, SqL.of hd, at_of (j := 6) (by decide) rfl, a6, [1, 1, 2, 3, 4], rfl, st.trans sd, za6, sd _ _ ha6, by decide, by decide, by decide⟩
      · exact ⟨_, rfl, _, rfl, d, _, _, _, rfl, rfl, SqL.of hd, at_of (j := 7) (by decide) rfl, a7, [5, 6, 7, 8, 8], rfl, st.trans sd, za7, sd _ _ ha7, by decide, by decide, by decide⟩
    obtain ⟨m, ks, rfl, st, zm, hm, kn, kl, kb⟩ := h
    have plJ : Pool J p L := by
      obtain ⟨ns, hp, e⟩ := pl
      exact ⟨ns, st _ _ hp, e⟩
    have kl0 : 0 < ks.length := List.length_pos_iff.mpr kn
    refine ⟨_, rfl, _, rfl, _, rfl, m, _, rfl, .inl (SqL.of hm), p, L, _, rfl, plJ, h2, h64, by rw [len_map]; omega, by rw [len_map]; omega, fun i H1 i0 i1 e1 pl1 => ?_⟩
    rw [len_map] at i1
    have k1 : Kp p H H1 := fun b o nb e => e1 b o nb (st b o e)
    have hmp : m ≠ p := by
      intro e
      obtain ⟨ns, hp, e'⟩ := pl
      rw [e, hp] at zm
      cases zm
    have hm1 := e1 _ _ hmp hm
    obtain ⟨k, gk, ak⟩ := at_map (ns := ks) (i := i) i0 (by omega)
    have kb := kb k (List.mem_of_getElem? gk)
    have kk := k1
    refine ⟨m, _, i, _, rfl, rfl, SqL.of hm1, ak, ?_⟩
    have fin : ∀ {c : Cm} {t : Addr} {J : Hp}, c.ok → Kp p H J → Pool J p L → J t = none → Q (.ref t) (upd J t (.tup c.vals)) := fun ok kp pl nt =>
      q _ _ _ ok (kp.new (kp.none nt (pl.ne nt))) (pl.new nt) (kp.none nt (pl.ne nt)) upd_same
    clear hm1 hm zm
    generalize some (V.ref d) = sd
    generalize some (V.ref m) = sm
    refine ⟨_, rfl, rfl, _, rfl, ite2 (fun _ => ?_) (fun n0 => ?_)⟩
    · refine ⟨_, rfl, p, L, 19, rfl, pl1, h2, h64, by decide, by decide, fun r H2 r0 r1 e2 pl2 => ?_⟩
      refine ⟨_, _, rfl, rfl, _, rfl, _, rfl, _, rfl, _, _, rfl, rfl, (show (0 : Int) < 3 by decide), _, _, rfl, rfl, small100 (n := 4) (by decide), fun m' nm' => ?_⟩
      have nmp := pl2.ne nm'
      have em : Kp p H (upd H2 m' (.lst [.int (r - 9), .int 2, .int ((r - 9) % 3 - 1), .int 1])) := (k1.trans e2).new ((k1.trans e2).none nm' nmp)
      have plm : Pool (upd H2 m' (.lst [.int (r - 9), .int 2, .int ((r - 9) % 3 - 1), .int 1])) p L := pl2.new nm'
      have hm : (upd H2 m' (.lst [.int (r - 9), .int 2, .int ((r - 9) % 3 - 1), .int 1])) m' = some (.lst (([r - 9, 2, (r - 9) % 3 - 1, 1] : List Int).map V.int)) := upd_same
      generalize upd H2 m' (.lst [.int (r - 9), .int 2, .int ((r - 9) % 3 - 1), .int 1]) = J1 at *
      refine ⟨_, rfl, p, L, 4, rfl, plm, h2, h64, by decide, by decide, fun i' H3 i0' i1' e3 pl3 => ?_⟩
      obtain ⟨z, gz, az⟩ := at_map (ns := [r - 9, 2, (r - 9) % 3 - 1, 1]) (i := i') i0' i1'
      have zb : (-9 : Int) ≤ z ∧ z ≤ 9 := by
        have := List.mem_of_getElem? gz
        simp only [List.mem_cons, List.not_mem_nil, or_false] at this
        omega
      refine ⟨m', _, i', _, rfl, rfl, SqL.of (e3 _ _ nmp hm), az, small100 (n := 2) (by decide), fun t nt => ?_⟩
      exact fin (c := .go z) (ok1 rfl rfl zb.1 zb.2) (em.trans e3) pl3 nt
    refine ⟨_, rfl, rfl, _, rfl, ite2 (fun _ => ?_) (fun n1 => ?_)⟩
    · refine ⟨_, rfl, p, L, 3, rfl, pl1, h2, h64, by decide, by decide, fun r H2 r0 r1 e2 pl2 => ?_⟩
      refine ⟨_, _, rfl, rfl, small100 (n := 2) (by decide), fun t nt => ?_⟩
      exact fin (c := .turn (1 + r)) (ok1 rfl rfl (by show (1 : Int) ≤ 1 + r; omega) (by show 1 + r ≤ (3 : Int); omega)) (k1.trans e2) pl2 nt
    refine ⟨_, rfl, rfl, _, rfl, ite2 (fun _ => ?_) (fun n2 => ?_)⟩
    · exact ⟨small100 (n := 1) (by decide), fun t nt => fin (c := .mirror) (ok0 rfl) k1 pl1 nt⟩
    refine ⟨_, rfl, rfl, _, rfl, ite2 (fun _ => ?_) (fun n3 => ?_)⟩
    · refine ⟨_, rfl, _, rfl, _, rfl, _, rfl, small100 (n := 8) (by decide), fun m' nm' => ?_⟩
      have nmp := pl1.ne nm'
      have hm : (upd H1 m' (.tup (([-1, -1, -1, 1, 1, 0, 2, -3] : List Int).map V.int))) m' = some (.tup (([-1, -1, -1, 1, 1, 0, 2, -3] : List Int).map V.int)) := upd_same
      have em : Kp p H (upd H1 m' (.tup (([-1, -1, -1, 1, 1, 0, 2, -3] : List Int).map V.int))) := k1.new (k1.none nm' nmp)
      have plm : Pool (upd H1 m' (.tup (([-1, -1, -1, 1, 1, 0, 2, -3] : List Int).map V.int))) p L := pl1.new nm'
      refine ⟨_, rfl, p, L, 8, rfl, plm, h2, h64, by decide, by decide, fun i' H3 i0' i1' e3 pl3 => ?_⟩
      obtain ⟨z, gz, az⟩ := at_map (ns := [-1, -1, -1, 1, 1, 0, 2, -3]) (i := i') i0' i1'
      have zb : (-3 : Int) ≤ z ∧ z ≤ 3 := by
        have := List.mem_of_getElem? gz
        simp only [List.mem_cons, List.not_mem_nil, or_false] at this
        omega
      refine ⟨m', _, i', _, rfl, rfl, SqT.of (e3 _ _ nmp hm), az, small100 (n := 2) (by decide), fun t nt => ?_⟩
      exact fin (c := .scale z) (ok1 rfl rfl zb.1 zb.2) (em.trans e3) pl3 nt
    have n0 := dec_int n0
    have n1 := dec_int n1
    have n2 := dec_int n2
    have n3 := dec_int n3
    refine ⟨_, rfl, _, _, rfl, rfl, _, rfl, ite2 (fun h5 => ?_) (fun h5 => ?_)⟩
    · have h5 := of_decide_eq_true h5
      refine ⟨small100 (n := 2) (by decide), fun m' nm => ?_⟩
      have nmp := pl1.ne nm
      have em : Kp p H (upd H1 m' (.tup [.str "aim", .str "place"])) := k1.new (k1.none nm nmp)
      have plm : Pool (upd H1 m' (.tup [.str "aim", .str "place"])) p L := pl1.new nm
      have hm : (upd H1 m' (.tup [.str "aim", .str "place"])) m' = some (.tup [.str "aim", .str "place"]) := upd_same
      generalize upd H1 m' (.tup [.str "aim", .str "place"]) = J at *
      rcases (show k = 4 ∨ k = 5 by omega) with rfl | rfl
      · refine ⟨_, rfl, _, _, rfl, rfl, m', _, _, _, rfl, rfl, SqT.of hm, at_of (j := 0) (by decide) rfl, ?_⟩
        refine ⟨_, rfl, p, L, 19, rfl, plm, h2, h64, by decide, by decide, fun r H2 r0 r1 e2 pl2 => ?_⟩
        refine ⟨_, _, rfl, rfl, _, rfl, p, L, 19, rfl, pl2, h2, h64, by decide, by decide, fun r' H3 r0' r1' e3 pl3 => ?_⟩
        refine ⟨_, _, rfl, rfl, small100 (n := 3) (by decide), fun t nt => ?_⟩
        exact fin (c := .aim (r - 9) (r' - 9)) (ok2 (l := (-9, 9)) rfl rfl (by show (-9 : Int) ≤ r - 9; omega) (by show r - 9 ≤ (9 : Int); omega) (by show (-9 : Int) ≤ r' - 9; omega) (by show r' - 9 ≤ (9 : Int); omega)) (em.trans (e2.trans e3)) pl3 nt
      · refine ⟨_, rfl, _, _, rfl, rfl, m', _, _, _, rfl, rfl, SqT.of hm, at_of (j := 1) (by decide) rfl, ?_⟩
        refine ⟨_, rfl, p, L, 19, rfl, plm, h2, h64, by decide, by decide, fun r H2 r0 r1 e2 pl2 => ?_⟩
        refine ⟨_, _, rfl, rfl, _, rfl, p, L, 19, rfl, pl2, h2, h64, by decide, by decide, fun r' H3 r0' r1' e3 pl3 => ?_⟩
        refine ⟨_, _, rfl, rfl, small100 (n := 3) (by decide), fun t nt => ?_⟩
        exact fin (c := .place (r - 9) (r' - 9)) (ok2 (l := (-9, 9)) rfl rfl (by show (-9 : Int) ≤ r - 9; omega) (by show r - 9 ≤ (9 : Int); omega) (by show (-9 : Int) ≤ r' - 9; omega) (by show r' - 9 ≤ (9 : Int); omega)) (em.trans (e2.trans e3)) pl3 nt
    · have h5 : ¬ k < 6 := fun h => h5 (decide_eq_true h)
      refine ⟨small100 (n := 3) (by decide), fun m' nm => ?_⟩
      have nmp := pl1.ne nm
      have em : Kp p H (upd H1 m' (.tup [.str "mark", .str "return", .str "exchange"])) := k1.new (k1.none nm nmp)
      have plm : Pool (upd H1 m' (.tup [.str "mark", .str "return", .str "exchange"])) p L := pl1.new nm
      have hm : (upd H1 m' (.tup [.str "mark", .str "return", .str "exchange"])) m' = some (.tup [.str "mark", .str "return", .str "exchange"]) := upd_same
      generalize upd H1 m' (.tup [.str "mark", .str "return", .str "exchange"]) = J at *
      rcases (show k = 6 ∨ k = 7 ∨ k = 8 by omega) with rfl | rfl | rfl
      · refine ⟨_, rfl, _, _, rfl, rfl, m', _, _, _, rfl, rfl, SqT.of hm, at_of (j := 0) (by decide) rfl, small100 (n := 1) (by decide), fun t nt => ?_⟩
        exact fin (c := .mark) (ok0 rfl) em plm nt
      · refine ⟨_, rfl, _, _, rfl, rfl, m', _, _, _, rfl, rfl, SqT.of hm, at_of (j := 1) (by decide) rfl, small100 (n := 1) (by decide), fun t nt => ?_⟩
        exact fin (c := .ret) (ok0 rfl) em plm nt
      · refine ⟨_, rfl, _, _, rfl, rfl, m', _, _, _, rfl, rfl, SqT.of hm, at_of (j := 2) (by decide) rfl, small100 (n := 1) (by decide), fun t nt => ?_⟩
        exact fin (c := .exch) (ok0 rfl) em plm nt

def sp__law_pair : Sp := fun vs H Q _ => ∃ (p : Addr) (L : Nat) (mood : Int), vs = [.ref p, .int mood] ∧ Pool H p L ∧ 2 ≤ L ∧ L ≤ 64 ∧
  ∀ (q : Addr) (c e : Cm) (H' : Hp), c.ok → e.ok → Kp p H H' → Pool H' p L → Tr (New H) H' (.list [c.d, e.d]) (.ref q) → Q (.ref q) H'
theorem ok__law_pair (T : Top w K mg) : FnOk P w K mg base CX0 2 T.a__law_pair T.d__law_pair ["_law_pool_here", "_law_mood"] sp__law_pair := by
  refine T.F__law_pair.ok sc__law_pair (fun vs H Q E h => ?_) (fun cdv A outer s H vs Q E hr h => ?_)
  · obtain ⟨p, L, mood, rfl, _⟩ := h
    rfl
  · obtain ⟨p, L, mood, rfl, pl, h2, h64, q⟩ := h
    refine ⟨_, (pss_cons (ps_set (i := 2) sc__law_pair.nd rfl (Or.inl rfl) (pe_op op_add pe_int (pe_call (ok__law_draw T) hr (by rfl) T.g__law_draw T.F__law_draw.kp (b__law_draw T) .nil pass0 (pa_cons (pv 0) (pa_cons pe_int pa_nil)))))
      (pss_cons (ps_set (i := 3) sc__law_pair.nd rfl (Or.inl rfl) (pe_call (ok__law_draw T) hr (by rfl) T.g__law_draw T.F__law_draw.kp (b__law_draw T) .nil pass0 (pa_cons (pv 0) (pa_cons pe_int pa_nil))))
      (C8.pss_cut (ps_if (pt_cmpR op_eq (pv 1) pe_int (nomark _)) (pss_one (ps_set (i := 3) sc__law_pair.nd rfl (Or.inl rfl) (pe_op op_add pe_int (pe_op op_mod (pv 3) pe_int)))) pss_nil)
      (C8.pss_cut (ps_if (pt_cmpR op_eq (pv 1) pe_int (nomark _)) (pss_one (ps_set (i := 3) sc__law_pair.nd rfl (Or.inl rfl) pe_int)) pss_nil)
      (pss_cons (ps_set (i := 4) sc__law_pair.nd rfl (Or.inl rfl) (pe_lst (pa_cons (pe_lst (pa_cons (pe_tup (pa_cons pe_str (pa_cons (pv 2) pa_nil))) (pa_cons (pe_tup (pa_cons pe_str (pa_cons (pe_un un_neg (pv 2)) pa_nil))) pa_nil))) (pa_cons (pe_lst (pa_cons (pe_tup (pa_cons pe_str (pa_cons (pv 2) pa_nil))) (pa_cons (pe_tup (pa_cons pe_str (pa_cons (pe_op op_sub pe_int (pv 2)) pa_nil))) pa_nil))) (pa_cons (pe_lst (pa_cons (pe_tup (pa_cons pe_str pa_nil)) (pa_cons (pe_tup (pa_cons pe_str pa_nil)) pa_nil))) pa_nil)))))
      (pss_one (ps_ret (pe_ix (k_ixL K) (pe_op op_cat (pv 4) (pe_lst (pa_cons (pe_lst (pa_cons (pe_tup (pa_cons pe_str pa_nil)) (pa_cons (pe_tup (pa_cons pe_str pa_nil)) pa_nil))) pa_nil))) (pv 3) (fun _ _ => rfl))))))))), ?_⟩
    refine ⟨_, rfl, p, L, 3, rfl, pl, h2, h64, by decide, by decide, fun k' H1 k0 k1 e1 pl1 => ?_⟩
    refine ⟨_, _, rfl, rfl, ?_⟩
    have b0 : (1 : Int) ≤ 1 + k' := by omega
    have b1 : 1 + k' ≤ (3 : Int) := by omega
    dsimp only
    generalize 1 + k' = k at *
    refine ⟨_, rfl, p, L, 4, rfl, pl1, h2, h64, by decide, by decide, fun d H2 d0 d1 e2 pl2 => ?_⟩
    have e02 := e1.trans e2
    refine ⟨fun σ J => J = H2 ∧ ∃ z : Int, 0 ≤ z ∧ z < 4 ∧ σ = [some (.ref p), some (.int mood), some (.int k), some (.int z), none], ?_, fun σ J hm => ?_⟩
    · refine ⟨_, rfl, rfl, _, rfl, ite2 (fun _ => ?_) (fun _ => ⟨rfl, d, d0, d1, rfl⟩)⟩
      exact ⟨_, rfl, _, _, rfl, rfl, (show (0 : Int) < 2 by decide), _, _, rfl, rfl, rfl, _, by omega, by omega, rfl⟩
    obtain ⟨rfl, z, z0, z1, rfl⟩ := hm
    refine ⟨fun σ J' => J' = J ∧ ∃ z : Int, 0 ≤ z ∧ z < 4 ∧ σ = [some (.ref p), some (.int mood), some (.int k), some (.int z), none], ?_, fun σ J' hm => ?_⟩
    · exact ⟨_, rfl, rfl, _, rfl, ite2 (fun _ => ⟨rfl, _, by decide, by decide, rfl⟩) (fun _ => ⟨rfl, z, z0, z1, rfl⟩)⟩
    obtain ⟨rfl, z, z0, z1, rfl⟩ := hm
    have np : ∀ b, H b = none → b ≠ p := fun b hb e => by
      obtain ⟨ns, hp, _⟩ := pl
      rw [e, hp] at hb
      cases hb
    refine ⟨_, rfl, small100 (n := 2) (by decide), fun t1 nt1 => ?_⟩
    have st1 : Same J' (upd J' t1 (.tup [V.str "go", V.int k])) := same_upd nt1
    have ht1 : (upd J' t1 (.tup [V.str "go", V.int k])) t1 = some (.tup [V.str "go", V.int k]) := upd_same
    generalize upd J' t1 (.tup [V.str "go", V.int k]) = Jt1 at *
    have zt1 : H t1 = none := e02.none nt1 (pl2.ne nt1)
    have st := st1
    have plx : Pool Jt1 p L := by
      obtain ⟨ns, hp, e⟩ := pl2
      exact ⟨ns, st _ _ hp, e⟩
    refine ⟨_, rfl, _, rfl, small100 (n := 2) (by decide), fun t2 nt2 => ?_⟩
    have st2 : Same Jt1 (upd Jt1 t2 (.tup [V.str "go", V.int (-k)])) := same_upd nt2
    have ht2 : (upd Jt1 t2 (.tup [V.str "go", V.int (-k)])) t2 = some (.tup [V.str "go", V.int (-k)]) := upd_same
    generalize upd Jt1 t2 (.tup [V.str "go", V.int (-k)]) = Jt2 at *
    have zt2 : H t2 = none := (e02.trans (Kp.of st)).none nt2 (plx.ne nt2)
    have st := st.trans st2
    have plx : Pool Jt2 p L := by
      obtain ⟨ns, hp, e⟩ := pl2
      exact ⟨ns, st _ _ hp, e⟩
    have ht1 := st2 _ _ ht1
    refine ⟨small100 (n := 2) (by decide), fun l1 nl1 => ?_⟩
    have sl1 : Same Jt2 (upd Jt2 l1 (.lst [V.ref t1, V.ref t2])) := same_upd nl1
    have hl1 : (upd Jt2 l1 (.lst [V.ref t1, V.ref t2])) l1 = some (.lst [V.ref t1, V.ref t2]) := upd_same
    generalize upd Jt2 l1 (.lst [V.ref t1, V.ref t2]) = Jl1 at *
    have zl1 : H l1 = none := (e02.trans (Kp.of st)).none nl1 (plx.ne nl1)
    have st := st.trans sl1
    have plx : Pool Jl1 p L := by
      obtain ⟨ns, hp, e⟩ := pl2
      exact ⟨ns, st _ _ hp, e⟩
    have ht1 := sl1 _ _ ht1
    have ht2 := sl1 _ _ ht2
    refine ⟨_, rfl, small100 (n := 2) (by decide), fun t3 nt3 => ?_⟩
    have st3 : Same Jl1 (upd Jl1 t3 (.tup [V.str "turn", V.int k])) := same_upd nt3
    have ht3 : (upd Jl1 t3 (.tup [V.str "turn", V.int k])) t3 = some (.tup [V.str "turn", V.int k]) := upd_same
    generalize upd Jl1 t3 (.tup [V.str "turn", V.int k]) = Jt3 at *
    have zt3 : H t3 = none := (e02.trans (Kp.of st)).none nt3 (plx.ne nt3)
    have st := st.trans st3
    have plx : Pool Jt3 p L := by
      obtain ⟨ns, hp, e⟩ := pl2
      exact ⟨ns, st _ _ hp, e⟩
    have ht1 := st3 _ _ ht1
    have ht2 := st3 _ _ ht2
    have hl1 := st3 _ _ hl1
    refine ⟨_, rfl, _, _, rfl, rfl, small100 (n := 2) (by decide), fun t4 nt4 => ?_⟩
    have st4 : Same Jt3 (upd Jt3 t4 (.tup [V.str "turn", V.int (4 - k)])) := same_upd nt4
    have ht4 : (upd Jt3 t4 (.tup [V.str "turn", V.int (4 - k)])) t4 = some (.tup [V.str "turn", V.int (4 - k)]) := upd_same
    generalize upd Jt3 t4 (.tup [V.str "turn", V.int (4 - k)]) = Jt4 at *
    have zt4 : H t4 = none := (e02.trans (Kp.of st)).none nt4 (plx.ne nt4)
    have st := st.trans st4
    have plx : Pool Jt4 p L := by
      obtain ⟨ns, hp, e⟩ := pl2
      exact ⟨ns, st _ _ hp, e⟩
    have ht1 := st4 _ _ ht1
    have ht2 := st4 _ _ ht2
    have hl1 := st4 _ _ hl1
    have ht3 := st4 _ _ ht3
    refine ⟨small100 (n := 2) (by decide), fun l2 nl2 => ?_⟩
    have sl2 : Same Jt4 (upd Jt4 l2 (.lst [V.ref t3, V.ref t4])) := same_upd nl2
    have hl2 : (upd Jt4 l2 (.lst [V.ref t3, V.ref t4])) l2 = some (.lst [V.ref t3, V.ref t4]) := upd_same
    generalize upd Jt4 l2 (.lst [V.ref t3, V.ref t4]) = Jl2 at *
    have zl2 : H l2 = none := (e02.trans (Kp.of st)).none nl2 (plx.ne nl2)
    have st := st.trans sl2
    have plx : Pool Jl2 p L := by
      obtain ⟨ns, hp, e⟩ := pl2
      exact ⟨ns, st _ _ hp, e⟩
    have ht1 := sl2 _ _ ht1
    have ht2 := sl2 _ _ ht2
    have hl1 := sl2 _ _ hl1
    have ht3 := sl2 _ _ ht3
    have ht4 := sl2 _ _ ht4
    refine ⟨small100 (n := 1) (by decide), fun t5 nt5 => ?_⟩
    have st5 : Same Jl2 (upd Jl2 t5 (.tup [V.str "mirror"])) := same_upd nt5
    have ht5 : (upd Jl2 t5 (.tup [V.str "mirror"])) t5 = some (.tup [V.str "mirror"]) := upd_same
    generalize upd Jl2 t5 (.tup [V.str "mirror"]) = Jt5 at *
    have zt5 : H t5 = none := (e02.trans (Kp.of st)).none nt5 (plx.ne nt5)
    have st := st.trans st5
    have plx : Pool Jt5 p L := by
      obtain ⟨ns, hp, e⟩ := pl2
      exact ⟨ns, st _ _ hp, e⟩
    have ht1 := st5 _ _ ht1
    have ht2 := st5 _ _ ht2
    have hl1 := st5 _ _ hl1
    have ht3 := st5 _ _ ht3
    have ht4 := st5 _ _ ht4
    have hl2 := st5 _ _ hl2
    refine ⟨small100 (n := 1) (by decide), fun t6 nt6 => ?_⟩
    have st6 : Same Jt5 (upd Jt5 t6 (.tup [V.str "mirror"])) := same_upd nt6
    have ht6 : (upd Jt5 t6 (.tup [V.str "mirror"])) t6 = some (.tup [V.str "mirror"]) := upd_same
    generalize upd Jt5 t6 (.tup [V.str "mirror"]) = Jt6 at *
    have zt6 : H t6 = none := (e02.trans (Kp.of st)).none nt6 (plx.ne nt6)
    have st := st.trans st6
    have plx : Pool Jt6 p L := by
      obtain ⟨ns, hp, e⟩ := pl2
      exact ⟨ns, st _ _ hp, e⟩
    have ht1 := st6 _ _ ht1
    have ht2 := st6 _ _ ht2
    have hl1 := st6 _ _ hl1
    have ht3 := st6 _ _ ht3
    have ht4 := st6 _ _ ht4
    have hl2 := st6 _ _ hl2
    have ht5 := st6 _ _ ht5
    refine ⟨small100 (n := 2) (by decide), fun l3 nl3 => ?_⟩
    have sl3 : Same Jt6 (upd Jt6 l3 (.lst [V.ref t5, V.ref t6])) := same_upd nl3
    have hl3 : (upd Jt6 l3 (.lst [V.ref t5, V.ref t6])) l3 = some (.lst [V.ref t5, V.ref t6]) := upd_same
    generalize upd Jt6 l3 (.lst [V.ref t5, V.ref t6]) = Jl3 at *
    have zl3 : H l3 = none := (e02.trans (Kp.of st)).none nl3 (plx.ne nl3)
    have st := st.trans sl3
    have plx : Pool Jl3 p L := by
      obtain ⟨ns, hp, e⟩ := pl2
      exact ⟨ns, st _ _ hp, e⟩
    have ht1 := sl3 _ _ ht1
    have ht2 := sl3 _ _ ht2
    have hl1 := sl3 _ _ hl1
    have ht3 := sl3 _ _ ht3
    have ht4 := sl3 _ _ ht4
    have hl2 := sl3 _ _ hl2
    have ht5 := sl3 _ _ ht5
    have ht6 := sl3 _ _ ht6
    refine ⟨small100 (n := 3) (by decide), fun b0 nb0 => ?_⟩
    have sb0 : Same Jl3 (upd Jl3 b0 (.lst [V.ref l1, V.ref l2, V.ref l3])) := same_upd nb0
    have hb0 : (upd Jl3 b0 (.lst [V.ref l1, V.ref l2, V.ref l3])) b0 = some (.lst [V.ref l1, V.ref l2, V.ref l3]) := upd_same
    generalize upd Jl3 b0 (.lst [V.ref l1, V.ref l2, V.ref l3]) = Jb0 at *
    have zb0 : H b0 = none := (e02.trans (Kp.of st)).none nb0 (plx.ne nb0)
    have st := st.trans sb0
    have plx : Pool Jb0 p L := by
      obtain ⟨ns, hp, e⟩ := pl2
      exact ⟨ns, st _ _ hp, e⟩
    have ht1 := sb0 _ _ ht1
    have ht2 := sb0 _ _ ht2
    have hl1 := sb0 _ _ hl1
    have ht3 := sb0 _ _ ht3
    have ht4 := sb0 _ _ ht4
    have hl2 := sb0 _ _ hl2
    have ht5 := sb0 _ _ ht5
    have ht6 := sb0 _ _ ht6
    have hl3 := sb0 _ _ hl3
    refine ⟨_, rfl, ?_⟩
    refine ⟨small100 (n := 1) (by decide), fun t7 nt7 => ?_⟩
    have st7 : Same Jb0 (upd Jb0 t7 (.tup [V.str "exchange"])) := same_upd nt7
    have ht7 : (upd Jb0 t7 (.tup [V.str "exchange"])) t7 = some (.tup [V.str "exchange"]) := upd_same
    generalize upd Jb0 t7 (.tup [V.str "exchange"]) = Jt7 at *
    have zt7 : H t7 = none := (e02.trans (Kp.of st)).none nt7 (plx.ne nt7)
    have st := st.trans st7
    have plx : Pool Jt7 p L := by
      obtain ⟨ns, hp, e⟩ := pl2
      exact ⟨ns, st _ _ hp, e⟩
    have ht1 := st7 _ _ ht1
    have ht2 := st7 _ _ ht2
    have hl1 := st7 _ _ hl1
    have ht3 := st7 _ _ ht3
    have ht4 := st7 _ _ ht4
    have hl2 := st7 _ _ hl2
    have ht5 := st7 _ _ ht5
    have ht6 := st7 _ _ ht6
    have hl3 := st7 _ _ hl3
    have hb0 := st7 _ _ hb0
    refine ⟨small100 (n := 1) (by decide), fun t8 nt8 => ?_⟩
    have st8 : Same Jt7 (upd Jt7 t8 (.tup [V.str "exchange"])) := same_upd nt8
    have ht8 : (upd Jt7 t8 (.tup [V.str "exchange"])) t8 = some (.tup [V.str "exchange"]) := upd_same
    generalize upd Jt7 t8 (.tup [V.str "exchange"]) = Jt8 at *
    have zt8 : H t8 = none := (e02.trans (Kp.of st)).none nt8 (plx.ne nt8)
    have st := st.trans st8
    have plx : Pool Jt8 p L := by
      obtain ⟨ns, hp, e⟩ := pl2
      exact ⟨ns, st _ _ hp, e⟩
    have ht1 := st8 _ _ ht1
    have ht2 := st8 _ _ ht2
    have hl1 := st8 _ _ hl1
    have ht3 := st8 _ _ ht3
    have ht4 := st8 _ _ ht4
    have hl2 := st8 _ _ hl2
    have ht5 := st8 _ _ ht5
    have ht6 := st8 _ _ ht6
    have hl3 := st8 _ _ hl3
    have hb0 := st8 _ _ hb0
    have ht7 := st8 _ _ ht7
    refine ⟨small100 (n := 2) (by decide), fun l4 nl4 => ?_⟩
    have sl4 : Same Jt8 (upd Jt8 l4 (.lst [V.ref t7, V.ref t8])) := same_upd nl4
    have hl4 : (upd Jt8 l4 (.lst [V.ref t7, V.ref t8])) l4 = some (.lst [V.ref t7, V.ref t8]) := upd_same
    generalize upd Jt8 l4 (.lst [V.ref t7, V.ref t8]) = Jl4 at *
    have zl4 : H l4 = none := (e02.trans (Kp.of st)).none nl4 (plx.ne nl4)
    have st := st.trans sl4
    have plx : Pool Jl4 p L := by
      obtain ⟨ns, hp, e⟩ := pl2
      exact ⟨ns, st _ _ hp, e⟩
    have ht1 := sl4 _ _ ht1
    have ht2 := sl4 _ _ ht2
    have hl1 := sl4 _ _ hl1
    have ht3 := sl4 _ _ ht3
    have ht4 := sl4 _ _ ht4
    have hl2 := sl4 _ _ hl2
    have ht5 := sl4 _ _ ht5
    have ht6 := sl4 _ _ ht6
    have hl3 := sl4 _ _ hl3
    have hb0 := sl4 _ _ hb0
    have ht7 := sl4 _ _ ht7
    have ht8 := sl4 _ _ ht8
    refine ⟨small100 (n := 1) (by decide), fun b1 nb1 => ?_⟩
    have sb1 : Same Jl4 (upd Jl4 b1 (.lst [V.ref l4])) := same_upd nb1
    have hb1 : (upd Jl4 b1 (.lst [V.ref l4])) b1 = some (.lst [V.ref l4]) := upd_same
    generalize upd Jl4 b1 (.lst [V.ref l4]) = Jb1 at *
    have zb1 : H b1 = none := (e02.trans (Kp.of st)).none nb1 (plx.ne nb1)
    have st := st.trans sb1
    have plx : Pool Jb1 p L := by
      obtain ⟨ns, hp, e⟩ := pl2
      exact ⟨ns, st _ _ hp, e⟩
    have ht1 := sb1 _ _ ht1
    have ht2 := sb1 _ _ ht2
    have hl1 := sb1 _ _ hl1
    have ht3 := sb1 _ _ ht3
    have ht4 := sb1 _ _ ht4
    have hl2 := sb1 _ _ hl2
    have ht5 := sb1 _ _ ht5
    have ht6 := sb1 _ _ ht6
    have hl3 := sb1 _ _ hl3
    have hb0 := sb1 _ _ hb0
    have ht7 := sb1 _ _ ht7
    have ht8 := sb1 _ _ ht8
    have hl4 := sb1 _ _ hl4
    refine ⟨b0, b1, _, _, rfl, rfl, hb0, hb1, small100 (n := 4) (by decide), fun d nd => ?_⟩
    have sd : Same Jb1 (upd Jb1 d (.lst [V.ref l1, V.ref l2, V.ref l3, V.ref l4])) := same_upd nd
    have hd : (upd Jb1 d (.lst [V.ref l1, V.ref l2, V.ref l3, V.ref l4])) d = some (.lst [V.ref l1, V.ref l2, V.ref l3, V.ref l4]) := upd_same
    have sf := st.trans sd
    have kf : Kp p H (upd Jb1 d (.lst [V.ref l1, V.ref l2, V.ref l3, V.ref l4])) := e02.trans (Kp.of sf)
    have plf : Pool (upd Jb1 d (.lst [V.ref l1, V.ref l2, V.ref l3, V.ref l4])) p L := by
      obtain ⟨ns, hp, e⟩ := pl2
      exact ⟨ns, sf _ _ hp, e⟩
    rcases (show z = 0 ∨ z = 1 ∨ z = 2 ∨ z = 3 by omega) with rfl | rfl | rfl | rfl
    · refine ⟨_, rfl, d, _, _, _, rfl, rfl, SqL.of hd, at_of (j := 0) (by decide) rfl, ?_⟩
      exact q l1 (.go k) (.go (-k)) _ (ok1 rfl rfl (by show (-9 : Int) ≤ k; omega) (by show k ≤ (9 : Int); omega)) (ok1 rfl rfl (by show (-9 : Int) ≤ -k; omega) (by show -k ≤ (9 : Int); omega)) kf plf ⟨l1, _, rfl, zl1, sd _ _ hl1, .cons ⟨t1, _, rfl, sd _ _ ht1, .cons rfl (.cons rfl .nil)⟩ (.cons ⟨t2, _, rfl, sd _ _ ht2, .cons rfl (.cons rfl .nil)⟩ .nil)⟩
    · refine ⟨_, rfl, d, _, _, _, rfl, rfl, SqL.of hd, at_of (j := 1) (by decide) rfl, ?_⟩
      exact q l2 (.turn k) (.turn (4 - k)) _ (ok1 rfl rfl (by show (1 : Int) ≤ k; omega) (by show k ≤ (3 : Int); omega)) (ok1 rfl rfl (by show (1 : Int) ≤ 4 - k; omega) (by show 4 - k ≤ (3 : Int); omega)) kf plf ⟨l2, _, rfl, zl2, sd _ _ hl2, .cons ⟨t3, _, rfl, sd _ _ ht3, .cons rfl (.cons rfl .nil)⟩ (.cons ⟨t4, _, rfl, sd _ _ ht4, .cons rfl (.cons rfl .nil)⟩ .nil)⟩
    · refine ⟨_, rfl, d, _, _, _, rfl, rfl, SqL.of hd, at_of (j := 2) (by decide) rfl, ?_⟩
      exact q l3 (.mirror) (.mirror) _ (ok0 rfl) (ok0 rfl) kf plf ⟨l3, _, rfl, zl3, sd _ _ hl3, .cons ⟨t5, _, rfl, sd _ _ ht5, .cons rfl .nil⟩ (.cons ⟨t6, _, rfl, sd _ _ ht6, .cons rfl .nil⟩ .nil)⟩
    · refine ⟨_, rfl, d, _, _, _, rfl, rfl, SqL.of hd, at_of (j := 3) (by decide) rfl, ?_⟩
      exact q l4 (.exch) (.exch) _ (ok0 rfl) (ok0 rfl) kf plf ⟨l4, _, rfl, zl4, sd _ _ hl4, .cons ⟨t7, _, rfl, sd _ _ ht7, .cons rfl .nil⟩ (.cons ⟨t8, _, rfl, sd _ _ ht8, .cons rfl .nil⟩ .nil)⟩

theorem ok_block_step (T : Top w K mg) (n : Nat) (G__law_piece : FnOk P w K mg base CX0 (2 * n + 3) T.a__law_piece T.d__law_piece ["_law_pool_here", "_law_mood", "_law_level", "_law_room", "_law_calls", "_law_low"] (spD 1 n)) :
    FnOk P w K mg base CX0 (2 * n + 4) T.a__law_block T.d__law_block ["_law_pool_here", "_law_mood", "_law_level", "_law_room", "_law_calls", "_law_low"] (spD 0 n) := by
  refine T.F__law_block.ok sc__law_block (fun vs H Q E h => ?_) (fun cdv A outer s H vs Q E hr h => ?_)
  · obtain ⟨p, r, c, L, l, many, mood, m, k, low, rfl, _⟩ := h
    rfl
  · obtain ⟨p, r, c, L, l, many, mood, m, k, low, rfl, sep, d, ⟨h2, h64, md0, md8, hl, hlow, hm0, hm8, hmn, hmany⟩, q⟩ := h
    refine ⟨_, (pss_cons (ps_set (i := 6) sc__law_block.nd rfl (Or.inl rfl) (pe_lst pa_nil))
      (pss_cons (ps_for PassesOwn.never rfl (pi_range1 (by rfl) T.z_range (pa_cons (pe_call (ok__law_draw T) (hr.mono (by omega)) (by rfl) T.g__law_draw T.F__law_draw.kp (b__law_draw T) .nil pass0 (pa_cons (pv 0) (pa_cons pe_int pa_nil))) pa_nil)) (pg_name (i := 7) sc__law_block.nd rfl (Or.inl rfl)) (pss_one (ps_if (pt_cmpR op_gt (pe_ix (k_ixL K) (pv 3) pe_int (fun _ _ => rfl)) pe_int (nomark _)) (pss_one (ps_set (i := 6) sc__law_block.nd rfl (Or.inl rfl) (pe_op op_cat (pv 6) (pe_call G__law_piece (hr.mono (by omega)) (by rfl) T.g__law_piece T.F__law_piece.kp (b__law_piece T) .nil pass0 (pa_cons (pv 0) (pa_cons (pv 1) (pa_cons (pv 2) (pa_cons (pv 3) (pa_cons (pv 4) (pa_cons (pv 5) pa_nil)))))))))) pss_nil)))
      (pss_one (ps_ret (pv 6))))), ?_⟩
    refine ⟨small100 (n := 0) (by decide), fun b nb => ?_⟩
    have d1 := d.new (o := .lst []) nb
    have e1 : KpL (MM p r c) H (upd H b (.lst [])) := KpL.of (same_upd nb)
    have t1 : Tr (New H) (upd H b (.lst [])) (bD []) (.ref b) := ⟨b, [], rfl, nb, upd_same, TrAll.nil⟩
    generalize upd H b (.lst []) = H1 at *
    refine ⟨_, rfl, p, L, 3, rfl, d1.pl, h2, h64, by decide, by decide, fun i H2 i0 i1 e2 pl2 => ?_⟩
    have d2 := d1.kp sep e2 pl2
    have e2 := d1.gone sep e2
    have t2 := New.kpl d e2 t1
    have e2 := e1.trans e2
    refine ⟨i, rfl, by omega, by omega, for_range (n := i.toNat) (fun j σ H' => ∃ (y7 : Option V) (b : Addr) (ss : List Stm) (m' k' : Int), σ = [some (.ref p), some (.int mood), some (.int l), some (.ref r), some (.ref c), some (.int low), some (.ref b), y7] ∧ KpL (MM p r c) H H' ∧ Drw H' p r c L m' k' many ∧ 0 ≤ m' ∧ m' + cntB ss = m ∧ okB many ss l ∧ Tr (New H) H' (bD ss) (.ref b))
      ⟨none, b, [], m, k, rfl, e2, d2, hm0, by simp [cntB], True.intro, t2⟩ (fun j σ H' hj h => ?_) (fun σ H' h => ?_)⟩
    · obtain ⟨y7, b, ss, m', k', rfl, e, d', hm', hc, ho, t⟩ := h
      refine ⟨_, rfl, r, _, 0, _, rfl, rfl, SqL.of d'.r, at_of (j := 0) (by decide) rfl, _, _, rfl, rfl, _, rfl, ite2 (fun g => ?_) (fun g => ?_)⟩
      · have g : m' > 0 := of_decide_eq_true g
        refine ⟨_, rfl, _, rfl, _, rfl, _, rfl, _, rfl, _, rfl, _, rfl, ?_⟩
        refine ⟨p, r, c, L, l, many, mood, m', k', low, rfl, sep, d', ⟨h2, h64, md0, md8, hl, hlow, by omega, by omega, by omega, hmany⟩, fun q2 ss2 H3 m2 k2 e3 d3 g0 hc2 ho2 t3 => ?_⟩
        have t := New.kpl d e3 t
        have e4 := e.trans e3
        have t3 := New.old e d' t3
        obtain ⟨xs, nb', hb', tx⟩ := t.lst
        obtain ⟨ys, nq2, hq2, ty⟩ := t3.lst
        have lx := tx.len
        have ly := ty.len
        rw [blkD_len] at lx ly
        have c1 := len_cntB ss
        have c2 := len_cntB ss2
        refine ⟨_, q2, xs, ys, rfl, rfl, hb', hq2, small100 (by omega), fun z nz => ?_⟩
        have e5 := e4.trans (KpL.of (M := MM p r c) (same_upd (o := .lst (xs ++ ys)) nz))
        refine ⟨_, z, ss ++ ss2, m2, k2, rfl, e5, d3.new nz, g0, by rw [cntB_append]; omega, okB_append ho ho2, z, xs ++ ys, rfl, e4.free d3.lst nz, upd_same, ?_⟩
        rw [blkD_append]
        exact (tx.append ty).same (same_upd nz)
      · exact ⟨_, b, ss, m', k', rfl, e, d', hm', hc, ho, t⟩
    · obtain ⟨y7, b, ss, m', k', rfl, e, d', hm', hc, ho, t⟩ := h
      exact ⟨_, rfl, q b ss H' m' k' e d' hm' hc ho t⟩

--SPLIT
theorem Stm.okd {many l : Nat} {b : List Stm} {x : Nat} (h : cntB b ≤ 8) : b.length ≤ 8 := Nat.le_trans (len_cntB b) h
set_option maxHeartbeats 2000000 in
theorem ok_piece_step (T : Top w K mg) (n : Nat) (G__law_piece : FnOk P w K mg base CX0 (2 * n + 3) T.a__law_piece T.d__law_piece ["_law_pool_here", "_law_mood", "_law_level", "_law_room", "_law_calls", "_law_low"] (spD 1 n))
    (G__law_block : FnOk P w K mg base CX0 (2 * n + 4) T.a__law_block T.d__law_block ["_law_pool_here", "_law_mood", "_law_level", "_law_room", "_law_calls", "_law_low"] (spD 0 n)) :
    FnOk P w K mg base CX0 (2 * n + 5) T.a__law_piece T.d__law_piece ["_law_pool_here", "_law_mood", "_law_level", "_law_room", "_law_calls", "_law_low"] (spD 1 (n + 1)) := by
  refine T.F__law_piece.ok sc__law_piece (fun vs H Q E h => ?_) (fun cdv A outer s H vs Q E hr h => ?_)
  · obtain ⟨p, r, c, L, l, many, mood, m, k, low, rfl, _⟩ := h
    rfl
  · obtain ⟨p, r, c, L, l, many, mood, m, k, low, rfl, sep, d, ⟨h2, h64, md0, md8, hl, hlow, hm0, hm8, hmn, hmany⟩, q⟩ := h
    refine ⟨_, (pss_cons (ps_set (i := 6) sc__law_piece.nd rfl (Or.inl rfl) (pe_call (ok__law_draw T) (hr.mono (by omega)) (by rfl) T.g__law_draw T.F__law_draw.kp (b__law_draw T) .nil pass0 (pa_cons (pv 0) (pa_cons pe_int pa_nil))))
      (C8.pss_cut (ps_if (PW.pt (pw_and (pt_cmpR op_gt (pv 6) pe_int (nomark _)) (pw_and (pt_cmpR op_lt (pv 6) pe_int (nomark _)) (pw_and1 (pt_cmpR op_gt (pv 2) pe_int (nomark _)))))) (pss_one (ps_set (i := 6) sc__law_piece.nd rfl (Or.inl rfl) (pe_op op_mod (pv 6) pe_int))) pss_nil)
      (C8.pss_cut (ps_if (PW.pt (pw_and (pt_cmpR op_eq (pv 6) pe_int (nomark _)) (pw_and1 (pt_cmpR op_lt (pe_ix (k_ixL K) (pv 3) pe_int (fun _ _ => rfl)) pe_int (nomark _))))) (pss_one (ps_set (i := 6) sc__law_piece.nd rfl (Or.inl rfl) pe_int)) pss_nil)
      (C8.pss_cut (ps_if (PW.pt (pw_and (pt_cmpR op_gt (pv 6) pe_int (nomark _)) (pw_and (pt_cmpR op_lt (pv 6) pe_int (nomark _)) (pw_and1 (PW.pt (pw_or (pt_cmpR op_lt (pe_ix (k_ixL K) (pv 4) pe_int (fun _ _ => rfl)) pe_int (nomark _)) (pw_or1 (pt_cmpR op_ge (pv 5) (pe_ix (k_ixL K) (pv 4) pe_int (fun _ _ => rfl)) (nomark _))))))))) (pss_one (ps_set (i := 6) sc__law_piece.nd rfl (Or.inl rfl) pe_int)) pss_nil)
      (pss_cons (ps_augS (pv 3) pe_int (k_getL K) pe_int ip_sub set_list)
      (pss_cons (ps_if (pt_cmpR op_lt (pv 6) pe_int (nomark _)) (pss_one (ps_ret (pe_lst (pa_cons (pe_call (ok__law_command T) (hr.mono (by omega)) (by rfl) T.g__law_command T.F__law_command.kp (b__law_command T) .nil pass0 (pa_cons (pv 0) (pa_cons (pv 1) pa_nil))) pa_nil)))) pss_nil)
      (pss_cons (ps_if (pt_cmpR op_eq (pv 6) pe_int (nomark _)) (pss_cons (ps_augS (pv 3) pe_int (k_getL K) pe_int ip_sub set_list)
        (pss_cons (ps_set (i := 7) sc__law_piece.nd rfl (Or.inl rfl) (pe_call (ok__law_pair T) (hr.mono (by omega)) (by rfl) T.g__law_pair T.F__law_pair.kp (b__law_pair T) .nil pass0 (pa_cons (pv 0) (pa_cons (pv 1) pa_nil))))
        (pss_cons (ps_set (i := 8) sc__law_piece.nd rfl (Or.inl rfl) (pe_lst pa_nil))
        (C8.pss_cut (ps_if (pt_cmpR op_gt (pe_ix (k_ixL K) (pv 3) pe_int (fun _ _ => rfl)) pe_int (nomark _)) (pss_one (ps_set (i := 8) sc__law_piece.nd rfl (Or.inl rfl) (pe_call G__law_piece (hr.mono (by omega)) (by rfl) T.g__law_piece T.F__law_piece.kp (b__law_piece T) .nil pass0 (pa_cons (pv 0) (pa_cons (pv 1) (pa_cons (pv 2) (pa_cons (pv 3) (pa_cons (pv 4) (pa_cons (pv 5) pa_nil))))))))) pss_nil)
        (pss_one (ps_ret (pe_op op_cat (pe_op op_cat (pe_slice (k_slL K) (pv 7) po_none (po_some pe_int)) (pv 8)) (pe_slice (k_slL K) (pv 7) (po_some pe_int) po_none)))))))) pss_nil)
      (pss_cons (ps_if (pt_cmpR op_lt (pv 6) pe_int (nomark _)) (pss_cons (ps_set (i := 9) sc__law_piece.nd rfl (Or.inl rfl) (pe_call G__law_block (hr.mono (by omega)) (by rfl) T.g__law_block T.F__law_block.kp (b__law_block T) .nil pass0 (pa_cons (pv 0) (pa_cons (pv 1) (pa_cons (pe_op op_add (pv 2) pe_int) (pa_cons (pv 3) (pa_cons (pv 4) (pa_cons pe_int pa_nil))))))))
        (pss_one (ps_ret (pe_lst (pa_cons (pe_tup (pa_cons pe_str (pa_cons (pv 9) (pa_cons (pe_call G__law_block (hr.mono (by omega)) (by rfl) T.g__law_block T.F__law_block.kp (b__law_block T) .nil pass0 (pa_cons (pv 0) (pa_cons (pv 1) (pa_cons (pe_op op_add (pv 2) pe_int) (pa_cons (pv 3) (pa_cons (pv 4) (pa_cons (pv 5) pa_nil))))))) pa_nil)))) pa_nil))))) pss_nil)
      (pss_cons (ps_if (pt_cmpR op_eq (pv 6) pe_int (nomark _)) (pss_one (ps_ret (pe_lst (pa_cons (pe_tup (pa_cons pe_str (pa_cons (pe_call G__law_block (hr.mono (by omega)) (by rfl) T.g__law_block T.F__law_block.kp (b__law_block T) .nil pass0 (pa_cons (pv 0) (pa_cons (pv 1) (pa_cons (pe_op op_add (pv 2) pe_int) (pa_cons (pv 3) (pa_cons (pv 4) (pa_cons pe_int pa_nil))))))) pa_nil))) pa_nil)))) pss_nil)
      (pss_cons (ps_if (pt_cmpR op_eq (pv 6) pe_int (nomark _)) (pss_one (ps_ret (pe_lst (pa_cons (pe_tup (pa_cons pe_str (pa_cons (pe_call G__law_block (hr.mono (by omega)) (by rfl) T.g__law_block T.F__law_block.kp (b__law_block T) .nil pass0 (pa_cons (pv 0) (pa_cons (pv 1) (pa_cons (pe_op op_add (pv 2) pe_int) (pa_cons (pv 3) (pa_cons (pv 4) (pa_cons (pv 5) pa_nil))))))) pa_nil))) pa_nil)))) pss_nil)
      (pss_cons (ps_if (pt_cmpR op_gt (pv 6) pe_int (nomark _)) (pss_one (ps_ret (pe_lst (pa_cons (pe_tup (pa_cons pe_str (pa_cons (pe_call (ok__law_draw T) (hr.mono (by omega)) (by rfl) T.g__law_draw T.F__law_draw.kp (b__law_draw T) .nil pass0 (pa_cons (pv 0) (pa_cons pe_int pa_nil))) pa_nil))) pa_nil)))) pss_nil)
      (pss_cons (ps_augS (pv 4) pe_int (k_getL K) pe_int ip_sub set_list)
      (pss_cons (ps_set (i := 10) sc__law_piece.nd rfl (Or.inl rfl) (pe_op op_add (pv 5) (pe_call (ok__law_draw T) (hr.mono (by omega)) (by rfl) T.g__law_draw T.F__law_draw.kp (b__law_draw T) .nil pass0 (pa_cons (pv 0) (pa_cons (pe_op op_sub (pe_ix (k_ixL K) (pv 4) pe_int (fun _ _ => rfl)) (pv 5)) pa_nil)))))
      (pss_cons (ps_set (i := 11) sc__law_piece.nd rfl (Or.inl rfl) (pe_cmpR op_eq (pe_call (ok__law_draw T) (hr.mono (by omega)) (by rfl) T.g__law_draw T.F__law_draw.kp (b__law_draw T) .nil pass0 (pa_cons (pv 0) (pa_cons pe_int pa_nil))) pe_int (nomark _)))
      (pss_cons (ps_set (i := 9) sc__law_piece.nd rfl (Or.inl rfl) (pe_call G__law_block (hr.mono (by omega)) (by rfl) T.g__law_block T.F__law_block.kp (b__law_block T) .nil pass0 (pa_cons (pv 0) (pa_cons (pv 1) (pa_cons (pe_op op_add (pv 2) pe_int) (pa_cons (pv 3) (pa_cons (pv 4) (pa_cons (pv 5) pa_nil))))))))
      (pss_one (ps_ret (pe_lst (pa_cons (pe_tup (pa_cons pe_str (pa_cons (pv 10) (pa_cons (pv 11) (pa_cons (pe_lst (pa_cons (pv 9) (pa_cons (pe_call G__law_block (hr.mono (by omega)) (by rfl) T.g__law_block T.F__law_block.kp (b__law_block T) .nil pass0 (pa_cons (pv 0) (pa_cons (pv 1) (pa_cons (pe_op op_add (pv 2) pe_int) (pa_cons (pv 3) (pa_cons (pv 4) (pa_cons (pv 5) pa_nil))))))) pa_nil))) pa_nil))))) pa_nil))))))))))))))))))), ?_⟩
    refine ⟨_, rfl, p, L, 17, rfl, d.pl, h2, h64, by decide, by decide, fun kd H1 k0 k1 e1 pl1 => ?_⟩
    have d1 := d.kp sep e1 pl1
    have e1 := d.gone sep e1
    have hfin : ∀ (J : Hp) (x : V) (z : Stm) (m' k' : Int), KpL (MM p r c) H J → Drw J p r c L m' k' many → 0 ≤ m' → m' + z.cnt = m → z.ok many l → Tr (New H) J z.d x → ∀ a, J a = none → Q (.ref a) (upd J a (.lst [x])) := by
      intro J x z m' k' e dJ g0 gc go t a na
      refine q a [z] _ m' k' (e.trans (KpL.of (same_upd na))) (dJ.new na) g0 (by simp only [cntB]; omega) ⟨go, True.intro⟩ ⟨a, _, rfl, e.free dJ.lst na, upd_same, ?_⟩
      exact ⟨x, [], rfl, t.same (same_upd na), rfl⟩
    -- the kind, level by level
    refine ⟨fun σ J => J = H1 ∧ ∃ z : Int, 0 ≤ z ∧ z < 17 ∧ (6 < z → z < 15 → l ≤ 2) ∧ σ = [some (.ref p), some (.int mood), some (.int l), some (.ref r), some (.ref c), some (.int low), some (.int z), none, none, none, none, none], ?_, fun σ J hm => ?_⟩
    · refine ⟨_, rfl, _, _, rfl, rfl, _, rfl, ite2 (fun g1 => ?_) (fun g1 => ?_)⟩
      · refine ⟨_, rfl, _, _, rfl, rfl, _, rfl, ite2 (fun g2 => ?_) (fun g2 => ?_)⟩
        · refine ⟨_, rfl, _, _, rfl, rfl, _, rfl, ite2 (fun g3 => ?_) (fun g3 => ?_)⟩
          · refine ⟨_, rfl, _, _, rfl, rfl, (show (0 : Int) < 6 by decide), rfl, _, ?_, ?_, ?_, rfl⟩
            · exact Int.emod_nonneg _ (by decide)
            · have := Int.emod_lt_of_pos kd (show (0 : Int) < 6 by decide)
              omega
            · have := Int.emod_lt_of_pos kd (show (0 : Int) < 6 by decide)
              omega
          · have g3 : ¬ (l : Int) > 2 := fun e => g3 (decide_eq_true e)
            exact ⟨rfl, kd, k0, k1, fun _ _ => by omega, rfl⟩
        · have g2 : ¬ kd < 15 := fun e => g2 (decide_eq_true e)
          exact ⟨rfl, kd, k0, k1, fun _ _ => by omega, rfl⟩
      · have g1 : ¬ kd > 6 := fun e => g1 (decide_eq_true e)
        exact ⟨rfl, kd, k0, k1, fun _ _ => by omega, rfl⟩
    obtain ⟨rfl, z1, k0, k1, q1, rfl⟩ := hm
    refine ⟨fun σ J' => J' = J ∧ ∃ z : Int, 0 ≤ z ∧ z < 17 ∧ (6 < z → z < 15 → l ≤ 2) ∧ (z = 6 → 2 ≤ m) ∧ σ = [some (.ref p), some (.int mood), some (.int l), some (.ref r), some (.ref c), some (.int low), some (.int z), none, none, none, none, none], ?_, fun σ J' hm => ?_⟩
    · refine ⟨_, rfl, rfl, _, rfl, ite2 (fun g1 => ?_) (fun g1 => ?_)⟩
      · refine ⟨_, rfl, r, _, 0, _, rfl, rfl, SqL.of d1.r, at_of (j := 0) (by decide) rfl, _, _, rfl, rfl, _, rfl, ite2 (fun g2 => ?_) (fun g2 => ?_)⟩
        · exact ⟨rfl, 0, by decide, by decide, fun _ _ => by omega, fun _ => by omega, rfl⟩
        · have g2 : ¬ m < 2 := fun e => g2 (decide_eq_true e)
          exact ⟨rfl, z1, k0, k1, q1, fun _ => by omega, rfl⟩
      · have g1 := dec_int g1
        exact ⟨rfl, z1, k0, k1, q1, fun e => absurd e g1, rfl⟩
    obtain ⟨rfl, z2, k0, k1, q1, q2, rfl⟩ := hm
    refine ⟨fun σ J'' => J'' = J' ∧ ∃ z : Int, 0 ≤ z ∧ z < 17 ∧ (6 < z → z < 15 → l ≤ 2) ∧ (z = 6 → 2 ≤ m) ∧ (10 < z → z < 15 → low < many) ∧ σ = [some (.ref p), some (.int mood), some (.int l), some (.ref r), some (.ref c), some (.int low), some (.int z), none, none, none, none, none], ?_, fun σ J'' hm => ?_⟩
    · have zero : (fun (σ : List (Option V)) (J'' : Hp) => J'' = J' ∧ ∃ z : Int, 0 ≤ z ∧ z < 17 ∧ (6 < z → z < 15 → l ≤ 2) ∧ (z = 6 → 2 ≤ m) ∧ (10 < z → z < 15 → low < many) ∧ σ = [some (.ref p), some (.int mood), some (.int l), some (.ref r), some (.ref c), some (.int low), some (.int z), none, none, none, none, none]) [some (.ref p), some (.int mood), some (.int l), some (.ref r), some (.ref c), some (.int low), some (.int 0), none, none, none, none, none] J' := ⟨rfl, 0, by decide, by decide, fun _ _ => by omega, fun _ => by omega, fun _ _ => by omega, rfl⟩
      refine ⟨_, rfl, _, _, rfl, rfl, _, rfl, ite2 (fun g1 => ?_) (fun g1 => ?_)⟩
      · refine ⟨_, rfl, _, _, rfl, rfl, _, rfl, ite2 (fun g2 => ?_) (fun g2 => ?_)⟩
        · refine ⟨_, rfl, c, _, 0, _, rfl, rfl, SqL.of d1.c, at_of (j := 0) (by decide) rfl, _, _, rfl, rfl, _, rfl, ite2 (fun g3 => ?_) (fun g3 => ?_)⟩
          · exact zero
          · refine ⟨_, rfl, _, rfl, c, _, 1, _, rfl, rfl, SqL.of d1.c, at_of (j := 1) (by decide) rfl, _, _, rfl, rfl, _, rfl, ite2 (fun g4 => ?_) (fun g4 => ?_)⟩
            · exact zero
            · have g4 : ¬ low ≥ (many : Int) := fun e => g4 (decide_eq_true e)
              exact ⟨rfl, z2, k0, k1, q1, q2, fun _ _ => by omega, rfl⟩
        · have g2 : ¬ z2 < 15 := fun e => g2 (decide_eq_true e)
          exact ⟨rfl, z2, k0, k1, q1, q2, fun _ _ => by omega, rfl⟩
      · have g1 : ¬ z2 > 10 := fun e => g1 (decide_eq_true e)
        exact ⟨rfl, z2, k0, k1, q1, q2, fun _ _ => by omega, rfl⟩
    obtain ⟨rfl, z, k0, k1, q1, q2, q3, rfl⟩ := hm
    -- a room less
    refine ⟨_, rfl, r, _, 0, .int m, rfl, rfl, by decide, SqL.of d1.r, rfl, m, 1, rfl, rfl, r, _, 0, 0, rfl, rfl, d1.r, rfl, ?_⟩
    generalize hJ : upd J'' r _ = H2
    have e2 : KpL (MM p r c) H H2 := by
      rw [← hJ]
      exact e1.put (.inr (.inl rfl)) ⟨_, d.r⟩
    have d2 : Drw H2 p r c L (m - 1) k many := by
      rw [← hJ]
      exact d1.room sep (m - 1)
    clear hJ d1 e1 pl1
    have lvl : ((l : Nat) : Int) + 1 = ((l + 1 : Nat) : Int) := rfl
    refine ⟨_, rfl, _, _, rfl, rfl, _, rfl, ite2 (fun g => ?_) (fun g6 => ?_)⟩
    · refine ⟨_, rfl, _, rfl, p, L, mood, rfl, d2.pl, h2, h64, md0, md8, fun qc cm H3 ok e3 pl3 nq hq => ⟨small100 (n := 1) (by decide), fun a na => ?_⟩⟩
      exact hfin H3 (.ref qc) (.cmd cm) (m - 1) k (e2.trans (d2.gone sep e3)) (d2.kp sep e3 pl3) (by omega) (by simp only [Stm.cnt]; omega) ok ⟨qc, _, rfl, hq, .cons rfl (TrAll.ofInts _)⟩ a na
    have g6 : ¬ z < 6 := fun e => g6 (decide_eq_true e)
    refine ⟨_, rfl, rfl, _, rfl, ite2 (fun g => ?_) (fun g7 => ?_)⟩
    · have q2 := q2 (dec_int' g)
      refine ⟨_, rfl, r, _, 0, .int (m - 1), rfl, rfl, by decide, SqL.of d2.r, rfl, m - 1, 1, rfl, rfl, r, _, 0, 0, rfl, rfl, d2.r, rfl, ?_⟩
      generalize hJ : upd H2 r _ = H3
      have e3 : KpL (MM p r c) H H3 := by
        rw [← hJ]
        exact e2.put (.inr (.inl rfl)) ⟨_, d.r⟩
      have d3 : Drw H3 p r c L (m - 1 - 1) k many := by
        rw [← hJ]
        exact d2.room sep (m - 1 - 1)
      clear hJ
      refine ⟨_, rfl, _, rfl, p, L, mood, rfl, d3.pl, h2, h64, fun qa c1 c2 H4 ok1 ok2 e4 pl4 t4 => ?_⟩
      have d4 := d3.kp sep e4 pl4
      have t4 := New.old e3 d3 t4
      have e4 := e3.trans (d3.gone sep e4)
      refine ⟨small100 (n := 0) (by decide), fun b nb => ?_⟩
      have d5 := d4.new (o := .lst []) nb
      have e5 : KpL (MM p r c) H (upd H4 b (.lst [])) := e4.trans (KpL.of (same_upd nb))
      have tb : Tr (New H) (upd H4 b (.lst [])) (bD []) (.ref b) := ⟨b, [], rfl, e4.free d4.lst nb, upd_same, TrAll.nil⟩
      have t5 := t4.same (same_upd (o := .lst []) nb)
      generalize upd H4 b (.lst []) = H5 at *
      refine ⟨fun σ J => ∃ (b : Addr) (ss : List Stm) (m' k' : Int), σ = [some (.ref p), some (.int mood), some (.int l), some (.ref r), some (.ref c), some (.int low), some (.int z), some (.ref qa), some (.ref b), none, none, none] ∧ KpL (MM p r c) H J ∧ Drw J p r c L m' k' many ∧ 0 ≤ m' ∧ m' + cntB ss = m - 2 ∧ okB many ss l ∧ Tr (New H) J (bD ss) (.ref b) ∧ Tr (New H) J (.list [c1.d, c2.d]) (.ref qa), ?_, fun σ J hm => ?_⟩
      · refine ⟨_, rfl, r, _, 0, _, rfl, rfl, SqL.of d5.r, at_of (j := 0) (by decide) rfl, _, _, rfl, rfl, _, rfl, ite2 (fun g => ?_) (fun g => ?_)⟩
        · have g : m - 1 - 1 > 0 := of_decide_eq_true g
          refine ⟨_, rfl, _, rfl, _, rfl, _, rfl, _, rfl, _, rfl, p, r, c, L, l, many, mood, m - 1 - 1, k, low, rfl, sep, d5, ⟨h2, h64, md0, md8, hl, hlow, by omega, by omega, by omega, hmany⟩, fun q6 ss H6 m6 k6 e6 d6 g0 gc go t6 => ?_⟩
          exact ⟨q6, ss, m6, k6, rfl, e5.trans e6, d6, g0, by omega, go, New.old e5 d5 t6, New.kpl d e6 t5⟩
        · exact ⟨b, [], m - 1 - 1, k, rfl, e5, d5, by omega, by simp only [cntB]; omega, True.intro, tb, t5⟩
      · obtain ⟨b, ss, m6, k6, rfl, e6, d6, g0, gc, go, t6, t7⟩ := hm
        obtain ⟨xs, nb6, hb6, tx⟩ := t6.lst
        obtain ⟨ps, nq, hq, tp⟩ := t7.lst
        obtain ⟨x1, _, rfl, tx1, x2, _, rfl, tx2, rfl⟩ := tp
        have lx := tx.len
        rw [blkD_len] at lx
        have c3 := len_cntB ss
        refine ⟨_, rfl, _, rfl, qa, _, rfl, SqL.of hq, fun u nu => ?_⟩
        have s7 := same_upd (o := .lst (cutV [x1, x2] none (some 1))) nu
        have hu : (upd J u (.lst (cutV [x1, x2] none (some 1)))) u = some (.lst [x1]) := by rw [upd_same, show cutV [x1, x2] none (some 1) = [x1] from cut_to (n := 1)]
        generalize upd J u _ = J7 at *
        refine ⟨_, rfl, u, b, _, _, rfl, rfl, hu, s7 _ _ hb6, small100 (by rw [List.length_singleton]; omega), fun v nv => ?_⟩
        have s8 := s7.trans (same_upd (o := .lst ([x1] ++ xs)) nv)
        have hv : (upd J7 v (.lst ([x1] ++ xs))) v = some (.lst ([x1] ++ xs)) := upd_same
        generalize upd J7 v _ = J8 at *
        refine ⟨_, rfl, _, rfl, qa, _, rfl, SqL.of (s8 _ _ hq), fun y ny => ?_⟩
        have s9 := same_upd (o := .lst (cutV [x1, x2] (some 1) none)) ny
        have hy : (upd J8 y (.lst (cutV [x1, x2] (some 1) none))) y = some (.lst [x2]) := by rw [upd_same, cut_from1]
        generalize upd J8 y _ = J9 at *
        refine ⟨v, y, _, _, rfl, rfl, s9 _ _ hv, hy, small100 (by rw [List.length_append, List.length_singleton, List.length_singleton]; omega), fun a na => ?_⟩
        have s10 := s8.trans (s9.trans (same_upd (o := .lst ([x1] ++ xs ++ [x2])) na))
        refine q a ([.cmd c1] ++ ss ++ [.cmd c2]) _ m6 k6 (e6.trans (KpL.of s10)) (d6.same s10) g0 (by rw [cntB_append, cntB_append]; simp only [cntB, Stm.cnt]; omega) (okB_append (a := [.cmd c1] ++ ss) (b := [.cmd c2]) (okB_append (a := [.cmd c1]) ⟨ok1, True.intro⟩ go) ⟨ok2, True.intro⟩) ⟨a, _, rfl, (e6.trans (KpL.of (s8.trans s9))).free (d6.same (s8.trans s9)).lst na, upd_same, ?_⟩
        rw [blkD_append, blkD_append]
        exact ((TrAll.one tx1).append tx).append (TrAll.one tx2) |>.same s10
    have g7 : ¬ z = 6 := dec_int g7
    refine ⟨_, rfl, _, _, rfl, rfl, _, rfl, ite2 (fun g => ?_) (fun g9 => ?_)⟩
    · have g : z < 9 := of_decide_eq_true g
      have hl2 := q1 (by omega) (by omega)
      refine ⟨_, rfl, _, rfl, _, rfl, _, _, rfl, rfl, _, rfl, _, rfl, p, r, c, L, l + 1, many, mood, m - 1, k, 0, rfl, sep, d2, ⟨h2, h64, md0, md8, by omega, by omega, by omega, by omega, by omega, hmany⟩, fun b1 s1 H3 m3 k3 e3 d3 g03 gc3 go3 t3 => ?_⟩
      have t3 := New.old e2 d2 t3
      have e3 := e2.trans e3
      refine ⟨_, rfl, _, rfl, _, rfl, _, rfl, _, _, rfl, rfl, _, rfl, _, rfl, _, rfl, p, r, c, L, l + 1, many, mood, m3, k3, low, rfl, sep, d3, ⟨h2, h64, md0, md8, by omega, hlow, by omega, by omega, by omega, hmany⟩, fun b2 s2 H4 m4 k4 e4 d4 g04 gc4 go4 t4 => ?_⟩
      have t3 := New.kpl d e4 t3
      have t4 := New.old e3 d3 t4
      have e4 := e3.trans e4
      refine ⟨small100 (n := 3) (by decide), fun t nt => ⟨small100 (n := 1) (by decide), fun a na => ?_⟩⟩
      have st := same_upd (o := .tup [V.str "either", V.ref b1, V.ref b2]) nt
      exact hfin _ (.ref t) (.either s1 s2) m4 k4 (e4.trans (KpL.of st)) (d4.same st) g04 (by simp only [Stm.cnt]; omega) ⟨by omega, ⟨Stm.okd (l := 0) (many := 0) (x := 0) (by omega), go3⟩, Stm.okd (l := 0) (many := 0) (x := 0) (by omega), go4⟩ ⟨t, _, rfl, upd_same, .cons rfl (.cons (t3.same st) (.cons (t4.same st) .nil))⟩ a na
    have g9 : ¬ z < 9 := fun e => g9 (decide_eq_true e)
    refine ⟨_, rfl, rfl, _, rfl, ite2 (fun g => ?_) (fun g10 => ?_)⟩
    · have g : z = 9 := dec_int' g
      have hl2 := q1 (by omega) (by omega)
      refine ⟨_, rfl, _, rfl, _, rfl, _, _, rfl, rfl, _, rfl, _, rfl, p, r, c, L, l + 1, many, mood, m - 1, k, 0, rfl, sep, d2, ⟨h2, h64, md0, md8, by omega, by omega, by omega, by omega, by omega, hmany⟩, fun b1 s1 H3 m3 k3 e3 d3 g03 gc3 go3 t3 => ?_⟩
      have t3 := New.old e2 d2 t3
      have e3 := e2.trans e3
      refine ⟨small100 (n := 2) (by decide), fun t nt => ⟨small100 (n := 1) (by decide), fun a na => ?_⟩⟩
      have st := same_upd (o := .tup [V.str "again", V.ref b1]) nt
      exact hfin _ (.ref t) (.again s1) m3 k3 (e3.trans (KpL.of st)) (d3.same st) g03 (by simp only [Stm.cnt]; omega) ⟨by omega, Stm.okd (l := 0) (many := 0) (x := 0) (by omega), go3⟩ ⟨t, _, rfl, upd_same, .cons rfl (.cons (t3.same st) .nil)⟩ a na
    have g10 : ¬ z = 9 := dec_int g10
    refine ⟨_, rfl, rfl, _, rfl, ite2 (fun g => ?_) (fun g11 => ?_)⟩
    · have g : z = 10 := dec_int' g
      have hl2 := q1 (by omega) (by omega)
      refine ⟨_, rfl, _, rfl, _, rfl, _, _, rfl, rfl, _, rfl, _, rfl, _, rfl, p, r, c, L, l + 1, many, mood, m - 1, k, low, rfl, sep, d2, ⟨h2, h64, md0, md8, by omega, hlow, by omega, by omega, by omega, hmany⟩, fun b1 s1 H3 m3 k3 e3 d3 g03 gc3 go3 t3 => ?_⟩
      have t3 := New.old e2 d2 t3
      have e3 := e2.trans e3
      refine ⟨small100 (n := 2) (by decide), fun t nt => ⟨small100 (n := 1) (by decide), fun a na => ?_⟩⟩
      have st := same_upd (o := .tup [V.str "keep", V.ref b1]) nt
      exact hfin _ (.ref t) (.keep s1) m3 k3 (e3.trans (KpL.of st)) (d3.same st) g03 (by simp only [Stm.cnt]; omega) ⟨by omega, Stm.okd (l := 0) (many := 0) (x := 0) (by omega), go3⟩ ⟨t, _, rfl, upd_same, .cons rfl (.cons (t3.same st) .nil)⟩ a na
    have g11 : ¬ z = 10 := dec_int g11
    refine ⟨_, rfl, _, _, rfl, rfl, _, rfl, ite2 (fun g => ?_) (fun g15 => ?_)⟩
    · refine ⟨_, rfl, p, L, 2, rfl, d2.pl, h2, h64, by decide, by decide, fun w H3 w0 w1 e3 pl3 => ⟨small100 (n := 2) (by decide), fun t nt => ⟨small100 (n := 1) (by decide), fun a na => ?_⟩⟩⟩
      have st := same_upd (o := .tup [V.str "end", V.int w]) nt
      have d3 := d2.kp sep e3 pl3
      have e3 := e2.trans (d2.gone sep e3)
      refine hfin _ (.ref t) (.fin (decide (w = 1))) (m - 1) k (e3.trans (KpL.of st)) (d3.same st) (by omega) (by simp only [Stm.cnt]; omega) True.intro ⟨t, _, rfl, upd_same, .cons rfl (.cons ?_ .nil)⟩ a na
      rcases (show w = 0 ∨ w = 1 by omega) with rfl | rfl <;> rfl
    have g15 : ¬ z > 14 := fun e => g15 (decide_eq_true e)
    have hl2 := q1 (by omega) (by omega)
    have hlm := q3 (by omega) (by omega)
    refine ⟨_, rfl, c, _, 0, .int k, rfl, rfl, by decide, SqL.of d2.c, rfl, k, 1, rfl, rfl, c, _, 0, 0, rfl, rfl, d2.c, rfl, ?_⟩
    generalize hJ : upd H2 c _ = H3
    have e3 : KpL (MM p r c) H H3 := by
      rw [← hJ]
      exact e2.put (.inr (.inr rfl)) ⟨_, d.c⟩
    have d3 : Drw H3 p r c L (m - 1) (k - 1) many := by
      rw [← hJ]
      exact d2.calls sep (k - 1)
    clear hJ
    refine ⟨_, rfl, _, rfl, _, rfl, c, _, 1, _, rfl, rfl, SqL.of d3.c, at_of (j := 1) (by decide) rfl, _, rfl, _, _, rfl, rfl, p, L, _, rfl, d3.pl, h2, h64, by omega, by omega, fun gl H4 w0 w1 e4 pl4 => ?_⟩
    have d4 := d3.kp sep e4 pl4
    have e4 := e3.trans (d3.gone sep e4)
    refine ⟨_, _, rfl, rfl, ?_⟩
    refine ⟨_, rfl, p, L, 3, rfl, d4.pl, h2, h64, by decide, by decide, fun sv H5 v0 v1 e5 pl5 => ?_⟩
    have d5 := d4.kp sep e5 pl5
    have e5 := e4.trans (d4.gone sep e5)
    refine ⟨rfl, ?_⟩
    generalize decide (V.int sv = V.int 0) = sb
    obtain ⟨pn, hpn⟩ : ∃ pn : Nat, low + gl = (pn : Int) := ⟨(low + gl).toNat, by omega⟩
    dsimp only
    rw [hpn]
    refine ⟨_, rfl, _, rfl, _, rfl, _, _, rfl, rfl, _, rfl, _, rfl, _, rfl, p, r, c, L, l + 1, many, mood, m - 1, k - 1, low, rfl, sep, d5, ⟨h2, h64, md0, md8, by omega, hlow, by omega, by omega, by omega, hmany⟩, fun b1 s1 H6 m6 k6 e6 d6 g06 gc6 go6 t6 => ?_⟩
    have t6 := New.old e5 d5 t6
    have e6 := e5.trans e6
    refine ⟨_, rfl, _, rfl, _, rfl, _, rfl, _, rfl, _, rfl, _, _, rfl, rfl, _, rfl, _, rfl, _, rfl, p, r, c, L, l + 1, many, mood, m6, k6, low, rfl, sep, d6, ⟨h2, h64, md0, md8, by omega, hlow, by omega, by omega, by omega, hmany⟩, fun b2 s2 H7 m7 k7 e7 d7 g07 gc7 go7 t7 => ?_⟩
    have t6 := New.kpl d e7 t6
    have t7 := New.old e6 d6 t7
    have e7 := e6.trans e7
    refine ⟨small100 (n := 2) (by decide), fun u nu => ⟨small100 (n := 4) (by decide), fun t nt => ⟨small100 (n := 1) (by decide), fun a na => ?_⟩⟩⟩
    have s8 := same_upd (o := .lst [V.ref b1, V.ref b2]) nu
    have hu : (upd H7 u (.lst [V.ref b1, V.ref b2])) u = some (.lst [V.ref b1, V.ref b2]) := upd_same
    have nu' := e7.free d7.lst nu
    generalize upd H7 u (.lst [V.ref b1, V.ref b2]) = H8 at *
    have st := same_upd (o := .tup [V.str "call", V.int pn, V.bl sb, V.ref u]) nt
    have s9 := s8.trans st
    exact hfin _ (.ref t) (.call pn sb s1 s2) m7 k7 (e7.trans (KpL.of s9)) (d7.same s9) g07 (by simp only [Stm.cnt]; omega) ⟨by omega, by omega, ⟨Stm.okd (l := 0) (many := 0) (x := 0) (by omega), go6⟩, Stm.okd (l := 0) (many := 0) (x := 0) (by omega), go7⟩
      ⟨t, _, rfl, upd_same, .cons rfl (.cons rfl (.cons rfl (.cons ⟨u, _, rfl, nu', st _ _ hu, .cons (t6.same s9) (.cons (t7.same s9) .nil)⟩ .nil)))⟩ a na
theorem none_piece (T : Top w K mg) : FnOk P w K mg base CX0 3 T.a__law_piece T.d__law_piece ["_law_pool_here", "_law_mood", "_law_level", "_law_room", "_law_calls", "_law_low"] (spD 1 0) := by
  have no : ∀ vs H Q E, ¬ spD 1 0 vs H Q E := fun vs H Q E ⟨_, _, _, _, _, _, _, m, _, _, _, _, _, ⟨_, _, _, _, _, _, h1, _, h2, _⟩, _⟩ => by omega
  exact ⟨fun vs H Q E h => absurd h (no vs H Q E), fun A outer s H args us vs Q E _ _ _ _ h => absurd h (no vs H Q E)⟩
theorem all_piece (T : Top w K mg) : ∀ n : Nat, FnOk P w K mg base CX0 (2 * n + 3) T.a__law_piece T.d__law_piece ["_law_pool_here", "_law_mood", "_law_level", "_law_room", "_law_calls", "_law_low"] (spD 1 n)
  | 0 => none_piece T
  | n + 1 => ok_piece_step T n (all_piece T n) (ok_block_step T n (all_piece T n))
theorem ok__law_piece (T : Top w K mg) : FnOk P w K mg base CX0 19 T.a__law_piece T.d__law_piece ["_law_pool_here", "_law_mood", "_law_level", "_law_room", "_law_calls", "_law_low"] (spD 1 8) := all_piece T 8

--SPLIT
def sp__law_around : Sp := fun vs H Q _ => ∃ (p r c : Addr) (L many : Nat) (mood m k : Int), vs = [.ref p, .int mood, .ref r, .ref c] ∧ Sep p r c ∧ Drw H p r c L m k many ∧ (2 ≤ L ∧ L ≤ 64 ∧ 0 ≤ mood ∧ mood < 8 ∧ 4 ≤ m ∧ 1 ≤ many ∧ many ≤ 3) ∧
  ∀ (q : Addr) (ss : List Stm) (H' : Hp) (m' k' : Int), KpL (MM p r c) H H' → Drw H' p r c L m' k' many → 0 ≤ m' → m' + cntB ss = m → okB many ss 0 → Tr (New H) H' (bD ss) (.ref q) → Q (.ref q) H'
theorem ok__law_around (T : Top w K mg) : FnOk P w K mg base CX0 3 T.a__law_around T.d__law_around ["_law_pool_here", "_law_mood", "_law_room", "_law_calls"] sp__law_around := by
  refine T.F__law_around.ok sc__law_around (fun vs H Q E h => ?_) (fun cdv A outer s H vs Q E hr h => ?_)
  · obtain ⟨p, r, c, L, many, mood, m, k, rfl, _⟩ := h
    rfl
  · obtain ⟨p, r, c, L, many, mood, m, k, rfl, sep, d, ⟨h2, h64, md0, md8, hm4, hm1, hm3⟩, q⟩ := h
    refine ⟨_, (pss_cons (ps_augS (pv 2) pe_int (k_getL K) pe_int ip_sub set_list)
      (pss_cons (ps_augS (pv 3) pe_int (k_getL K) pe_int ip_sub set_list)
      (pss_cons (ps_set (i := 4) sc__law_around.nd rfl (Or.inl rfl) (pe_call (ok__law_draw T) (hr.mono (by decide)) (by rfl) T.g__law_draw T.F__law_draw.kp (b__law_draw T) .nil pass0 (pa_cons (pv 0) (pa_cons (pe_ix (k_ixL K) (pv 3) pe_int (fun _ _ => rfl)) pa_nil))))
      (pss_cons (ps_set (i := 5) sc__law_around.nd rfl (Or.inl rfl) (pe_cmpR op_eq (pe_call (ok__law_draw T) (hr.mono (by decide)) (by rfl) T.g__law_draw T.F__law_draw.kp (b__law_draw T) .nil pass0 (pa_cons (pv 0) (pa_cons pe_int pa_nil))) pe_int (nomark _)))
      (pss_cons (ps_set (i := 6) sc__law_around.nd rfl (Or.inl rfl) (pe_call (ok__law_draw T) (hr.mono (by decide)) (by rfl) T.g__law_draw T.F__law_draw.kp (b__law_draw T) .nil pass0 (pa_cons (pv 0) (pa_cons pe_int pa_nil))))
      (pss_cons (ps_set (i := 7) sc__law_around.nd rfl (Or.inl rfl) (pe_lst (pa_cons (pe_call (ok__law_command T) hr (by rfl) T.g__law_command T.F__law_command.kp (b__law_command T) .nil pass0 (pa_cons (pv 0) (pa_cons (pv 1) pa_nil))) (pa_cons (pe_call (ok__law_command T) hr (by rfl) T.g__law_command T.F__law_command.kp (b__law_command T) .nil pass0 (pa_cons (pv 0) (pa_cons (pv 1) pa_nil))) pa_nil))))
      (C8.pss_cut (ps_if (pt_cmpR op_eq (pe_call (ok__law_draw T) (hr.mono (by decide)) (by rfl) T.g__law_draw T.F__law_draw.kp (b__law_draw T) .nil pass0 (pa_cons (pv 0) (pa_cons pe_int pa_nil))) pe_int (nomark _)) (pss_one (ps_set (i := 7) sc__law_around.nd rfl (Or.inl rfl) (pe_call (ok__law_pair T) hr (by rfl) T.g__law_pair T.F__law_pair.kp (b__law_pair T) .nil pass0 (pa_cons (pv 0) (pa_cons (pv 1) pa_nil))))) pss_nil)
      (pss_cons (ps_set (i := 8) sc__law_around.nd rfl (Or.inl rfl) (pe_lst (pa_cons (pe_lst pa_nil) (pa_cons (pe_lst (pa_cons (pe_ix (k_ixL K) (pv 7) pe_int (fun _ _ => rfl)) (pa_cons (pe_tup (pa_cons pe_str (pa_cons (pv 4) (pa_cons (pv 5) (pa_cons (pe_lst (pa_cons (pe_lst pa_nil) (pa_cons (pe_lst pa_nil) pa_nil))) pa_nil))))) (pa_cons (pe_ix (k_ixL K) (pv 7) pe_int (fun _ _ => rfl)) pa_nil)))) pa_nil))))
      (pss_one (ps_ret (pe_lst (pa_cons (pe_tup (pa_cons pe_str (pa_cons (pe_ix (k_ixL K) (pv 8) (pv 6) (fun _ _ => rfl)) (pa_cons (pe_ix (k_ixL K) (pv 8) (pe_op op_sub pe_int (pv 6)) (fun _ _ => rfl)) pa_nil)))) pa_nil)))))))))))), ?_⟩
    refine ⟨_, rfl, r, _, 0, .int m, rfl, rfl, by decide, SqL.of d.r, rfl, m, 4, rfl, rfl, r, _, 0, 0, rfl, rfl, d.r, rfl, ?_⟩
    generalize hJ : upd H r _ = H1
    have e1 : KpL (MM p r c) H H1 := by
      rw [← hJ]
      exact KpL.refl.put (.inr (.inl rfl)) ⟨_, d.r⟩
    have d1 : Drw H1 p r c L (m - 4) k many := by
      rw [← hJ]
      exact d.room sep (m - 4)
    clear hJ
    refine ⟨_, rfl, c, _, 0, .int k, rfl, rfl, by decide, SqL.of d1.c, rfl, k, 1, rfl, rfl, c, _, 0, 0, rfl, rfl, d1.c, rfl, ?_⟩
    generalize hJ : upd H1 c _ = H2
    have e2 : KpL (MM p r c) H H2 := by
      rw [← hJ]
      exact e1.put (.inr (.inr rfl)) ⟨_, d.c⟩
    have d2 : Drw H2 p r c L (m - 4) (k - 1) many := by
      rw [← hJ]
      exact d1.calls sep (k - 1)
    clear hJ
    refine ⟨_, rfl, _, rfl, c, _, 1, _, rfl, rfl, SqL.of d2.c, at_of (j := 1) (by decide) rfl, p, L, _, rfl, d2.pl, h2, h64, by omega, by omega, fun gl H3 w0 w1 e3 pl3 => ?_⟩
    have d3 := d2.kp sep e3 pl3
    have e3 := e2.trans (d2.gone sep e3)
    refine ⟨_, rfl, p, L, 3, rfl, d3.pl, h2, h64, by decide, by decide, fun sv H4 v0 v1 e4 pl4 => ?_⟩
    have d4 := d3.kp sep e4 pl4
    have e4 := e3.trans (d3.gone sep e4)
    refine ⟨rfl, ?_⟩
    generalize decide (V.int sv = V.int 0) = sb
    obtain ⟨pn, hpn⟩ : ∃ pn : Nat, gl = (pn : Int) := ⟨gl.toNat, by omega⟩
    subst hpn
    refine ⟨_, rfl, p, L, 2, rfl, d4.pl, h2, h64, by decide, by decide, fun at_ H5 a0 a1 e5 pl5 => ?_⟩
    have d5 := d4.kp sep e5 pl5
    have e5 := e4.trans (d4.gone sep e5)
    refine ⟨_, rfl, _, rfl, p, L, mood, rfl, d5.pl, h2, h64, md0, md8, fun q1 c1 H6 ok1 e6 pl6 nq1 hq1 => ?_⟩
    have d6 := d5.kp sep e6 pl6
    have nq1 := e5.free d5.lst nq1
    have e6 := e5.trans (d5.gone sep e6)
    refine ⟨_, rfl, _, rfl, p, L, mood, rfl, d6.pl, h2, h64, md0, md8, fun q2 c2 H7 ok2 e7 pl7 nq2 hq2 => ?_⟩
    have d7 := d6.kp sep e7 pl7
    have e67 := d6.gone sep e7
    have e7 := e6.trans e67
    refine ⟨small100 (n := 2) (by decide), fun b nb => ?_⟩
    have t8 : Tr (New H) (upd H7 b (.lst [V.ref q1, V.ref q2])) (.list [c1.d, c2.d]) (.ref b) := ⟨b, _, rfl, e7.free d7.lst nb, upd_same, .cons ⟨q1, _, rfl, by rw [upd_ne (ne_of_none (e67.tup hq1) nb)]; exact e67.tup hq1, .cons rfl (TrAll.ofInts _)⟩ (.cons ⟨q2, _, rfl, by rw [upd_ne (ne_of_none hq2 nb)]; exact hq2, .cons rfl (TrAll.ofInts _)⟩ .nil)⟩
    have d8 := d7.new (o := .lst [V.ref q1, V.ref q2]) nb
    have e8 := e7.trans (KpL.of (same_upd (o := .lst [V.ref q1, V.ref q2]) nb))
    generalize upd H7 b _ = H8 at *
    refine ⟨fun σ J => ∃ (b : Addr) (c1 c2 : Cm), σ = [some (.ref p), some (.int mood), some (.ref r), some (.ref c), some (.int pn), some (.bl sb), some (.int at_), some (.ref b), none] ∧ KpL (MM p r c) H J ∧ Drw J p r c L (m - 4) (k - 1) many ∧ c1.ok ∧ c2.ok ∧ Tr (New H) J (.list [c1.d, c2.d]) (.ref b), ?_, fun σ J hm => ?_⟩
    · refine ⟨_, rfl, p, L, 2, rfl, d8.pl, h2, h64, by decide, by decide, fun z H9 z0 z1 e9 pl9 => ?_⟩
      have d9 := d8.kp sep e9 pl9
      have t9 := New.kpl d (d8.gone sep e9) t8
      have e9 := e8.trans (d8.gone sep e9)
      refine ⟨rfl, _, rfl, ite2 (fun g => ?_) (fun g => ⟨b, c1, c2, rfl, e9, d9, ok1, ok2, t9⟩)⟩
      refine ⟨_, rfl, _, rfl, p, L, mood, rfl, d9.pl, h2, h64, fun qa c1 c2 H4 ok1 ok2 e4 pl4 t4 => ?_⟩
      exact ⟨qa, c1, c2, rfl, e9.trans (d9.gone sep e4), d9.kp sep e4 pl4, ok1, ok2, New.old e9 d9 t4⟩
    obtain ⟨b, c1, c2, rfl, e9, d9, ok1, ok2, t9⟩ := hm
    obtain ⟨ps, nb9, hb9, tp⟩ := t9.lst
    obtain ⟨x1, _, rfl, tx1, x2, _, rfl, tx2, rfl⟩ := tp
    have free : ∀ {J' : Hp} {a : Addr}, Same J J' → J' a = none → H a = none := fun s n => (e9.trans (KpL.of s)).free (d9.same s).lst n
    refine ⟨small100 (n := 0) (by decide), fun y0 n0 => ?_⟩
    have s0 := same_upd (o := .lst []) n0
    have h0 : (upd J y0 (.lst [])) y0 = some (.lst []) := upd_same
    have z0 := free (Same.refl _) n0
    generalize upd J y0 _ = J0 at *
    refine ⟨_, rfl, b, _, 0, x1, rfl, rfl, SqL.of (s0 _ _ hb9), at_of (j := 0) (by decide) rfl, _, rfl, _, rfl, ?_⟩
    refine ⟨small100 (n := 0) (by decide), fun y1 n1 => ?_⟩
    have z1 := free s0 n1
    have s1 := s0.trans (same_upd (o := .lst []) n1)
    have h0 := same_upd (o := .lst []) n1 _ _ h0
    have h1 : (upd J0 y1 (.lst [])) y1 = some (.lst []) := upd_same
    generalize upd J0 y1 _ = J1 at *
    refine ⟨small100 (n := 0) (by decide), fun y2 n2 => ?_⟩
    have z2 := free s1 n2
    have s2 := s1.trans (same_upd (o := .lst []) n2)
    have h0 := same_upd (o := .lst []) n2 _ _ h0
    have h1 := same_upd (o := .lst []) n2 _ _ h1
    have h2' : (upd J1 y2 (.lst [])) y2 = some (.lst []) := upd_same
    generalize upd J1 y2 _ = J2 at *
    refine ⟨small100 (n := 2) (by decide), fun y3 n3 => ?_⟩
    have z3 := free s2 n3
    have w3 := same_upd (o := .lst [V.ref y1, V.ref y2]) n3
    have s3 := s2.trans w3
    have h0 := w3 _ _ h0
    have h1 := w3 _ _ h1
    have h2' := w3 _ _ h2'
    have h3 : (upd J2 y3 (.lst [V.ref y1, V.ref y2])) y3 = some (.lst [V.ref y1, V.ref y2]) := upd_same
    generalize upd J2 y3 _ = J3 at *
    refine ⟨small100 (n := 4) (by decide), fun y4 n4 => ?_⟩
    have w4 := same_upd (o := .tup [V.str "call", V.int pn, V.bl sb, V.ref y3]) n4
    have s4 := s3.trans w4
    have tc : Tr (New H) (upd J3 y4 (.tup [V.str "call", V.int pn, V.bl sb, V.ref y3])) (Stm.call pn sb [] []).d (.ref y4) :=
      ⟨y4, _, rfl, upd_same, .cons rfl (.cons rfl (.cons rfl (.cons ⟨y3, _, rfl, z3, w4 _ _ h3, .cons ⟨y1, _, rfl, z1, w4 _ _ h1, rfl⟩ (.cons ⟨y2, _, rfl, z2, w4 _ _ h2', rfl⟩ .nil)⟩ .nil)))⟩
    have h0 := w4 _ _ h0
    generalize upd J3 y4 _ = J4 at *
    refine ⟨_, rfl, b, _, 1, x2, rfl, rfl, SqL.of (s4 _ _ hb9), at_of (j := 1) (by decide) rfl, small100 (n := 3) (by decide), fun y5 n5 => ?_⟩
    have z5 := free s4 n5
    have w5 := same_upd (o := .lst [x1, V.ref y4, x2]) n5
    have s5 := s4.trans w5
    have h0 := w5 _ _ h0
    have h5 : (upd J4 y5 (.lst [x1, V.ref y4, x2])) y5 = some (.lst [x1, V.ref y4, x2]) := upd_same
    have tc := tc.same w5
    generalize upd J4 y5 _ = J5 at *
    refine ⟨small100 (n := 2) (by decide), fun y6 n6 => ?_⟩
    have w6 := same_upd (o := .lst [V.ref y0, V.ref y5]) n6
    have s6 := s5.trans w6
    have h0 := w6 _ _ h0
    have h5 := w6 _ _ h5
    have tc := tc.same w6
    have h6 : (upd J5 y6 (.lst [V.ref y0, V.ref y5])) y6 = some (.lst [V.ref y0, V.ref y5]) := upd_same
    generalize upd J5 y6 _ = J6 at *
    have t0 : Tr (New H) J6 (bD []) (.ref y0) := ⟨y0, _, rfl, z0, h0, rfl⟩
    have t5 : Tr (New H) J6 (bD [.cmd c1, .call pn sb [] [], .cmd c2]) (.ref y5) := ⟨y5, _, rfl, z5, h5, .cons (tx1.same s6) (.cons tc (.cons (tx2.same s6) .nil))⟩
    have okr : okB many [Stm.cmd c1, .call pn sb [] [], .cmd c2] 1 := ⟨ok1, ⟨by decide, by omega, ⟨by decide, True.intro⟩, by decide, True.intro⟩, ok2, True.intro⟩
    have fin : ∀ (t : Addr) (a1 a2 : V) (s1 s2 : List Stm), Tr (New H) J6 (bD s1) a1 → Tr (New H) J6 (bD s2) a2 → s1.length ≤ 8 → s2.length ≤ 8 → okB many s1 1 → okB many s2 1 → cntB s1 + cntB s2 = 3 → J6 t = none → ∀ a, (upd J6 t (.tup [V.str "either", a1, a2])) a = none → Q (.ref a) (upd (upd J6 t (.tup [V.str "either", a1, a2])) a (.lst [.ref t])) := by
      intro t a1 a2 s1 s2 ta1 ta2 l1 l2 o1 o2 hc nt a na
      have w7 := same_upd (o := .tup [V.str "either", a1, a2]) nt
      have w8 := w7.trans (same_upd (o := .lst [V.ref t]) na)
      have s8 := s6.trans w8
      refine q a [.either s1 s2] _ (m - 4) (k - 1) (e9.trans (KpL.of s8)) (d9.same s8) (by omega) (by simp only [cntB, Stm.cnt]; omega) ⟨⟨by decide, ⟨l1, o1⟩, l2, o2⟩, True.intro⟩ ⟨a, _, rfl, free (s6.trans w7) na, upd_same, .cons ⟨t, _, rfl, same_upd na _ _ upd_same, .cons rfl (.cons (ta1.same w8) (.cons (ta2.same w8) .nil))⟩ .nil⟩
    rcases (show at_ = 0 ∨ at_ = 1 by omega) with rfl | rfl
    · refine ⟨_, rfl, _, rfl, y6, _, _, _, rfl, rfl, SqL.of h6, at_of (j := 0) (by decide) rfl, _, rfl, _, rfl, _, _, rfl, rfl, y6, _, _, _, rfl, rfl, SqL.of h6, at_of (j := 1) (by decide) rfl, small100 (n := 3) (by decide), fun t nt => ⟨small100 (n := 1) (by decide), fun a na => ?_⟩⟩
      exact fin t _ _ _ _ t0 t5 (by decide) (by show 3 ≤ 8; decide) True.intro okr (by simp only [cntB, Stm.cnt]) nt a na
    · refine ⟨_, rfl, _, rfl, y6, _, _, _, rfl, rfl, SqL.of h6, at_of (j := 1) (by decide) rfl, _, rfl, _, rfl, _, _, rfl, rfl, y6, _, _, _, rfl, rfl, SqL.of h6, at_of (j := 0) (by decide) rfl, small100 (n := 3) (by decide), fun t nt => ⟨small100 (n := 1) (by decide), fun a na => ?_⟩⟩
      exact fin t _ _ _ _ t5 t0 (by show 3 ≤ 8; decide) (by decide) okr True.intro (by simp only [cntB, Stm.cnt]) nt a na

def sp__law_body : Sp := fun vs H Q _ => ∃ (p r c : Addr) (L many : Nat) (mood m k low : Int), vs = [.ref p, .int mood, .ref r, .ref c, .int low] ∧ Sep p r c ∧ Drw H p r c L m k many ∧ (2 ≤ L ∧ L ≤ 64 ∧ 0 ≤ mood ∧ mood < 8 ∧ 0 ≤ low ∧ 0 ≤ m ∧ m ≤ 6 ∧ 1 ≤ many ∧ many ≤ 3) ∧
  ∀ (q : Addr) (ss : List Stm) (H' : Hp) (m' k' : Int), KpL (MM p r c) H H' → Drw H' p r c L m' k' many → (cntB ss : Int) ≤ m + 2 → okB many ss 0 → Tr (New H) H' (bD ss) (.ref q) → Q (.ref q) H'
theorem ok__law_body (T : Top w K mg) : FnOk P w K mg base CX0 20 T.a__law_body T.d__law_body ["_law_pool_here", "_law_mood", "_law_room", "_law_calls", "_law_low"] sp__law_body := by
  refine T.F__law_body.ok sc__law_body (fun vs H Q E h => ?_) (fun cdv A outer s H vs Q E hr h => ?_)
  · obtain ⟨p, r, c, L, many, mood, m, k, low, rfl, _⟩ := h
    rfl
  · obtain ⟨p, r, c, L, many, mood, m, k, low, rfl, sep, d, ⟨h2, h64, md0, md8, hlow, hm0, hm6, hm1, hm3⟩, q⟩ := h
    refine ⟨_, (pss_cons (ps_set (i := 5) sc__law_body.nd rfl (Or.inl rfl) (pe_call (ok__law_draw T) (hr.mono (by decide)) (by rfl) T.g__law_draw T.F__law_draw.kp (b__law_draw T) .nil pass0 (pa_cons (pv 0) (pa_cons pe_int pa_nil))))
      (pss_cons (ps_set (i := 6) sc__law_body.nd rfl (Or.inl rfl) (pe_lst pa_nil))
      (C8.pss_cut (ps_if (PW.pt (pw_and (pt_cmpR op_eq (pe_call (ok__law_draw T) (hr.mono (by decide)) (by rfl) T.g__law_draw T.F__law_draw.kp (b__law_draw T) .nil pass0 (pa_cons (pv 0) (pa_cons pe_int pa_nil))) pe_int (nomark _)) (pw_and (pt_cmpR op_gt (pe_ix (k_ixL K) (pv 2) pe_int (fun _ _ => rfl)) pe_int (nomark _)) (pw_and1 (pt_cmpR op_gt (pe_ix (k_ixL K) (pv 3) pe_int (fun _ _ => rfl)) pe_int (nomark _)))))) (pss_one (ps_set (i := 6) sc__law_body.nd rfl (Or.inl rfl) (pe_call (ok__law_around T) (hr.mono (by decide)) (by rfl) T.g__law_around T.F__law_around.kp (b__law_around T) .nil pass0 (pa_cons (pv 0) (pa_cons (pv 1) (pa_cons (pv 2) (pa_cons (pv 3) pa_nil))))))) pss_nil)
      (pss_cons (ps_for PassesOwn.never rfl (pi_range1 (by rfl) T.z_range (pa_cons (pe_op op_add pe_int (pe_call (ok__law_draw T) (hr.mono (by decide)) (by rfl) T.g__law_draw T.F__law_draw.kp (b__law_draw T) .nil pass0 (pa_cons (pv 0) (pa_cons pe_int pa_nil)))) pa_nil)) (pg_name (i := 7) sc__law_body.nd rfl (Or.inl rfl)) (pss_one (ps_if (pt_cmpR op_gt (pe_ix (k_ixL K) (pv 2) pe_int (fun _ _ => rfl)) pe_int (nomark _)) (pss_one (ps_set (i := 6) sc__law_body.nd rfl (Or.inl rfl) (pe_op op_cat (pv 6) (pe_call (ok__law_piece T) hr (by rfl) T.g__law_piece T.F__law_piece.kp (b__law_piece T) .nil pass0 (pa_cons (pv 0) (pa_cons (pv 1) (pa_cons pe_int (pa_cons (pv 2) (pa_cons (pv 3) (pa_cons (pv 4) pa_nil)))))))))) pss_nil)))
      (pss_cons (ps_set (i := 8) sc__law_body.nd rfl (Or.inl rfl) (pe_lst (pa_cons (pe_lst (pa_cons (pe_tup (pa_cons pe_str (pa_cons (pe_lst (pa_cons (pe_tup (pa_cons pe_str (pa_cons pe_int pa_nil))) pa_nil)) (pa_cons (pe_lst pa_nil) pa_nil)))) pa_nil)) (pa_cons (pe_lst (pa_cons (pe_tup (pa_cons pe_str (pa_cons pe_int pa_nil))) pa_nil)) pa_nil))))
      (pss_cons (ps_if (PW.pt (pw_or (pt_cmpR op_eq (pv 5) pe_int (nomark _)) (pw_or1 (pt_cmpR op_eq (pv 5) pe_int (nomark _))))) (pss_one (ps_ret (pe_op op_cat (pv 6) (pe_ix (k_ixL K) (pv 8) (pe_op op_fdiv (pv 5) pe_int) (fun _ _ => rfl))))) pss_nil)
      (pss_cons (ps_if (pt_cmpR op_eq (pv 5) pe_int (nomark _)) (pss_one (ps_ret (pe_op op_cat (pe_ix (k_ixL K) (pv 8) pe_int (fun _ _ => rfl)) (pv 6)))) pss_nil)
      (pss_one (ps_ret (pv 6)))))))))), ?_⟩
    refine ⟨_, rfl, p, L, 6, rfl, d.pl, h2, h64, by decide, by decide, fun en H1 en0 en1 e1 pl1 => ?_⟩
    have d1 := d.kp sep e1 pl1
    have e1 := d.gone sep e1
    refine ⟨small100 (n := 0) (by decide), fun b nb => ?_⟩
    have d2 := d1.new (o := .lst []) nb
    have e2 : KpL (MM p r c) H (upd H1 b (.lst [])) := e1.trans (KpL.of (same_upd nb))
    have t2 : Tr (New H) (upd H1 b (.lst [])) (bD []) (.ref b) := ⟨b, [], rfl, e1.free d1.lst nb, upd_same, TrAll.nil⟩
    generalize upd H1 b _ = H2 at *
    refine ⟨fun σ J => ∃ (b : Addr) (ss : List Stm) (m' k' : Int), σ = [some (.ref p), some (.int mood), some (.ref r), some (.ref c), some (.int low), some (.int en), some (.ref b), none, none] ∧ KpL (MM p r c) H J ∧ Drw J p r c L m' k' many ∧ 0 ≤ m' ∧ m' + cntB ss = m ∧ okB many ss 0 ∧ Tr (New H) J (bD ss) (.ref b), ?_, fun σ J hm => ?_⟩
    · refine ⟨_, rfl, p, L, 2, rfl, d2.pl, h2, h64, by decide, by decide, fun z H3 z0 z1 e3 pl3 => ?_⟩
      have d3 := d2.kp sep e3 pl3
      have t3 := New.kpl d (d2.gone sep e3) t2
      have e3 := e2.trans (d2.gone sep e3)
      have no : (fun (σ : List (Option V)) (J : Hp) => ∃ (b : Addr) (ss : List Stm) (m' k' : Int), σ = [some (.ref p), some (.int mood), some (.ref r), some (.ref c), some (.int low), some (.int en), some (.ref b), none, none] ∧ KpL (MM p r c) H J ∧ Drw J p r c L m' k' many ∧ 0 ≤ m' ∧ m' + cntB ss = m ∧ okB many ss 0 ∧ Tr (New H) J (bD ss) (.ref b)) [some (.ref p), some (.int mood), some (.ref r), some (.ref c), some (.int low), some (.int en), some (.ref b), none, none] H3 :=
        ⟨b, [], m, k, rfl, e3, d3, hm0, by simp only [cntB]; omega, True.intro, t3⟩
      refine ⟨rfl, _, rfl, ite2 (fun g => ?_) (fun g => no)⟩
      refine ⟨_, rfl, r, _, 0, _, rfl, rfl, SqL.of d3.r, at_of (j := 0) (by decide) rfl, _, _, rfl, rfl, _, rfl, ite2 (fun g2 => ?_) (fun g2 => no)⟩
      refine ⟨_, rfl, c, _, 0, _, rfl, rfl, SqL.of d3.c, at_of (j := 0) (by decide) rfl, _, _, rfl, rfl, _, rfl, ite2 (fun g3 => ?_) (fun g3 => no)⟩
      have g2 : m > 3 := of_decide_eq_true g2
      refine ⟨_, rfl, _, rfl, _, rfl, _, rfl, p, r, c, L, many, mood, m, k, rfl, sep, d3, ⟨h2, h64, md0, md8, by omega, hm1, hm3⟩, fun q4 ss H4 m4 k4 e4 d4 g0 gc go t4 => ?_⟩
      exact ⟨q4, ss, m4, k4, rfl, e3.trans e4, d4, g0, gc, go, New.old e3 d3 t4⟩
    obtain ⟨b, ss, m3, k3, rfl, e3, d3, g30, gc3, go3, t3⟩ := hm
    refine ⟨_, rfl, p, L, 4, rfl, d3.pl, h2, h64, by decide, by decide, fun i H4 i0 i1 e4 pl4 => ?_⟩
    have d4 := d3.kp sep e4 pl4
    have t4 := New.kpl d (d3.gone sep e4) t3
    have e4 := e3.trans (d3.gone sep e4)
    refine ⟨_, _, rfl, rfl, 1 + i, rfl, by omega, by omega, for_range (n := (1 + i).toNat) (fun j σ H' => ∃ (y7 : Option V) (b : Addr) (ss : List Stm) (m' k' : Int), σ = [some (.ref p), some (.int mood), some (.ref r), some (.ref c), some (.int low), some (.int en), some (.ref b), y7, none] ∧ KpL (MM p r c) H H' ∧ Drw H' p r c L m' k' many ∧ 0 ≤ m' ∧ m' + cntB ss = m ∧ okB many ss 0 ∧ Tr (New H) H' (bD ss) (.ref b))
      ⟨none, b, ss, m3, k3, rfl, e4, d4, g30, gc3, go3, t4⟩ (fun j σ H' hj h => ?_) (fun σ H' h => ?_)⟩
    · obtain ⟨y7, b, ss, m', k', rfl, e, d', hm', hc, ho, t⟩ := h
      refine ⟨_, rfl, r, _, 0, _, rfl, rfl, SqL.of d'.r, at_of (j := 0) (by decide) rfl, _, _, rfl, rfl, _, rfl, ite2 (fun g => ?_) (fun g => ?_)⟩
      · have g : m' > 0 := of_decide_eq_true g
        refine ⟨_, rfl, _, rfl, _, rfl, _, rfl, _, rfl, _, rfl, ?_⟩
        refine ⟨p, r, c, L, 0, many, mood, m', k', low, rfl, sep, d', ⟨h2, h64, md0, md8, by decide, hlow, by omega, by omega, by omega, hm3⟩, fun q2 ss2 H3 m2 k2 e3 d3 g0 hc2 ho2 t3 => ?_⟩
        have t := New.kpl d e3 t
        have e4 := e.trans e3
        have t3 := New.old e d' t3
        obtain ⟨xs, nb', hb', tx⟩ := t.lst
        obtain ⟨ys, nq2, hq2, ty⟩ := t3.lst
        have lx := tx.len
        have ly := ty.len
        rw [blkD_len] at lx ly
        have c1 := len_cntB ss
        have c2 := len_cntB ss2
        refine ⟨_, q2, xs, ys, rfl, rfl, hb', hq2, small100 (by omega), fun z nz => ?_⟩
        have e5 := e4.trans (KpL.of (M := MM p r c) (same_upd (o := .lst (xs ++ ys)) nz))
        refine ⟨_, z, ss ++ ss2, m2, k2, rfl, e5, d3.new nz, g0, by rw [cntB_append]; omega, okB_append ho ho2, z, xs ++ ys, rfl, e4.free d3.lst nz, upd_same, ?_⟩
        rw [blkD_append]
        exact (tx.append ty).same (same_upd nz)
      · exact ⟨_, b, ss, m', k', rfl, e, d', hm', hc, ho, t⟩
    · obtain ⟨y7, b, ss, m5, k5, rfl, e5, d5, hm5, hc5, ho5, t5⟩ := h
      clear d1 d2 d3 d4 e1 e2 e3 e4 t2 t3 t4 pl1 pl4
      have free : ∀ {J' : Hp} {a : Addr}, Same H' J' → J' a = none → H a = none := fun s n => (e5.trans (KpL.of s)).free (d5.same s).lst n
      refine ⟨small100 (n := 2) (by decide), fun t1 n1 => ?_⟩
      have w1 := same_upd (o := .tup [V.str "end", V.int 1]) n1
      have x1 : Tr (New H) (upd H' t1 (.tup [V.str "end", V.int 1])) (Stm.fin true).d (.ref t1) := ⟨t1, _, rfl, upd_same, .cons rfl (.cons rfl .nil)⟩
      have s1 := w1
      generalize upd H' t1 _ = J1 at *
      refine ⟨small100 (n := 1) (by decide), fun l1 n2 => ?_⟩
      have w2 := same_upd (o := .lst [V.ref t1]) n2
      have x2 : Tr (New H) (upd J1 l1 (.lst [V.ref t1])) (bD [.fin true]) (.ref l1) := ⟨l1, _, rfl, free s1 n2, upd_same, .cons (x1.same w2) .nil⟩
      have s2 := s1.trans w2
      generalize upd J1 l1 _ = J2 at *
      refine ⟨small100 (n := 0) (by decide), fun l2 n3 => ?_⟩
      have w3 := same_upd (o := .lst []) n3
      have x3 : Tr (New H) (upd J2 l2 (.lst [])) (bD []) (.ref l2) := ⟨l2, _, rfl, free s2 n3, upd_same, .nil⟩
      have x2 := x2.same w3
      have s3 := s2.trans w3
      generalize upd J2 l2 _ = J3 at *
      refine ⟨small100 (n := 3) (by decide), fun t2 n4 => ?_⟩
      have w4 := same_upd (o := .tup [V.str "either", V.ref l1, V.ref l2]) n4
      have x4 : Tr (New H) (upd J3 t2 (.tup [V.str "either", V.ref l1, V.ref l2])) (Stm.either [.fin true] []).d (.ref t2) := ⟨t2, _, rfl, upd_same, .cons rfl (.cons (x2.same w4) (.cons (x3.same w4) .nil))⟩
      have s4 := s3.trans w4
      generalize upd J3 t2 _ = J4 at *
      refine ⟨small100 (n := 1) (by decide), fun l3 n5 => ?_⟩
      have w5 := same_upd (o := .lst [V.ref t2]) n5
      have x5 : Tr (New H) (upd J4 l3 (.lst [V.ref t2])) (bD [.either [.fin true] []]) (.ref l3) := ⟨l3, _, rfl, free s4 n5, upd_same, .cons (x4.same w5) .nil⟩
      have s5 := s4.trans w5
      generalize upd J4 l3 _ = J5 at *
      refine ⟨small100 (n := 2) (by decide), fun t4 n6 => ?_⟩
      have w6 := same_upd (o := .tup [V.str "end", V.int 1]) n6
      have x6 : Tr (New H) (upd J5 t4 (.tup [V.str "end", V.int 1])) (Stm.fin true).d (.ref t4) := ⟨t4, _, rfl, upd_same, .cons rfl (.cons rfl .nil)⟩
      have x5 := x5.same w6
      have s6 := s5.trans w6
      generalize upd J5 t4 _ = J6 at *
      refine ⟨small100 (n := 1) (by decide), fun l4 n7 => ?_⟩
      have w7 := same_upd (o := .lst [V.ref t4]) n7
      have x7 : Tr (New H) (upd J6 l4 (.lst [V.ref t4])) (bD [.fin true]) (.ref l4) := ⟨l4, _, rfl, free s6 n7, upd_same, .cons (x6.same w7) .nil⟩
      have x5 := x5.same w7
      have s7 := s6.trans w7
      generalize upd J6 l4 _ = J7 at *
      refine ⟨small100 (n := 2) (by decide), fun l5 n8 => ?_⟩
      have w8 := same_upd (o := .lst [V.ref l3, V.ref l4]) n8
      have x7 := x7.same w8
      have x5 := x5.same w8
      have s8 := s7.trans w8
      have h8 : (upd J7 l5 (.lst [V.ref l3, V.ref l4])) l5 = some (.lst [V.ref l3, V.ref l4]) := upd_same
      generalize upd J7 l5 _ = J8 at *
      have t5 := t5.same s8
      have oke : okB many [Stm.either [.fin true] []] 0 := ⟨⟨by decide, ⟨by decide, True.intro, True.intro⟩, by decide, True.intro⟩, True.intro⟩
      have okf : okB many [Stm.fin true] 0 := ⟨True.intro, True.intro⟩
      have fin : ∀ (a1 a2 : Addr) (ss1 ss2 : List Stm), Tr (New H) J8 (bD ss1) (.ref a1) → Tr (New H) J8 (bD ss2) (.ref a2) → okB many ss1 0 → okB many ss2 0 → ((cntB ss1 + cntB ss2 : Nat) : Int) ≤ m + 2 → ∃ a b xs ys, V.ref a1 = V.ref a ∧ V.ref a2 = V.ref b ∧ J8 a = some (.lst xs) ∧ J8 b = some (.lst ys) ∧ xs.length + ys.length ≤ sizeLine ∧ ∀ p, J8 p = none → Q (.ref p) (upd J8 p (.lst (xs ++ ys))) := by
        intro a1 a2 ss1 ss2 ta1 ta2 o1 o2 hc
        obtain ⟨xs, n1', hb1, tx⟩ := ta1.lst
        obtain ⟨ys, n2', hb2, ty⟩ := ta2.lst
        have lx := tx.len
        have ly := ty.len
        rw [blkD_len] at lx ly
        have c1 := len_cntB ss1
        have c2 := len_cntB ss2
        refine ⟨a1, a2, xs, ys, rfl, rfl, hb1, hb2, small100 (by omega), fun z nz => ?_⟩
        have w9 := s8.trans (same_upd (o := .lst (xs ++ ys)) nz)
        refine q z (ss1 ++ ss2) _ m5 k5 (e5.trans (KpL.of w9)) (d5.same w9) (by rw [cntB_append]; exact hc) (okB_append o1 o2) ⟨z, _, rfl, free s8 nz, upd_same, ?_⟩
        rw [blkD_append]
        exact (tx.append ty).same (same_upd nz)
      refine ⟨_, rfl, rfl, _, rfl, ite2 (fun g => ?_) (fun g => ?_)⟩
      · have g : en = 1 := dec_int' g
        subst g
        refine ⟨_, rfl, _, rfl, _, rfl, _, _, rfl, rfl, ⟨by decide, by decide⟩, l5, _, _, _, rfl, rfl, SqL.of h8, at_of (j := 0) (by decide) rfl, ?_⟩
        exact fin b l3 ss [.either [.fin true] []] t5 x5 ho5 oke (by simp only [cntB, Stm.cnt]; omega)
      refine ⟨_, rfl, rfl, _, rfl, ite2 (fun g => ?_) (fun g => ?_)⟩
      · have g : en = 3 := dec_int' g
        subst g
        refine ⟨_, rfl, _, rfl, _, rfl, _, _, rfl, rfl, ⟨by decide, by decide⟩, l5, _, _, _, rfl, rfl, SqL.of h8, at_of (j := 1) (by decide) rfl, ?_⟩
        exact fin b l4 ss [.fin true] t5 x7 ho5 okf (by simp only [cntB, Stm.cnt]; omega)
      refine ⟨_, rfl, rfl, _, rfl, ite2 (fun g => ?_) (fun g => ?_)⟩
      · refine ⟨_, rfl, l5, _, 0, _, rfl, rfl, SqL.of h8, at_of (j := 0) (by decide) rfl, _, rfl, ?_⟩
        exact fin l3 b [.either [.fin true] []] ss x5 t5 oke ho5 (by simp only [cntB, Stm.cnt]; omega)
      · exact ⟨_, rfl, q b ss _ m5 k5 (e5.trans (KpL.of s8)) (d5.same s8) (by omega) ho5 t5⟩

def sp__law_book : Sp := fun vs H Q _ => ∃ (p : Addr) (L : Nat) (most size : Int), vs = [.ref p, .int most, .int size] ∧ Pool H p L ∧ 2 ≤ L ∧ L ≤ 64 ∧ 1 ≤ most ∧ most ≤ 3 ∧ 3 ≤ size ∧ size ≤ 8 ∧
  ∀ (q : Addr) (bs : List (List Stm)) (H' : Hp), Kp p H H' → Pool H' p L → OkBook bs → Tr (New H) H' (bookD bs) (.ref q) → (∃ xs, H q = none ∧ H' q = some (.lst xs) ∧ TrAll (fun a => H a = none ∧ a ≠ q) H' (bs.map bD) xs) → Q (.ref q) H'
theorem ok__law_book (T : Top w K mg) : FnOk P w K mg base CX0 21 T.a__law_book T.d__law_book ["_law_pool_here", "_law_most", "_law_size"] sp__law_book := by
  refine T.F__law_book.ok sc__law_book (fun vs H Q E h => ?_) (fun cdv A outer s H vs Q E hr h => ?_)
  · obtain ⟨p, L, most, size, rfl, _⟩ := h
    rfl
  · obtain ⟨p, L, most, size, rfl, pl, h2, h64, mo1, mo3, sz3, sz8, q⟩ := h
    refine ⟨_, (pss_cons (ps_set (i := 3) sc__law_book.nd rfl (Or.inl rfl) (pe_call (ok__law_draw T) (hr.mono (by decide)) (by rfl) T.g__law_draw T.F__law_draw.kp (b__law_draw T) .nil pass0 (pa_cons (pv 0) (pa_cons pe_int pa_nil))))
      (pss_cons (ps_set (i := 4) sc__law_book.nd rfl (Or.inl rfl) (pe_cmpR op_eq (pe_call (ok__law_draw T) (hr.mono (by decide)) (by rfl) T.g__law_draw T.F__law_draw.kp (b__law_draw T) .nil pass0 (pa_cons (pv 0) (pa_cons pe_int pa_nil))) pe_int (nomark _)))
      (pss_cons (ps_set (i := 5) sc__law_book.nd rfl (Or.inl rfl) (pe_op op_add pe_int (pe_call (ok__law_draw T) (hr.mono (by decide)) (by rfl) T.g__law_draw T.F__law_draw.kp (b__law_draw T) .nil pass0 (pa_cons (pv 0) (pa_cons (pv 1) pa_nil)))))
      (pss_cons (ps_set (i := 6) sc__law_book.nd rfl (Or.inl rfl) (pe_lst (pa_cons pe_int (pa_cons (pv 5) pa_nil))))
      (pss_cons (ps_set (i := 7) sc__law_book.nd rfl (Or.inl rfl) (pe_lst pa_nil))
      (pss_cons (ps_for PassesOwn.never rfl (pi_range1 (by rfl) T.z_range (pa_cons (pv 5) pa_nil)) (pg_name (i := 8) sc__law_book.nd rfl (Or.inl rfl)) (pss_cons (ps_set (i := 9) sc__law_book.nd rfl (Or.inl rfl) (pe_lst (pa_cons (pe_op op_sub (pe_op op_sub (pv 2) pe_int) (pe_callTy call_intB (by rfl) T.z_int bt_int (pa_cons (pe_cmpR op_gt (pv 5) pe_int (nomark _)) pa_nil))) pa_nil)))
        (pss_cons (ps_set (i := 10) sc__law_book.nd rfl (Or.inl rfl) (pe_op op_add (pv 8) pe_int))
        (C8.pss_cut (ps_if (pt_val (pv 4)) (pss_one (ps_set (i := 10) sc__law_book.nd rfl (Or.inl rfl) pe_int)) pss_nil)
        (pss_one (ps_expr (pe_bm PySem.F.plainAttrs_list PySem.F.slot_list_append PySem.F.type_list_append mt_append (pv 7) (pa_cons (pe_call (ok__law_body T) hr (by rfl) T.g__law_body T.F__law_body.kp (b__law_body T) .nil pass0 (pa_cons (pv 0) (pa_cons (pv 3) (pa_cons (pv 9) (pa_cons (pv 6) (pa_cons (pv 10) pa_nil)))))) pa_nil))))))))
      (pss_one (ps_ret (pv 7))))))))), ?_⟩
    refine ⟨_, rfl, p, L, 6, rfl, pl, h2, h64, by decide, by decide, fun mood H1 md0 md1 e1 pl1 => ?_⟩
    refine ⟨_, rfl, p, L, 8, rfl, pl1, h2, h64, by decide, by decide, fun wl H2 w0 w1 e2 pl2 => ?_⟩
    refine ⟨rfl, ?_⟩
    generalize decide (V.int wl = V.int 0) = wild
    refine ⟨_, rfl, _, rfl, p, L, most, rfl, pl2, h2, h64, by omega, by omega, fun mn H3 n0 n1 e3 pl3 => ?_⟩
    have e3 := e1.trans (e2.trans e3)
    refine ⟨_, _, rfl, rfl, ?_⟩
    obtain ⟨many, hmany⟩ : ∃ many : Nat, 1 + mn = (many : Int) := ⟨(1 + mn).toNat, by omega⟩
    dsimp only
    rw [hmany]
    have hm1 : 1 ≤ many := by omega
    have hm3 : many ≤ 3 := by omega
    refine ⟨_, rfl, small100 (n := 2) (by decide), fun c nc => ?_⟩
    have ncp := pl3.ne nc
    have zc := e3.none nc ncp
    have e4 : Kp p H (upd H3 c (.lst [.int 4, .int many])) := e3.new zc
    have pl4 : Pool (upd H3 c (.lst [.int 4, .int many])) p L := pl3.new nc
    have hc4 : (upd H3 c (.lst [.int 4, .int many])) c = some (.lst [.int 4, .int many]) := upd_same
    generalize upd H3 c (.lst [.int 4, .int many]) = H4 at *
    refine ⟨small100 (n := 0) (by decide), fun D nD => ?_⟩
    have nDp := pl4.ne nD
    have zD := e4.none nD nDp
    have nDc : D ≠ c := (ne_of_none hc4 nD).symm
    have e5 : Kp p H (upd H4 D (.lst [])) := e4.new zD
    have pl5 : Pool (upd H4 D (.lst [])) p L := pl4.new nD
    have hc5 : (upd H4 D (.lst [])) c = some (.lst [.int 4, .int many]) := by rw [upd_ne nDc.symm]; exact hc4
    have hD5 : (upd H4 D (.lst [])) D = some (.lst []) := upd_same
    generalize upd H4 D (.lst []) = H5 at *
    have hmem : ∀ a, H a = none → a ≠ p := fun a n e => by
      obtain ⟨ns, hp, _⟩ := pl
      rw [e, hp] at n
      cases n
    refine ⟨_, rfl, many, rfl, by omega, by omega, for_range (n := ((many : Nat) : Int).toNat) (fun j σ H' => ∃ (bs : List (List Stm)) (zs : List V) (k' : Int) (y8 y9 y10 : Option V), σ = [some (.ref p), some (.int most), some (.int size), some (.int mood), some (.bl wild), some (.int many), some (.ref c), some (.ref D), y8, y9, y10] ∧ Kp p H H' ∧ Pool H' p L ∧ H' c = some (.lst [.int k', .int many]) ∧ H' D = some (.lst zs) ∧ bs.length = j ∧ (∀ b ∈ bs, b.length ≤ 8 ∧ cntB b ≤ 12 ∧ okB many b 0) ∧ TrAll (fun a => H a = none ∧ a ≠ D ∧ a ≠ c) H' (bs.map bD) zs)
      ⟨[], [], 4, none, none, none, rfl, e5, pl5, hc5, hD5, rfl, fun b hb => absurd hb (List.not_mem_nil), TrAll.nil⟩ (fun j σ H' hj h => ?_) (fun σ H' h => ?_)⟩
    · obtain ⟨bs, zs, k', y8, y9, y10, rfl, e, pl', hc', hD', hl, hb, tz⟩ := h
      have hj3 : j < many := by omega
      refine ⟨_, rfl, _, _, rfl, rfl, _, rfl, _, _, rfl, rfl, _, rfl, _, _, rfl, rfl, ?_⟩
      obtain ⟨m, hm, hm0, hm6⟩ : ∃ m : Int, size - 2 - (if decide ((many : Int) > 2) = true then 1 else 0) = m ∧ 0 ≤ m ∧ m ≤ 6 := by
        refine ⟨_, rfl, ?_⟩
        split <;> omega
      dsimp only
      rw [hm]
      refine ⟨small100 (n := 1) (by decide), fun r nr => ?_⟩
      have zr := e.none nr (pl'.ne nr)
      have nrp := hmem r zr
      have nrc : r ≠ c := (ne_of_none hc' nr).symm
      have nrD : D ≠ r := ne_of_none hD' nr
      have tz := TrAll.tracked _ _ tz
      have sr := same_upd (o := .lst [V.int m]) nr
      have e6 : Kp p H (upd H' r (.lst [.int m])) := e.trans (Kp.of sr)
      have d6 : Drw (upd H' r (.lst [.int m])) p r c L m k' many := ⟨by obtain ⟨ns, hp, hl⟩ := pl'; exact ⟨ns, sr _ _ hp, hl⟩, upd_same, sr _ _ hc'⟩
      have tz6 := tz.same sr
      have hD6 := sr _ _ hD'
      generalize upd H' r (.lst [.int m]) = H6 at *
      have sep : Sep p r c := ⟨nrp.symm, (hmem c zc).symm, nrc⟩
      refine ⟨_, rfl, _, _, rfl, rfl, ?_⟩
      refine ⟨fun σ J => J = H6 ∧ ∃ low : Int, 0 ≤ low ∧ σ = [some (.ref p), some (.int most), some (.int size), some (.int mood), some (.bl wild), some (.int many), some (.ref c), some (.ref D), some (.int (0 + (j : Int))), some (.ref r), some (.int low)], ?_, fun σ J hmid => ?_⟩
      · refine ⟨_, rfl, _, rfl, ifB (fun g => ⟨rfl, 0, by decide, rfl⟩) (fun g => ⟨rfl, _, ?_, rfl⟩)⟩
        show (0 : Int) ≤ 0 + (j : Int) + 1
        omega
      obtain ⟨rfl, low, low0, rfl⟩ := hmid
      refine ⟨_, rfl, .inl ⟨rfl, _, .inl (.inl hD6)⟩, _, rfl, _, rfl, _, rfl, _, rfl, _, rfl, ?_⟩
      refine ⟨p, r, c, L, many, mood, m, k', low, rfl, sep, d6, ⟨h2, h64, by omega, by omega, low0, hm0, hm6, hm1, hm3⟩, fun q7 ss H7 m7 k7 e7 d7 hcs hok t7 => ?_⟩
      have nMD : ¬ MM p r c D := fun h => by
        rcases h with h | h | h
        · exact nDp h
        · exact nrD h
        · exact nDc h
      have hD7 := e7.at_ hD6 nMD
      have lz := tz.len
      rw [List.length_map, hl] at lz
      refine ⟨D, zs, _, rfl, rfl, hD7, small1000 (by omega), ?_⟩
      have e8 : Kp p H H7 := fun b o nb hb => e7 b o (fun h => by
        rcases h with h | h | h
        · exact absurd h nb
        · rw [h, zr] at hb; cases hb
        · rw [h, zc] at hb; cases hb) (e6 b o nb hb)
      have k9 : KpL (fun a => a = D) H7 (upd H7 D (.lst (zs ++ [.ref q7]))) := KpL.refl.put rfl ⟨_, hD7⟩
      have tz7 : TrAll (fun a => H a = none ∧ a ≠ D ∧ a ≠ c) H7 (bs.map bD) zs := TrAll.mono (fun a n => n.1) _ _ (TrAll.kpl e7 (fun a n h => by
        rcases h with h | h | h
        · exact hmem a n.1.1 h
        · rw [h] at n; exact n.2 nr
        · exact n.1.2.2 h) _ _ tz6)
      have t7 : Tr (fun a => H a = none ∧ a ≠ D ∧ a ≠ c) H7 (bD ss) (.ref q7) := Tr.mono (fun a n => by
        have n : J a = none := n
        refine ⟨?_, fun h => ?_, fun h => ?_⟩
        · refine e6.none n fun h => ?_
          obtain ⟨ns, hp, _⟩ := d6.pl
          rw [h, hp] at n
          cases n
        · rw [h, hD6] at n; cases n
        · rw [h, d6.c] at n; cases n) _ _ t7
      refine ⟨bs ++ [ss], zs ++ [.ref q7], k7, _, _, _, rfl, e8.new zD, d7.pl.keep nDp, by rw [upd_ne nDc.symm]; exact d7.c, upd_same, by rw [List.length_append, hl]; rfl, fun b mb => ?_, ?_⟩
      · rcases List.mem_append.mp mb with mb | mb
        · exact hb b mb
        · cases List.mem_singleton.mp mb
          have := len_cntB ss
          exact ⟨by omega, by omega, hok⟩
      · rw [List.map_append]
        exact TrAll.snoc (TrAll.kpl k9 (fun a n h => n.2.1 h) _ _ tz7) (Tr.kpl k9 (fun a n h => n.2.1 h) _ _ t7)
    · obtain ⟨bs, zs, k', y8, y9, y10, rfl, e, pl', hc', hD', hl, hb, tz⟩ := h
      have hl : bs.length = many := by omega
      refine ⟨_, rfl, q D bs H' e pl' ⟨by omega, by omega, fun b mb => by rw [hl]; exact hb b mb⟩ ⟨D, zs, rfl, zD, hD', TrAll.mono (fun a n => n.1) _ _ tz⟩ ⟨zs, zD, hD', TrAll.mono (fun a n => ⟨n.1, n.2.1⟩) _ _ tz⟩⟩

--SPLIT
def sp_placed (n : Nat) : Sp := fun vs H Q _ => ∃ (S : Addr → Prop) (b : List Stm) (v : V) (many l : Nat) (t : Addr) (ps : List Nat), vs = [v, .ref t] ∧ Tr S H (bD b) v ∧ b.length ≤ 8 ∧ okB many b l ∧ l ≤ 3 ∧ 4 ≤ l + n ∧ cntB b ≤ 12 ∧ H t = some (.tup (ps.map natV)) ∧ ps.length = 2 * l ∧
  ∀ (q : Addr) (ys : List V) (H' : Hp), Same H H' → H q = none → H' q = some (.lst ys) → TrAll S H' ((placesB b ps 0).map placeD) ys → Q (.ref q) H'
theorem none_placed {a : Addr} {fd : FuncData} {ps : List Str} {k : Nat} (hl : True) : FnOk P w K mg base CX0 k a fd ps (sp_placed 0) := by
  have no : ∀ vs H Q E, ¬ sp_placed 0 vs H Q E := fun vs H Q E ⟨_, _, _, _, l, _, _, _, _, _, _, h1, h2, _⟩ => by omega
  exact ⟨fun vs H Q E h => absurd h (no vs H Q E), fun A outer s H args us vs Q E _ _ _ _ h => absurd h (no vs H Q E)⟩

theorem catA {K : PySem.W.Frag} {H : Hp} {a b : Addr} {xs ys : List V} {Q : VK} (ha : H a = some (.tup xs)) (hb : H b = some (.tup ys)) (hy : ys ≠ []) (hz : xs.length + ys.length ≤ sizeLine)
    (q : ∀ p H', Same H H' → H' p = some (.tup (xs ++ ys)) → Q (.ref p) H') : rCatA K (.ref a) (.ref b) H Q :=
  ⟨a, b, xs, ys, rfl, rfl, SqT.of ha, SqT.of hb, hz, fun e => q b H (Same.refl _) (by rw [e, List.nil_append]; exact hb), fun _ e => absurd e hy, fun _ _ p np => q p _ (same_upd np) upd_same⟩
theorem ok_lplaces_step (T : Top w K mg) (n : Nat) (G__law_places : FnOk P w K mg base CX0 (n + 1) T.a__law_places T.d__law_places ["_law_block_here", "_law_path"] (sp_placed n)) :
    FnOk P w K mg base CX0 (n + 2) T.a__law_places T.d__law_places ["_law_block_here", "_law_path"] (sp_placed (n + 1)) := by
  refine T.F__law_places.ok sc__law_places (fun vs H Q E h => ?_) (fun cdv A outer s H vs Q E hr h => ?_)
  · obtain ⟨S, b, v, many, l, t, ps, rfl, _⟩ := h
    rfl
  · obtain ⟨S, b, v, many, l, t, ps, rfl, hv, h8, ho, hl3, hln, hc, ht, hps, q⟩ := h
    refine ⟨_, (pss_cons (ps_set (i := 2) sc__law_places.nd rfl (Or.inl rfl) (pe_lst pa_nil))
      (pss_cons (ps_for PassesOwn.never rfl (pi_range1 (by rfl) T.z_range (pa_cons (pe_callB (k_len K) (by rfl) T.z_len bt_len (pa_cons (pv 0) pa_nil)) pa_nil)) (pg_name (i := 3) sc__law_places.nd rfl (Or.inl rfl)) (pss_cons (ps_expr (pe_bm PySem.F.plainAttrs_list PySem.F.slot_list_append PySem.F.type_list_append mt_append (pv 2) (pa_cons (pe_tup (pa_cons (pe_op (k_catA K) (pv 1) (pe_tup (pa_cons (pv 3) pa_nil))) (pa_cons (pe_ix (k_ixL K) (pv 0) (pv 3) (fun _ _ => rfl)) pa_nil))) pa_nil)))
        (pss_cons (ps_set (i := 4) sc__law_places.nd rfl (Or.inl rfl) (pe_call (ok__law_blocks T) (hr.mono (by omega)) (by rfl) T.g__law_blocks T.F__law_blocks.kp (b__law_blocks T) .nil pass0 (pa_cons (pe_ix (k_ixL K) (pv 0) (pv 3) (fun _ _ => rfl)) pa_nil)))
        (pss_one (ps_for PassesOwn.never rfl (pi_range1 (by rfl) T.z_range (pa_cons (pe_callB (k_len K) (by rfl) T.z_len bt_len (pa_cons (pv 4) pa_nil)) pa_nil)) (pg_name (i := 5) sc__law_places.nd rfl (Or.inl rfl)) (pss_one (ps_set (i := 2) sc__law_places.nd rfl (Or.inl rfl) (pe_op op_cat (pv 2) (pe_call G__law_places (hr.mono (by omega)) (by rfl) T.g__law_places T.F__law_places.kp (b__law_places T) .nil pass0 (pa_cons (pe_ix (k_ixL K) (pv 4) (pv 5) (fun _ _ => rfl)) (pa_cons (pe_op (k_catA K) (pv 1) (pe_tup (pa_cons (pv 3) (pa_cons (pv 5) pa_nil)))) pa_nil)))))))))))
      (pss_one (ps_ret (pv 2))))), ?_⟩
    obtain ⟨a, ys, rfl, sa, ha, hs⟩ := hv
    have hl2 := hs.len
    rw [blkD_len] at hl2
    have hs := TrAll.tracked _ _ hs
    refine ⟨small100 (n := 0) (by decide), fun D nD => ?_⟩
    have sD := same_upd (o := .lst []) nD
    have hD : (upd H D (.lst [])) D = some (.lst []) := upd_same
    generalize upd H D _ = H0 at *
    refine ⟨_, rfl, a, _, rfl, .inl (SqL.of (sD _ _ ha)), ((ys.length : Nat) : Int), rfl, by omega, by omega, for_range (n := ((ys.length : Nat) : Int).toNat) (fun i σ H' => ∃ D y3 y4 y5, ∃ zs, σ = [some (.ref a), some (.ref t), some (.ref D), y3, y4, y5] ∧ Same H H' ∧ H D = none ∧ H' D = some (.lst zs) ∧ TrAll (fun x => S x ∧ H x ≠ none) H' ((placesB (b.take i) ps 0).map placeD) zs) ⟨D, none, none, none, [], rfl, sD, nD, hD, TrAll.nil⟩ (fun i σ H' hi h => ?_) (fun σ H' h => ?_)⟩
    · obtain ⟨D, y3, y4, y5, zs, rfl, sm, nD, hD, tz⟩ := h
      have noD : ∀ x, S x ∧ H x ≠ none → ¬ x = D := fun x n e => n.2 (by rw [e]; exact nD)
      have hi1 : i < ys.length := by omega
      have hy : ys[i]? = some ys[i] := List.getElem?_eq_getElem hi1
      generalize ys[i] = y at *
      obtain ⟨d, hd, tx⟩ := hs.get hy
      obtain ⟨z, hz, rfl⟩ := blkD_get hd
      have oz := okB_get ho hz
      have c1 := cntB_le hz
      have lpz := len_places z (ps ++ [0 + i])
      have ay : atI ys (0 + (i : Int)) = some y := at_of (j := i) (by omega) hy
      refine ⟨_, rfl, .inl ⟨rfl, _, .inl (.inl hD)⟩, _, rfl, _, rfl, small100 (n := 1) (by decide), fun u nu => ?_⟩
      have w1 := same_upd (o := .tup [V.int (0 + (i : Int))]) nu
      have hu : (upd H' u (.tup [V.int (0 + (i : Int))])) u = some (.tup [V.int (0 + (i : Int))]) := upd_same
      have s1 := sm.trans w1
      have hD := w1 _ _ hD
      have tz := tz.same w1
      generalize upd H' u _ = H1 at *
      have ep : ps.map natV ++ [V.int (0 + (i : Int))] = (ps ++ [0 + i]).map natV := by
        rw [List.map_append]
        congr 1
      have lp : ((ps ++ [0 + i]).map natV).length = 2 * l + 1 := by rw [List.length_map, List.length_append, hps]; rfl
      refine catA (s1 _ _ ht) hu (List.cons_ne_nil _ _) (small100 (by rw [List.length_map, hps, List.length_singleton]; omega)) fun p H2 w2 hp => ?_
      rw [ep] at hp
      have s2 := s1.trans w2
      have hD := w2 _ _ hD
      have tz := tz.same w2
      refine ⟨_, rfl, _, rfl, a, _, _, y, rfl, rfl, SqL.of (s2 _ _ ha), ay, small100 (n := 2) (by decide), fun r nr => ?_⟩
      have w3 := same_upd (o := .tup [V.ref p, y]) nr
      have hrr : (upd H2 r (.tup [V.ref p, y])) r = some (.tup [V.ref p, y]) := upd_same
      have s3 := s2.trans w3
      have hD := w3 _ _ hD
      have tz := tz.same w3
      have hp := w3 _ _ hp
      generalize upd H2 r _ = H3 at *
      have lz := tz.len
      rw [List.length_map, len_placesB] at lz
      refine ⟨D, zs, _, rfl, rfl, hD, small1000 (by omega), ?_⟩
      have k4 : KpL (fun a => a = D) H3 (upd H3 D (.lst (zs ++ [.ref r]))) := KpL.refl.put rfl ⟨_, hD⟩
      have tz := TrAll.kpl k4 noD _ _ tz
      have hp := k4.tup hp
      have hrr := k4.tup hrr
      have tx4 := Tr.kpl k4 noD _ _ (tx.same s3)
      have tz := tz.snoc (d := placeD (ps ++ [0 + i], z)) ⟨r, _, rfl, hrr, .cons ⟨p, _, rfl, hp, TrAll.ofNats _⟩ (.cons tx4 .nil)⟩
      have hD4 : (upd H3 D (.lst (zs ++ [.ref r]))) D = some (.lst (zs ++ [.ref r])) := upd_same
      have s4 : Same H (upd H3 D (.lst (zs ++ [.ref r]))) := same_new s3 nD
      generalize upd H3 D _ = H4 at *
      refine ⟨_, rfl, _, rfl, a, _, _, y, rfl, rfl, SqL.of (s4 _ _ ha), ay, ?_⟩
      refine ⟨_, z, y, rfl, tx4, fun qa us H5 s5 nqa hqa hus => ?_⟩
      have hl5 := hus.len
      rw [List.length_map] at hl5
      have cb := cnt_blocks z
      have l2 := blocks_len z
      refine ⟨_, rfl, qa, _, rfl, .inl (SqL.of hqa), ((us.length : Nat) : Int), rfl, by omega, by omega, ?_⟩
      refine for_range (n := ((us.length : Nat) : Int).toNat) (fun j σ H' => ∃ D y5, ∃ zs, σ = [some (.ref a), some (.ref t), some (.ref D), some (.int (0 + (i : Int))), some (.ref qa), y5] ∧ Same H5 H' ∧ H D = none ∧ H' D = some (.lst zs) ∧ TrAll (fun x => S x ∧ H x ≠ none) H' ((placesB (b.take i) ps 0 ++ ((ps ++ [0 + i], z) :: placesBs (z.blocks.take j) (ps ++ [0 + i]) 0)).map placeD) zs) ⟨D, y5, zs ++ [.ref r], rfl, Same.refl _, nD, s5 _ _ hD4, ?_⟩ (fun j σ H' hj h => ?_) (fun σ H' h => ?_)
      · have := tz.same s5
        simpa [placesBs] using this
      · obtain ⟨D, y5, zs, rfl, sj, nD, hDj, tzj⟩ := h
        have hj1 : j < us.length := by omega
        have hy2 : us[j]? = some us[j] := List.getElem?_eq_getElem hj1
        generalize us[j] = y2 at *
        obtain ⟨d2, hd2, tx2⟩ := hus.get hy2
        obtain ⟨zb, hzb, mzb, rfl⟩ := get_blocks hd2
        obtain ⟨o1, o2, o3⟩ := ok_block oz mzb
        have c2 := cntBs_le hzb
        have ay2 : atI us (0 + (j : Int)) = some y2 := at_of (j := j) (by omega) hy2
        refine ⟨_, rfl, _, rfl, _, rfl, qa, _, _, y2, rfl, rfl, SqL.of (sj _ _ hqa), ay2, _, rfl, _, rfl, _, rfl, small100 (n := 2) (by decide), fun u2 nu2 => ?_⟩
        have w7 := same_upd (o := .tup [V.int (0 + (i : Int)), V.int (0 + (j : Int))]) nu2
        have hu2 : (upd H' u2 (.tup [V.int (0 + (i : Int)), V.int (0 + (j : Int))])) u2 = some (.tup [V.int (0 + (i : Int)), V.int (0 + (j : Int))]) := upd_same
        have s7 := sj.trans w7
        have hDj := w7 _ _ hDj
        have tzj := tzj.same w7
        generalize upd H' u2 _ = H7 at *
        have ep2 : ps.map natV ++ [V.int (0 + (i : Int)), V.int (0 + (j : Int))] = (ps ++ [0 + i] ++ [0 + j]).map natV := by
          rw [List.map_append, List.map_append, List.append_assoc]
          congr 1
        refine catA ((s4.trans (s5.trans s7)) _ _ ht) hu2 (List.cons_ne_nil _ _) (small100 (by rw [List.length_map, hps]; show 2 * l + 2 ≤ 1000; omega)) fun p2 H8 w8 hp2 => ?_
        rw [ep2] at hp2
        have s8 := s7.trans w8
        have hDj := w8 _ _ hDj
        have tzj := tzj.same w8
        refine ⟨_, zb, y2, many, l + 1, p2, ps ++ [0 + i] ++ [0 + j], rfl, tx2.same s8, o2, o3, by omega, by omega, by omega, hp2, by rw [List.length_append, List.length_append, hps]; show 2 * l + 1 + 1 = _; omega, fun q9 vs9 H9 s9 nq9 hq9 t9 => ?_⟩
        have lzj := tzj.len
        rw [List.length_map, List.length_append, List.length_cons, len_placesB, len_placesBs] at lzj
        have l9 := t9.len
        rw [List.length_map, len_placesB] at l9
        refine ⟨D, q9, zs, vs9, rfl, rfl, s9 _ _ hDj, hq9, small100 (by omega), fun D2 nD2 => ?_⟩
        have w10 := same_upd (o := .lst (zs ++ vs9)) nD2
        have s10 := s8.trans (s9.trans w10)
        refine ⟨D2, some (.int (0 + (j : Int))), zs ++ vs9, rfl, s10, (s4.trans (s5.trans (s8.trans s9))).free nD2, upd_same, ?_⟩
        rw [placesBs_take _ 0 hzb, ← List.cons_append, ← List.append_assoc, List.map_append]
        exact (tzj.same (s9.trans w10)).append (t9.same w10)
      · obtain ⟨D, y5, zs', rfl, sj, nD, hDj, tzj⟩ := h
        rw [show ((us.length : Nat) : Int).toNat = us.length by omega, hl5, List.take_length, ← places_blocks, ← placesB_take ps 0 hz] at tzj
        exact ⟨D, _, _, _, zs', rfl, s4.trans (s5.trans sj), nD, hDj, tzj⟩
    · obtain ⟨D, y3, y4, y5, zs, rfl, sm, nD, hD, tz⟩ := h
      rw [show ((ys.length : Nat) : Int).toNat = ys.length by omega, hl2, List.take_length] at tz
      exact ⟨_, rfl, q D zs H' sm nD hD (TrAll.mono (fun a n => n.1) _ _ tz)⟩
theorem all_lplaces (T : Top w K mg) : ∀ n : Nat, FnOk P w K mg base CX0 (n + 1) T.a__law_places T.d__law_places ["_law_block_here", "_law_path"] (sp_placed n)
  | 0 => none_placed True.intro
  | n + 1 => ok_lplaces_step T n (all_lplaces T n)
theorem ok__law_places (T : Top w K mg) : FnOk P w K mg base CX0 5 T.a__law_places T.d__law_places ["_law_block_here", "_law_path"] (sp_placed 4) := all_lplaces T 4

--SPLIT
/-! ### a path leads to one statement -/
def look : List Stm → List Nat → Option Stm
  | b, [i] => b[i]?
  | b, i :: j :: r => (b[i]?).bind fun z => (z.blocks[j]?).bind fun c => look c r
  | _, [] => none
theorem look_cons (s : Stm) (b : List Stm) (j : Nat) (r : List Nat) : look (s :: b) ((j + 1) :: r) = look b (j :: r) := by
  cases r with
  | nil => rfl
  | cons k r => simp only [look, List.getElem?_cons_succ]
theorem look_in {s : Stm} {b c : List Stm} {k : Nat} {r : List Nat} (h : s.blocks[k]? = some c) : look (s :: b) (0 :: k :: r) = look c r := by
  simp only [look, List.getElem?_cons_zero, Option.bind_some, h]
mutual
theorem look_stm : ∀ (z : Stm) (p : List Nat) (x : List Nat × Stm), x ∈ z.places p → ∃ (k : Nat) (c : List Stm) (q : List Nat), z.blocks[k]? = some c ∧ x.1 = p ++ k :: q ∧ look c q = some x.2
  | .cmd _, p, x, m => nomatch m
  | .fin _, p, x, m => nomatch m
  | .keep b, p, x, m => by
    obtain ⟨j, r, e1, e2⟩ := look_blk b (p ++ [0]) 0 x m
    exact ⟨0, b, j :: r, rfl, by rw [e1]; simp, e2⟩
  | .again b, p, x, m => by
    obtain ⟨j, r, e1, e2⟩ := look_blk b (p ++ [0]) 0 x m
    exact ⟨0, b, j :: r, rfl, by rw [e1]; simp, e2⟩
  | .either a b, p, x, m => by
    rcases List.mem_append.mp m with m | m
    · obtain ⟨j, r, e1, e2⟩ := look_blk a (p ++ [0]) 0 x m
      exact ⟨0, a, j :: r, rfl, by rw [e1]; simp, e2⟩
    · obtain ⟨j, r, e1, e2⟩ := look_blk b (p ++ [1]) 0 x m
      exact ⟨1, b, j :: r, rfl, by rw [e1]; simp, e2⟩
  | .call _ _ a b, p, x, m => by
    rcases List.mem_append.mp m with m | m
    · obtain ⟨j, r, e1, e2⟩ := look_blk a (p ++ [0]) 0 x m
      exact ⟨0, a, j :: r, rfl, by rw [e1]; simp, e2⟩
    · obtain ⟨j, r, e1, e2⟩ := look_blk b (p ++ [1]) 0 x m
      exact ⟨1, b, j :: r, rfl, by rw [e1]; simp, e2⟩
theorem look_blk : ∀ (b : List Stm) (p : List Nat) (i : Nat) (x : List Nat × Stm), x ∈ placesB b p i → ∃ (j : Nat) (r : List Nat), x.1 = p ++ (i + j) :: r ∧ look b (j :: r) = some x.2
  | [], _, _, _, m => nomatch m
  | s :: b, p, i, x, m => by
    rcases List.mem_cons.mp m with rfl | m
    · exact ⟨0, [], by simp, rfl⟩
    · rcases List.mem_append.mp m with m | m
      · obtain ⟨k, c, q, h1, h2, h3⟩ := look_stm s (p ++ [i]) x m
        exact ⟨0, k :: q, by rw [h2]; simp, by rw [look_in h1]; exact h3⟩
      · obtain ⟨j, r, e1, e2⟩ := look_blk b p (i + 1) x m
        exact ⟨j + 1, r, by rw [e1, show i + 1 + j = i + (j + 1) by omega], by rw [look_cons]; exact e2⟩
end
theorem one_path {b : List Stm} {x y : List Nat × Stm} (hx : x ∈ placesB b [] 0) (hy : y ∈ placesB b [] 0) (e : x.1 = y.1) : x.2 = y.2 := by
  obtain ⟨j, r, e1, e2⟩ := look_blk b [] 0 x hx
  obtain ⟨k, q, f1, f2⟩ := look_blk b [] 0 y hy
  rw [List.nil_append, Nat.zero_add] at e1 f1
  rw [e, f1] at e1
  rw [e1] at f2
  exact Option.some.inj (e2.symm.trans f2)

/-! ### all places of a book -/
abbrev Pl := Nat × List Nat × Stm
def allPl : List (List Stm) → Nat → List Pl
  | [], _ => []
  | b :: r, k => (placesB b [] 0).map (fun x => (k, x.1, x.2)) ++ allPl r (k + 1)
def plD (x : Pl) : PyData := .tuple [.int x.1, pathD x.2.1, x.2.2.d]
theorem allPl_take : ∀ {bs : List (List Stm)} {i : Nat} {b : List Stm} (k : Nat), bs[i]? = some b → allPl (bs.take (i + 1)) k = allPl (bs.take i) k ++ (placesB b [] 0).map fun x => (k + i, x.1, x.2)
  | [], i, b, k, e => by simp at e
  | c :: r, 0, b, k, e => by cases e; simp [allPl]
  | c :: r, i + 1, b, k, e => by
    have := allPl_take (bs := r) (i := i) (k + 1) e
    rw [List.take_succ_cons, List.take_succ_cons, allPl, allPl, this, show k + 1 + i = k + (i + 1) by omega, List.append_assoc]
theorem len_allPl : ∀ (bs : List (List Stm)) (k : Nat), (∀ b ∈ bs, cntB b ≤ 12) → (allPl bs k).length ≤ 12 * bs.length
  | [], _, _ => by simp [allPl]
  | b :: r, k, h => by
    have h2 := len_allPl r (k + 1) fun b hb => h b (List.mem_cons_of_mem _ hb)
    have h3 := h b List.mem_cons_self
    rw [allPl, List.length_append, List.length_cons, List.length_map, len_placesB]
    omega

theorem mem_allPl : ∀ {bs : List (List Stm)} {k : Nat} {x : Pl}, x ∈ allPl bs k → ∃ i b, bs[i]? = some b ∧ x.1 = k + i ∧ (x.2.1, x.2.2) ∈ placesB b [] 0
  | [], _, _, m => nomatch m
  | b :: r, k, x, m => by
    rcases List.mem_append.mp m with m | m
    · obtain ⟨y, hy, rfl⟩ := List.mem_map.mp m
      exact ⟨0, b, rfl, rfl, hy⟩
    · obtain ⟨i, c, h1, h2, h3⟩ := mem_allPl m
      exact ⟨i + 1, c, h1, by omega, h3⟩

def sp__law_all_places : Sp := fun vs H Q _ => ∃ (S : Addr → Prop) (bs : List (List Stm)) (v : V), vs = [v] ∧ Tr S H (bookD bs) v ∧ OkBook bs ∧
  ∀ (q : Addr) (ys : List V) (H' : Hp), Same H H' → H q = none → H' q = some (.lst ys) → TrAll S H' ((allPl bs 0).map plD) ys → Q (.ref q) H'
theorem ok__law_all_places (T : Top w K mg) : FnOk P w K mg base CX0 6 T.a__law_all_places T.d__law_all_places ["_law_bodies"] sp__law_all_places := by
  refine T.F__law_all_places.ok sc__law_all_places (fun vs H Q E h => ?_) (fun cdv A outer s H vs Q E hr h => ?_)
  · obtain ⟨S, bs, v, rfl, _⟩ := h
    rfl
  · obtain ⟨S, bs, v, rfl, hv, ho, q⟩ := h
    refine ⟨_, (pss_cons (ps_set (i := 1) sc__law_all_places.nd rfl (Or.inl rfl) (pe_lst pa_nil))
      (pss_cons (ps_for PassesOwn.never rfl (pi_range1 (by rfl) T.z_range (pa_cons (pe_callB (k_len K) (by rfl) T.z_len bt_len (pa_cons (pv 0) pa_nil)) pa_nil)) (pg_name (i := 2) sc__law_all_places.nd rfl (Or.inl rfl)) (pss_one (ps_for PassesOwn.never rfl (k_piL K (pe_call (ok__law_places T) hr (by rfl) T.g__law_places T.F__law_places.kp (b__law_places T) .nil pass0 (pa_cons (pe_ix (k_ixL K) (pv 0) (pv 2) (fun _ _ => rfl)) (pa_cons (pe_tup pa_nil) pa_nil)))) (pg_name (i := 3) sc__law_all_places.nd rfl (Or.inl rfl)) (pss_one (ps_expr (pe_bm PySem.F.plainAttrs_list PySem.F.slot_list_append PySem.F.type_list_append mt_append (pv 1) (pa_cons (pe_tup (pa_cons (pv 2) (pa_cons (pe_ix (k_ixT K) (pv 3) pe_int (fun _ _ => rfl)) (pa_cons (pe_ix (k_ixT K) (pv 3) pe_int (fun _ _ => rfl)) pa_nil)))) pa_nil)))))))
      (pss_one (ps_ret (pv 1))))), ?_⟩
    obtain ⟨a, ys, rfl, sa, ha, hs⟩ := hv
    have hl2 := hs.len
    rw [List.length_map] at hl2
    have hi3 := ho.hi
    have hs := TrAll.tracked _ _ hs
    refine ⟨small100 (n := 0) (by decide), fun D nD => ?_⟩
    have sD := same_upd (o := .lst []) nD
    have hD : (upd H D (.lst [])) D = some (.lst []) := upd_same
    generalize upd H D _ = H0 at *
    have noD : ∀ x, S x ∧ H x ≠ none → ¬ x = D := fun x n e => n.2 (by rw [e]; exact nD)
    refine ⟨_, rfl, a, _, rfl, .inl (SqL.of (sD _ _ ha)), ((ys.length : Nat) : Int), rfl, by omega, by omega, for_range (n := ((ys.length : Nat) : Int).toNat) (fun i σ H' => ∃ y2 y3, ∃ zs, σ = [some (.ref a), some (.ref D), y2, y3] ∧ Same H H' ∧ H' D = some (.lst zs) ∧ TrAll (fun x => S x ∧ H x ≠ none) H' ((allPl (bs.take i) 0).map plD) zs) ⟨none, none, [], rfl, sD, hD, TrAll.nil⟩ (fun i σ H' hi h => ?_) (fun σ H' h => ?_)⟩
    · obtain ⟨y2, y3, zs, rfl, sm, hD, tz⟩ := h
      have hi1 : i < ys.length := by omega
      have hy : ys[i]? = some ys[i] := List.getElem?_eq_getElem hi1
      generalize ys[i] = y at *
      obtain ⟨d, hd, tx⟩ := hs.get hy
      obtain ⟨b, hb, mb, rfl⟩ := get_bodies hd
      obtain ⟨o1, o2, o3⟩ := ho.each b mb
      have ay : atI ys (0 + (i : Int)) = some y := at_of (j := i) (by omega) hy
      refine ⟨_, rfl, _, rfl, a, _, _, y, rfl, rfl, SqL.of (sm _ _ ha), ay, small100 (n := 0) (by decide), fun t nt => ?_⟩
      have w1 := same_upd (o := .tup []) nt
      have ht : (upd H' t (.tup [])) t = some (.tup (([] : List Nat).map natV)) := upd_same
      have s1 := sm.trans w1
      have hD := w1 _ _ hD
      have tz := tz.same w1
      generalize upd H' t _ = H1 at *
      refine ⟨_, b, y, bs.length, 0, t, [], rfl, tx.same s1, o1, o3, by decide, by decide, o2, ht, rfl, fun qp ps H2 s2 nqp hqp tp => ?_⟩
      have hD := s2 _ _ hD
      have tz := tz.same s2
      have s12 := s1.trans s2
      have lp := tp.len
      rw [List.length_map, len_placesB] at lp
      have nqD : ¬ qp = D := fun e => by
        rw [e] at nqp
        rw [show H1 D = some (.lst zs) from by
          cases e3 : H1 D with
          | none =>
            exact absurd (show D = D from rfl) (fun _ => by
              have := w1 _ _ ‹H' D = some (.lst zs)›
              rw [e3] at this
              cases this)
          | some o =>
            have := s2 _ _ e3
            rw [hD] at this
            exact this.symm] at nqp
        cases nqp
      refine ⟨qp, rfl, ⟨_, SqL.of hqp⟩, for_list (xs := ps) (fun j σ J => ∃ y3, ∃ zs, σ = [some (.ref a), some (.ref D), some (.int (0 + (i : Int))), y3] ∧ KpL (fun a => a = D) H2 J ∧ J D = some (.lst zs) ∧ TrAll (fun x => S x ∧ H x ≠ none) J ((allPl (bs.take i) 0 ++ (((placesB b [] 0).take j).map fun x => (0 + i, x.1, x.2))).map plD) zs)
        ⟨y3, zs, rfl, KpL.refl, hD, by simpa using tz⟩ (fun j σ J hj h => ?_) (fun j x σ J hx h => ?_) (fun σ J h => ?_)⟩
      · obtain ⟨_, _, _, k, _⟩ := h
        exact SqL.of (k.at_ hqp nqD)
      · obtain ⟨y3, zs, rfl, k, hD, tz⟩ := h
        obtain ⟨dx, hdx, tx2⟩ := tp.get hx
        rw [List.getElem?_map] at hdx
        cases ex : (placesB b [] 0)[j]? with
        | none => rw [ex] at hdx; cases hdx
        | some pz =>
          rw [ex] at hdx
          cases hdx
          have hj := (List.getElem?_eq_some_iff.mp hx).1
          have tx2 := Tr.kpl k noD _ _ tx2
          obtain ⟨u2, us, rfl, hu2, pv1, _, rfl, tp1, sv1, _, rfl, ts1, rfl⟩ := tx2
          refine ⟨_, rfl, .inl ⟨rfl, _, .inl (.inl hD)⟩, _, rfl, _, rfl, u2, _, 0, _, rfl, rfl, SqT.of hu2, at_of (j := 0) (by decide) rfl, _, rfl, u2, _, 1, _, rfl, rfl, SqT.of hu2, at_of (j := 1) (by decide) rfl, small100 (n := 3) (by decide), fun t6 n6 => ?_⟩
          have w6 := same_upd (o := .tup [V.int (0 + (i : Int)), pv1, sv1]) n6
          have h6 : (upd J t6 (.tup [V.int (0 + (i : Int)), pv1, sv1])) t6 = some (.tup [V.int (0 + (i : Int)), pv1, sv1]) := upd_same
          have hD := w6 _ _ hD
          have tz := tz.same w6
          have tp1 := tp1.same w6
          have ts1 := ts1.same w6
          have k := k.trans (KpL.of w6)
          generalize upd J t6 _ = J6 at *
          have lz := tz.len
          have lc := len_allPl (bs.take i) 0 fun b hb => (ho.each b (List.mem_of_mem_take hb)).2.1
          rw [List.length_take] at lc
          rw [List.length_map, List.length_append, List.length_map, List.length_take] at lz
          refine ⟨D, zs, _, rfl, rfl, hD, small1000 (by omega), ?_⟩
          have k7 : KpL (fun a => a = D) J6 (upd J6 D (.lst (zs ++ [.ref t6]))) := KpL.refl.put rfl ⟨_, hD⟩
          refine ⟨some (.ref u2), zs ++ [.ref t6], rfl, k.trans k7, upd_same, ?_⟩
          rw [List.take_add_one, ex, List.map_append (l₁ := (placesB b [] 0).take j), ← List.append_assoc, List.map_append (l₁ := allPl (bs.take i) 0 ++ _)]
          refine TrAll.snoc (TrAll.kpl k7 noD _ _ tz) (Tr.kpl k7 noD _ _ ⟨t6, _, rfl, h6, .cons ?_ (.cons tp1 (.cons ts1 .nil))⟩)
          show V.int (0 + (i : Int)) = V.int ((0 + i : Nat) : Int)
          rw [show ((0 + i : Nat) : Int) = 0 + (i : Int) by omega]
      · obtain ⟨y3, zs, rfl, k, hD, tz⟩ := h
        rw [lp, ← len_placesB b [] 0, List.take_length, ← allPl_take 0 hb] at tz
        exact ⟨_, _, zs, rfl, fun b o e => k.at_ (s12 b o e) (fun h => by rw [h, nD] at e; cases e), hD, tz⟩
    · obtain ⟨y2, y3, zs, rfl, sm, hD, tz⟩ := h
      rw [show ((ys.length : Nat) : Int).toNat = ys.length by omega, hl2, List.take_length] at tz
      exact ⟨_, rfl, q D zs H' sm nD hD (TrAll.mono (fun a n => n.1) _ _ tz)⟩

--SPLIT
theorem ok_lcopy_step (T : Top w K mg) (n : Nat) (G__law_copy : FnOk P w K mg base CX0 (n + 1) T.a__law_copy T.d__law_copy ["_law_block_here"] (sp_copied n)) :
    FnOk P w K mg base CX0 (n + 2) T.a__law_copy T.d__law_copy ["_law_block_here"] (sp_copied (n + 1)) := by
  refine T.F__law_copy.ok sc__law_copy (fun vs H Q E h => ?_) (fun cdv A outer s H vs Q E hr h => ?_)
  · obtain ⟨S, z, v, many, l, rfl, _⟩ := h
    rfl
  · obtain ⟨S, b, v, many, l, rfl, hv, h8, ho, hl3, hl, q⟩ := h
    refine ⟨_, (pss_one (ps_ret (pe_lc (own := [("_law_row", 1)]) (g := (gName 1)) (tt := tYes) rfl sc__law_copy.nd (k_piL K (pv 0)) (blkOk_by (N := N__law_copy) (sc := defScope s__law_copy) (by decide +kernel)) (fun _ _ _ _ _ => (pg_name (i := 1) sc__law_copy.nd rfl (Or.inl rfl))) (fun _ _ _ _ _ => pts_nil) (fun _ _ _ _ _ => (pe_call (ok__law_with T) (hr.mono (by omega)) (by rfl) T.g__law_with T.F__law_with.kp (b__law_with T) .nil pass0 (pa_cons (pv 1) (pa_cons (pe_lc (own := [("_law_inner", 2)]) (g := (gName 2)) (tt := tYes) rfl sc__law_copy.nd (k_piL K (pe_call (ok__law_blocks T) (hr.mono (by omega)) (by rfl) T.g__law_blocks T.F__law_blocks.kp (b__law_blocks T) .nil pass0 (pa_cons (pv 1) pa_nil))) (blkOk_by (N := N__law_copy) (sc := (relS ({ kind := .function, names := [(".0", .local), ("_law_row", .local), ("_law_with", .globalImplicit), ("_law_blocks", .globalImplicit)], isGenerator := false, isCoroutine := false } : Scope) (defScope s__law_copy))) (by decide +kernel)) (fun _ _ _ _ _ => (pg_name (i := 2) sc__law_copy.nd rfl (Or.inl rfl))) (fun _ _ _ _ _ => pts_nil) (fun _ _ _ _ _ => (pe_call G__law_copy (hr.mono (by omega)) (by rfl) T.g__law_copy T.F__law_copy.kp (b__law_copy T) .nil pass0 (pa_cons (pv 2) pa_nil)))) pa_nil))))))), ?_⟩
    obtain ⟨a, ys, rfl, sa, ha, hs⟩ := hv
    have hl2 := hs.len
    rw [blkD_len] at hl2
    refine ⟨_, rfl, a, rfl, ⟨_, SqL.of ha⟩, fun D nD => ?_⟩
    refine lc_list (xs := ys) (fun i H' => Bld H D ((blkD b).take i) H') (Bld.nil nD) (fun i H' _ h => h.1.seq (SqL.of ha)) (fun i x H' hx h => ?_) (fun H' h => ?_)
    · obtain ⟨d, hd, tx⟩ := hs.get hx
      obtain ⟨z, hz, rfl⟩ := blkD_get hd
      have hi := (List.getElem?_eq_some_iff.mp hx).1
      have tx := tx.same h.1
      refine ⟨rfl, _, rfl, _, rfl, S, z, x, rfl, tx, fun qa zs H1 s1 nq hq tz => ?_⟩
      have lz := tz.len
      rw [List.length_map] at lz
      have l2 := blocks_len z
      refine ⟨qa, rfl, ⟨_, SqL.of hq⟩, fun D2 nD2 => ?_⟩
      refine lc_list (xs := zs) (fun j H2 => Bld H1 D2 ((z.blocks.map bD).take j) H2) (Bld.nil nD2) (fun j H2 _ g => g.1.seq (SqL.of hq)) (fun j x2 H2 hx2 g => ?_) (fun H2 g => ?_)
      · obtain ⟨d2, hd2, tx2⟩ := tz.get hx2
        obtain ⟨zb, hzb, mzb, rfl⟩ := get_blocks hd2
        obtain ⟨o1, o2, o3⟩ := ok_block (okB_get ho hz) mzb
        have hj := (List.getElem?_eq_some_iff.mp hx2).1
        refine ⟨rfl, _, rfl, S, zb, x2, many, l + 1, rfl, tx2.same g.1, o2, o3, by omega, by omega, fun r H3 s3 tr => ?_⟩
        obtain ⟨us, hD2, lu, m⟩ := g.push nD2 s3 tr
        refine ⟨us, hD2, ?_, ?_⟩
        · rw [lu, List.length_take]
          exact small1000 (by omega)
        · rw [List.take_add_one, hd2]
          exact m
      · rw [lz, ← List.length_map (f := bD), List.take_length] at g
        have st := s1.trans g.1
        obtain ⟨_, us, e', sD, hD', tu⟩ := g.done nD2
        cases e'
        refine ⟨S, New H', z, x, D2, us, rfl, tx.same st, s1.free nD2, hD', tu.newer s1, fun r H3 s3 tr => ?_⟩
        obtain ⟨ws, hD, lw, m⟩ := h.push nD (st.trans s3) tr
        refine ⟨ws, hD, ?_, ?_⟩
        · rw [lw, List.length_take]
          exact small1000 (by omega)
        · rw [List.take_add_one, hd]
          exact m
    · rw [hl2, ← blkD_len, List.take_length] at h
      exact q _ _ h.1 (h.done nD)
theorem none_lcopy (T : Top w K mg) : FnOk P w K mg base CX0 1 T.a__law_copy T.d__law_copy ["_law_block_here"] (sp_copied 0) := by
  have no : ∀ vs H Q E, ¬ sp_copied 0 vs H Q E := fun vs H Q E ⟨_, _, _, _, l, _, _, _, _, h1, h2, _⟩ => by omega
  exact ⟨fun vs H Q E h => absurd h (no vs H Q E), fun A outer s H args us vs Q E _ _ _ _ h => absurd h (no vs H Q E)⟩
theorem all_lcopy (T : Top w K mg) : ∀ n : Nat, FnOk P w K mg base CX0 (n + 1) T.a__law_copy T.d__law_copy ["_law_block_here"] (sp_copied n)
  | 0 => none_lcopy T
  | n + 1 => ok_lcopy_step T n (all_lcopy T n)
theorem ok__law_copy (T : Top w K mg) : FnOk P w K mg base CX0 5 T.a__law_copy T.d__law_copy ["_law_block_here"] (sp_copied 4) := all_lcopy T 4

def sp__law_copies : Sp := fun vs H Q _ => ∃ (S : Addr → Prop) (bs : List (List Stm)) (v : V), vs = [v] ∧ Tr S H (bookD bs) v ∧ OkBook bs ∧ ∀ (D : Addr) (zs : List V) (H' : Hp), Same H H' → H D = none → H' D = some (.lst zs) → TrAll (fun a => H a = none ∧ a ≠ D) H' (bs.map bD) zs → Q (.ref D) H'
theorem ok__law_copies (T : Top w K mg) : FnOk P w K mg base CX0 6 T.a__law_copies T.d__law_copies ["_law_bodies"] sp__law_copies := by
  refine T.F__law_copies.ok sc__law_copies (fun vs H Q E h => ?_) (fun cdv A outer s H vs Q E hr h => ?_)
  · obtain ⟨S, bs, v, rfl, _⟩ := h
    rfl
  · obtain ⟨S, bs, v, rfl, hv, ho, q⟩ := h
    refine ⟨_, (pss_one (ps_ret (pe_lc (own := [("_law_body_here", 1)]) (g := (gName 1)) (tt := tYes) rfl sc__law_copies.nd (k_piL K (pv 0)) (blkOk_by (N := N__law_copies) (sc := defScope s__law_copies) (by decide +kernel)) (fun _ _ _ _ _ => (pg_name (i := 1) sc__law_copies.nd rfl (Or.inl rfl))) (fun _ _ _ _ _ => pts_nil) (fun _ _ _ _ _ => (pe_call (ok__law_copy T) hr (by rfl) T.g__law_copy T.F__law_copy.kp (b__law_copy T) .nil pass0 (pa_cons (pv 1) pa_nil)))))), ?_⟩
    obtain ⟨a, ys, rfl, sa, ha, hs⟩ := hv
    have hl2 := hs.len
    rw [List.length_map] at hl2
    have hi3 := ho.hi
    refine ⟨_, rfl, a, rfl, ⟨_, SqL.of ha⟩, fun D nD => ?_⟩
    refine lc_list (xs := ys) (fun i H' => Bld H D ((bs.map bD).take i) H') (Bld.nil nD) (fun i H' _ h => h.1.seq (SqL.of ha)) (fun i x H' hx h => ?_) (fun H' h => ?_)
    · obtain ⟨d, hd, tx⟩ := hs.get hx
      obtain ⟨b, hb, mb, rfl⟩ := get_bodies hd
      obtain ⟨o1, o2, o3⟩ := ho.each b mb
      refine ⟨rfl, _, rfl, S, b, x, bs.length, 0, rfl, tx.same h.1, o1, o3, by decide, by decide, fun r H2 s2 tr => ?_⟩
      obtain ⟨zs, hD, lz, m⟩ := h.push nD s2 tr
      have hi := (List.getElem?_eq_some_iff.mp hx).1
      refine ⟨zs, hD, ?_, ?_⟩
      · rw [lz, List.length_take]
        exact small1000 (by omega)
      · rw [List.take_add_one, hd]
        exact m
    · rw [hl2, ← List.length_map (f := bD), List.take_length] at h
      obtain ⟨sm, zs, hD, tz⟩ := h
      exact q D zs _ sm nD hD tz

section
variable (K : PySem.W.Frag) {X : Cx}
theorem ki_lt (d : PyData) : PySem.W.kitAny K (.type (clsN d)) [.type "list", .type "tuple"] = some (isLs d || isTp d) := by
  unfold PySem.W.kitAny
  rw [ki_list K d]
  cases h : isLs d
  · unfold PySem.W.kitAny
    rw [ki_tuple K d]
    cases h2 : isTp d
    · rfl
    · rfl
  · rfl
end
/-- a list's or a tuple's items -/
def itemsD : PyData → List PyData
  | .list ds => ds
  | .tuple ds => ds
  | _ => []
theorem seq_of {S : Addr → Prop} {H : Hp} {d : PyData} {v : V} (K : PySem.W.Frag) (t : Tr S H d v) (h : (isLs d || isTp d) = true) : ∃ a xs, v = .ref a ∧ ((isLs d = true ∧ H a = some (.lst xs)) ∨ (isLs d = false ∧ H a = some (.tup xs))) ∧ TrAll S H (itemsD d) xs := by
  cases d with
  | list ds =>
    obtain ⟨a, xs, e, s, l, q⟩ := t
    exact ⟨a, xs, e, .inl ⟨rfl, l⟩, q⟩
  | tuple ds =>
    obtain ⟨a, xs, e, l, q⟩ := t
    exact ⟨a, xs, e, .inr ⟨rfl, l⟩, q⟩
  | _ => cases h
theorem fit_items {d : PyData} {n : Nat} (h : Fit d (n + 1)) (g : (isLs d || isTp d) = true) : (itemsD d).length ≤ 100 ∧ FitAll (itemsD d) n := by
  cases d with
  | list ds => exact h
  | tuple ds => exact h
  | _ => cases g
theorem same_items {d e : PyData} (h : isLs d = isLs e) (h2 : isTp d = isTp e) (g : (isLs d || isTp d) = true) : sameD d e = sameAll (itemsD d) (itemsD e) := by
  cases d <;> cases e <;> simp_all [isLs, isTp, sameD, itemsD]
theorem same_kinds {d e : PyData} (h : isLs d ≠ isLs e ∨ isTp d ≠ isTp e) (g : (isLs d || isTp d) = true) : sameD d e = false := by
  cases d <;> cases e <;> simp_all [isLs, isTp, sameD]
theorem same_leafL {d e : PyData} (g : (isLs d || isTp d) = false) (h : (isLs e || isTp e) = true) : sameD d e = false := by
  cases d <;> cases e <;> simp_all [isLs, isTp, sameD]
theorem same_leafB {d e : PyData} (g : (isLs d || isTp d) = false) (h : (isLs e || isTp e) = false) (b : isBl d ≠ isBl e) : sameD d e = false := by
  cases d <;> cases e <;> simp_all [isLs, isTp, isBl, sameD]
theorem same_leaf {d e : PyData} (g : (isLs d || isTp d) = false) (h : (isLs e || isTp e) = false) (b : isBl d = isBl e) : sameD d e = (decide (isNum d = isNum e) && PyData.eqv d e) := by
  cases d <;> cases e <;> simp_all [isLs, isTp, isBl, isNum, sameD, PyData.eqv]
def sp__law_same (n : Nat) : Sp := fun vs H Q _ => ∃ (S S' : Addr → Prop) (d e : PyData) (v u : V), vs = [v, u] ∧ Tr S H d v ∧ Tr S' H e u ∧ Fit d n ∧ Fit e n ∧ n ≤ 60 ∧ ∀ H', Same H H' → Q (.bl (sameD d e)) H'
theorem ok_same_step (T : Top w K mg) (n : Nat) (G__law_same : FnOk P w K mg base CX0 (n + 1) T.a__law_same T.d__law_same ["_law_one", "_law_other"] (sp__law_same n)) :
    FnOk P w K mg base CX0 (n + 2) T.a__law_same T.d__law_same ["_law_one", "_law_other"] (sp__law_same (n + 1)) := by
  refine T.F__law_same.ok sc__law_same (fun vs H Q E h => ?_) (fun cdv A outer s H vs Q E hr h => ?_)
  · obtain ⟨S, S', d, e, v, u, rfl, _⟩ := h
    rfl
  · obtain ⟨S, S', d, e, v, u, rfl, hv, hu, fd, fe, hn, q⟩ := h
    refine ⟨_, (pss_cons (ps_if (pt_val (pe_callB (k_isiT K) (by rfl) T.z_isinstance bt_isinstance (pa_cons (pv 0) (pa_cons (pe_tup (pa_cons (pe_bltn (v := .ty "list") (by rfl) T.z_list bt_list rfl) (pa_cons (pe_bltn (v := .ty "tuple") (by rfl) T.z_tuple bt_tuple rfl) pa_nil))) pa_nil)))) (pss_cons (ps_if (PW.pt (pw_or (pt_cmpR op_ne (pe_callB (k_isi K) (by rfl) T.z_isinstance bt_isinstance (pa_cons (pv 0) (pa_cons (pe_bltn (v := .ty "list") (by rfl) T.z_list bt_list rfl) pa_nil))) (pe_callB (k_isi K) (by rfl) T.z_isinstance bt_isinstance (pa_cons (pv 1) (pa_cons (pe_bltn (v := .ty "list") (by rfl) T.z_list bt_list rfl) pa_nil))) (nomark _)) (pw_or1 (pt_cmpR op_ne (pe_callB (k_isi K) (by rfl) T.z_isinstance bt_isinstance (pa_cons (pv 0) (pa_cons (pe_bltn (v := .ty "tuple") (by rfl) T.z_tuple bt_tuple rfl) pa_nil))) (pe_callB (k_isi K) (by rfl) T.z_isinstance bt_isinstance (pa_cons (pv 1) (pa_cons (pe_bltn (v := .ty "tuple") (by rfl) T.z_tuple bt_tuple rfl) pa_nil))) (nomark _))))) (pss_one (ps_ret pe_bl)) pss_nil)
        (pss_one (ps_ret (pe_and (pe_cmpR op_eq (pe_callB (k_len K) (by rfl) T.z_len bt_len (pa_cons (pv 0) pa_nil)) (pe_callB (k_len K) (by rfl) T.z_len bt_len (pa_cons (pv 1) pa_nil)) (nomark _)) (pe_one (pe_callB (k_all K) (by rfl) T.z_all bt_all (pa_cons (pe_lc (own := [("_law_k", 2)]) (g := (gName 2)) (tt := tYes) rfl sc__law_same.nd (pi_range1 (by rfl) T.z_range (pa_cons (pe_callB (k_len K) (by rfl) T.z_len bt_len (pa_cons (pv 0) pa_nil)) pa_nil)) (blkOk_by (N := N__law_same) (sc := defScope s__law_same) (by decide +kernel)) (fun _ _ _ _ _ => (pg_name (i := 2) sc__law_same.nd rfl (Or.inl rfl))) (fun _ _ _ _ _ => pts_nil) (fun _ _ _ _ _ => (pe_call G__law_same (hr.mono (by omega)) (by rfl) T.g__law_same T.F__law_same.kp (b__law_same T) .nil pass0 (pa_cons (pe_ix (k_ixQ K) (pv 0) (pv 2) (fun _ _ => rfl)) (pa_cons (pe_ix (k_ixQ K) (pv 1) (pv 2) (fun _ _ => rfl)) pa_nil))))) pa_nil))))))) pss_nil)
      (pss_cons (ps_if (PW.pt (pw_or (pt_val (pe_callB (k_isiT K) (by rfl) T.z_isinstance bt_isinstance (pa_cons (pv 1) (pa_cons (pe_tup (pa_cons (pe_bltn (v := .ty "list") (by rfl) T.z_list bt_list rfl) (pa_cons (pe_bltn (v := .ty "tuple") (by rfl) T.z_tuple bt_tuple rfl) pa_nil))) pa_nil)))) (pw_or1 (pt_cmpR op_ne (pe_callB (k_isi K) (by rfl) T.z_isinstance bt_isinstance (pa_cons (pv 0) (pa_cons (pe_bltn (v := .ty "bool") (by rfl) T.z_bool bt_bool rfl) pa_nil))) (pe_callB (k_isi K) (by rfl) T.z_isinstance bt_isinstance (pa_cons (pv 1) (pa_cons (pe_bltn (v := .ty "bool") (by rfl) T.z_bool bt_bool rfl) pa_nil))) (nomark _))))) (pss_one (ps_ret pe_bl)) pss_nil)
      (pss_one (ps_ret (pe_and (pe_cmpR op_eq (pe_callB (k_isi K) (by rfl) T.z_isinstance bt_isinstance (pa_cons (pv 0) (pa_cons (pe_bltn (v := .ty "int") (by rfl) T.z_int bt_int rfl) pa_nil))) (pe_callB (k_isi K) (by rfl) T.z_isinstance bt_isinstance (pa_cons (pv 1) (pa_cons (pe_bltn (v := .ty "int") (by rfl) T.z_int bt_int rfl) pa_nil))) (nomark _)) (pe_one (pe_cmpR (op_eqD (hu64 hr)) (pv 0) (pv 1) (nomark _)))))))), ?_⟩
    refine ⟨_, rfl, small100 (n := 2) (by decide), fun t nt => ?_⟩
    have s1 := same_upd (o := .tup [V.ty "list", V.ty "tuple"]) nt
    have ht : (upd H t (.tup [V.ty "list", V.ty "tuple"])) t = some (.tup [V.ty "list", V.ty "tuple"]) := upd_same
    have hv := hv.same s1
    have hu := hu.same s1
    generalize upd H t _ = H1 at *
    refine ⟨_, t, _, _, _, _, rfl, ht, .cons (.ty _) (.cons (.ty _) .nil), tr_ty K hv, ki_lt K d, _, rfl, ifB (fun g => ?_) (fun g => ?_)⟩
    · obtain ⟨fl, fa⟩ := fit_items fd g
      have decB : ∀ {a b : Bool}, (!decide (V.bl a = V.bl b)) = true → a ≠ b := fun h e => by
        rw [e, decide_eq_true rfl] at h
        cases h
      have decB' : ∀ {a b : Bool}, (!decide (V.bl a = V.bl b)) = false → a = b := fun {a b} h => by
        by_cases e : V.bl a = V.bl b
        · exact V.bl.inj e
        · rw [decide_eq_false e] at h
          cases h
      refine ⟨_, rfl, _, _, _, _, _, rfl, .ty _, tr_ty K hv, ki_list K d, _, rfl, _, _, _, _, _, rfl, .ty _, tr_ty K hu, ki_list K e, rfl, _, rfl, ifB (fun c => ?_) (fun c => ?_)⟩
      · rw [same_kinds (.inl (decB c)) g] at q
        exact q _ s1
      have c1 := decB' c
      refine ⟨_, rfl, _, _, _, _, _, rfl, .ty _, tr_ty K hv, ki_tuple K d, _, rfl, _, _, _, _, _, rfl, .ty _, tr_ty K hu, ki_tuple K e, rfl, _, rfl, ifB (fun c => ?_) (fun c => ?_)⟩
      · rw [same_kinds (.inr (decB c)) g] at q
        exact q _ s1
      have c2 := decB' c
      have g2 : (isLs e || isTp e) = true := by rw [← c1, ← c2]; exact g
      obtain ⟨fl2, fa2⟩ := fit_items fe g2
      rw [same_items c1 c2 g] at q
      obtain ⟨a, xs, rfl, ha, hs⟩ := seq_of K hv g
      obtain ⟨b, ys, rfl, hb, hs2⟩ := seq_of K hu g2
      have lx := hs.len
      have ly := hs2.len
      have sqa : ∀ {J : Hp}, Same H1 J → SqL K J a xs ∨ SqT K J a xs := fun s => ha.elim (fun h => .inl (SqL.of (s _ _ h.2))) fun h => .inr (SqT.of (s _ _ h.2))
      have sqb : ∀ {J : Hp}, Same H1 J → SqL K J b ys ∨ SqT K J b ys := fun s => hb.elim (fun h => .inl (SqL.of (s _ _ h.2))) fun h => .inr (SqT.of (s _ _ h.2))
      refine ⟨_, rfl, a, _, rfl, sqa (Same.refl _), _, rfl, b, _, rfl, sqb (Same.refl _), rfl, _, rfl, ?_⟩
      by_cases el : (itemsD d).length = (itemsD e).length
      · refine iteP (by rw [lx, ly, el]) ?_
        rw [sameAll_zip _ _ el] at q
        refine ⟨_, rfl, a, _, rfl, sqa (Same.refl _), ((xs.length : Nat) : Int), rfl, by omega, by omega, fun D nD => ?_⟩
        have lz : (List.zipWith sameD (itemsD d) (itemsD e)).length = xs.length := by rw [List.length_zipWith, ← el, lx]; omega
        refine lc_range (n := ((xs.length : Nat) : Int).toNat) (fun i H' => Same H1 H' ∧ H' D = some (.lst (((List.zipWith sameD (itemsD d) (itemsD e)).take i).map V.bl))) ⟨same_upd nD, upd_same⟩ (fun i H' hi h => ?_) (fun H' h => ?_)
        · obtain ⟨sm, hD⟩ := h
          have hi1 : i < xs.length := by omega
          have hi2 : i < ys.length := by omega
          have gx : xs[i]? = some xs[i] := List.getElem?_eq_getElem hi1
          have gy : ys[i]? = some ys[i] := List.getElem?_eq_getElem hi2
          obtain ⟨dx, hdx, tx⟩ := hs.get gx
          obtain ⟨dy, hdy, ty⟩ := hs2.get gy
          have ax : atI xs (0 + (i : Int)) = some xs[i] := at_of (j := i) (by omega) gx
          have ay : atI ys (0 + (i : Int)) = some ys[i] := at_of (j := i) (by omega) gy
          have rix : ∀ {J : Hp} {p : Addr} {zs : List V} {z : V} {Q' : VK}, (SqL K J p zs ∨ SqT K J p zs) → atI zs (0 + (i : Int)) = some z → Q' z J → rIx K (.ref p) (.int (0 + (i : Int))) J Q' := fun h1 h2 h3 => h1.elim (fun h => .inl ⟨_, _, _, _, rfl, rfl, h, h2, h3⟩) fun h => .inr (.inl ⟨_, _, _, _, rfl, rfl, h, h2, h3⟩)
          refine ⟨rfl, _, rfl, _, rfl, rix (sqa sm) ax ⟨_, rfl, _, rfl, rix (sqb sm) ay ?_⟩⟩
          refine ⟨S, S', dx, dy, _, _, rfl, tx.same sm, ty.same sm, fa.get hdx, fa2.get hdy, by omega, fun J sJ => ⟨_, sJ _ _ hD, ?_, same_new (sm.trans sJ) nD, ?_⟩⟩
          · rw [List.length_map, List.length_take]
            exact small1000 (by omega)
          · rw [upd_same, List.take_add_one, List.getElem?_zipWith, hdx, hdy, List.map_append]
            rfl
        · rw [show ((xs.length : Nat) : Int).toNat = xs.length by omega, ← lz, List.take_length] at h
          exact ⟨D, _, rfl, SqL.of h.2, q _ (s1.trans h.1)⟩
      · refine iteN (fun z => el (by have := V.int.inj z; omega)) ?_
        rw [sameAll_len _ _ el] at q
        exact q _ s1
    · refine ⟨_, rfl, small100 (n := 2) (by decide), fun t2 nt2 => ?_⟩
      have s2 := s1.trans (same_upd (o := .tup [V.ty "list", V.ty "tuple"]) nt2)
      have ht2 : (upd H1 t2 (.tup [V.ty "list", V.ty "tuple"])) t2 = some (.tup [V.ty "list", V.ty "tuple"]) := upd_same
      have hv := hv.same (same_upd (o := .tup [V.ty "list", V.ty "tuple"]) nt2)
      have hu := hu.same (same_upd (o := .tup [V.ty "list", V.ty "tuple"]) nt2)
      generalize upd H1 t2 _ = H2 at *
      refine ⟨_, t2, _, _, _, _, rfl, ht2, .cons (.ty _) (.cons (.ty _) .nil), tr_ty K hu, ki_lt K e, _, rfl, ifB (fun g2 => ?_) (fun g2 => ?_)⟩
      · rw [same_leafL g g2] at q
        exact q _ s2
      refine ⟨_, rfl, _, _, _, _, _, rfl, .ty _, tr_ty K hv, ki_bool K d, _, rfl, _, _, _, _, _, rfl, .ty _, tr_ty K hu, ki_bool K e, rfl, _, rfl, ifB (fun c => ?_) (fun c => ?_)⟩
      · rw [same_leafB g g2 (fun e => by rw [e, decide_eq_true rfl] at c; cases c)] at q
        exact q _ s2
      have c1 : isBl d = isBl e := by
        by_cases h : V.bl (isBl d) = V.bl (isBl e)
        · exact V.bl.inj h
        · rw [decide_eq_false h] at c
          cases c
      rw [same_leaf g g2 c1] at q
      refine ⟨_, rfl, _, _, _, _, _, rfl, .ty _, tr_ty K hv, ki_int K d, _, rfl, _, _, _, _, _, rfl, .ty _, tr_ty K hu, ki_int K e, rfl, _, rfl, ?_⟩
      by_cases c3 : isNum d = isNum e
      · refine iteP (by rw [c3]) ?_
        rw [decide_eq_true c3, Bool.true_and] at q
        have sd := fd.shaped (by omega)
        have se := fe.shaped (by omega)
        exact ⟨_, rfl, _, rfl, d, e, Tr.dp _ _ (canOf sd) hv, Tr.dp _ _ (canOf se) hu, sd, se, q _ s2⟩
      · refine iteN (fun z => c3 (V.bl.inj z)) ?_
        rw [decide_eq_false c3, Bool.false_and] at q
        exact q _ s2
theorem none_same (T : Top w K mg) : FnOk P w K mg base CX0 1 T.a__law_same T.d__law_same ["_law_one", "_law_other"] (sp__law_same 0) := by
  have no : ∀ vs H Q E, ¬ sp__law_same 0 vs H Q E := fun vs H Q E ⟨_, _, d, _, _, _, _, _, _, h, _⟩ => by cases d <;> exact h.elim
  exact ⟨fun vs H Q E h => absurd h (no vs H Q E), fun A outer s H args us vs Q E _ _ _ _ h => absurd h (no vs H Q E)⟩
theorem all_same (T : Top w K mg) : ∀ n : Nat, FnOk P w K mg base CX0 (n + 1) T.a__law_same T.d__law_same ["_law_one", "_law_other"] (sp__law_same n)
  | 0 => none_same T
  | n + 1 => ok_same_step T n (all_same T n)

theorem ok__law_same (T : Top w K mg) : FnOk P w K mg base CX0 17 T.a__law_same T.d__law_same ["_law_one", "_law_other"] (sp__law_same 16) := all_same T 16

--SPLIT
/-! ### where the first fault is, by data -/
mutual
theorem chkOk_stm {many : Nat} : ∀ (z : Stm) (l n : Nat) (p : List Nat) (rd : Nat), z.ok many l → p.length = 2 * l + 1 → l ≤ 3 → 4 ≤ l + (n + 1) → rd + z.cnt ≤ 13 → chkBs (chk many n) (blocksOfD z.d) p 0 rd = .inr (rd + (z.cnt - 1))
  | .cmd c, l, n, p, rd, _, _, _, _, _ => by
    rw [Stm.d_eq]
    show chkBs _ (blocksR _ _) _ _ _ = _
    rw [blocksR_d]
    rfl
  | .fin c, l, n, p, rd, _, _, _, _, _ => by
    rw [Stm.d_eq]
    show chkBs _ (blocksR _ _) _ _ _ = _
    rw [blocksR_d]
    rfl
  | .keep b, l, n, p, rd, h, hp, hl, hn, hc => by
    rw [Stm.d_eq]
    show chkBs _ (blocksR _ _) _ _ _ = _
    rw [blocksR_d]
    have c : Stm.cnt (.keep b) = 1 + cntB b := rfl
    rw [c] at hc ⊢
    have e := chkOk_blk b (l + 1) n (p ++ [0]) rd h.2.2 h.2.1 (by rw [List.length_append, hp]; rfl) h.1 (by omega) (by omega)
    show (match chk many n (blkD b) (p ++ [0]) rd with | .inl e => (.inl e : List Nat ⊕ Nat) | .inr m => .inr m) = _
    rw [e]
    exact congrArg Sum.inr (by omega)
  | .again b, l, n, p, rd, h, hp, hl, hn, hc => by
    rw [Stm.d_eq]
    show chkBs _ (blocksR _ _) _ _ _ = _
    rw [blocksR_d]
    have c : Stm.cnt (.again b) = 1 + cntB b := rfl
    rw [c] at hc ⊢
    have e := chkOk_blk b (l + 1) n (p ++ [0]) rd h.2.2 h.2.1 (by rw [List.length_append, hp]; rfl) h.1 (by omega) (by omega)
    show (match chk many n (blkD b) (p ++ [0]) rd with | .inl e => (.inl e : List Nat ⊕ Nat) | .inr m => .inr m) = _
    rw [e]
    exact congrArg Sum.inr (by omega)
  | .either a b, l, n, p, rd, h, hp, hl, hn, hc => by
    rw [Stm.d_eq]
    show chkBs _ (blocksR _ _) _ _ _ = _
    rw [blocksR_d]
    have c : Stm.cnt (.either a b) = 1 + (cntB a + cntB b) := rfl
    rw [c] at hc ⊢
    have e := chkOk_blk a (l + 1) n (p ++ [0]) rd h.2.1.2 h.2.1.1 (by rw [List.length_append, hp]; rfl) h.1 (by omega) (by omega)
    have e2 := chkOk_blk b (l + 1) n (p ++ [1]) (rd + cntB a) h.2.2.2 h.2.2.1 (by rw [List.length_append, hp]; rfl) h.1 (by omega) (by omega)
    show (match chk many n (blkD a) (p ++ [0]) rd with | .inl e => (.inl e : List Nat ⊕ Nat) | .inr m => match chk many n (blkD b) (p ++ [1]) m with | .inl e => (.inl e : List Nat ⊕ Nat) | .inr m => .inr m) = _
    rw [e]
    dsimp only
    rw [e2]
    exact congrArg Sum.inr (by omega)
  | .call q s a b, l, n, p, rd, h, hp, hl, hn, hc => by
    rw [Stm.d_eq]
    show chkBs _ (blocksR _ _) _ _ _ = _
    rw [blocksR_d]
    have c : Stm.cnt (.call q s a b) = 1 + (cntB a + cntB b) := rfl
    rw [c] at hc ⊢
    have e := chkOk_blk a (l + 1) n (p ++ [0]) rd h.2.2.1.2 h.2.2.1.1 (by rw [List.length_append, hp]; rfl) h.1 (by omega) (by omega)
    have e2 := chkOk_blk b (l + 1) n (p ++ [1]) (rd + cntB a) h.2.2.2.2 h.2.2.2.1 (by rw [List.length_append, hp]; rfl) h.1 (by omega) (by omega)
    show (match chk many n (blkD a) (p ++ [0]) rd with | .inl e => (.inl e : List Nat ⊕ Nat) | .inr m => match chk many n (blkD b) (p ++ [1]) m with | .inl e => (.inl e : List Nat ⊕ Nat) | .inr m => .inr m) = _
    rw [e]
    dsimp only
    rw [e2]
    exact congrArg Sum.inr (by omega)
theorem chkOk_blk {many : Nat} : ∀ (b : List Stm) (l n : Nat) (p : List Nat) (rd : Nat), okB many b l → b.length ≤ 8 → p.length = 2 * l → l ≤ 3 → 4 ≤ l + n → rd + cntB b ≤ 12 → chk many n (blkD b) p rd = .inr (rd + cntB b)
  | b, l, 0, p, rd, h, h8, hp, hl, hn, hc => by omega
  | b, l, n + 1, p, rd, h, h8, hp, hl, hn, hc => chkOk_list b l n p 0 rd h (by omega) hp hl hn hc
theorem chkOk_list {many : Nat} : ∀ (b : List Stm) (l n : Nat) (p : List Nat) (i rd : Nat), okB many b l → i + b.length ≤ 8 → p.length = 2 * l → l ≤ 3 → 4 ≤ l + (n + 1) → rd + cntB b ≤ 12 → chkL (chk many n) many (blkD b) p i rd = .inr (rd + cntB b)
  | [], l, n, p, i, rd, _, _, _, _, _, _ => rfl
  | z :: r, l, n, p, i, rd, h, h8, hp, hl, hn, hc => by
    have c0 := z.cnt_pos
    rw [List.length_cons] at h8
    rw [cntB] at hc ⊢
    have e := chkOk_stm z l n (p ++ [i]) (rd + 1) h.1 (by rw [List.length_append, hp]; rfl) hl hn (by omega)
    have e2 := chkOk_list r l n p (i + 1) (rd + z.cnt) h.2 (by omega) hp hl hn (by omega)
    have el : (p.length + 1) / 2 = l := by omega
    rw [blkD, chkL, if_neg (by omega), el, stOk_ok h.1, if_neg Bool.noConfusion, e]
    dsimp only
    rw [show rd + 1 + (z.cnt - 1) = rd + z.cnt by omega, e2]
    exact congrArg _ (by omega)
end
theorem chkP_inr {many : Int} {ds r : List PyData} {k m : Nat} (h : chk many 4 ds [] 0 = .inr m) : chkP many (.list ds :: r) k = chkP many r (k + 1) := by
  rw [chkP, h]
theorem chkP_inl {many : Int} {ds r : List PyData} {k : Nat} {e : List Nat} (h : chk many 4 ds [] 0 = .inl e) : chkP many (.list ds :: r) k = some (k, e) := by
  rw [chkP, h]
theorem chkP_no {many : Int} {d : PyData} {r : List PyData} {k : Nat} (h : isLs d = false) : chkP many (d :: r) k = some (k, []) := by
  cases d <;> first | rfl | cases h
theorem chkP_ok {many : Nat} : ∀ (bs : List (List Stm)) (k : Nat), (∀ b ∈ bs, b.length ≤ 8 ∧ cntB b ≤ 12 ∧ okB many b 0) → chkP many (bs.map bD) k = none
  | [], _, _ => rfl
  | b :: r, k, h => by
    obtain ⟨h1, h2, h3⟩ := h b List.mem_cons_self
    rw [List.map_cons, chkP_inr (chkOk_blk b 0 4 [] 0 h3 h1 rfl (by decide) (by decide) (by omega))]
    exact chkP_ok r (k + 1) fun b m => h b (List.mem_cons_of_mem _ m)
theorem fault_ok {bs : List (List Stm)} (h : OkBook bs) : faultOf (bookD bs) = none := by
  show (if 1 ≤ (bs.map bD).length ∧ (bs.map bD).length ≤ 3 then _ else _) = none
  rw [List.length_map, if_pos ⟨h.lo, h.hi⟩, chkP_ok bs 0 h.each]
  rfl
/-- what stands ahead of a fault -/
def Sound (many : Int) (d : PyData) : Prop := ∃ ds m, d = .list ds ∧ chk many 4 ds [] 0 = .inr m
theorem sound_of {many : Nat} {b : List Stm} (h : b.length ≤ 8 ∧ cntB b ≤ 12 ∧ okB many b 0) : Sound many (bD b) := ⟨_, _, rfl, chkOk_blk b 0 4 [] 0 h.2.2 h.1 rfl (by decide) (by decide) (by omega)⟩
theorem chkP_first {many : Int} {x : Nat × List Nat} : ∀ {bs : List PyData} {i k : Nat} {d : PyData}, (∀ (j : Nat) (e : PyData), j < i → bs[j]? = some e → Sound many e) → bs[i]? = some d → chkP many [d] (k + i) = some x → chkP many bs k = some x
  | [], i, k, d, _, e, _ => by simp at e
  | b :: r, 0, k, d, _, e, h => by
    simp at e
    subst e
    rw [Nat.add_zero] at h
    cases hb : isLs b with
    | false =>
      rw [chkP_no hb] at h ⊢
      exact h
    | true =>
      obtain ⟨ds, rfl⟩ : ∃ ds, b = .list ds := by cases b <;> first | exact ⟨_, rfl⟩ | cases hb
      cases hc : chk many 4 ds [] 0 with
      | inl e => rw [chkP_inl hc] at h ⊢; exact h
      | inr m => rw [chkP_inr hc] at h; cases h
  | b :: r, i + 1, k, d, hs, e, h => by
    obtain ⟨ds, m, rfl, hc⟩ := hs 0 b (by omega) rfl
    rw [chkP_inr hc]
    exact chkP_first (fun j e hj he => hs (j + 1) e (by omega) he) (i := i) (by simpa using e) (by rw [show k + 1 + i = k + (i + 1) by omega]; exact h)
mutual
theorem Stm.ok_le {many m' : Nat} (hm : many ≤ m') : ∀ (z : Stm) (l : Nat), z.ok many l → z.ok m' l
  | .cmd _, _, h => h
  | .fin _, _, h => h
  | .keep b, l, h => ⟨h.1, h.2.1, okB_le hm b _ h.2.2⟩
  | .again b, l, h => ⟨h.1, h.2.1, okB_le hm b _ h.2.2⟩
  | .either a b, l, h => ⟨h.1, ⟨h.2.1.1, okB_le hm a _ h.2.1.2⟩, h.2.2.1, okB_le hm b _ h.2.2.2⟩
  | .call p _ a b, l, h => ⟨h.1, Nat.lt_of_lt_of_le h.2.1 hm, ⟨h.2.2.1.1, okB_le hm a _ h.2.2.1.2⟩, h.2.2.2.1, okB_le hm b _ h.2.2.2.2⟩
theorem okB_le {many m' : Nat} (hm : many ≤ m') : ∀ (b : List Stm) (l : Nat), okB many b l → okB m' b l
  | [], _, _ => True.intro
  | z :: r, l, h => ⟨z.ok_le hm l h.1, okB_le hm r l h.2⟩
end
theorem okBook_more {bs : List (List Stm)} (h : OkBook bs) (h3 : bs.length < 3) : OkBook (bs ++ [[]]) := by
  refine ⟨by simp, by simp; omega, fun b m => ?_⟩
  rw [List.length_append, List.length_singleton]
  rcases List.mem_append.mp m with m | m
  · obtain ⟨h1, h2, h3⟩ := h.each b m
    exact ⟨h1, h2, okB_le (by omega) b 0 h3⟩
  · rw [List.mem_singleton.mp m]
    exact ⟨by decide, by decide, True.intro⟩
theorem sh_tail {s : Stm} {x : PyData} {r : List PyData} (e : s.d = .tuple (x :: r)) : SeqAt.shaped x = true := by
  rw [Stm.d_eq] at e
  cases e
  exact sh_str (word_ok s)
theorem gd_blk : ∀ (n : Nat) (b : List Stm), Gd n (blkD b)
  | 0, _ => True.intro
  | n + 1, b => fun d hd => by
    rw [blkD_map] at hd
    obtain ⟨z, _, rfl⟩ := List.mem_map.mp hd
    refine ⟨wordOk_d z, fun x r e => sh_tail e, fun e he => ?_⟩
    rw [Stm.d_eq] at he
    have he : e ∈ blocksR z.word z.rest := he
    rw [blocksR_d] at he
    obtain ⟨b', _, rfl⟩ := List.mem_map.mp he
    exact gd_blk n b'
theorem gd_book (bs : List (List Stm)) : ∀ ds, PyData.list ds ∈ bs.map bD → Gd 4 ds := fun ds h => by
  obtain ⟨b, _, e⟩ := List.mem_map.mp h
  cases e
  exact gd_blk 4 b
/-! ### values that are no statements -/
def badSt (many : Int) : List PyData :=
  [.none, .str "mark", .tuple [], .list [.str "mark"], .tuple [.str "go", .int 10], .tuple [.str "end", .int 2], .tuple [.str "end", .bool true], .tuple [.str "end"], .tuple [.str "keep"], .tuple [.str "keep", .list [], .list []],
   .tuple [.str "keep", .tuple []], .tuple [.str "either", .list []], .tuple [.str "either", .list [], .none], .tuple [.str "either", .tuple [], .list []], .tuple [.str "again", .int 3], .tuple [.str "again"],
   .tuple [.str "call", .int many, .bool false, .list [.list [], .list []]], .tuple [.str "call", .int (-1), .bool false, .list [.list [], .list []]], .tuple [.str "call", .int 0, .int 0, .list [.list [], .list []]],
   .tuple [.str "call", .int 0, .bool true, .list [.list []]], .tuple [.str "call", .int 0, .bool true, .list [.list [], .list [], .list []]], .tuple [.str "call", .int 0, .bool true, .tuple [.list [], .list []]],
   .tuple [.str "call", .int 0, .bool false, .list [.list [], .none]], .tuple [.str "call", .bool true, .bool false, .list [.list [], .list []]], .tuple [.str "call", .int 0, .list [.list [], .list []]], .tuple [.str "Mark"],
   .tuple [.int 1, .int 2], .tuple [.list [], .list []], .tuple [.str "end", .int (-1)], .tuple [.str "end", .int 0, .int 0], .tuple [.str "call", .bool false, .bool true, .list [.list [], .list []]], .tuple [.str "call", .int 0, .bool true],
   .tuple [.str "call", .int 0, .none, .list [.list [], .list []]], .tuple [.str "call", .int 0, .bool true, .list [.tuple [], .list []]], .list [.str "keep", .list []], .tuple [.str "turn", .bool true], .bool true]

--SPLIT
/-! ### lists of bodies with a fault put in -/
theorem fault_first {es : List PyData} {i : Nat} {d : PyData} {x : Nat × List Nat} (h1 : 1 ≤ es.length) (h3 : es.length ≤ 3) (hs : ∀ (j : Nat) (e : PyData), j < i → es[j]? = some e → Sound es.length e) (hd : es[i]? = some d) (hx : chkP es.length [d] i = some x) : faultOf (.list es) = some ((x.1 : Int), x.2) := by
  show (if 1 ≤ es.length ∧ es.length ≤ 3 then _ else _) = _
  rw [if_pos ⟨h1, h3⟩, chkP_first hs hd (by rw [Nat.zero_add]; exact hx)]
  rfl
theorem chk_bad {many : Nat} {n : Nat} {d : PyData} {r : List PyData} (h : stOk 0 many d = false) : chk many (n + 1) (.tuple [.str "mark"] :: d :: r) [] 0 = .inl [1] := by
  have m : stOk (((([] : List Nat).length + 1) / 2 : Nat) : Int) many (.tuple [.str "mark"]) = true := stOk_ok (s := .cmd .mark) (l := 0) (fun i z l e _ => by simp [Cm.nums] at e)
  have b : blocksOfD (.tuple [.str "mark"]) = [] := by
    show blocksR "mark" [] = []
    decide +kernel
  show chkL (chk many n) many _ [] 0 0 = _
  rw [chkL, if_neg (by omega), m, if_neg Bool.noConfusion, b]
  show chkL (chk many n) many (d :: r) [] 1 1 = _
  rw [chkL, if_neg (by omega), show ((([] : List Nat).length + 1) / 2 : Nat) = 0 from rfl, show stOk ((0 : Nat) : Int) many d = false from h, if_pos rfl]
  rfl
/-- the bodies, the one at i replaced by no list -/
theorem fault_val {bs : List (List Stm)} {es : List PyData} {i : Nat} {d : PyData} (ob : OkBook bs) (hl : es.length = bs.length) (hi : i < bs.length) (he : ∀ j < i, es[j]? = (bs.map bD)[j]?) (hd : isLs d = false) : faultOf (.list (es.set i d)) = some ((i : Int), []) := by
  have ls : (es.set i d).length = bs.length := by rw [List.length_set, hl]
  refine fault_first (i := i) (d := d) (x := (i, [])) (by rw [ls]; exact ob.lo) (by rw [ls]; exact ob.hi) (fun j e hj h => ?_) (List.getElem?_set_self (by omega)) (chkP_no hd)
  rw [List.getElem?_set_ne (by omega), he j hj] at h
  obtain ⟨b, _, mb, rfl⟩ := get_bodies h
  rw [ls]
  exact sound_of (ob.each b mb)
/-- and the one at k, ahead of it, with a faulty statement -/
theorem fault_stm {bs : List (List Stm)} {i k : Nat} {d e : PyData} {r : List PyData} (ob : OkBook bs) (hk : k < i) (hi : i < bs.length) (h : stOk 0 bs.length e = false) : faultOf (.list (((bs.map bD).set k (.list (.tuple [.str "mark"] :: e :: r))).set i d)) = some ((k : Int), [1]) := by
  have ls : (((bs.map bD).set k (.list (.tuple [.str "mark"] :: e :: r))).set i d).length = bs.length := by rw [List.length_set, List.length_set, List.length_map]
  refine fault_first (i := k) (d := .list (.tuple [.str "mark"] :: e :: r)) (x := (k, [1])) (by rw [ls]; exact ob.lo) (by rw [ls]; exact ob.hi) (fun j e' hj h' => ?_) ?_ ?_
  · rw [List.getElem?_set_ne (by omega), List.getElem?_set_ne (by omega)] at h'
    obtain ⟨b, _, mb, rfl⟩ := get_bodies h'
    rw [ls]
    exact sound_of (ob.each b mb)
  · rw [List.getElem?_set_ne (by omega), List.getElem?_set_self (by rw [List.length_map]; omega)]
  · rw [ls]
    exact chkP_inl (chk_bad h)

def hdB : PyData → Bool
  | .str s => PyData.strOk s
  | .int _ => true
  | .list [] => true
  | _ => false
theorem hd_sh {x : PyData} (h : hdB x = true) : SeqAt.shaped x = true := by
  unfold hdB at h
  split at h
  · exact sh_str h
  · exact shI _
  · simp [SeqAt.shaped, PyData.canLay0, PyData.depth, PyData.canLayAll0, PyData.depthAll]
  · cases h
def wB : PyData → Bool
  | .tuple (.str s :: _) => oddWords.contains s || s == "go" || s == "turn"
  | _ => true
theorem wB_ok {d : PyData} (h : wB d = true) : WordOk d := by
  unfold wB at h
  split at h
  · simp only [Bool.or_eq_true, List.contains_iff_mem, beq_iff_eq] at h
    rcases h with (h | h) | h
    · exact .inl h
    · exact .inr ⟨.go 0, h.symm⟩
    · exact .inr ⟨.turn 0, h.symm⟩
  · rename_i n
    unfold WordOk
    split
    · rename_i s r
      exact absurd rfl (n s r)
    · exact True.intro
def headB : PyData → Bool
  | .tuple (x :: _) => hdB x
  | _ => true
def gdB (d : PyData) : Bool := wB d && headB d && (blocksOfD d).all fun e => (itemsL e).isEmpty
theorem gdB_ok {d : PyData} (h : gdB d = true) (n : Nat) : WordOk d ∧ (∀ x r, d = .tuple (x :: r) → SeqAt.shaped x = true) ∧ ∀ e ∈ blocksOfD d, Gd n (itemsL e) := by
  simp only [gdB, Bool.and_eq_true, List.all_eq_true, List.isEmpty_iff] at h
  refine ⟨wB_ok h.1.1, fun x r e => by subst e; exact hd_sh h.1.2, fun e he => ?_⟩
  rw [h.2 e he]
  cases n with
  | zero => exact True.intro
  | succ n => exact fun d hd => absurd hd List.not_mem_nil
theorem bad_no {l many : Nat} (hl : l ≤ 3) (h1 : 1 ≤ many) (h3 : many ≤ 3) : ∀ d ∈ badSt many, stOk (l : Int) many d = false ∧ gdB d = true := by
  have key : ∀ l : Fin 4, ∀ m : Fin 4, 1 ≤ m.val → ∀ d ∈ badSt (m.val : Int), stOk ((l.val : Nat) : Int) ((m.val : Nat) : Int) d = false ∧ gdB d = true := by decide +kernel
  exact key ⟨l, by omega⟩ ⟨many, by omega⟩ h1
theorem okd__law_draw (T : Top w K mg) : FnOk P w K mg base CX0 1 T.a__law_draw T.d__law_draw ["_law_pool_here", "_law_many"] (spP F__law_draw) := (ok__law_draw T).imp fun vs H Q E h => spP_draw (fun ds Q q => q) h
def F__law_bad_statement : FD := fun ds Q => ∃ many : Int, ds = [.int many] ∧ ∀ d ∈ badSt many, Q d
theorem FM__law_bad_statement : FMono F__law_bad_statement := ⟨fun m ⟨k, e, q⟩ => ⟨k, e, fun d hd => m _ (q d hd)⟩⟩
set_option maxHeartbeats 4000000 in
theorem ok__law_bad_statement (T : Top w K mg) : FnOk P w K mg base CX0 2 T.a__law_bad_statement T.d__law_bad_statement ["_law_pool_here", "_law_many"] (spP F__law_bad_statement) := by
  refine fnP FM__law_bad_statement T.F__law_bad_statement sc__law_bad_statement (fun ds Q ⟨k, e, _⟩ => by rw [e]; rfl) (fun c p L hP cdv A outer s H E hr => (pdss_cons (pds_set (i := 2) (fun h => ps_set (i := 2) sc__law_bad_statement.nd rfl (Or.inl rfl) h) (pdn (pn_lst (pda_cons (pdn (pn_lst pda_nil)) (pda_cons (pdn (pn_lst pda_nil)) pda_nil)))))
      (pdss_cons (pds_set (i := 3) (fun h => ps_set (i := 3) sc__law_bad_statement.nd rfl (Or.inl rfl) h) (pdn (pn_lst (pda_cons pd_non (pda_cons pd_str (pda_cons (pd_tup pda_nil) (pda_cons (pdn (pn_lst (pda_cons pd_str pda_nil))) (pda_cons (pd_tup (pda_cons pd_str (pda_cons pd_int pda_nil))) (pda_cons (pd_tup (pda_cons pd_str (pda_cons pd_int pda_nil))) (pda_cons (pd_tup (pda_cons pd_str (pda_cons pd_bl pda_nil))) (pda_cons (pd_tup (pda_cons pd_str pda_nil)) (pda_cons (pd_tup (pda_cons pd_str pda_nil)) (pda_cons (pd_tup (pda_cons pd_str (pda_cons (pdn (pn_lst pda_nil)) (pda_cons (pdn (pn_lst pda_nil)) pda_nil)))) pda_nil)))))))))))))
      (pdss_cons (pds_set (i := 3) (fun h => ps_set (i := 3) sc__law_bad_statement.nd rfl (Or.inl rfl) h) (pdn (pn_op (fun ha hb => pe_op op_cat ha hb) dk_cat (pd_name (pv 3)) (pdn (pn_lst (pda_cons (pd_tup (pda_cons pd_str (pda_cons (pd_tup pda_nil) pda_nil))) (pda_cons (pd_tup (pda_cons pd_str (pda_cons (pdn (pn_lst pda_nil)) pda_nil))) (pda_cons (pd_tup (pda_cons pd_str (pda_cons (pdn (pn_lst pda_nil)) (pda_cons pd_non pda_nil)))) (pda_cons (pd_tup (pda_cons pd_str (pda_cons (pd_tup pda_nil) (pda_cons (pdn (pn_lst pda_nil)) pda_nil)))) (pda_cons (pd_tup (pda_cons pd_str (pda_cons pd_int pda_nil))) (pda_cons (pd_tup (pda_cons pd_str pda_nil)) pda_nil)))))))))))
      (pdss_cons (pds_set (i := 3) (fun h => ps_set (i := 3) sc__law_bad_statement.nd rfl (Or.inl rfl) h) (pdn (pn_op (fun ha hb => pe_op op_cat ha hb) dk_cat (pd_name (pv 3)) (pdn (pn_lst (pda_cons (pd_tup (pda_cons pd_str (pda_cons (pd_name (pv 1)) (pda_cons pd_bl (pda_cons (pd_name (pv 2)) pda_nil))))) (pda_cons (pd_tup (pda_cons pd_str (pda_cons (pd_un (fun h => pe_un un_neg h) dk_u pd_int) (pda_cons pd_bl (pda_cons (pd_name (pv 2)) pda_nil))))) (pda_cons (pd_tup (pda_cons pd_str (pda_cons pd_int (pda_cons pd_int (pda_cons (pd_name (pv 2)) pda_nil))))) pda_nil))))))))
      (pdss_cons (pds_set (i := 3) (fun h => ps_set (i := 3) sc__law_bad_statement.nd rfl (Or.inl rfl) h) (pdn (pn_op (fun ha hb => pe_op op_cat ha hb) dk_cat (pd_name (pv 3)) (pdn (pn_lst (pda_cons (pd_tup (pda_cons pd_str (pda_cons pd_int (pda_cons pd_bl (pda_cons (pdn (pn_lst (pda_cons (pdn (pn_lst pda_nil)) pda_nil))) pda_nil))))) (pda_cons (pd_tup (pda_cons pd_str (pda_cons pd_int (pda_cons pd_bl (pda_cons (pdn (pn_lst (pda_cons (pdn (pn_lst pda_nil)) (pda_cons (pdn (pn_lst pda_nil)) (pda_cons (pdn (pn_lst pda_nil)) pda_nil))))) pda_nil))))) (pda_cons (pd_tup (pda_cons pd_str (pda_cons pd_int (pda_cons pd_bl (pda_cons (pd_tup (pda_cons (pdn (pn_lst pda_nil)) (pda_cons (pdn (pn_lst pda_nil)) pda_nil))) pda_nil))))) pda_nil))))))))
      (pdss_cons (pds_set (i := 3) (fun h => ps_set (i := 3) sc__law_bad_statement.nd rfl (Or.inl rfl) h) (pdn (pn_op (fun ha hb => pe_op op_cat ha hb) dk_cat (pd_name (pv 3)) (pdn (pn_lst (pda_cons (pd_tup (pda_cons pd_str (pda_cons pd_int (pda_cons pd_bl (pda_cons (pdn (pn_lst (pda_cons (pdn (pn_lst pda_nil)) (pda_cons pd_non pda_nil)))) pda_nil))))) (pda_cons (pd_tup (pda_cons pd_str (pda_cons pd_bl (pda_cons pd_bl (pda_cons (pd_name (pv 2)) pda_nil))))) (pda_cons (pd_tup (pda_cons pd_str (pda_cons pd_int (pda_cons (pd_name (pv 2)) pda_nil)))) (pda_cons (pd_tup (pda_cons pd_str pda_nil)) pda_nil)))))))))
      (pdss_cons (pds_set (i := 3) (fun h => ps_set (i := 3) sc__law_bad_statement.nd rfl (Or.inl rfl) h) (pdn (pn_op (fun ha hb => pe_op op_cat ha hb) dk_cat (pd_name (pv 3)) (pdn (pn_lst (pda_cons (pd_tup (pda_cons pd_int (pda_cons pd_int pda_nil))) (pda_cons (pd_tup (pda_cons (pdn (pn_lst pda_nil)) (pda_cons (pdn (pn_lst pda_nil)) pda_nil))) (pda_cons (pd_tup (pda_cons pd_str (pda_cons (pd_un (fun h => pe_un un_neg h) dk_u pd_int) pda_nil))) (pda_cons (pd_tup (pda_cons pd_str (pda_cons pd_int (pda_cons pd_int pda_nil)))) (pda_cons (pd_tup (pda_cons pd_str (pda_cons pd_bl (pda_cons pd_bl (pda_cons (pd_name (pv 2)) pda_nil))))) (pda_cons (pd_tup (pda_cons pd_str (pda_cons pd_int (pda_cons pd_bl pda_nil)))) pda_nil)))))))))))
      (pdss_cons (pds_set (i := 3) (fun h => ps_set (i := 3) sc__law_bad_statement.nd rfl (Or.inl rfl) h) (pdn (pn_op (fun ha hb => pe_op op_cat ha hb) dk_cat (pd_name (pv 3)) (pdn (pn_lst (pda_cons (pd_tup (pda_cons pd_str (pda_cons pd_int (pda_cons pd_non (pda_cons (pd_name (pv 2)) pda_nil))))) (pda_cons (pd_tup (pda_cons pd_str (pda_cons pd_int (pda_cons pd_bl (pda_cons (pdn (pn_lst (pda_cons (pd_tup pda_nil) (pda_cons (pdn (pn_lst pda_nil)) pda_nil)))) pda_nil))))) (pda_cons (pdn (pn_lst (pda_cons pd_str (pda_cons (pdn (pn_lst pda_nil)) pda_nil)))) (pda_cons (pd_tup (pda_cons pd_str (pda_cons pd_bl pda_nil))) (pda_cons pd_bl pda_nil))))))))))
      (pdss_one (pds_ret (pd_op (fun ha hb => pe_ix (k_ixQ K) ha hb (fun _ _ => rfl)) dk_ix (pd_name (pv 3)) (pd_callP hP FM__law_draw (fun h => pe_call (okd__law_draw T) hr (by rfl) T.g__law_draw T.F__law_draw.kp (b__law_draw T) .nil pass0 h) (pda_cons (pd_name (pv 0)) (pda_cons (pd_cl (fun h => pe_callB (k_len K) (by rfl) T.z_len bt_len h) dk_len (pda_cons (pd_name (pv 3)) pda_nil)) pda_nil))))))))))))))) (fun p ds Q ⟨many, e, q⟩ => ?_)
  subst e
  simp [dName, dC, dNil, dCons, dTup, nLst, dFrz, Av.dat, Av.seq, dOp, dUn, dCl, dTest, dTru, truD, dtNot, dtAnd, dtOr, deNot, deAnd, deOr, deIf, kI, kI0, kU, kEq, kNe, kIsN, kNotN, kLen, kInt, kListOf, kTupOf, kCat, kCatT, dSkip, dSeq, dSet, dOwn, dRet, dRetN, dIf, dIsi, dCallF, dstart, retD, fends, isI, isLs, isTp, isBl, isNum, isStr, isNo, shI, shB, eqvI2, eqvB, eqvS, sameD, avd1, avd0, dCallP, F__law_draw]
  intro r r0 r1
  obtain ⟨d, e, m⟩ := atI_mem (ds := badSt many) r0 r1
  exact ⟨_, r, d, rfl, rfl, e, _, rfl, q d m⟩

--SPLIT
/-! ### a statement replaced, by data -/
def withD (d : PyData) (bs : List PyData) : PyData := match d with
  | .tuple (.str sw :: r) => if sw = "call" then (match r with | [p, s, _] => .tuple [.str sw, p, s, .list bs] | _ => d) else .tuple (.str sw :: bs)
  | _ => d
def replD (v : PyData) : List PyData → List Nat → List PyData
  | ds, [] => ds
  | ds, [a] => ds.set a v
  | ds, a :: b :: q => match ds[a]? with
    | some d => ds.set a (withD d ((blocksOfD d).set b (.list (replD v (itemsL ((blocksOfD d).getD b .none)) q))))
    | none => ds
/-- a statement with blocks -/
def SpD (d : PyData) : Prop := (∃ (p : Int) (s : Bool) (bs : List PyData), d = .tuple [.str "call", .int p, .bool s, .list bs]) ∨ ∃ (sw : Str) (r : List PyData), d = .tuple (.str sw :: r) ∧ (sw = "keep" ∨ sw = "either" ∨ sw = "again")
theorem blk_of' {s : Str} {r : List PyData} (h : s = "keep" ∨ s = "either" ∨ s = "again") : blocksOfD (.tuple (.str s :: r)) = r ∧ ¬ s = "call" := by
  show blocksR s r = r ∧ _
  unfold blocksR
  rcases h with rfl | rfl | rfl <;> exact ⟨by rw [if_neg (by decide +kernel), if_pos (by decide +kernel)], by decide +kernel⟩
theorem with_sp {d : PyData} (h : SpD d) (bs : List PyData) : SpD (withD d bs) ∧ blocksOfD (withD d bs) = bs := by
  rcases h with ⟨p, s, b0, rfl⟩ | ⟨sw, r, rfl, h⟩
  · exact ⟨.inl ⟨p, s, bs, rfl⟩, rfl⟩
  · obtain ⟨e, n⟩ := blk_of' (r := bs) h
    have ew : withD (.tuple (.str sw :: r)) bs = .tuple (.str sw :: bs) := if_neg n
    rw [ew]
    exact ⟨.inr ⟨sw, bs, rfl, h⟩, e⟩
theorem with_st {l many : Nat} {d : PyData} {bs : List PyData} (h : SpD d) (hs : stOk (l : Int) many d = true) (hl : bs.length = (blocksOfD d).length) (ha : bs.all isLs = true) : stOk (l : Int) many (withD d bs) = true := by
  have bo : ∀ {s : Str}, s ∈ oddWords → boundsOf s = none := bounds_odd
  rcases h with ⟨p, s, b0, rfl⟩ | ⟨sw, r, rfl, h⟩
  · have ew : withD (.tuple [.str "call", .int p, .bool s, .list b0]) bs = .tuple [.str "call", .int p, .bool s, .list bs] := rfl
    rw [ew]
    have e0 : blocksOfD (.tuple [.str "call", .int p, .bool s, .list b0]) = b0 := rfl
    rw [e0] at hl
    have n1 : ¬ (("call" : Str) = "end") := by decide +kernel
    simp only [stOk, cmdOk, bo (s := "call") (by simp [oddWords]), stRest, PyData.eqv, n1, callOk, areBl, Bool.false_or] at hs ⊢
    simp only [beq_iff_eq, n1, if_false, Bool.and_eq_true, decide_eq_true_eq] at hs ⊢
    by_cases e3 : (l : Int) = 3
    · simp [e3] at hs
    · simp [e3] at hs ⊢
      refine ⟨hs.1, ?_, ?_⟩
      · omega
      · exact fun x hx => List.all_eq_true.mp ha x hx
  · obtain ⟨e0, n⟩ := blk_of' (r := r) h
    have ew : withD (.tuple (.str sw :: r)) bs = .tuple (.str sw :: bs) := if_neg n
    rw [ew]
    rw [e0] at hl
    by_cases e3 : (l : Int) = 3
    · rcases h with rfl | rfl | rfl
      · have n1 : ¬ (("keep" : Str) = "end") := by decide +kernel
        simp [stOk, cmdOk, bo (s := "keep") (by simp [oddWords]), stRest, PyData.eqv, n1, e3] at hs
      · have n1 : ¬ (("either" : Str) = "end") := by decide +kernel
        simp [stOk, cmdOk, bo (s := "either") (by simp [oddWords]), stRest, PyData.eqv, n1, e3] at hs
      · have n1 : ¬ (("again" : Str) = "end") := by decide +kernel
        simp [stOk, cmdOk, bo (s := "again") (by simp [oddWords]), stRest, PyData.eqv, n1, e3] at hs
    · have ha' : ∀ x ∈ bs, isLs x = true := fun x hx => List.all_eq_true.mp ha x hx
      rcases h with rfl | rfl | rfl
      · have n1 : ¬ (("keep" : Str) = "end") := by decide +kernel
        have n2 : ¬ (("keep" : Str) = "call") := by decide +kernel
        have n3 : ¬ (("keep" : Str) = "either") := by decide +kernel
        simp [stOk, cmdOk, bo (s := "keep") (by simp [oddWords]), stRest, PyData.eqv, n1, n2, n3, e3, areBlT] at hs ⊢
        exact ⟨by omega, ha'⟩
      · have n1 : ¬ (("either" : Str) = "end") := by decide +kernel
        have n2 : ¬ (("either" : Str) = "call") := by decide +kernel
        simp [stOk, cmdOk, bo (s := "either") (by simp [oddWords]), stRest, PyData.eqv, n1, n2, e3, areBlT] at hs ⊢
        exact ⟨by omega, ha'⟩
      · have n1 : ¬ (("again" : Str) = "end") := by decide +kernel
        have n2 : ¬ (("again" : Str) = "call") := by decide +kernel
        have n3 : ¬ (("again" : Str) = "either") := by decide +kernel
        simp [stOk, cmdOk, bo (s := "again") (by simp [oddWords]), stRest, PyData.eqv, n1, n2, n3, e3, areBlT] at hs ⊢
        exact ⟨by omega, ha'⟩
theorem sp_all {l many : Nat} {d : PyData} (h : SpD d) (hs : stOk (l : Int) many d = true) : (blocksOfD d).all isLs = true := by
  obtain ⟨sw, r, rfl, _, h2, _⟩ := stOk_form hs
  exact h2
/-! reading in two pieces -/
theorem chkL_app {g : List PyData → List Nat → Nat → List Nat ⊕ Nat} {many : Int} {p : List Nat} : ∀ (xs ys : List PyData) (i rd m : Nat), chkL g many xs p i rd = .inr m → chkL g many (xs ++ ys) p i rd = chkL g many ys p (i + xs.length) m
  | [], ys, i, rd, m, h => by
    rw [chkL] at h
    cases h
    rfl
  | x :: xs, ys, i, rd, m, h => by
    rw [chkL] at h
    rw [List.cons_append, chkL]
    split at h
    · cases h
    rename_i c1
    rw [if_neg c1]
    split at h
    · cases h
    rename_i c2
    rw [if_neg c2]
    split at h
    · cases h
    rename_i k hk
    have e := chkL_app xs ys (i + 1) k m h
    show chkL g many (xs ++ ys) p (i + 1) k = _
    rw [e, List.length_cons, show i + 1 + xs.length = i + (xs.length + 1) by omega]
theorem chkBs_app {g : List PyData → List Nat → Nat → List Nat ⊕ Nat} {p : List Nat} : ∀ (xs ys : List PyData) (j rd m : Nat), chkBs g xs p j rd = .inr m → chkBs g (xs ++ ys) p j rd = chkBs g ys p (j + xs.length) m
  | [], ys, j, rd, m, h => by
    rw [chkBs] at h
    cases h
    rfl
  | x :: xs, ys, j, rd, m, h => by
    rw [chkBs] at h
    rw [List.cons_append, chkBs]
    split at h
    · cases h
    rename_i k hk
    have e := chkBs_app xs ys (j + 1) k m h
    show chkBs g (xs ++ ys) p (j + 1) k = _
    rw [e, List.length_cons, show j + 1 + xs.length = j + (xs.length + 1) by omega]
/-- all ahead of the place is sound -/
def Sd (many : Int) : Nat → List PyData → List Nat → Nat → List Nat → Prop
  | 0, _, _, _, _ => False
  | _ + 1, _, _, _, [] => False
  | n + 1, ds, p, rd, [a] => a < ds.length ∧ a < 8 ∧ ∃ m, chkL (chk many n) many (ds.take a) p 0 rd = .inr m ∧ m < 12
  | n + 1, ds, p, rd, a :: b :: q => a < 8 ∧ ∃ m d e k, chkL (chk many n) many (ds.take a) p 0 rd = .inr m ∧ m < 12 ∧ ds[a]? = some d ∧ SpD d ∧ stOk (((p.length + 1) / 2 : Nat) : Int) many d = true ∧ (blocksOfD d)[b]? = some (.list e) ∧
      chkBs (chk many n) ((blocksOfD d).take b) (p ++ [a]) 0 (m + 1) = .inr k ∧ Sd many n e (p ++ [a] ++ [b]) k q
theorem set_split {xs : List PyData} {a : Nat} {v : PyData} (h : a < xs.length) : xs.set a v = xs.take a ++ v :: xs.drop (a + 1) := List.set_eq_take_append_cons_drop ▸ if_pos h
theorem sd_fault {many : Nat} {v : PyData} (hv : ∀ l : Nat, l ≤ 3 → stOk (l : Int) many v = false) : ∀ (n : Nat) (ds : List PyData) (p : List Nat) (rd : Nat) (q : List Nat), p.length + q.length ≤ 7 → Sd many n ds p rd q → chk many n (replD v ds q) p rd = .inl (p ++ q)
  | 0, _, _, _, _, _, h => h.elim
  | _ + 1, _, _, _, [], _, h => h.elim
  | n + 1, ds, p, rd, [a], hl, ⟨ha, h8, m, hm, m12⟩ => by
    show chkL (chk many n) many (ds.set a v) p 0 rd = _
    rw [set_split ha, chkL_app _ _ _ _ _ hm, List.length_take, Nat.zero_add, Nat.min_eq_left (by omega), chkL, if_neg (by omega)]
    have : (p.length + 1) / 2 ≤ 3 := by simp at hl; omega
    rw [if_pos (hv _ this)]
  | n + 1, ds, p, rd, a :: b :: q, hl, ⟨h8, m, d, e, k, hm, m12, hd, hsp, hst, hb, hk, hq⟩ => by
    have ha := (List.getElem?_eq_some_iff.mp hd).1
    have hbl := (List.getElem?_eq_some_iff.mp hb).1
    have eb : (blocksOfD d).getD b .none = .list e := by rw [List.getD_eq_getElem?_getD, hb]; rfl
    have er : replD v ds (a :: b :: q) = ds.set a (withD d ((blocksOfD d).set b (.list (replD v e q)))) := by
      rw [replD, hd]
      show ds.set a (withD d ((blocksOfD d).set b (.list (replD v (itemsL ((blocksOfD d).getD b .none)) q)))) = _
      rw [eb]
      rfl
    rw [er]
    have hal : ((blocksOfD d).set b (.list (replD v e q))).all isLs = true := List.all_eq_true.mpr fun x hx => (List.mem_or_eq_of_mem_set hx).elim (fun h => List.all_eq_true.mp (sp_all hsp hst) x h) fun h => by rw [h]; rfl
    have hst' := with_st (bs := (blocksOfD d).set b (.list (replD v e q))) hsp hst (by rw [List.length_set]) hal
    obtain ⟨_, hbk⟩ := with_sp hsp ((blocksOfD d).set b (.list (replD v e q)))
    have ih := sd_fault hv n e (p ++ [a] ++ [b]) k q (by simp at hl ⊢; omega) hq
    show chkL (chk many n) many (ds.set a _) p 0 rd = _
    rw [set_split ha, chkL_app _ _ _ _ _ hm, List.length_take, Nat.zero_add, Nat.min_eq_left (by omega), chkL, if_neg (by omega), if_neg (by rw [hst']; exact Bool.noConfusion), hbk, set_split hbl, chkBs_app _ _ _ _ _ hk, List.length_take, Nat.zero_add, Nat.min_eq_left (by omega), chkBs]
    show (match (match chk many n (replD v e q) (p ++ [a] ++ [b]) k with | .inl e => (.inl e : List Nat ⊕ Nat) | .inr m => _) with | .inl e => (.inl e : List Nat ⊕ Nat) | .inr m => _) = _
    rw [ih]
    simp
/-- reading order -/
def le : List Nat → List Nat → Prop
  | [], _ => True
  | _ :: _, [] => False
  | a :: r, b :: s => a < b ∨ (a = b ∧ le r s)
theorem le_refl : ∀ q : List Nat, le q q
  | [] => True.intro
  | a :: r => .inr ⟨rfl, le_refl r⟩
theorem le_app {p x y : List Nat} (h : le x y) : le (p ++ x) (p ++ y) := by
  induction p with
  | nil => exact h
  | cons a r ih => exact .inr ⟨rfl, ih⟩
theorem sd_keep {many : Nat} {v : PyData} : ∀ (n : Nat) (ds : List PyData) (p : List Nat) (rd : Nat) (q0 q1 : List Nat), Sd many n ds p rd q0 → (∃ p' rd', Sd many n ds p' rd' q1) → le q0 q1 → Sd many n (replD v ds q1) p rd q0
  | 0, _, _, _, _, _, h, _, _ => h.elim
  | _ + 1, _, _, _, [], _, h, _, _ => h.elim
  | _ + 1, _, _, _, _ :: _, [], h, ⟨_, _, h1⟩, _ => h1.elim
  | n + 1, ds, p, rd, [a0], a1 :: r1, ⟨ha, h8, m, hm, m12⟩, ⟨p', rd', h1⟩, hle => by
    have h01 : a0 ≤ a1 := by rcases hle with h | h <;> omega
    have key : ∀ x, Sd many (n + 1) (ds.set a1 x) p rd [a0] := fun x => ⟨by rw [List.length_set]; exact ha, h8, m, by rw [List.take_set_of_le h01]; exact hm, m12⟩
    match r1, h1 with
    | [], _ => exact key v
    | b1 :: q1, ⟨_, _, d, _, _, _, _, hd, _⟩ =>
      rw [replD, hd]
      exact key _
  | n + 1, ds, p, rd, a0 :: b0 :: r0, a1 :: r1, ⟨h8, m, d, e, k, hm, m12, hd, hsp, hst, hb, hk, hq⟩, ⟨p', rd', h1⟩, hle => by
    have lt : ∀ x, a0 < a1 → Sd many (n + 1) (ds.set a1 x) p rd (a0 :: b0 :: r0) := fun x h => ⟨h8, m, d, e, k, by rw [List.take_set_of_le (by omega)]; exact hm, m12, by rw [List.getElem?_set_ne (by omega)]; exact hd, hsp, hst, hb, hk, hq⟩
    match r1, h1, hle with
    | [], _, hle => exact lt v (hle.elim id fun h => h.2.elim)
    | b1 :: q1, ⟨_, _, d1, e1, _, _, _, hd1, hsp1, _, hb1, _, hq1⟩, hle =>
      rw [replD, hd1]
      rcases hle with h | ⟨haa, hle2⟩
      · exact lt _ h
      subst haa
      rw [hd] at hd1
      cases hd1
      have ha := (List.getElem?_eq_some_iff.mp hd).1
      have hbl := (List.getElem?_eq_some_iff.mp hb1).1
      have eb : (blocksOfD d).getD b1 .none = .list e1 := by rw [List.getD_eq_getElem?_getD, hb1]; rfl
      show Sd many (n + 1) (ds.set a0 (withD d ((blocksOfD d).set b1 (.list (replD v (itemsL ((blocksOfD d).getD b1 .none)) q1))))) p rd (a0 :: b0 :: r0)
      rw [eb]
      show Sd many (n + 1) (ds.set a0 (withD d ((blocksOfD d).set b1 (.list (replD v e1 q1))))) p rd (a0 :: b0 :: r0)
      have hal : ((blocksOfD d).set b1 (.list (replD v e1 q1))).all isLs = true := List.all_eq_true.mpr fun x hx => (List.mem_or_eq_of_mem_set hx).elim (fun h => List.all_eq_true.mp (sp_all hsp hst) x h) fun h => by rw [h]; rfl
      have hst' := with_st (bs := (blocksOfD d).set b1 (.list (replD v e1 q1))) hsp hst (by rw [List.length_set]) hal
      obtain ⟨hsp', hbk⟩ := with_sp hsp ((blocksOfD d).set b1 (.list (replD v e1 q1)))
      have tk : (ds.set a0 (withD d ((blocksOfD d).set b1 (.list (replD v e1 q1))))).take a0 = ds.take a0 := List.take_set_of_le (Nat.le_refl _)
      rcases hle2 with h | ⟨hbb, hle3⟩
      · exact ⟨h8, m, _, e, k, by rw [tk]; exact hm, m12, List.getElem?_set_self ha, hsp', hst', by rw [hbk, List.getElem?_set_ne (by omega)]; exact hb, by rw [hbk, List.take_set_of_le (by omega)]; exact hk, hq⟩
      · subst hbb
        rw [hb] at hb1
        cases hb1
        exact ⟨h8, m, _, _, k, by rw [tk]; exact hm, m12, List.getElem?_set_self ha, hsp', hst', by rw [hbk]; exact List.getElem?_set_self hbl, by rw [hbk, List.take_set_of_le (Nat.le_refl _)]; exact hk, sd_keep n e _ k r0 q1 hq ⟨_, _, hq1⟩ hle3⟩

--SPLIT
/-! ### every place of a good book may be the first fault -/
theorem chkBs_ok {many : Nat} : ∀ (bs : List (List Stm)) (l n : Nat) (p : List Nat) (j rd : Nat), (∀ b ∈ bs, b.length ≤ 8 ∧ okB many b l) → p.length + 1 = 2 * l → l ≤ 3 → 4 ≤ l + n → rd + cntBs bs ≤ 12 → chkBs (chk many n) (bs.map bD) p j rd = .inr (rd + cntBs bs)
  | [], _, _, _, _, _, _, _, _, _, _ => rfl
  | b :: r, l, n, p, j, rd, h, hp, hl, hn, hc => by
    obtain ⟨h1, h2⟩ := h b List.mem_cons_self
    have c : cntBs (b :: r) = cntB b + cntBs r := rfl
    rw [c] at hc ⊢
    have e := chkOk_blk b l n (p ++ [j]) rd h2 h1 (by rw [List.length_append]; exact hp) hl hn (by omega)
    have e2 := chkBs_ok r l n p (j + 1) (rd + cntB b) (fun b m => h b (List.mem_cons_of_mem _ m)) hp hl hn (by omega)
    show (match chk many n (blkD b) (p ++ [j]) rd with | .inl e => (.inl e : List Nat ⊕ Nat) | .inr m => chkBs (chk many n) (r.map bD) p (j + 1) m) = _
    rw [e]
    dsimp only
    rw [e2]
    exact congrArg Sum.inr (by omega)
theorem mem_ix : ∀ {b : List Stm} {p : List Nat} {k : Nat} {x : List Nat × Stm}, x ∈ placesB b p k → ∃ i z, b[i]? = some z ∧ (x = (p ++ [k + i], z) ∨ x ∈ z.places (p ++ [k + i]))
  | [], _, _, _, m => nomatch m
  | s :: r, p, k, x, m => by
    rcases List.mem_cons.mp m with rfl | m
    · exact ⟨0, s, rfl, .inl rfl⟩
    rcases List.mem_append.mp m with m | m
    · exact ⟨0, s, rfl, .inr m⟩
    · obtain ⟨i, z, h1, h2⟩ := mem_ix m
      exact ⟨i + 1, z, h1, by rw [show k + (i + 1) = k + 1 + i by omega]; exact h2⟩
theorem mem_ixs : ∀ {bs : List (List Stm)} {p : List Nat} {k : Nat} {x : List Nat × Stm}, x ∈ placesBs bs p k → ∃ j c, bs[j]? = some c ∧ x ∈ placesB c (p ++ [k + j]) 0
  | [], _, _, _, m => nomatch m
  | s :: r, p, k, x, m => by
    rcases List.mem_append.mp m with m | m
    · exact ⟨0, s, rfl, m⟩
    · obtain ⟨i, z, h1, h2⟩ := mem_ixs m
      exact ⟨i + 1, z, h1, by rw [show k + (i + 1) = k + 1 + i by omega]; exact h2⟩
theorem okB_take {many : Nat} : ∀ {b : List Stm} {l : Nat} (i : Nat), okB many b l → okB many (b.take i) l
  | [], _, i, _ => by simp [okB]
  | s :: r, l, 0, _ => True.intro
  | s :: r, l, i + 1, h => ⟨h.1, okB_take i h.2⟩
theorem blkD_take (b : List Stm) (i : Nat) : (blkD b).take i = blkD (b.take i) := by rw [blkD_map, blkD_map, List.map_take]
theorem st_sp {z : Stm} {j : Nat} {c : List Stm} (h : z.blocks[j]? = some c) : SpD z.d := by
  cases z with
  | cmd c' => simp [Stm.blocks] at h
  | fin w => simp [Stm.blocks] at h
  | keep b => exact .inr ⟨"keep", [bD b], rfl, .inl rfl⟩
  | again b => exact .inr ⟨"again", [bD b], rfl, .inr (.inr rfl)⟩
  | either a b => exact .inr ⟨"either", [bD a, bD b], rfl, .inr (.inl rfl)⟩
  | call p s a b => exact .inl ⟨p, s, [bD a, bD b], rfl⟩
theorem blocks_d (z : Stm) : blocksOfD z.d = z.blocks.map bD := by
  rw [Stm.d_eq]
  exact blocksR_d z
theorem sd_good {many : Nat} : ∀ (n : Nat) (b : List Stm) (l : Nat) (p : List Nat) (rd : Nat), okB many b l → b.length ≤ 8 → p.length = 2 * l → l ≤ 3 → 4 ≤ l + n → rd + cntB b ≤ 12 → ∀ x ∈ placesB b p 0, ∃ q, x.1 = p ++ q ∧ q.length + 2 * l ≤ 7 ∧ Sd many n (blkD b) p rd q
  | 0, b, l, p, rd, _, _, _, _, _, _, _, _ => by omega
  | n + 1, b, l, p, rd, ho, h8, hp, hl, hn, hc, x, hx => by
    obtain ⟨i, z, hz, hx⟩ := mem_ix hx
    have hi := (List.getElem?_eq_some_iff.mp hz).1
    have c1 := cntB_le hz
    have c0 := z.cnt_pos
    have oz := okB_get ho hz
    have hm : chkL (chk many n) many ((blkD b).take i) p 0 rd = .inr (rd + cntB (b.take i)) := by
      rw [blkD_take]
      exact chkOk_list (b.take i) l n p 0 rd (okB_take i ho) (by rw [List.length_take]; omega) hp hl hn (by omega)
    rw [Nat.zero_add] at hx
    rcases hx with rfl | hx
    · exact ⟨[i], rfl, by simp; omega, by rw [blkD_len]; exact hi, by omega, _, hm, by omega⟩
    · rw [places_blocks] at hx
      obtain ⟨j, c, hj, hx⟩ := mem_ixs hx
      rw [Nat.zero_add] at hx
      obtain ⟨o1, o2, o3⟩ := ok_block oz (List.mem_of_getElem? hj)
      have cb := cnt_blocks z
      have cj := cntBs_le hj
      have hbo : ∀ b' ∈ z.blocks.take j, b'.length ≤ 8 ∧ okB many b' (l + 1) := fun b' m => by
        obtain ⟨_, q2, q3⟩ := ok_block oz (List.mem_of_mem_take m)
        exact ⟨by first | exact q2 | exact q3, by first | exact q3 | exact q2⟩
      have hk : chkBs (chk many n) ((z.blocks.map bD).take j) (p ++ [i]) 0 (rd + cntB (b.take i) + 1) = .inr (rd + cntB (b.take i) + 1 + cntBs (z.blocks.take j)) := by
        rw [← List.map_take]
        exact chkBs_ok _ (l + 1) n (p ++ [i]) 0 _ hbo (by rw [List.length_append, hp]; show 2 * l + 1 + 1 = _; omega) (by omega) (by omega) (by omega)
      obtain ⟨q, e, lq, hq⟩ := sd_good n c (l + 1) (p ++ [i] ++ [j]) (rd + cntB (b.take i) + 1 + cntBs (z.blocks.take j)) (by first | exact o3 | exact o2) (by first | exact o2 | exact o3) (by rw [List.length_append, List.length_append, hp]; show 2 * l + 1 + 1 = _; omega) (by omega) (by omega) (by omega) x hx
      have hd : (blkD b)[i]? = some z.d := by rw [blkD_map, List.getElem?_map, hz]; rfl
      refine ⟨i :: j :: q, by rw [e]; simp, by simp; omega, by omega, _, z.d, blkD c, _, hm, by omega, hd, st_sp hj, ?_, ?_, ?_, hq⟩
      · rw [show (p.length + 1) / 2 = l by omega]
        exact stOk_ok oz
      · rw [blocks_d, List.getElem?_map, hj]
        rfl
      · rw [blocks_d]
        exact hk
/-! the places stand in reading order -/
def Pw (xs : List (List Nat × Stm)) : Prop := xs.Pairwise fun x y => le x.1 y.1
theorem le_pre {p x : List Nat} : le p (p ++ x) := by
  induction p with
  | nil => exact True.intro
  | cons a r ih => exact .inr ⟨rfl, ih⟩
theorem pre_stm {z : Stm} {p : List Nat} {x : List Nat × Stm} (h : x ∈ z.places p) : ∃ k q, x.1 = p ++ k :: q := by
  obtain ⟨k, c, q, _, e, _⟩ := look_stm z p x h
  exact ⟨k, q, e⟩
theorem pre_blk {b : List Stm} {p : List Nat} {i : Nat} {x : List Nat × Stm} (h : x ∈ placesB b p i) : ∃ j q, x.1 = p ++ (i + j) :: q := by
  obtain ⟨j, r, e, _⟩ := look_blk b p i x h
  exact ⟨j, r, e⟩
mutual
theorem pw_stm : ∀ (z : Stm) (p : List Nat), Pw (z.places p)
  | .cmd _, _ => List.Pairwise.nil
  | .fin _, _ => List.Pairwise.nil
  | .keep b, p => pw_blk b (p ++ [0]) 0
  | .again b, p => pw_blk b (p ++ [0]) 0
  | .either a b, p => List.pairwise_append.mpr ⟨pw_blk a (p ++ [0]) 0, pw_blk b (p ++ [1]) 0, fun x hx y hy => by
      obtain ⟨j, q, e⟩ := pre_blk hx
      obtain ⟨k, q', e'⟩ := pre_blk hy
      rw [e, e', List.append_assoc, List.append_assoc]
      exact le_app (.inl (by decide))⟩
  | .call _ _ a b, p => List.pairwise_append.mpr ⟨pw_blk a (p ++ [0]) 0, pw_blk b (p ++ [1]) 0, fun x hx y hy => by
      obtain ⟨j, q, e⟩ := pre_blk hx
      obtain ⟨k, q', e'⟩ := pre_blk hy
      rw [e, e', List.append_assoc, List.append_assoc]
      exact le_app (.inl (by decide))⟩
theorem pw_blk : ∀ (b : List Stm) (p : List Nat) (i : Nat), Pw (placesB b p i)
  | [], _, _ => List.Pairwise.nil
  | z :: r, p, i => by
    refine List.pairwise_cons.mpr ⟨fun y hy => ?_, List.pairwise_append.mpr ⟨pw_stm z (p ++ [i]), pw_blk r p (i + 1), fun x hx y hy => ?_⟩⟩
    · rcases List.mem_append.mp hy with hy | hy
      · obtain ⟨k, q, e⟩ := pre_stm hy
        rw [e]
        exact le_pre
      · obtain ⟨j, q, e⟩ := pre_blk hy
        rw [e]
        exact le_app (.inl (by omega))
    · obtain ⟨k, q, e⟩ := pre_stm hx
      obtain ⟨j, q', e'⟩ := pre_blk hy
      rw [e, e', List.append_assoc]
      exact le_app (.inl (by omega))
end
/-- one place of the book does not stand behind another -/
def lePl (x y : Pl) : Prop := x.1 < y.1 ∨ (x.1 = y.1 ∧ le x.2.1 y.2.1)
theorem lePl_refl (x : Pl) : lePl x x := .inr ⟨rfl, le_refl _⟩
theorem pw_all : ∀ (bs : List (List Stm)) (k : Nat), (allPl bs k).Pairwise lePl
  | [], _ => List.Pairwise.nil
  | b :: r, k => by
    refine List.pairwise_append.mpr ⟨?_, pw_all r (k + 1), fun x hx y hy => ?_⟩
    · exact List.pairwise_map.mpr ((pw_blk b [] 0).imp fun h => .inr ⟨rfl, h⟩)
    · obtain ⟨x', _, rfl⟩ := List.mem_map.mp hx
      obtain ⟨i, _, _, e, _⟩ := mem_allPl hy
      exact .inl (by rw [e]; show k < k + 1 + i; omega)
theorem pw_get {xs : List Pl} (h : xs.Pairwise lePl) {i j : Nat} {x y : Pl} (hx : xs[i]? = some x) (hy : xs[j]? = some y) (hij : i ≤ j) : lePl x y := by
  rcases Nat.lt_or_eq_of_le hij with hij | rfl
  · obtain ⟨h1, rfl⟩ := List.getElem?_eq_some_iff.mp hx
    obtain ⟨h2, rfl⟩ := List.getElem?_eq_some_iff.mp hy
    exact List.pairwise_iff_getElem.mp h i j h1 h2 hij
  · rw [hx] at hy
    cases hy
    exact lePl_refl x
/-- the bodies es may have x for their first fault -/
def Ready (bs : List (List Stm)) (es : List PyData) (x : Pl) : Prop := (∀ j < x.1, es[j]? = (bs.map bD)[j]?) ∧ ∃ D, es[x.1]? = some (.list D) ∧ x.2.1.length ≤ 7 ∧ Sd bs.length 4 D [] 0 x.2.1
theorem ready0 {bs : List (List Stm)} (ob : OkBook bs) {x : Pl} (h : x ∈ allPl bs 0) : Ready bs (bs.map bD) x := by
  obtain ⟨i, b, hb, e, hm⟩ := mem_allPl h
  rw [Nat.zero_add] at e
  obtain ⟨o1, o2, o3⟩ := ob.each b (List.mem_of_getElem? hb)
  obtain ⟨q, eq, lq, hq⟩ := sd_good 4 b 0 [] 0 o3 o1 rfl (by decide) (by decide) (by omega) _ hm
  rw [List.nil_append] at eq
  have eq : x.2.1 = q := eq
  refine ⟨fun _ _ => rfl, blkD b, ?_, by rw [eq]; omega, by rw [eq]; exact hq⟩
  rw [e, List.getElem?_map, hb]
  rfl
theorem ready_step {bs : List (List Stm)} {es : List PyData} {v : PyData} {x y : Pl} {D : List PyData} (hx : Ready bs es x) (hD : es[y.1]? = some (.list D)) (hy : Ready bs es y) (h : lePl x y) : Ready bs (es.set y.1 (.list (replD v D y.2.1))) x := by
  obtain ⟨h1, E, hE, h7, hs⟩ := hx
  rcases h with h | ⟨e, h⟩
  · exact ⟨fun j hj => by rw [List.getElem?_set_ne (by omega)]; exact h1 j hj, E, by rw [List.getElem?_set_ne (by omega)]; exact hE, h7, hs⟩
  · obtain ⟨_, E2, hE2, _, hs2⟩ := hy
    rw [hD] at hE2
    cases hE2
    rw [e, hD] at hE
    cases hE
    have hl := (List.getElem?_eq_some_iff.mp hD).1
    exact ⟨fun j hj => by rw [List.getElem?_set_ne (by omega)]; exact h1 j hj, _, by rw [e]; exact List.getElem?_set_self hl, h7, sd_keep 4 D [] 0 _ _ hs ⟨_, _, hs2⟩ h⟩
theorem ready_fault {bs : List (List Stm)} {es : List PyData} {v : PyData} {y : Pl} {D : List PyData} (ob : OkBook bs) (hl : es.length = bs.length) (hD : es[y.1]? = some (.list D)) (hy : Ready bs es y) (hv : ∀ l : Nat, l ≤ 3 → stOk (l : Int) bs.length v = false) : faultOf (.list (es.set y.1 (.list (replD v D y.2.1)))) = some ((y.1 : Int), y.2.1) := by
  obtain ⟨h1, E, hE, h7, hs⟩ := hy
  rw [hD] at hE
  cases hE
  have hlt := (List.getElem?_eq_some_iff.mp hD).1
  have ls : (es.set y.1 (.list (replD v D y.2.1))).length = bs.length := by rw [List.length_set, hl]
  refine fault_first (i := y.1) (d := .list (replD v D y.2.1)) (x := (y.1, y.2.1)) (by rw [ls]; exact ob.lo) (by rw [ls]; exact ob.hi) (fun j e hj h => ?_) (List.getElem?_set_self hlt) ?_
  · rw [List.getElem?_set_ne (by omega), h1 j hj] at h
    obtain ⟨b, _, mb, rfl⟩ := get_bodies h
    rw [ls]
    exact sound_of (ob.each b mb)
  · rw [ls]
    refine chkP_inl ?_
    have := sd_fault hv 4 D [] 0 y.2.1 (by simp; omega) hs
    rw [List.nil_append] at this
    exact this
theorem sd_path {many : Int} {n : Nat} {ds : List PyData} {p : List Nat} {rd : Nat} : ∀ {q : List Nat}, Sd many n ds p rd q → q ≠ [] := fun {q} h e => by
  subst e
  cases n <;> exact h.elim
theorem gd_repl {many : Int} {v : PyData} (hv : ∀ n, WordOk v ∧ (∀ x r, v = .tuple (x :: r) → SeqAt.shaped x = true) ∧ ∀ e ∈ blocksOfD v, Gd n (itemsL e)) : ∀ (m n : Nat) (ds : List PyData) (p : List Nat) (rd : Nat) (q : List Nat), Sd many n ds p rd q → Gd m ds → Gd m (replD v ds q)
  | 0, _, _, _, _, _, _, _ => True.intro
  | m + 1, 0, _, _, _, _, h, _ => h.elim
  | m + 1, n + 1, ds, p, rd, [], h, _ => h.elim
  | m + 1, n + 1, ds, p, rd, [a], _, hg => fun d hd => by
    rcases List.mem_or_eq_of_mem_set hd with hd | rfl
    · exact hg d hd
    · exact hv m
  | m + 1, n + 1, ds, p, rd, a :: b :: q, ⟨_, _, d, e, _, _, _, hd, hsp, hst, hb, _, hq⟩, hg => by
    have eb : (blocksOfD d).getD b .none = .list e := by rw [List.getD_eq_getElem?_getD, hb]; rfl
    have er : replD v ds (a :: b :: q) = ds.set a (withD d ((blocksOfD d).set b (.list (replD v e q)))) := by
      rw [replD, hd]
      show ds.set a (withD d ((blocksOfD d).set b (.list (replD v (itemsL ((blocksOfD d).getD b .none)) q)))) = _
      rw [eb]
      rfl
    rw [er]
    intro x hx
    rcases List.mem_or_eq_of_mem_set hx with hx | rfl
    · exact hg x hx
    obtain ⟨w1, w2, w3⟩ := hg d (List.mem_of_getElem? hd)
    obtain ⟨hsp', hbk⟩ := with_sp hsp ((blocksOfD d).set b (.list (replD v e q)))
    refine ⟨?_, fun x r ex => ?_, fun y hy => ?_⟩
    · rcases hsp' with ⟨p, s, bs, e⟩ | ⟨sw, r, e, h⟩
      · rw [e]
        exact .inl (by simp [oddWords])
      · rw [e]
        exact .inl (by rcases h with rfl | rfl | rfl <;> simp [oddWords])
    · rcases hsp' with ⟨p, s, bs, e⟩ | ⟨sw, r', e, h⟩
      · rw [e] at ex
        cases ex
        exact sh_str (by decide +kernel)
      · rw [e] at ex
        cases ex
        rcases h with rfl | rfl | rfl <;> exact sh_str (by decide +kernel)
    · rw [hbk] at hy
      rcases List.mem_or_eq_of_mem_set hy with hy | rfl
      · exact w3 y hy
      · exact gd_repl hv m n e _ _ q hq (w3 _ (List.mem_of_getElem? hb))

--SPLIT
/-! ### the law's replacement -/
theorem same_chg {H J : Hp} {f : Addr} {ys : List V} (s : Same H J) (n : H f = none) : Same H (upd J f (.lst ys)) := fun b o e => by
  rw [upd_ne (ne_of_none e n)]
  exact s b o e
def sp__law_blocksG : Sp := fun vs H Q _ => ∃ (S : Addr → Prop) (d : PyData) (v : V), vs = [v] ∧ Tr S H d v ∧ SpD d ∧ (blocksOfD d).all isLs = true ∧ (blocksOfD d).length ≤ 2 ∧
  ∀ (q : Addr) (ys : List V) (H' : Hp), Same H H' → H q = none → H' q = some (.lst ys) → TrAll S H' (blocksOfD d) ys → Q (.ref q) H'
theorem okg__law_blocks (T : Top w K mg) : FnOk P w K mg base CX0 1 T.a__law_blocks T.d__law_blocks ["_law_statement"] sp__law_blocksG := by
  refine T.F__law_blocks.ok sc__law_blocks (fun vs H Q E h => ?_) (fun cdv A outer s H vs Q E hr h => ?_)
  · obtain ⟨S, d, v, rfl, _⟩ := h
    rfl
  · obtain ⟨S, d, v, rfl, hv, hsp, hal, hl2, q⟩ := h
    refine ⟨_, (pss_cons (ps_if (pt_cmpR op_eq (pe_ix (k_ixT K) (pv 0) pe_int (fun _ _ => rfl)) pe_str (nomark _)) (pss_one (ps_ret (pe_callTy (k_list K) (by rfl) T.z_list bt_list (pa_cons (pe_ix (k_ixT K) (pv 0) pe_int (fun _ _ => rfl)) pa_nil)))) pss_nil)
      (pss_one (ps_ret (pe_lc (own := [("_law_item", 1)]) (g := (gName 1)) rfl sc__law_blocks.nd (k_piT K (pe_slice (k_slT K) (pv 0) (po_some pe_int) po_none)) (blkOk_by (N := N__law_blocks) (sc := defScope s__law_blocks) (by decide +kernel)) (fun _ _ _ _ _ => (pg_name (i := 1) sc__law_blocks.nd rfl (Or.inl rfl))) (fun _ _ _ _ _ => (pts_one (pt_val (pe_callB (k_isi K) (by rfl) T.z_isinstance bt_isinstance (pa_cons (pv 1) (pa_cons (pe_bltn (v := .ty "list") (by rfl) T.z_list bt_list rfl) pa_nil)))))) (fun _ _ _ _ _ => (pv 1)))))), ?_⟩
    rcases hsp with ⟨p, s, bs, rfl⟩ | ⟨sw, r, rfl, hw⟩
    · obtain ⟨a, xs, rfl, ha, y, us, rfl, hy, hs⟩ := hv
      cases hy
      refine ⟨_, rfl, a, _, 0, _, rfl, rfl, SqT.of ha, at_of (j := 0) (by decide) rfl, ?_⟩
      refine ⟨rfl, _, rfl, iteP rfl ?_⟩
      obtain ⟨x1, _, rfl, t1, x2, _, rfl, t2, x3, _, rfl, ⟨b, ys, rfl, sb, hb2, tb⟩, rfl⟩ := hs
      refine ⟨_, rfl, a, _, 3, _, rfl, rfl, SqT.of ha, at_of (j := 3) (by decide) rfl, b, _, rfl, .inl (SqL.of hb2), fun l nl => ?_⟩
      have s1 := same_upd (o := .lst ys) nl
      exact q l ys _ s1 nl upd_same (tb.same s1)
    · obtain ⟨eb, nc⟩ := blk_of' (r := r) hw
      rw [eb] at hal hl2 q
      obtain ⟨a, xs, rfl, ha, y, us, rfl, hy, hs⟩ := hv
      cases hy
      have hl := hs.len
      refine ⟨_, rfl, a, _, 0, _, rfl, rfl, SqT.of ha, at_of (j := 0) (by decide) rfl, ?_⟩
      refine ⟨rfl, _, rfl, iteN (fun e => nc (V.str.inj e)) ?_⟩
      have hs := TrAll.tracked _ _ hs
      refine ⟨_, rfl, _, rfl, a, _, rfl, SqT.of ha, cut_ne1, fun u nu => ⟨u, rfl, ⟨_, SqT.of upd_same⟩, fun D nD => ?_⟩⟩
      have s1 := same_upd (o := .tup (cutV (V.str sw :: us) (some 1) none)) nu
      have hu : (upd H u (.tup (cutV (V.str sw :: us) (some 1) none))) u = some (.tup us) := by rw [upd_same, cut_from1]
      generalize upd H u _ = H1 at *
      refine lc_tup (xs := us) (fun i H' => Same H1 H' ∧ ∃ zs, H' D = some (.lst zs) ∧ zs.length ≤ i ∧ TrAll (fun a => S a ∧ H a ≠ none) H' (r.take i) zs) ⟨same_upd nD, [], upd_same, Nat.le_refl _, TrAll.nil⟩ (fun i H' _ h => SqT.of (h.1 _ _ hu)) (fun i x H' hx h => ?_) (fun H' h => ?_)
      · obtain ⟨sm, zs, hD, lz, tz⟩ := h
        obtain ⟨d, hd, tx⟩ := hs.get hx
        have tx := tx.same (s1.trans sm)
        have hi := (List.getElem?_eq_some_iff.mp hx).1
        refine ⟨rfl, _, rfl, _, _, _, _, _, rfl, .ty _, tr_ty K tx, ki_list K _, _, rfl, ?_⟩
        rw [List.all_eq_true.mp hal d (List.mem_of_getElem? hd)]
        refine ⟨_, rfl, zs, hD, small1000 (by omega), same_new sm nD, zs ++ [x], upd_same, by rw [List.length_append, List.length_singleton]; omega, ?_⟩
        have k2 : KpL (fun a => a = D) H' (upd H' D (.lst (zs ++ [x]))) := KpL.refl.put rfl ⟨_, hD⟩
        rw [List.take_add_one, hd]
        have no : ∀ a, S a ∧ H a ≠ none → ¬ a = D := fun a n e => n.2 (by rw [e]; exact s1.free nD)
        exact TrAll.snoc (TrAll.kpl k2 no _ _ tz) (Tr.kpl k2 no _ _ tx)
      · obtain ⟨sm, zs, hD, lz, tz⟩ := h
        rw [hl, List.take_length] at tz
        exact q D zs _ (s1.trans sm) (s1.free nD) hD (TrAll.mono (fun a n => n.1) _ _ tz)
def sp__law_withG : Sp := fun vs H Q _ => ∃ (S S' : Addr → Prop) (d : PyData) (v : V) (b : Addr) (ys : List V) (bs : List PyData), vs = [v, .ref b] ∧ Tr S H d v ∧ SpD d ∧ S' b ∧ H b = some (.lst ys) ∧ TrAll S' H bs ys ∧ bs ≠ [] ∧ bs.length ≤ 2 ∧
  ∀ (r : V) (H' : Hp), Same H H' → Tr S' H' (withD d bs) r → Q r H'
theorem okg__law_with (T : Top w K mg) : FnOk P w K mg base CX0 1 T.a__law_with T.d__law_with ["_law_statement", "_law_blocks_here"] sp__law_withG := by
  refine T.F__law_with.ok sc__law_with (fun vs H Q E h => ?_) (fun cdv A outer s H vs Q E hr h => ?_)
  · obtain ⟨S, S', d, v, b, ys, bs, rfl, _⟩ := h
    rfl
  · obtain ⟨S, S', d, v, b, ys, bs, rfl, hv, hsp, sb, hb, tb, hne, hl2, q⟩ := h
    refine ⟨_, (pss_cons (ps_if (pt_cmpR op_eq (pe_ix (k_ixT K) (pv 0) pe_int (fun _ _ => rfl)) pe_str (nomark _)) (pss_one (ps_ret (pe_op (k_catT K) (pe_slice (k_slT K) (pv 0) po_none (po_some pe_int)) (pe_tup (pa_cons (pv 1) pa_nil))))) pss_nil)
      (pss_cons (ps_if (pt_cmpR op_eq (pe_callB (k_len K) (by rfl) T.z_len bt_len (pa_cons (pv 1) pa_nil)) pe_int (nomark _)) (pss_one (ps_ret (pv 0))) pss_nil)
      (pss_one (ps_ret (pe_op (k_catT K) (pe_tup (pa_cons (pe_ix (k_ixT K) (pv 0) pe_int (fun _ _ => rfl)) pa_nil)) (pe_callTy (k_tuple K) (by rfl) T.z_tuple bt_tuple (pa_cons (pv 1) pa_nil))))))), ?_⟩
    have lb := tb.len
    rcases hsp with ⟨p, sv, b0, rfl⟩ | ⟨sw, r, rfl, hw⟩
    · obtain ⟨a, xs, rfl, ha, y, us, rfl, hy, hs⟩ := hv
      cases hy
      refine ⟨_, rfl, a, _, 0, _, rfl, rfl, SqT.of ha, at_of (j := 0) (by decide) rfl, ?_⟩
      refine ⟨rfl, _, rfl, iteP rfl ?_⟩
      obtain ⟨x1, _, rfl, t1, x2, _, rfl, t2, x3, _, rfl, t3, rfl⟩ := hs
      cases t1
      cases t2
      refine ⟨_, rfl, _, rfl, a, _, rfl, SqT.of ha, cut_ne (n := 3) (xs := [V.str "call", V.int p, V.bl sv, x3]) (by show 3 < 4; decide), fun u nu => ?_⟩
      have s1 := same_upd (o := .tup (cutV [V.str "call", V.int p, V.bl sv, x3] none (some 3))) nu
      have hu : (upd H u (.tup (cutV [V.str "call", V.int p, V.bl sv, x3] none (some 3)))) u = some (.tup [V.str "call", V.int p, V.bl sv]) := by
        rw [upd_same, show cutV [V.str "call", V.int p, V.bl sv, x3] none (some 3) = [V.str "call", V.int p, V.bl sv] from cut_to (n := 3)]
      generalize upd H u _ = H1 at *
      refine ⟨_, rfl, small100 (n := 1) (by decide), fun t nt => ?_⟩
      have s2 := same_upd (o := .tup [V.ref b]) nt
      have ht : (upd H1 t (.tup [V.ref b])) t = some (.tup [V.ref b]) := upd_same
      have hu2 := s2 _ _ hu
      have s3 := s1.trans s2
      generalize upd H1 t _ = H2 at *
      refine ⟨u, t, _, _, rfl, rfl, SqT.of hu2, SqT.of ht, by simp, small100 (n := 4) (by decide), fun e => absurd e (List.cons_ne_nil _ _), fun _ r nr => ?_⟩
      have s4 := s3.trans (same_upd (o := .tup ([V.str "call", V.int p, V.bl sv] ++ [V.ref b])) nr)
      refine q _ _ s4 ⟨r, _, rfl, upd_same, .cons rfl (.cons rfl (.cons rfl (.cons ?_ .nil)))⟩
      exact ⟨b, ys, rfl, sb, s4 _ _ hb, tb.same s4⟩
    · obtain ⟨eb, nc⟩ := blk_of' (r := r) hw
      obtain ⟨a, xs, rfl, ha, y, us, rfl, hy, hs⟩ := hv
      cases hy
      refine ⟨_, rfl, a, _, 0, _, rfl, rfl, SqT.of ha, at_of (j := 0) (by decide) rfl, ?_⟩
      refine ⟨rfl, _, rfl, iteN (fun e => nc (V.str.inj e)) ?_⟩
      have g : ys ≠ [] := fun e => hne (List.length_eq_zero_iff.mp (by rw [← lb, e]; rfl))
      have gl : ¬ ys.length = 0 := fun e => g (List.length_eq_zero_iff.mp e)
      refine ⟨_, rfl, b, _, rfl, .inl (SqL.of hb), rfl, _, rfl, iteN (fun e => gl (by have := V.int.inj e; omega)) ?_⟩
      refine ⟨_, rfl, a, _, 0, _, rfl, rfl, SqT.of ha, at_of (j := 0) (by decide) rfl, small100 (n := 1) (by decide), fun u nu => ?_⟩
      have s1 := same_upd (o := .tup [V.str sw]) nu
      have hu : (upd H u (.tup [V.str sw])) u = some (.tup [V.str sw]) := upd_same
      generalize upd H u _ = H1 at *
      refine ⟨_, rfl, b, _, rfl, SqL.of (s1 _ _ hb), fun t nt => ?_⟩
      have s2 := same_upd (o := .tup ys) nt
      have ht : (upd H1 t (.tup ys)) t = some (.tup ys) := upd_same
      have hu2 := s2 _ _ hu
      have s3 := s1.trans s2
      generalize upd H1 t _ = H2 at *
      refine ⟨u, t, _, _, rfl, rfl, SqT.of hu2, SqT.of ht, by simp, small100 (by rw [List.length_singleton]; omega), fun e => absurd e g, fun _ r' nr => ?_⟩
      have s4 := s3.trans (same_upd (o := .tup ([V.str sw] ++ ys)) nr)
      refine q _ _ s4 ?_
      rw [show withD (.tuple (.str sw :: r)) bs = .tuple (.str sw :: bs) from if_neg nc]
      exact ⟨r', _, rfl, upd_same, .cons rfl (tb.same s4)⟩
theorem cut_from2 {x y : V} {xs : List V} : cutV (x :: y :: xs) (some 2) none = xs := by
  unfold cutV
  rw [HT.sIx_none, show HT.sIx (x :: y :: xs).length 0 (some 2) = min 2 (x :: y :: xs).length from HT.sIx_nat _ _ 2, Nat.min_eq_left (by simp), List.length_cons, List.length_cons]
  exact List.take_of_length_le (by simp)
theorem cut_ne22 {x y : V} {xs : List V} : ¬ (HT.sIx (x :: y :: xs).length 0 (some 2) = 0 ∧ HT.sIx (x :: y :: xs).length (x :: y :: xs).length none = (x :: y :: xs).length) := fun h => by
  have h := h.1
  rw [show HT.sIx (x :: y :: xs).length 0 (some 2) = min 2 (x :: y :: xs).length from HT.sIx_nat _ _ 2, Nat.min_eq_left (by simp)] at h
  cases h
def sp__law_replaced (n : Nat) : Sp := fun vs H Q _ => ∃ (S : Addr → Prop) (ds : List PyData) (v : V) (t : Addr) (q : List Nat) (vd : PyData) (u : V) (many rd : Nat) (p : List Nat), vs = [v, .ref t, u] ∧ Tr S H (.list ds) v ∧ H t = some (.tup (q.map natV)) ∧ Tr S H vd u ∧ Sd many n ds p rd q ∧
  ∀ r H', Same H H' → Tr (fun a => S a ∨ H a = none) H' (.list (replD vd ds q)) r → Q r H'
theorem ok_replaced_step (T : Top w K mg) (n : Nat) (G__law_replaced : FnOk P w K mg base CX0 (n + 1) T.a__law_replaced T.d__law_replaced ["_law_block_here", "_law_path", "_law_value"] (sp__law_replaced n)) :
    FnOk P w K mg base CX0 (n + 2) T.a__law_replaced T.d__law_replaced ["_law_block_here", "_law_path", "_law_value"] (sp__law_replaced (n + 1)) := by
  refine T.F__law_replaced.ok sc__law_replaced (fun vs H Q E h => ?_) (fun cdv A outer s H vs Q E hr h => ?_)
  · obtain ⟨S, ds, v, t, q, vd, u, many, rd, p, rfl, _⟩ := h
    rfl
  · obtain ⟨S, ds, v, t, qs, vd, u, many, rd, p, rfl, hv, ht, hu, hsd, q⟩ := h
    refine ⟨_, (pss_cons (ps_set (i := 3) sc__law_replaced.nd rfl (Or.inl rfl) (pe_callTy (k_list K) (by rfl) T.z_list bt_list (pa_cons (pv 0) pa_nil)))
      (pss_cons (ps_if (pt_cmpR op_eq (pe_callB (k_len K) (by rfl) T.z_len bt_len (pa_cons (pv 1) pa_nil)) pe_int (nomark _)) (pss_cons (ps_asg (pv 2) (pg_sub (pv 3) (pe_ix (k_ixT K) (pv 1) pe_int (fun _ _ => rfl)) set_list))
        (pss_one (ps_ret (pv 3)))) pss_nil)
      (pss_cons (ps_set (i := 4) sc__law_replaced.nd rfl (Or.inl rfl) (pe_call (okg__law_blocks T) (hr.mono (by omega)) (by rfl) T.g__law_blocks T.F__law_blocks.kp (b__law_blocks T) .nil pass0 (pa_cons (pe_ix (k_ixL K) (pv 3) (pe_ix (k_ixT K) (pv 1) pe_int (fun _ _ => rfl)) (fun _ _ => rfl)) pa_nil)))
      (pss_cons (ps_set (i := 5) sc__law_replaced.nd rfl (Or.inl rfl) (pe_ix (k_ixT K) (pv 1) pe_int (fun _ _ => rfl)))
      (pss_cons (ps_asg (pe_call G__law_replaced (hr.mono (by omega)) (by rfl) T.g__law_replaced T.F__law_replaced.kp (b__law_replaced T) .nil pass0 (pa_cons (pe_ix (k_ixL K) (pv 4) (pv 5) (fun _ _ => rfl)) (pa_cons (pe_slice (k_slT K) (pv 1) (po_some pe_int) po_none) (pa_cons (pv 2) pa_nil)))) (pg_sub (pv 4) (pv 5) set_list))
      (pss_cons (ps_asg (pe_call (okg__law_with T) (hr.mono (by omega)) (by rfl) T.g__law_with T.F__law_with.kp (b__law_with T) .nil pass0 (pa_cons (pe_ix (k_ixL K) (pv 3) (pe_ix (k_ixT K) (pv 1) pe_int (fun _ _ => rfl)) (fun _ _ => rfl)) (pa_cons (pv 4) pa_nil))) (pg_sub (pv 3) (pe_ix (k_ixT K) (pv 1) pe_int (fun _ _ => rfl)) set_list))
      (pss_one (ps_ret (pv 3))))))))), ?_⟩
    obtain ⟨a0, ys, rfl, sa, ha, hs⟩ := hv
    refine ⟨_, rfl, a0, _, rfl, .inl (SqL.of ha), fun D nD => ?_⟩
    have s1 := same_upd (o := .lst ys) nD
    have hD : upd H D (.lst ys) D = some (.lst ys) := upd_same
    generalize upd H D _ = H1 at *
    refine ⟨_, rfl, t, _, rfl, .inr (SqT.of (s1 _ _ ht)), rfl, _, rfl, ?_⟩
    match qs, hsd, ht, q with
    | [], hsd, ht, q => exact hsd.elim
    | [x], hsd, ht, q =>
      obtain ⟨hx, h8, _⟩ := hsd
      have ll := hs.len
      refine iteP rfl ?_
      refine ⟨_, rfl, _, rfl, _, rfl, t, _, 0, _, rfl, rfl, SqT.of (s1 _ _ ht), at_of (j := 0) (by decide) rfl, D, ys, x, x, rfl, rfl, hD, ixN_in (by omega) (by omega), ?_⟩
      have k2 : KpL (fun a => a = D) H1 (upd H1 D (.lst (ys.set x u))) := KpL.refl.put rfl ⟨_, hD⟩
      have up : ∀ {d : PyData} {v : V}, Tr S H d v → Tr (fun a => S a ∨ H a = none) (upd H1 D (.lst (ys.set x u))) d v := fun t => Tr.mono (fun a n => .inl n.1) _ _ (Tr.kpl k2 (fun a n e => n.2 (by rw [e]; exact nD)) _ _ ((Tr.tracked _ _ t).same s1))
      have upa : ∀ {ds : List PyData} {vs : List V}, TrAll S H ds vs → TrAll (fun a => S a ∨ H a = none) (upd H1 D (.lst (ys.set x u))) ds vs := fun t => TrAll.mono (fun a n => .inl n.1) _ _ (TrAll.kpl k2 (fun a n e => n.2 (by rw [e]; exact nD)) _ _ ((TrAll.tracked _ _ t).same s1))
      exact ⟨_, rfl, q _ _ (same_chg s1 nD) ⟨D, _, rfl, .inr nD, upd_same, TrAll.set x (upa hs) (up hu)⟩⟩
    | x :: b :: qs, hsd, ht, q =>
      obtain ⟨h8, m, d, e, k, _, _, hd, hsp, hst, hb, _, hq⟩ := hsd
      refine iteN (fun z => by have := V.int.inj z; simp at this; omega) ?_
      have ll := hs.len
      have hs := TrAll.tracked _ _ hs
      have hu := Tr.tracked _ _ hu
      have hx := (List.getElem?_eq_some_iff.mp hd).1
      have hbl := (List.getElem?_eq_some_iff.mp hb).1
      obtain ⟨y, gy⟩ : ∃ y, ys[x]? = some y := ⟨_, List.getElem?_eq_getElem (by omega)⟩
      obtain ⟨d', hd', ty⟩ := hs.get gy
      rw [hd] at hd'
      cases hd'
      have gx : atI ((x :: b :: qs).map natV) 0 = some (natV x) := at_of (j := 0) (by decide) rfl
      have gb : atI ((x :: b :: qs).map natV) 1 = some (natV b) := at_of (j := 1) (by decide) rfl
      have ht1 := s1 _ _ ht
      have hal := sp_all hsp hst
      have lb2 : (blocksOfD d).length ≤ 2 := by
        obtain ⟨sw', r', ed, _, _, lb2, _⟩ := stOk_form hst
        rw [ed]
        exact lb2
      refine ⟨_, rfl, _, rfl, t, _, 0, _, rfl, rfl, SqT.of ht1, gx, D, ys, x, y, rfl, rfl, SqL.of hD, at_of (j := x) rfl gy, _, d, y, rfl, ty.same s1, hsp, hal, lb2, fun qb zs H2 s2 nqb hqb tz => ?_⟩
      have lz := tz.len
      have s12 := s1.trans s2
      refine ⟨_, rfl, t, _, 1, _, rfl, rfl, SqT.of (s12 _ _ ht), gb, ?_⟩
      obtain ⟨z, gz⟩ : ∃ z, zs[b]? = some z := ⟨_, List.getElem?_eq_getElem (by omega)⟩
      obtain ⟨e', he', tze⟩ := tz.get gz
      rw [hb] at he'
      cases he'
      refine ⟨_, rfl, _, rfl, qb, zs, b, z, rfl, rfl, SqL.of hqb, at_of (j := b) rfl gz, _, rfl, 2, rfl, t, _, rfl, SqT.of (s12 _ _ ht), cut_ne22, fun t2 nt2 => ?_⟩
      have s3 := same_upd (o := .tup (cutV ((x :: b :: qs).map natV) (some 2) none)) nt2
      have ht2 : upd H2 t2 (.tup (cutV ((x :: b :: qs).map natV) (some 2) none)) t2 = some (.tup (qs.map natV)) := by rw [upd_same]; exact congrArg (fun z => some (HO.tup z)) cut_from2
      generalize upd H2 t2 _ = H3 at *
      have s13 := s12.trans s3
      refine ⟨_, rfl, _, e, z, t2, qs, vd, u, many, _, _, rfl, tze.same s3, ht2, hu.same s13, hq, fun r3 H4 s4 tr3 => ?_⟩
      have s24 := s3.trans s4
      have s14 := s12.trans s24
      have hq4 := s24 _ _ hqb
      have nqH : H qb = none := s1.free nqb
      have nqD : qb ≠ D := (ne_of_none hD nqb).symm
      have hD4 := (s2.trans s24) _ _ hD
      have hq3 := s3 _ _ hqb
      have hD3 := (s2.trans s3) _ _ hD
      refine ⟨_, rfl, _, rfl, qb, zs, b, b, rfl, rfl, hq4, ixN_in (by omega) (by omega), ?_⟩
      have k5 : KpL (fun a => a = qb) H4 (upd H4 qb (.lst (zs.set b r3))) := KpL.refl.put rfl ⟨_, hq4⟩
      have hq5 : upd H4 qb (.lst (zs.set b r3)) qb = some (.lst (zs.set b r3)) := upd_same
      have s5 : Same H (upd H4 qb (.lst (zs.set b r3))) := same_chg s14 nqH
      have hD5 := k5.at_ hD4 nqD.symm
      have nS : ∀ a, (S a ∧ H a ≠ none) ∨ H3 a = none → a ≠ D ∧ a ≠ qb := fun a n => ⟨fun e => n.elim (fun n => n.2 (by rw [e]; exact nD)) fun n => (by rw [e, hD3] at n; cases n), fun e => n.elim (fun n => n.2 (by rw [e]; exact nqH)) fun n => (by rw [e, hq3] at n; cases n)⟩
      have up : ∀ a, (S a ∧ H a ≠ none) ∨ H3 a = none → (S a ∨ H a = none) ∧ a ≠ D := fun a n => ⟨n.elim (fun n => .inl n.1) fun n => .inr (s13.free n), (nS a n).1⟩
      have t5 : TrAll (fun a => (S a ∨ H a = none) ∧ a ≠ D) (upd H4 qb (.lst (zs.set b r3))) ((blocksOfD d).set b (.list (replD vd e qs))) (zs.set b r3) := TrAll.set b
        (TrAll.mono (fun a n => up a (.inl n)) _ _ (TrAll.kpl k5 (fun a n => (nS a (.inl n)).2) _ _ (tz.same s24)))
        (Tr.mono up _ _ (Tr.kpl k5 (fun a n => (nS a n).2) _ _ tr3))
      have ty5 := Tr.kpl k5 (fun a n => (nS a (.inl n)).2) _ _ (ty.same s14)
      have hs5 := TrAll.kpl k5 (fun a n => (nS a (.inl n)).2) _ _ (hs.same s14)
      generalize upd H4 qb _ = H5 at *
      have ht5 := s5 _ _ ht
      refine ⟨_, rfl, _, rfl, t, _, 0, _, rfl, rfl, SqT.of ht5, gx, D, ys, x, y, rfl, rfl, SqL.of hD5, at_of (j := x) rfl gy, _, rfl, _, _, d, y, qb, _, _, rfl, ty5, hsp, ⟨.inr nqH, nqD⟩, hq5, t5, ?_, by rw [List.length_set]; exact lb2, fun r6 H6 s6 tr6 => ?_⟩
      · intro e
        have := congrArg List.length e
        rw [List.length_set] at this
        simp at this
        rw [this] at hbl
        simp at hbl
      have hD6 := s6 _ _ hD5
      refine ⟨_, rfl, _, rfl, t, _, 0, _, rfl, rfl, SqT.of (s6 _ _ ht5), gx, D, ys, x, x, rfl, rfl, hD6, ixN_in (by omega) (by omega), ?_⟩
      have k7 : KpL (fun a => a = D) H6 (upd H6 D (.lst (ys.set x r6))) := KpL.refl.put rfl ⟨_, hD6⟩
      have eb : (blocksOfD d).getD b .none = .list e := by rw [List.getD_eq_getElem?_getD, hb]; rfl
      have er : replD vd ds (x :: b :: qs) = ds.set x (withD d ((blocksOfD d).set b (.list (replD vd e qs)))) := by
        rw [replD, hd]
        show ds.set x (withD d ((blocksOfD d).set b (.list (replD vd (itemsL ((blocksOfD d).getD b .none)) qs)))) = _
        rw [eb]
        rfl
      rw [er] at q
      refine ⟨_, rfl, q _ _ (same_chg (s5.trans s6) nD) ⟨D, _, rfl, .inr nD, upd_same, TrAll.set x (TrAll.mono (fun a n => (up a (.inl n)).1) _ _ (TrAll.kpl k7 (fun a n => (nS a (.inl n)).1) _ _ (hs5.same s6))) (Tr.mono (fun a n => n.1) _ _ (Tr.kpl k7 (fun a n => n.2) _ _ tr6))⟩⟩
theorem none_replaced (T : Top w K mg) : FnOk P w K mg base CX0 1 T.a__law_replaced T.d__law_replaced ["_law_block_here", "_law_path", "_law_value"] (sp__law_replaced 0) := by
  have no : ∀ vs H Q E, ¬ sp__law_replaced 0 vs H Q E := fun vs H Q E ⟨_, _, _, _, _, _, _, _, _, _, _, _, _, _, h, _⟩ => h.elim
  exact ⟨fun vs H Q E h => absurd h (no vs H Q E), fun A outer s H args us vs Q E _ _ _ _ h => absurd h (no vs H Q E)⟩
theorem all_replaced (T : Top w K mg) : ∀ n : Nat, FnOk P w K mg base CX0 (n + 1) T.a__law_replaced T.d__law_replaced ["_law_block_here", "_law_path", "_law_value"] (sp__law_replaced n)
  | 0 => none_replaced T
  | n + 1 => ok_replaced_step T n (all_replaced T n)
theorem ok__law_replaced (T : Top w K mg) : FnOk P w K mg base CX0 5 T.a__law_replaced T.d__law_replaced ["_law_block_here", "_law_path", "_law_value"] (sp__law_replaced 4) := all_replaced T 4

--SPLIT
/-- at none of the pool, and there -/
def Tk (p : Addr) (H : Hp) : Addr → Prop := fun a => a ≠ p ∧ H a ≠ none
section
variable {S : Addr → Prop} {p : Addr} {L : Nat} {H H' J : Hp} {d : PyData} {v : V}
theorem tk_new (h : Pool J p L) (n : ¬ S p) (t : Tr (fun a => S a ∨ J a = none) H d v) : Tr (Tk p H) H d v :=
  Tr.mono (fun a s => ⟨s.1.elim (fun x e => n (e ▸ x)) fun x => h.ne x, s.2⟩) _ _ (Tr.tracked _ _ t)
theorem tk_kp (k : Kp p H H') (h : Pool H p L) (t : Tr (Tk p H) H d v) : Tr (Tk p H') H' d v :=
  have h' : KpL (fun a => a = p) H H' := KpL.kp k rfl (by obtain ⟨ns, e, _⟩ := h; exact ⟨_, e⟩)
  Tr.mono (fun a s => ⟨s.1.1, s.2⟩) _ _ (Tr.tracked _ _ (Tr.kpl h' (fun a s => s.1) _ _ t))
theorem tk_same (s : Same H H') (t : Tr (Tk p H) H d v) : Tr (Tk p H') H' d v :=
  Tr.mono (fun a s => ⟨s.1.1, s.2⟩) _ _ (Tr.tracked _ _ (t.same s))
theorem pool_same (s : Same H H') (h : Pool H p L) : Pool H' p L := by
  obtain ⟨ns, e, l⟩ := h
  exact ⟨ns, s _ _ e, l⟩
end

def spLaw (K : PySem.W.Frag) : Sp := fun vs H Q _ => ∃ (a : Addr) (ns : List Int), vs = [.ref a] ∧ SqL K H a (ns.map V.int) ∧ ns.length ≤ 63 ∧ ∀ H', Q (.bl true) H'
abbrev No : Addr → Prop := fun _ => False
theorem iteNP {c A B : Prop} [Decidable c] (hc : c) (h : B) : if (!decide c) = true then A else B := by
  rw [if_neg (by rw [decide_eq_true hc]; exact Bool.false_ne_true)]
  exact h
theorem ok_law (T : Top w K mg) : FnOk P w K mg base CX0 22 T.a_law T.d_law ["_law_script"] (spLaw K) := by
  refine T.F_law.ok sc_law (fun vs H Q E h => ?_) (fun cdv A outer s H vs Q E hr h => ?_)
  · obtain ⟨a, ns, rfl, _⟩ := h
    rfl
  · obtain ⟨a, ns, rfl, hS, hlen, q⟩ := h
    refine ⟨_, (pss_cons (ps_set (i := 1) sc_law.nd rfl (Or.inl rfl) (pe_call (ok__law_pool T) (hr.mono (by decide)) (by rfl) T.g__law_pool T.F__law_pool.kp (b__law_pool T) .nil pass0 (pa_cons (pv 0) pa_nil)))
      (pss_cons (ps_set (i := 2) sc_law.nd rfl (Or.inl rfl) (pe_op op_add pe_int (pe_call (ok__law_draw T) (hr.mono (by decide)) (by rfl) T.g__law_draw T.F__law_draw.kp (b__law_draw T) .nil pass0 (pa_cons (pv 1) (pa_cons pe_int pa_nil)))))
      (pss_cons (ps_set (i := 3) sc_law.nd rfl (Or.inl rfl) (pe_call (ok__law_book T) hr (by rfl) T.g__law_book T.F__law_book.kp (b__law_book T) .nil pass0 (pa_cons (pv 1) (pa_cons pe_int (pa_cons pe_int pa_nil)))))
      (pss_cons (ps_set (i := 4) sc_law.nd rfl (Or.inl rfl) (pe_call (ok__law_all_places T) (hr.mono (by decide)) (by rfl) T.g__law_all_places T.F__law_all_places.kp (b__law_all_places T) .nil pass0 (pa_cons (pv 3) pa_nil)))
      (pss_cons (ps_set (i := 5) sc_law.nd rfl (Or.inl rfl) (pe_call (ok__law_made T) (hr.mono (by decide)) (by rfl) T.g__law_made T.F__law_made.kp (b__law_made T) .nil pass0 (pa_cons (pe_call (ok__law_copies T) (hr.mono (by decide)) (by rfl) T.g__law_copies T.F__law_copies.kp (b__law_copies T) .nil pass0 (pa_cons (pv 3) pa_nil)) pa_nil)))
      (pss_cons (ps_if (PW.pt (pw_or (pt_cmpR op_ne (pe_ix (k_ixT K) (pv 5) pe_int (fun _ _ => rfl)) pe_str (nomark _)) (pw_or1 (pt_not (pt_val (pe_call (ok__law_same T) (hr.mono (by decide)) (by rfl) T.g__law_same T.F__law_same.kp (b__law_same T) .nil pass0 (pa_cons (pe_ix (k_ixT K) (pv 5) pe_int (fun _ _ => rfl)) (pa_cons (pv 3) pa_nil)))))))) (pss_one (ps_ret pe_bl)) pss_nil)
      (pss_cons (ps_if (pt_cmpR op_eq (pe_callB (k_len K) (by rfl) T.z_len bt_len (pa_cons (pv 4) pa_nil)) pe_int (nomark _)) (pss_one (ps_ret pe_bl)) pss_nil)
      (pss_cons (ps_set (i := 6) sc_law.nd rfl (Or.inl rfl) (pe_lst pa_nil))
      (pss_cons (ps_for PassesOwn.never rfl (pi_range1 (by rfl) T.z_range (pa_cons (pv 2) pa_nil)) (pg_name (i := 7) sc_law.nd rfl (Or.inl rfl)) (pss_one (ps_expr (pe_bm PySem.F.plainAttrs_list PySem.F.slot_list_append PySem.F.type_list_append mt_append (pv 6) (pa_cons (pe_call (ok__law_draw T) (hr.mono (by decide)) (by rfl) T.g__law_draw T.F__law_draw.kp (b__law_draw T) .nil pass0 (pa_cons (pv 1) (pa_cons (pe_callB (k_len K) (by rfl) T.z_len bt_len (pa_cons (pv 4) pa_nil)) pa_nil))) pa_nil)))))
      (pss_cons (ps_set (i := 6) sc_law.nd rfl (Or.inl rfl) (pe_callB (k_sorted K) (by rfl) T.z_sorted bt_sorted (pa_cons (pv 6) pa_nil)))
      (pss_cons (ps_set (i := 8) sc_law.nd rfl (Or.inl rfl) (pe_callTy (k_list K) (by rfl) T.z_list bt_list (pa_cons (pv 3) pa_nil)))
      (pss_cons (ps_for PassesOwn.never rfl (pi_reversed (by rfl) T.z_reversed (pa_cons (pe_callTy (k_list K) (by rfl) T.z_list bt_list (pa_cons (pv 6) pa_nil)) pa_nil)) (pg_name (i := 9) sc_law.nd rfl (Or.inl rfl)) (pss_cons (ps_set (i := 10) sc_law.nd rfl (Or.inl rfl) (pe_ix (k_ixL K) (pv 4) (pv 9) (fun _ _ => rfl)))
        (pss_cons (ps_set (i := 11) sc_law.nd rfl (Or.inl rfl) (pe_call (ok__law_bad_statement T) (hr.mono (by decide)) (by rfl) T.g__law_bad_statement T.F__law_bad_statement.kp (b__law_bad_statement T) .nil pass0 (pa_cons (pv 1) (pa_cons (pe_callB (k_len K) (by rfl) T.z_len bt_len (pa_cons (pv 3) pa_nil)) pa_nil))))
        (pss_one (ps_asg (pe_call (ok__law_replaced T) (hr.mono (by decide)) (by rfl) T.g__law_replaced T.F__law_replaced.kp (b__law_replaced T) .nil pass0 (pa_cons (pe_ix (k_ixL K) (pv 8) (pe_ix (k_ixT K) (pv 10) pe_int (fun _ _ => rfl)) (fun _ _ => rfl)) (pa_cons (pe_ix (k_ixT K) (pv 10) pe_int (fun _ _ => rfl)) (pa_cons (pv 11) pa_nil)))) (pg_sub (pv 8) (pe_ix (k_ixT K) (pv 10) pe_int (fun _ _ => rfl)) set_list))))))
      (pss_cons (ps_set (i := 12) sc_law.nd rfl (Or.inl rfl) (pe_ix (k_ixL K) (pv 4) (pe_ix (k_ixL K) (pv 6) pe_int (fun _ _ => rfl)) (fun _ _ => rfl)))
      (pss_cons (ps_set (i := 13) sc_law.nd rfl (Or.inl rfl) (pe_call (ok__law_made T) (hr.mono (by decide)) (by rfl) T.g__law_made T.F__law_made.kp (b__law_made T) .nil pass0 (pa_cons (pv 8) pa_nil)))
      (pss_cons (ps_if (PW.pt (pw_or (pt_cmpR op_ne (pe_ix (k_ixT K) (pv 13) pe_int (fun _ _ => rfl)) pe_str (nomark _)) (pw_or1 (pt_not (pt_val (pe_call (ok__law_same T) (hr.mono (by decide)) (by rfl) T.g__law_same T.F__law_same.kp (b__law_same T) .nil pass0 (pa_cons (pe_tup (pa_cons (pe_ix (k_ixT K) (pv 13) pe_int (fun _ _ => rfl)) (pa_cons (pe_ix (k_ixT K) (pv 13) pe_int (fun _ _ => rfl)) pa_nil))) (pa_cons (pe_tup (pa_cons (pe_ix (k_ixT K) (pv 12) pe_int (fun _ _ => rfl)) (pa_cons (pe_ix (k_ixT K) (pv 12) pe_int (fun _ _ => rfl)) pa_nil))) pa_nil)))))))) (pss_one (ps_ret pe_bl)) pss_nil)
      (pss_cons (ps_set (i := 14) sc_law.nd rfl (Or.inl rfl) (pe_call (ok__law_made T) (hr.mono (by decide)) (by rfl) T.g__law_made T.F__law_made.kp (b__law_made T) .nil pass0 (pa_cons (pe_call (ok__law_copies T) (hr.mono (by decide)) (by rfl) T.g__law_copies T.F__law_copies.kp (b__law_copies T) .nil pass0 (pa_cons (pv 3) pa_nil)) pa_nil)))
      (pss_one (ps_ret (pe_and (pe_cmpR op_eq (pe_ix (k_ixT K) (pv 14) pe_int (fun _ _ => rfl)) pe_str (nomark _)) (pe_one (pe_call (ok__law_same T) (hr.mono (by decide)) (by rfl) T.g__law_same T.F__law_same.kp (b__law_same T) .nil pass0 (pa_cons (pe_ix (k_ixT K) (pv 14) pe_int (fun _ _ => rfl)) (pa_cons (pv 3) pa_nil))))))))))))))))))))))), ?_⟩
    refine ⟨_, rfl, a, ns, rfl, hS, hlen, fun H1 p L s1 np pl h2 h64 => ?_⟩
    refine ⟨_, rfl, p, L, 2, rfl, pl, h2, h64, by decide, by decide, fun mn H2 m0 m2 k2 pl2 => ⟨_, _, rfl, rfl, ?_⟩⟩
    obtain ⟨many, hmany⟩ : ∃ many : Nat, 1 + mn = (many : Int) := ⟨(1 + mn).toNat, by omega⟩
    dsimp only
    rw [hmany]
    have hm1 : 1 ≤ many := by omega
    have hm2 : many ≤ 2 := by omega
    refine ⟨_, rfl, p, L, 3, 7, rfl, pl2, h2, h64, by decide, by decide, by decide, by decide, fun f bs H3 k3 pl3 ob tb _ => ?_⟩
    have tb := tk_new pl2 (S := No) (fun s => s) (Tr.mono (fun a s => .inr s) _ _ tb)
    clear k2 k3 pl pl2 s1 np
    refine ⟨_, rfl, _, bs, .ref f, rfl, tb, ob, fun pq ps H4 s4 npq hpq tps => ?_⟩
    have eqb : sameD (bookD bs) (bookD bs) = true := same_refl _ _ (fit_book ob)
    refine ⟨_, rfl, _, bs, .ref f, rfl, tb.same s4, ob, fun D zs H5 s5 nD hD tz => ?_⟩
    refine ⟨_, bookD bs, .ref D, rfl, ⟨D, _, rfl, True.intro, hD, TrAll.mono (fun _ _ => True.intro) _ _ tz⟩, (fun bs' e ds m => by cases e; exact gd_book bs ds m), fun hf H6 w r bs' e ob' s6 nw hw tr => ?_, fun k e w t' H6 hf => by rw [fault_ok ob] at hf; cases hf⟩
    refine ⟨_, rfl, w, _, 0, _, rfl, rfl, SqT.of hw, at_of (j := 0) (by decide) rfl, rfl, _, rfl, iteNP rfl ?_⟩
    rw [← e] at tr
    have s46 := s4.trans (s5.trans s6)
    refine ⟨_, rfl, w, _, 2, _, rfl, rfl, SqT.of hw, at_of (j := 2) (by decide) rfl, _, rfl, _, _, bookD bs, bookD bs, r, .ref f, rfl, tr, tb.same s46, fit_book ob, fit_book ob, by decide, fun H7 s7 => ⟨_, rfl, ?_⟩⟩
    rw [eqb]
    have s37 := s46.trans s7
    have hpq7 := (s5.trans (s6.trans s7)) _ _ hpq
    have tp7 := tps.same (s5.trans (s6.trans s7))
    clear hw tr tz hD nD s46 s5 s6 s7
    refine ⟨_, rfl, pq, ps, rfl, .inl (SqL.of hpq7), rfl, _, rfl, ite2 (fun _ => q _) (fun hne => ?_)⟩
    have lps := tp7.len
    rw [List.length_map] at lps
    have l36 := len_allPl bs 0 fun b hb => (ob.each b hb).2.1
    have hi3 := ob.hi
    have npos : 0 < ps.length := by
      rcases Nat.eq_zero_or_pos ps.length with e | e
      · exact absurd (by rw [e]; exact decide_eq_true rfl) hne
      · exact e
    have tb7 := tb.same s37
    have pl7 := pool_same s37 pl3
    have npp : pq ≠ p := pl3.ne npq
    refine ⟨small100 (n := 0) (by decide), fun ch nch => ?_⟩
    have n3 : H3 ch = none := s37.free nch
    have sch := same_upd (o := .lst []) nch
    have hch : upd H7 ch (.lst []) ch = some (.lst []) := upd_same
    have ncp : ch ≠ p := pl7.ne nch
    have ncq : ch ≠ pq := (ne_of_none hpq7 nch).symm
    have tb7 := tb7.same sch
    have tp7 := tp7.same sch
    have hpq7 := sch _ _ hpq7
    have pl7 := pool_same sch pl7
    have s38 := s37.trans sch
    generalize upd H7 ch _ = H8 at *
    have nS : ∀ a, Tk p H3 a → a ≠ p ∧ a ≠ ch := fun a s => ⟨s.1, fun e => s.2 (by rw [e]; exact n3)⟩
    refine ⟨_, rfl, many, rfl, by omega, by omega, for_range (n := ((many : Nat) : Int).toNat) (fun i σ J => ∃ (cs : List Int) (y7 : Option V), σ = [some (.ref a), some (.ref p), some (.int many), some (.ref f), some (.ref pq), some (.ref w), some (.ref ch), y7, none, none, none, none, none, none, none] ∧ Pool J p L ∧ J ch = some (.lst (cs.map V.int)) ∧ cs.length = i ∧ (∀ c ∈ cs, 0 ≤ c ∧ c < ps.length) ∧ J pq = some (.lst ps) ∧ TrAll (Tk p H3) J ((allPl bs 0).map plD) ps ∧ Tr (Tk p H3) J (bookD bs) (.ref f)) ⟨[], none, rfl, pl7, hch, rfl, fun c h => absurd h List.not_mem_nil, hpq7, tp7, tb7⟩ (fun i σ J hi h => ?_) (fun σ J h => ?_)⟩
    · obtain ⟨cs, y7, rfl, plJ, hcJ, lc, hcs, hpJ, tpJ, tbJ⟩ := h
      refine ⟨_, rfl, .inl ⟨rfl, _, .inl (.inl hcJ)⟩, _, rfl, _, rfl, pq, ps, rfl, .inl (SqL.of hpJ), p, L, _, rfl, plJ, h2, h64, by omega, by omega, fun z J2 z0 z1 k2 pl2 => ?_⟩
      have hcJ2 := k2 _ _ ncp hcJ
      refine ⟨ch, _, _, rfl, rfl, hcJ2, small1000 (by rw [List.length_map]; omega), ?_⟩
      have kp : KpL (fun a => a = p) J J2 := KpL.kp k2 rfl (by obtain ⟨ns, h, _⟩ := plJ; exact ⟨_, h⟩)
      have kc : KpL (fun a => a = ch) J2 (upd J2 ch (.lst (cs.map V.int ++ [.int z]))) := KpL.refl.put rfl ⟨_, hcJ2⟩
      refine ⟨cs ++ [z], _, rfl, pl2.keep ncp, by rw [upd_same, List.map_append]; rfl, by rw [List.length_append, lc]; rfl, fun c h => ?_, kc.at_ (k2 _ _ npp hpJ) ncq.symm, TrAll.kpl kc (fun a s => (nS a s).2) _ _ (TrAll.kpl kp (fun a s => (nS a s).1) _ _ tpJ), Tr.kpl kc (fun a s => (nS a s).2) _ _ (Tr.kpl kp (fun a s => (nS a s).1) _ _ tbJ)⟩
      rcases List.mem_append.mp h with h | h
      · exact hcs c h
      · rw [List.mem_singleton.mp h]
        exact ⟨z0, z1⟩
    obtain ⟨cs, y7, rfl, plJ, hcJ, lc, hcs, hpJ, tpJ, tbJ⟩ := h
    clear sch tb7 tp7 hpq7 hch pl7
    have ty : ((many : Nat) : Int).toNat = many := by omega
    rw [ty] at lc
    refine ⟨_, rfl, ch, cs, rfl, SqL.of hcJ, by omega, fun ns' so hperm hsort nso => ?_⟩
    have nsp : so ≠ p := plJ.ne nso
    have s1 := same_upd (o := .lst (ns'.map V.int)) nso
    have hso : upd J so (.lst (ns'.map V.int)) so = some (.lst (ns'.map V.int)) := upd_same
    have plJ := pool_same s1 plJ
    have hpJ := s1 _ _ hpJ
    have tpJ := tpJ.same s1
    have tbJ := tbJ.same s1
    generalize upd J so _ = J1 at *
    obtain ⟨f', fs, e1, sf, hf, tfs⟩ := id tbJ
    cases e1
    have lfs := tfs.len
    rw [List.length_map] at lfs
    have tfs := TrAll.tracked _ _ tfs
    refine ⟨_, rfl, f, fs, rfl, .inl (SqL.of hf), fun F nF => ?_⟩
    have s2 := same_upd (o := .lst fs) nF
    have hF : upd J1 F (.lst fs) F = some (.lst fs) := upd_same
    have nFp : F ≠ p := plJ.ne nF
    have nSF : ∀ a, Tk p H3 a ∧ J1 a ≠ none → a ≠ p ∧ a ≠ F := fun a s => ⟨s.1.1, fun e => s.2 (by rw [e]; exact nF)⟩
    have t0 : TrAll (fun a => a ≠ p ∧ a ≠ F) (upd J1 F (.lst fs)) (bs.map bD) fs := TrAll.mono nSF _ _ (tfs.same s2)
    have hp0 := hpJ
    have hs0 := hso
    have hf0 := hf
    have plJ := pool_same s2 plJ
    have hpJ := s2 _ _ hpJ
    have hso := s2 _ _ hso
    have hf := s2 _ _ hf
    have tpJ := TrAll.mono nSF _ _ ((TrAll.tracked _ _ tpJ).same s2)
    have tbJ := Tr.mono nSF _ _ ((Tr.tracked _ _ tbJ).same s2)
    have nfF : f ≠ F := ne_of_none hf0 nF
    have nqF : pq ≠ F := ne_of_none hp0 nF
    have nsF : so ≠ F := ne_of_none hs0 nF
    have nfp : f ≠ p := sf.1
    generalize upd J1 F _ = J2 at *
    have ln : ns'.length = many := by rw [hperm.length_eq, lc]
    have hns : ∀ c ∈ ns', 0 ≤ c ∧ c < ps.length := fun c h => hcs c (hperm.mem_iff.mp h)
    refine ⟨_, rfl, so, _, rfl, .inl (SqL.of hso), fun c2 nc2 => ?_⟩
    have s3 := same_upd (o := .lst (ns'.map V.int)) nc2
    have hc2 : upd J2 c2 (.lst (ns'.map V.int)) c2 = some (.lst (ns'.map V.int)) := upd_same
    have ncp2 : c2 ≠ p := plJ.ne nc2
    have ncF : c2 ≠ F := (ne_of_none hF nc2).symm
    have plJ := pool_same s3 plJ
    have hF := s3 _ _ hF
    have hso := s3 _ _ hso
    have hpJ := s3 _ _ hpJ
    have hf := s3 _ _ hf
    have t0 := t0.same s3
    have tpJ := tpJ.same s3
    have tbJ := tbJ.same s3
    generalize upd J2 c2 _ = J3 at *
    clear hp0 hs0 hf0 s1 s2 s3 tfs hcJ nc2 nF nso
    have lN : ps.length = (allPl bs 0).length := lps
    refine ⟨c2, _, rfl, SqL.of hc2, for_it walk_rev (fun i σ J => ∃ (es : List PyData) (ws : List V) (B : Nat) (y9 y10 y11 : Option V), σ = [some (.ref a), some (.ref p), some (.int many), some (.ref f), some (.ref pq), some (.ref w), some (.ref so), y7, some (.ref F), y9, y10, y11, none, none, none] ∧ Pool J p L ∧ J F = some (.lst ws) ∧ TrAll (fun a => a ≠ p ∧ a ≠ F) J es ws ∧ es.length = bs.length ∧
      (∀ ds, .list ds ∈ es → Gd 4 ds) ∧ (J pq = some (.lst ps) ∧ J so = some (.lst (ns'.map V.int)) ∧ J c2 = some (.lst (ns'.map V.int)) ∧ J f = some (.lst fs)) ∧ TrAll (fun a => a ≠ p ∧ a ≠ F) J ((allPl bs 0).map plD) ps ∧ Tr (fun a => a ≠ p ∧ a ≠ F) J (bookD bs) (.ref f) ∧
      (i = 0 → B = ps.length) ∧ (i ≠ 0 → ns'[many - i]? = some (B : Int)) ∧ (∀ (j : Nat) (x : Pl), j ≤ B → (allPl bs 0)[j]? = some x → Ready bs es x) ∧ (i ≠ 0 → ∀ x, (allPl bs 0)[B]? = some x → faultOf (.list es) = some ((x.1 : Int), x.2.1)))
      ⟨bs.map bD, fs, ps.length, none, none, none, rfl, plJ, hF, t0, List.length_map .., gd_book bs, ⟨hpJ, hso, hc2, hf⟩, tpJ, tbJ, fun _ => rfl, fun h => absurd rfl h, fun j x _ h => ready0 ob (List.mem_of_getElem? h), fun h => absurd rfl h⟩ (fun i σ J _ h => ?_) (fun i x σ J J' hi h y => ?_) (fun σ J h => ?_)⟩
    · obtain ⟨_, _, _, _, _, _, _, _, _, _, _, _, hh, _⟩ := h
      exact SqL.of hh.2.2.1
    · obtain ⟨es, ws, B, y9, y10, y11, rfl, plJ, hF, tE, lE, gE, ⟨hpJ, hso, hc2, hf⟩, tpJ, tbJ, b0, b1, rdy, flt⟩ := h
      obtain ⟨rfl, hx⟩ := y
      rw [List.length_map] at hi hx
      rw [ln] at hi hx
      rw [List.getElem?_map] at hx
      obtain ⟨c, hc, rfl⟩ : ∃ c, ns'[many - 1 - i]? = some c ∧ x = .int c := by
        cases e : ns'[many - 1 - i]? with
        | none => rw [e] at hx; cases hx
        | some c => rw [e] at hx; cases hx; exact ⟨c, rfl, rfl⟩
      obtain ⟨c0, c1⟩ := hns c (List.mem_of_getElem? hc)
      have ec : ((c.toNat : Nat) : Int) = c := by omega
      have hcB : c.toNat ≤ B := by
        by_cases e : i = 0
        · rw [b0 e]
          omega
        · have hB := b1 e
          have hl1 := (List.getElem?_eq_some_iff.mp hc).1
          have hl2 := (List.getElem?_eq_some_iff.mp hB).1
          have e1 := (List.getElem?_eq_some_iff.mp hc).2
          have e2 := (List.getElem?_eq_some_iff.mp hB).2
          have := List.pairwise_iff_getElem.mp hsort (many - 1 - i) (many - i) hl1 hl2 (by omega)
          rw [e1, e2] at this
          omega
      obtain ⟨pv, gpv⟩ : ∃ pv, ps[c.toNat]? = some pv := ⟨_, List.getElem?_eq_getElem (by omega)⟩
      obtain ⟨dp, hdp, tpv⟩ := tpJ.get gpv
      obtain ⟨pl', hpl, rfl⟩ : ∃ x, (allPl bs 0)[c.toNat]? = some x ∧ dp = plD x := by
        rw [List.getElem?_map] at hdp
        cases e : (allPl bs 0)[c.toNat]? with
        | none => rw [e] at hdp; cases hdp
        | some x => rw [e] at hdp; cases hdp; exact ⟨x, rfl, rfl⟩
      have hR := rdy _ _ hcB hpl
      obtain ⟨hR1, Dl, hDl, h7, hsd⟩ := id hR
      obtain ⟨tp, tpv', rfl, htp, v1, r1, rfl, hv1, v2, r2, rfl, ⟨tq, tqv, rfl, htq, hq2⟩, v3, r3, rfl, hv3, rfl⟩ := tpv
      cases hv1
      have hq2 : tqv = pl'.2.1.map natV := by
        have key : ∀ {S : Addr → Prop} {H : Hp} {ns : List Nat} {vs : List V}, TrAll S H (ns.map natD) vs → vs = ns.map natV := by
          intro S H ns
          induction ns with
          | nil => intro vs h; exact h
          | cons n r ih =>
            intro vs h
            obtain ⟨v, us, e, t, u⟩ := h
            cases t
            rw [e, ih u]
            rfl
        exact key hq2
      subst hq2
      have lw := tE.len
      have hk := (List.getElem?_eq_some_iff.mp hDl).1
      obtain ⟨z, gz⟩ : ∃ z, ws[pl'.1]? = some z := ⟨_, List.getElem?_eq_getElem (by omega)⟩
      refine ⟨_, rfl, _, rfl, pq, ps, c, _, rfl, rfl, SqL.of hpJ, at_of (j := c.toNat) (by omega) gpv, ?_⟩
      refine ⟨_, rfl, _, rfl, f, fs, rfl, .inl (SqL.of hf), p, L, No, [.int fs.length], [.int fs.length], rfl, plJ, ⟨h2, h64⟩, fun z => z, .one rfl, _, rfl, fun d md v J2 k2 pl2 tv => ?_⟩
      rw [lfs] at md
      have lo := ob.lo
      have hi := ob.hi
      have kp : KpL (fun a => a = p) J' J2 := KpL.kp k2 rfl (by obtain ⟨ns, h, _⟩ := plJ; exact ⟨_, h⟩)
      have hF2 := kp.at_ hF nFp
      have tE2 := TrAll.kpl kp (fun a s => s.1) _ _ tE
      have htp2 := kp.tup htp
      have htq2 := kp.tup htq
      have hFn : J' F ≠ none := by rw [hF]; exact fun z => nomatch z
      have hv2 : Tr (fun a => a ≠ p ∧ a ≠ F) J2 d v := Tr.mono (fun a s => s.elim False.elim fun n => ⟨plJ.ne n, fun e => hFn (by rw [← e]; exact n)⟩) _ _ tv
      obtain ⟨dl, hdl, tz⟩ := tE2.get gz
      rw [hDl] at hdl
      cases hdl
      refine ⟨_, rfl, _, rfl, tp, _, 0, _, rfl, rfl, SqT.of htp2, at_of (j := 0) (by decide) rfl, F, ws, pl'.1, z, rfl, rfl, SqL.of hF2, at_of (j := pl'.1) rfl gz, ?_⟩
      refine ⟨_, rfl, tp, _, 1, _, rfl, rfl, SqT.of htp2, at_of (j := 1) (by decide) rfl, _, rfl, _, Dl, z, tq, pl'.2.1, d, v, bs.length, 0, [], rfl, tz, htq2, hv2, hsd, fun r J3 s3 tr => ?_⟩
      have hF3 := s3 _ _ hF2
      have hF2n : J2 F ≠ none := by rw [hF2]; exact fun z => nomatch z
      have tr3 : Tr (fun a => a ≠ p ∧ a ≠ F) J3 (.list (replD d Dl pl'.2.1)) r := Tr.mono (fun a s => s.elim id fun n => ⟨pl2.ne n, fun e => hF2n (by rw [← e]; exact n)⟩) _ _ tr
      refine ⟨_, rfl, _, rfl, tp, _, 0, _, rfl, rfl, SqT.of (s3 _ _ htp2), at_of (j := 0) (by decide) rfl, F, ws, pl'.1, pl'.1, rfl, rfl, hF3, ixN_in (by omega) (by omega), ?_⟩
      have k4 : KpL (fun a => a = F) J3 (upd J3 F (.lst (ws.set pl'.1 r))) := KpL.refl.put rfl ⟨_, hF3⟩
      have kall : KpL (fun a => a = p ∨ a = F) J' (upd J3 F (.lst (ws.set pl'.1 r))) := (kp.mono fun a e => .inl e).trans ((KpL.of s3).trans (k4.mono fun a e => .inr e))
      have keep : ∀ {b : Addr} {o : HO}, b ≠ p → b ≠ F → J' b = some o → upd J3 F (.lst (ws.set pl'.1 r)) b = some o := fun n1 n2 h => kall.at_ h (fun m => m.elim n1 n2)
      have nSS : ∀ a, (a ≠ p ∧ a ≠ F) → ¬ (a = p ∨ a = F) := fun a s m => m.elim s.1 s.2
      have hbv : ∀ l : Nat, l ≤ 3 → stOk (l : Int) bs.length d = false := fun l hl => (bad_no hl lo hi d md).1
      have hgd := (bad_no (l := 0) (by decide) lo hi d md).2
      refine ⟨es.set pl'.1 (.list (replD d Dl pl'.2.1)), ws.set pl'.1 r, c.toNat, _, _, _, rfl, (pool_same s3 pl2).keep nFp, upd_same, TrAll.set pl'.1 (TrAll.kpl kall nSS _ _ tE) (Tr.kpl k4 (fun a s => s.2) _ _ tr3), by rw [List.length_set]; exact lE, fun ds hm => ?_, ⟨keep npp nqF hpJ, keep nsp nsF hso, keep ncp2 ncF hc2, keep nfp nfF hf⟩, TrAll.kpl kall nSS _ _ tpJ, Tr.kpl kall nSS _ _ tbJ, fun e => by omega, fun _ => by rw [ec, show many - (i + 1) = many - 1 - i by omega]; exact hc, fun j x hj hx => ?_, fun _ x hx => ?_⟩
      · rcases List.mem_or_eq_of_mem_set hm with hm | hm
        · exact gE ds hm
        · cases hm
          exact gd_repl (fun n => gdB_ok hgd n) 4 4 Dl [] 0 _ hsd (gE _ (List.mem_of_getElem? hDl))
      · exact ready_step (rdy j x (by omega) hx) hDl hR (pw_get (pw_all bs 0) hx hpl hj)
      · rw [hpl] at hx
        cases hx
        exact ready_fault ob lE hDl hR hbv
    · obtain ⟨es, ws, B, y9, y10, y11, rfl, plJ, hF, tE, lE, gE, ⟨hpJ, hso, hc2, hf⟩, tpJ, tbJ, b0, b1, rdy, flt⟩ := h
      have en : (ns'.map V.int).length = many := by rw [List.length_map, ln]
      rw [en] at b0 b1 flt
      have hB := b1 (by omega)
      rw [Nat.sub_self] at hB
      obtain ⟨_, hBlt⟩ := hns _ (List.mem_of_getElem? hB)
      obtain ⟨pv, gpv⟩ : ∃ pv, ps[B]? = some pv := ⟨_, List.getElem?_eq_getElem (by omega)⟩
      obtain ⟨dp, hdp, tpv⟩ := tpJ.get gpv
      obtain ⟨pl', hpl, rfl⟩ : ∃ x, (allPl bs 0)[B]? = some x ∧ dp = plD x := by
        rw [List.getElem?_map] at hdp
        cases e : (allPl bs 0)[B]? with
        | none => rw [e] at hdp; cases hdp
        | some x => rw [e] at hdp; cases hdp; exact ⟨x, rfl, rfl⟩
      have hfl := flt (by omega) _ hpl
      have h7 := (rdy B pl' (Nat.le_refl _) hpl).2.choose_spec.2.1
      obtain ⟨tp, tpv', rfl, htp, v1, r1, rfl, hv1, v2, r2, rfl, tq, v3, r3, rfl, hv3, rfl⟩ := tpv
      cases hv1
      have g0 : atI (ns'.map V.int) 0 = some (.int (B : Int)) := at_of (j := 0) (by decide) (by rw [List.getElem?_map, hB]; rfl)
      refine ⟨_, rfl, _, rfl, so, _, 0, _, rfl, rfl, SqL.of hso, g0, pq, ps, B, _, rfl, rfl, SqL.of hpJ, at_of (j := B) rfl gpv, ?_⟩
      refine ⟨_, rfl, fun _ => True, .list es, .ref F, rfl, ⟨F, ws, rfl, True.intro, hF, TrAll.mono (fun _ _ => True.intro) _ _ tE⟩, (fun bs' e ds m => by cases e; exact gE ds m), fun hf0 => (by rw [hfl] at hf0; cases hf0), fun k e w2 t' H6 hf6 s6 nw hw ht => ?_⟩
      rw [hfl] at hf6
      cases hf6
      refine ⟨_, rfl, w2, _, 0, _, rfl, rfl, SqT.of hw, at_of (j := 0) (by decide) rfl, rfl, _, rfl, iteNP rfl ?_⟩
      refine ⟨_, rfl, w2, _, 1, _, rfl, rfl, SqT.of hw, at_of (j := 1) (by decide) rfl, _, rfl, w2, _, 2, _, rfl, rfl, SqT.of hw, at_of (j := 2) (by decide) rfl, small100 (n := 2) (by decide), fun u nu => ?_⟩
      have su := same_upd (o := .tup [V.int (pl'.1 : Int), .ref t']) nu
      have hu : upd H6 u (.tup [V.int (pl'.1 : Int), .ref t']) u = some (.tup [V.int (pl'.1 : Int), .ref t']) := upd_same
      have ht' := su _ _ ht
      generalize upd H6 u _ = H7 at *
      have htp7 := su _ _ (s6 _ _ htp)
      refine ⟨_, rfl, tp, _, 0, _, rfl, rfl, SqT.of htp7, at_of (j := 0) (by decide) rfl, _, rfl, tp, _, 1, _, rfl, rfl, SqT.of htp7, at_of (j := 1) (by decide) rfl, small100 (n := 2) (by decide), fun x nx => ?_⟩
      have sx := same_upd (o := .tup [V.int (pl'.1 : Int), v2]) nx
      have fa : Fit (.tuple [.int (pl'.1 : Int), pathD pl'.2.1]) 16 := by
        refine ⟨by simp, True.intro, ⟨by rw [List.length_map]; omega, FitAll.of fun d hd => ?_⟩, True.intro⟩
        obtain ⟨n, _, rfl⟩ := List.mem_map.mp hd
        exact True.intro
      have t1 : Tr (fun _ => True) (upd H7 x (.tup [V.int (pl'.1 : Int), v2])) (.tuple [.int (pl'.1 : Int), pathD pl'.2.1]) (.ref u) := ⟨u, _, rfl, sx _ _ hu, .cons rfl (.one ⟨t', _, rfl, sx _ _ ht', TrAll.ofNats _⟩)⟩
      have t2 : Tr (fun _ => True) (upd H7 x (.tup [V.int (pl'.1 : Int), v2])) (.tuple [.int (pl'.1 : Int), pathD pl'.2.1]) (.ref x) := ⟨x, _, rfl, upd_same, .cons rfl (.one (Tr.mono (fun _ _ => True.intro) _ _ ((tq.same s6).same (su.trans sx))))⟩
      refine ⟨_, _, _, _, .ref u, .ref x, rfl, t1, t2, fa, fa, by decide, fun H8 s8 => ⟨_, rfl, ?_⟩⟩
      rw [same_refl _ _ fa]
      have s68 := s6.trans (su.trans (sx.trans s8))
      refine ⟨_, rfl, _, bs, .ref f, rfl, tbJ.same s68, ob, fun D zs H9 s9 nD hD tz => ?_⟩
      refine ⟨_, bookD bs, .ref D, rfl, ⟨D, _, rfl, True.intro, hD, TrAll.mono (fun _ _ => True.intro) _ _ tz⟩, (fun bs' e ds m => by cases e; exact gd_book bs ds m), fun hf H10 w3 r bs' e ob' s10 nw3 hw3 tr => ?_, fun k e w t' H6 hf => by rw [fault_ok ob] at hf; cases hf⟩
      rw [← e] at tr
      refine ⟨_, rfl, w3, _, 0, _, rfl, rfl, SqT.of hw3, at_of (j := 0) (by decide) rfl, ?_⟩
      refine ⟨rfl, _, rfl, iteP rfl ?_⟩
      refine ⟨_, rfl, w3, _, 2, _, rfl, rfl, SqT.of hw3, at_of (j := 2) (by decide) rfl, _, rfl, _, _, bookD bs, bookD bs, r, .ref f, rfl, tr, tbJ.same (s68.trans (s9.trans s10)), fit_book ob, fit_book ob, by decide, fun H11 s11 => ?_⟩
      rw [eqb]
      exact q _
--SPLIT
end
theorem all_mk {l : PySem.W.OpenLaw} {w : World} {K : PySem.W.Frag} {h : Heap} {mg : Str → Option Value} {fa f0 f1 f2 f3 f4 f5 f6 f7 f8 f9 f10 f11 f12 f13 f14 f15 f16 f17 f18 f19 f20 f21 f22 f23 f24 f25 f26 f27 f28 f29 f30 f31 f32 f33 f34 f35 f36 f37 : Addr} (X : K.In h) (G : h.Ns mainGlobals mg) (hfa : mg "law" = some (.ref fa))
    {od0 an0 od1 an1 od2 an2 od3 an3 od4 an4 od5 an5 od6 an6 od7 an7 od8 an8 od9 an9 od10 an10 od11 an11 od12 an12 od13 an13 od14 an14 od15 an15 od16 an16 od17 an17 od18 an18 od19 an19 od20 an20 od21 an21 od22 an22 od23 an23 od24 an24 od25 an25 od26 an26 od27 an27 od28 an28 od29 an29 od30 an30 od31 an31 od32 an32 od33 an33 od34 an34 od35 an35 od36 an36 od37 an37 : Option Addr} {sl0 sl1 sl2 sl3 sl4 sl5 sl6 sl7 sl8 sl9 sl10 sl11 sl12 sl13 sl14 sl15 sl16 sl17 sl18 sl19 sl20 sl21 sl22 sl23 sl24 sl25 sl26 sl27 sl28 sl29 sl30 sl31 sl32 sl33 sl34 sl35 sl36 sl37 : Array (Option Value)}
    {oc0 dc0 pm0 cd0 ct0 kV0 oc1 dc1 pm1 cd1 ct1 kV1 oc2 dc2 pm2 cd2 ct2 kV2 oc3 dc3 pm3 cd3 ct3 kV3 oc4 dc4 pm4 cd4 ct4 kV4 oc5 dc5 pm5 cd5 ct5 kV5 oc6 dc6 pm6 cd6 ct6 kV6 oc7 dc7 pm7 cd7 ct7 kV7 oc8 dc8 pm8 cd8 ct8 kV8 oc9 dc9 pm9 cd9 ct9 kV9 oc10 dc10 pm10 cd10 ct10 kV10 oc11 dc11 pm11 cd11 ct11 kV11 oc12 dc12 pm12 cd12 ct12 kV12 oc13 dc13 pm13 cd13 ct13 kV13 oc14 dc14 pm14 cd14 ct14 kV14 oc15 dc15 pm15 cd15 ct15 kV15 oc16 dc16 pm16 cd16 ct16 kV16 oc17 dc17 pm17 cd17 ct17 kV17 oc18 dc18 pm18 cd18 ct18 kV18 oc19 dc19 pm19 cd19 ct19 kV19 oc20 dc20 pm20 cd20 ct20 kV20 oc21 dc21 pm21 cd21 ct21 kV21 oc22 dc22 pm22 cd22 ct22 kV22 oc23 dc23 pm23 cd23 ct23 kV23 oc24 dc24 pm24 cd24 ct24 kV24 oc25 dc25 pm25 cd25 ct25 kV25 oc26 dc26 pm26 cd26 ct26 kV26 oc27 dc27 pm27 cd27 ct27 kV27 oc28 dc28 pm28 cd28 ct28 kV28 oc29 dc29 pm29 cd29 ct29 kV29 oc30 dc30 pm30 cd30 ct30 kV30 oc31 dc31 pm31 cd31 ct31 kV31 oc32 dc32 pm32 cd32 ct32 kV32 oc33 dc33 pm33 cd33 ct33 kV33 oc34 dc34 pm34 cd34 ct34 kV34 oc35 dc35 pm35 cd35 ct35 kV35 oc36 dc36 pm36 cd36 ct36 kV36 oc37 dc37 pm37 cd37 ct37 kV37 : Value}
    {CC0 : Addr}
    {ti0 ti1 ti2 ti3 : Tok}
    (qa0 : PySem.W.nsIn K mainGlobals "Book" = some (some (.ref CC0)))
    (qg0 : PySem.W.plainGet K CC0 Str.empty = true)
    (qh0 : PySem.W.hasDictIn K CC0 = true)
    (qp0 : PySem.W.plainOver K CC0 = true)
    (qs0 : PySem.W.findIn K (.ref CC0) "__setattr__" = some (some (.builtin "object.__setattr__")))
    (qm0 : PySem.W.makesIn K CC0 = true)
    (qk0 : PySem.W.keepIn K (.ref CC0) = true)
    (qn0_0 : PySem.W.findIn K (.ref CC0) "_bodies" = some none)
    {HE : Addr} {CE0 : Addr}

    (ea0 : PySem.W.nsIn K mainGlobals "NoBook" = some (some (.ref CE0)))
    (el0 : ∃ nm q N bs sn sub ab col dd k0 k1 k2 k3 k5, K.lookup CE0 = some (excClassObj nm q CE0 N bs [.ref HE, .type "ValueError", .type "Exception", .type "BaseException", .type "object"] true sn sub ab col dd k0 k1 k2 k3 k5 "ValueError.__new__"))
    (es0 : PySem.W.findIn K (.ref CE0) "__setattr__" = some (some (.builtin "object.__setattr__")))
    (eb0 : PySem.W.subIn K (.ref CE0) (.type "BaseException") = some true)
    (et0 : PySem.W.typeIn K (.ref CE0) = some (.type "type"))
    (ek0 : PySem.W.keepIn K (.ref CE0) = true)
    (ec0 : PySem.W.isClsIn K CE0 = true)
    (eg0 : PySem.W.findIn K (.ref CE0) "__getattribute__" = some (some (.builtin "BaseException.__getattribute__")))
    (eh0 : PySem.W.findIn K (.ref CE0) "__getattr__" = some none)
    (ed0 : PySem.W.hasDictIn K CE0 = true)
    (eS0 : PySem.W.subIn K (.ref CE0) (.ref CE0) = some true)
    (en0_0 : PySem.W.findIn K (.ref CE0) "procedure" = some none)
    (en0_1 : PySem.W.findIn K (.ref CE0) "path" = some none)
    (a0 : PySem.W.findIn K (.ref CE0) "__init__" = some (some (.ref f0)))
    (i0 : PySem.W.typeIn K (.ref f0) = some (.type "function"))
    (l0 : K.lookup f0 = some ⟨oc0, od0, .func (PySem.W.fnOf "__init__" "NoBook.__init__" (defArgs s_NoBook___init__) (defBody s_NoBook___init__) (defScope s_NoBook___init__) .none kV0 dc0 pm0 an0 cd0 ct0), sl0⟩)
    (c0 : PySem.W.codeIn K cd0 "NoBook.__init__" = true)
    (k0 : PySem.W.keepIn K (.ref f0) = true)
    (a1 : PySem.W.nsIn K mainGlobals "is_integer" = some (some (.ref f1)))
    (l1 : K.lookup f1 = some ⟨oc1, od1, .func (PySem.W.fnOf "is_integer" "is_integer" (defArgs s_is_integer) (defBody s_is_integer) (defScope s_is_integer) .none kV1 dc1 pm1 an1 cd1 ct1), sl1⟩)
    (c1 : PySem.W.codeIn K cd1 "is_integer" = true)
    (k1 : PySem.W.keepIn K (.ref f1) = true)
    (a2 : PySem.W.nsIn K mainGlobals "is_within" = some (some (.ref f2)))
    (l2 : K.lookup f2 = some ⟨oc2, od2, .func (PySem.W.fnOf "is_within" "is_within" (defArgs s_is_within) (defBody s_is_within) (defScope s_is_within) .none kV2 dc2 pm2 an2 cd2 ct2), sl2⟩)
    (c2 : PySem.W.codeIn K cd2 "is_within" = true)
    (k2 : PySem.W.keepIn K (.ref f2) = true)
    (a3 : PySem.W.nsIn K mainGlobals "is_bit" = some (some (.ref f3)))
    (l3 : K.lookup f3 = some ⟨oc3, od3, .func (PySem.W.fnOf "is_bit" "is_bit" (defArgs s_is_bit) (defBody s_is_bit) (defScope s_is_bit) .none kV3 dc3 pm3 an3 cd3 ct3), sl3⟩)
    (c3 : PySem.W.codeIn K cd3 "is_bit" = true)
    (k3 : PySem.W.keepIn K (.ref f3) = true)
    (a4 : PySem.W.nsIn K mainGlobals "is_command" = some (some (.ref f4)))
    (l4 : K.lookup f4 = some ⟨oc4, od4, .func (PySem.W.fnOf "is_command" "is_command" (defArgs s_is_command) (defBody s_is_command) (defScope s_is_command) .none kV4 dc4 pm4 an4 cd4 ct4), sl4⟩)
    (c4 : PySem.W.codeIn K cd4 "is_command" = true)
    (k4 : PySem.W.keepIn K (.ref f4) = true)
    (a5 : PySem.W.nsIn K mainGlobals "is_index" = some (some (.ref f5)))
    (l5 : K.lookup f5 = some ⟨oc5, od5, .func (PySem.W.fnOf "is_index" "is_index" (defArgs s_is_index) (defBody s_is_index) (defScope s_is_index) .none kV5 dc5 pm5 an5 cd5 ct5), sl5⟩)
    (c5 : PySem.W.codeIn K cd5 "is_index" = true)
    (k5 : PySem.W.keepIn K (.ref f5) = true)
    (a6 : PySem.W.nsIn K mainGlobals "are_blocks" = some (some (.ref f6)))
    (l6 : K.lookup f6 = some ⟨oc6, od6, .func (PySem.W.fnOf "are_blocks" "are_blocks" (defArgs s_are_blocks) (defBody s_are_blocks) (defScope s_are_blocks) .none kV6 dc6 pm6 an6 cd6 ct6), sl6⟩)
    (c6 : PySem.W.codeIn K cd6 "are_blocks" = true)
    (k6 : PySem.W.keepIn K (.ref f6) = true)
    (a7 : PySem.W.nsIn K mainGlobals "is_call" = some (some (.ref f7)))
    (l7 : K.lookup f7 = some ⟨oc7, od7, .func (PySem.W.fnOf "is_call" "is_call" (defArgs s_is_call) (defBody s_is_call) (defScope s_is_call) .none kV7 dc7 pm7 an7 cd7 ct7), sl7⟩)
    (c7 : PySem.W.codeIn K cd7 "is_call" = true)
    (k7 : PySem.W.keepIn K (.ref f7) = true)
    (a8 : PySem.W.nsIn K mainGlobals "is_statement" = some (some (.ref f8)))
    (l8 : K.lookup f8 = some ⟨oc8, od8, .func (PySem.W.fnOf "is_statement" "is_statement" (defArgs s_is_statement) (defBody s_is_statement) (defScope s_is_statement) .none kV8 dc8 pm8 an8 cd8 ct8), sl8⟩)
    (c8 : PySem.W.codeIn K cd8 "is_statement" = true)
    (k8 : PySem.W.keepIn K (.ref f8) = true)
    (a9 : PySem.W.nsIn K mainGlobals "blocks_of" = some (some (.ref f9)))
    (l9 : K.lookup f9 = some ⟨oc9, od9, .func (PySem.W.fnOf "blocks_of" "blocks_of" (defArgs s_blocks_of) (defBody s_blocks_of) (defScope s_blocks_of) .none kV9 dc9 pm9 an9 cd9 ct9), sl9⟩)
    (c9 : PySem.W.codeIn K cd9 "blocks_of" = true)
    (k9 : PySem.W.keepIn K (.ref f9) = true)
    (a10 : PySem.W.nsIn K mainGlobals "with_blocks" = some (some (.ref f10)))
    (l10 : K.lookup f10 = some ⟨oc10, od10, .func (PySem.W.fnOf "with_blocks" "with_blocks" (defArgs s_with_blocks) (defBody s_with_blocks) (defScope s_with_blocks) .none kV10 dc10 pm10 an10 cd10 ct10), sl10⟩)
    (c10 : PySem.W.codeIn K cd10 "with_blocks" = true)
    (k10 : PySem.W.keepIn K (.ref f10) = true)
    (a11 : PySem.W.nsIn K mainGlobals "copied_statement" = some (some (.ref f11)))
    (l11 : K.lookup f11 = some ⟨oc11, od11, .func (PySem.W.fnOf "copied_statement" "copied_statement" (defArgs s_copied_statement) (defBody s_copied_statement) (defScope s_copied_statement) .none kV11 dc11 pm11 an11 cd11 ct11), sl11⟩)
    (c11 : PySem.W.codeIn K cd11 "copied_statement" = true)
    (k11 : PySem.W.keepIn K (.ref f11) = true)
    (a12 : PySem.W.nsIn K mainGlobals "copied" = some (some (.ref f12)))
    (l12 : K.lookup f12 = some ⟨oc12, od12, .func (PySem.W.fnOf "copied" "copied" (defArgs s_copied) (defBody s_copied) (defScope s_copied) .none kV12 dc12 pm12 an12 cd12 ct12), sl12⟩)
    (c12 : PySem.W.codeIn K cd12 "copied" = true)
    (k12 : PySem.W.keepIn K (.ref f12) = true)
    (a13 : PySem.W.nsIn K mainGlobals "check_block" = some (some (.ref f13)))
    (l13 : K.lookup f13 = some ⟨oc13, od13, .func (PySem.W.fnOf "check_block" "check_block" (defArgs s_check_block) (defBody s_check_block) (defScope s_check_block) .none kV13 dc13 pm13 an13 cd13 ct13), sl13⟩)
    (c13 : PySem.W.codeIn K cd13 "check_block" = true)
    (k13 : PySem.W.keepIn K (.ref f13) = true)
    (a14 : PySem.W.nsIn K mainGlobals "check_bodies" = some (some (.ref f14)))
    (l14 : K.lookup f14 = some ⟨oc14, od14, .func (PySem.W.fnOf "check_bodies" "check_bodies" (defArgs s_check_bodies) (defBody s_check_bodies) (defScope s_check_bodies) .none kV14 dc14 pm14 an14 cd14 ct14), sl14⟩)
    (c14 : PySem.W.codeIn K cd14 "check_bodies" = true)
    (k14 : PySem.W.keepIn K (.ref f14) = true)
    (a15 : PySem.W.findIn K (.ref CC0) "__init__" = some (some (.ref f15)))
    (i15 : PySem.W.isFn K (.ref f15) = true)
    (l15 : K.lookup f15 = some ⟨oc15, od15, .func (PySem.W.fnOf "__init__" "Book.__init__" (defArgs s_Book___init__) (defBody s_Book___init__) (defScope s_Book___init__) .none kV15 dc15 pm15 an15 cd15 ct15), sl15⟩)
    (c15 : PySem.W.codeIn K cd15 "Book.__init__" = true)
    (k15 : PySem.W.keepIn K (.ref f15) = true)
    (a16 : PySem.W.findIn K (.ref CC0) "__len__" = some (some (.ref f16)))
    (i16 : PySem.W.isFn K (.ref f16) = true)
    (l16 : K.lookup f16 = some ⟨oc16, od16, .func (PySem.W.fnOf "__len__" "Book.__len__" (defArgs s_Book___len__) (defBody s_Book___len__) (defScope s_Book___len__) .none kV16 dc16 pm16 an16 cd16 ct16), sl16⟩)
    (c16 : PySem.W.codeIn K cd16 "Book.__len__" = true)
    (k16 : PySem.W.keepIn K (.ref f16) = true)
    (a17 : PySem.W.findIn K (.ref CC0) "bodies" = some (some (.ref f17)))
    (i17 : PySem.W.isFn K (.ref f17) = true)
    (l17 : K.lookup f17 = some ⟨oc17, od17, .func (PySem.W.fnOf "bodies" "Book.bodies" (defArgs s_Book_bodies) (defBody s_Book_bodies) (defScope s_Book_bodies) .none kV17 dc17 pm17 an17 cd17 ct17), sl17⟩)
    (c17 : PySem.W.codeIn K cd17 "Book.bodies" = true)
    (k17 : PySem.W.keepIn K (.ref f17) = true)
    (a18 : PySem.W.nsIn K mainGlobals "_law_pool" = some (some (.ref f18)))
    (l18 : K.lookup f18 = some ⟨oc18, od18, .func (PySem.W.fnOf "_law_pool" "_law_pool" (defArgs s__law_pool) (defBody s__law_pool) (defScope s__law_pool) .none kV18 dc18 pm18 an18 cd18 ct18), sl18⟩)
    (c18 : PySem.W.codeIn K cd18 "_law_pool" = true)
    (k18 : PySem.W.keepIn K (.ref f18) = true)
    (a19 : PySem.W.nsIn K mainGlobals "_law_draw" = some (some (.ref f19)))
    (l19 : K.lookup f19 = some ⟨oc19, od19, .func (PySem.W.fnOf "_law_draw" "_law_draw" (defArgs s__law_draw) (defBody s__law_draw) (defScope s__law_draw) .none kV19 dc19 pm19 an19 cd19 ct19), sl19⟩)
    (c19 : PySem.W.codeIn K cd19 "_law_draw" = true)
    (k19 : PySem.W.keepIn K (.ref f19) = true)
    (a20 : PySem.W.nsIn K mainGlobals "_law_command" = some (some (.ref f20)))
    (l20 : K.lookup f20 = some ⟨oc20, od20, .func (PySem.W.fnOf "_law_command" "_law_command" (defArgs s__law_command) (defBody s__law_command) (defScope s__law_command) .none kV20 dc20 pm20 an20 cd20 ct20), sl20⟩)
    (c20 : PySem.W.codeIn K cd20 "_law_command" = true)
    (k20 : PySem.W.keepIn K (.ref f20) = true)
    (a21 : PySem.W.nsIn K mainGlobals "_law_pair" = some (some (.ref f21)))
    (l21 : K.lookup f21 = some ⟨oc21, od21, .func (PySem.W.fnOf "_law_pair" "_law_pair" (defArgs s__law_pair) (defBody s__law_pair) (defScope s__law_pair) .none kV21 dc21 pm21 an21 cd21 ct21), sl21⟩)
    (c21 : PySem.W.codeIn K cd21 "_law_pair" = true)
    (k21 : PySem.W.keepIn K (.ref f21) = true)
    (a22 : PySem.W.nsIn K mainGlobals "_law_block" = some (some (.ref f22)))
    (l22 : K.lookup f22 = some ⟨oc22, od22, .func (PySem.W.fnOf "_law_block" "_law_block" (defArgs s__law_block) (defBody s__law_block) (defScope s__law_block) .none kV22 dc22 pm22 an22 cd22 ct22), sl22⟩)
    (c22 : PySem.W.codeIn K cd22 "_law_block" = true)
    (k22 : PySem.W.keepIn K (.ref f22) = true)
    (a23 : PySem.W.nsIn K mainGlobals "_law_piece" = some (some (.ref f23)))
    (l23 : K.lookup f23 = some ⟨oc23, od23, .func (PySem.W.fnOf "_law_piece" "_law_piece" (defArgs s__law_piece) (defBody s__law_piece) (defScope s__law_piece) .none kV23 dc23 pm23 an23 cd23 ct23), sl23⟩)
    (c23 : PySem.W.codeIn K cd23 "_law_piece" = true)
    (k23 : PySem.W.keepIn K (.ref f23) = true)
    (a24 : PySem.W.nsIn K mainGlobals "_law_around" = some (some (.ref f24)))
    (l24 : K.lookup f24 = some ⟨oc24, od24, .func (PySem.W.fnOf "_law_around" "_law_around" (defArgs s__law_around) (defBody s__law_around) (defScope s__law_around) .none kV24 dc24 pm24 an24 cd24 ct24), sl24⟩)
    (c24 : PySem.W.codeIn K cd24 "_law_around" = true)
    (k24 : PySem.W.keepIn K (.ref f24) = true)
    (a25 : PySem.W.nsIn K mainGlobals "_law_body" = some (some (.ref f25)))
    (l25 : K.lookup f25 = some ⟨oc25, od25, .func (PySem.W.fnOf "_law_body" "_law_body" (defArgs s__law_body) (defBody s__law_body) (defScope s__law_body) .none kV25 dc25 pm25 an25 cd25 ct25), sl25⟩)
    (c25 : PySem.W.codeIn K cd25 "_law_body" = true)
    (k25 : PySem.W.keepIn K (.ref f25) = true)
    (a26 : PySem.W.nsIn K mainGlobals "_law_book" = some (some (.ref f26)))
    (l26 : K.lookup f26 = some ⟨oc26, od26, .func (PySem.W.fnOf "_law_book" "_law_book" (defArgs s__law_book) (defBody s__law_book) (defScope s__law_book) .none kV26 dc26 pm26 an26 cd26 ct26), sl26⟩)
    (c26 : PySem.W.codeIn K cd26 "_law_book" = true)
    (k26 : PySem.W.keepIn K (.ref f26) = true)
    (a27 : PySem.W.nsIn K mainGlobals "_law_blocks" = some (some (.ref f27)))
    (l27 : K.lookup f27 = some ⟨oc27, od27, .func (PySem.W.fnOf "_law_blocks" "_law_blocks" (defArgs s__law_blocks) (defBody s__law_blocks) (defScope s__law_blocks) .none kV27 dc27 pm27 an27 cd27 ct27), sl27⟩)
    (c27 : PySem.W.codeIn K cd27 "_law_blocks" = true)
    (k27 : PySem.W.keepIn K (.ref f27) = true)
    (a28 : PySem.W.nsIn K mainGlobals "_law_with" = some (some (.ref f28)))
    (l28 : K.lookup f28 = some ⟨oc28, od28, .func (PySem.W.fnOf "_law_with" "_law_with" (defArgs s__law_with) (defBody s__law_with) (defScope s__law_with) .none kV28 dc28 pm28 an28 cd28 ct28), sl28⟩)
    (c28 : PySem.W.codeIn K cd28 "_law_with" = true)
    (k28 : PySem.W.keepIn K (.ref f28) = true)
    (a29 : PySem.W.nsIn K mainGlobals "_law_copy" = some (some (.ref f29)))
    (l29 : K.lookup f29 = some ⟨oc29, od29, .func (PySem.W.fnOf "_law_copy" "_law_copy" (defArgs s__law_copy) (defBody s__law_copy) (defScope s__law_copy) .none kV29 dc29 pm29 an29 cd29 ct29), sl29⟩)
    (c29 : PySem.W.codeIn K cd29 "_law_copy" = true)
    (k29 : PySem.W.keepIn K (.ref f29) = true)
    (a30 : PySem.W.nsIn K mainGlobals "_law_copies" = some (some (.ref f30)))
    (l30 : K.lookup f30 = some ⟨oc30, od30, .func (PySem.W.fnOf "_law_copies" "_law_copies" (defArgs s__law_copies) (defBody s__law_copies) (defScope s__law_copies) .none kV30 dc30 pm30 an30 cd30 ct30), sl30⟩)
    (c30 : PySem.W.codeIn K cd30 "_law_copies" = true)
    (k30 : PySem.W.keepIn K (.ref f30) = true)
    (a31 : PySem.W.nsIn K mainGlobals "_law_places" = some (some (.ref f31)))
    (l31 : K.lookup f31 = some ⟨oc31, od31, .func (PySem.W.fnOf "_law_places" "_law_places" (defArgs s__law_places) (defBody s__law_places) (defScope s__law_places) .none kV31 dc31 pm31 an31 cd31 ct31), sl31⟩)
    (c31 : PySem.W.codeIn K cd31 "_law_places" = true)
    (k31 : PySem.W.keepIn K (.ref f31) = true)
    (a32 : PySem.W.nsIn K mainGlobals "_law_all_places" = some (some (.ref f32)))
    (l32 : K.lookup f32 = some ⟨oc32, od32, .func (PySem.W.fnOf "_law_all_places" "_law_all_places" (defArgs s__law_all_places) (defBody s__law_all_places) (defScope s__law_all_places) .none kV32 dc32 pm32 an32 cd32 ct32), sl32⟩)
    (c32 : PySem.W.codeIn K cd32 "_law_all_places" = true)
    (k32 : PySem.W.keepIn K (.ref f32) = true)
    (a33 : PySem.W.nsIn K mainGlobals "_law_replaced" = some (some (.ref f33)))
    (l33 : K.lookup f33 = some ⟨oc33, od33, .func (PySem.W.fnOf "_law_replaced" "_law_replaced" (defArgs s__law_replaced) (defBody s__law_replaced) (defScope s__law_replaced) .none kV33 dc33 pm33 an33 cd33 ct33), sl33⟩)
    (c33 : PySem.W.codeIn K cd33 "_law_replaced" = true)
    (k33 : PySem.W.keepIn K (.ref f33) = true)
    (a34 : PySem.W.nsIn K mainGlobals "_law_same" = some (some (.ref f34)))
    (l34 : K.lookup f34 = some ⟨oc34, od34, .func (PySem.W.fnOf "_law_same" "_law_same" (defArgs s__law_same) (defBody s__law_same) (defScope s__law_same) .none kV34 dc34 pm34 an34 cd34 ct34), sl34⟩)
    (c34 : PySem.W.codeIn K cd34 "_law_same" = true)
    (k34 : PySem.W.keepIn K (.ref f34) = true)
    (a35 : PySem.W.nsIn K mainGlobals "_law_bad_statement" = some (some (.ref f35)))
    (l35 : K.lookup f35 = some ⟨oc35, od35, .func (PySem.W.fnOf "_law_bad_statement" "_law_bad_statement" (defArgs s__law_bad_statement) (defBody s__law_bad_statement) (defScope s__law_bad_statement) .none kV35 dc35 pm35 an35 cd35 ct35), sl35⟩)
    (c35 : PySem.W.codeIn K cd35 "_law_bad_statement" = true)
    (k35 : PySem.W.keepIn K (.ref f35) = true)
    (a36 : PySem.W.nsIn K mainGlobals "_law_made" = some (some (.ref f36)))
    (l36 : K.lookup f36 = some ⟨oc36, od36, .func (PySem.W.fnOf "_law_made" "_law_made" (defArgs s__law_made) (defBody s__law_made) (defScope s__law_made) .none kV36 dc36 pm36 an36 cd36 ct36), sl36⟩)
    (c36 : PySem.W.codeIn K cd36 "_law_made" = true)
    (k36 : PySem.W.keepIn K (.ref f36) = true)
    (a37 : PySem.W.nsIn K mainGlobals "law" = some (some (.ref f37)))
    (l37 : K.lookup f37 = some ⟨oc37, od37, .func (PySem.W.fnOf "law" "law" (defArgs s_law) (defBody s_law) (defScope s_law) .none kV37 dc37 pm37 an37 cd37 ct37), sl37⟩)
    (c37 : PySem.W.codeIn K cd37 "law" = true)
    (k37 : PySem.W.keepIn K (.ref f37) = true)
    (z0 : PySem.W.nsIn K mainGlobals "all" = some none)
    (z1 : PySem.W.nsIn K mainGlobals "bool" = some none)
    (z2 : PySem.W.nsIn K mainGlobals "enumerate" = some none)
    (z3 : PySem.W.nsIn K mainGlobals "int" = some none)
    (z4 : PySem.W.nsIn K mainGlobals "isinstance" = some none)
    (z5 : PySem.W.nsIn K mainGlobals "len" = some none)
    (z6 : PySem.W.nsIn K mainGlobals "list" = some none)
    (z7 : PySem.W.nsIn K mainGlobals "range" = some none)
    (z8 : PySem.W.nsIn K mainGlobals "reversed" = some none)
    (z9 : PySem.W.nsIn K mainGlobals "sorted" = some none)
    (z10 : PySem.W.nsIn K mainGlobals "str" = some none)
    (z11 : PySem.W.nsIn K mainGlobals "tuple" = some none)
    (z12 : PySem.W.nsIn K mainGlobals "zip" = some none)
    (gi0 : PySem.W.nsIn K mainGlobals "DEEPEST_LEVEL" = some (some (.int 3 ti0)))
    (gi1 : PySem.W.nsIn K mainGlobals "MOST_IN_A_LIST" = some (some (.int 8 ti1)))
    (gi2 : PySem.W.nsIn K mainGlobals "MOST_IN_A_PROCEDURE" = some (some (.int 12 ti2)))
    (gi3 : PySem.W.nsIn K mainGlobals "MOST_PROCEDURES" = some (some (.int 3 ti3)))
    {aB : Addr}
    (gB : PySem.W.nsIn K mainGlobals "BOUNDS" = some (some (.ref aB)))
    {eB : Array DictEntry}
    {nB : Nat}
    (lB : K.lookup aB = some ⟨.type "dict", none, .dict eB nB, #[]⟩) (iB : PySem.W.KeysLit w.params eB.toList) (wB : (aB == sysModules) = false)
    {b0 : Addr} {db0 : Option Addr} {nb0 : Nat} {sb0 : Array (Option Value)} {p0_0 : Addr} {dp0_0 : Option Addr} {np0_0 : Nat} {sp0_0 : Array (Option Value)} {t0_0 u0_0 : Tok} {b1 : Addr} {db1 : Option Addr} {nb1 : Nat} {sb1 : Array (Option Value)} {p1_0 : Addr} {dp1_0 : Option Addr} {np1_0 : Nat} {sp1_0 : Array (Option Value)} {t1_0 u1_0 : Tok} {b2 : Addr} {db2 : Option Addr} {nb2 : Nat} {sb2 : Array (Option Value)} {b3 : Addr} {db3 : Option Addr} {nb3 : Nat} {sb3 : Array (Option Value)} {p3_0 : Addr} {dp3_0 : Option Addr} {np3_0 : Nat} {sp3_0 : Array (Option Value)} {t3_0 u3_0 : Tok} {b4 : Addr} {db4 : Option Addr} {nb4 : Nat} {sb4 : Array (Option Value)} {p4_0 : Addr} {dp4_0 : Option Addr} {np4_0 : Nat} {sp4_0 : Array (Option Value)} {t4_0 u4_0 : Tok} {p4_1 : Addr} {dp4_1 : Option Addr} {np4_1 : Nat} {sp4_1 : Array (Option Value)} {t4_1 u4_1 : Tok} {b5 : Addr} {db5 : Option Addr} {nb5 : Nat} {sb5 : Array (Option Value)} {p5_0 : Addr} {dp5_0 : Option Addr} {np5_0 : Nat} {sp5_0 : Array (Option Value)} {t5_0 u5_0 : Tok} {p5_1 : Addr} {dp5_1 : Option Addr} {np5_1 : Nat} {sp5_1 : Array (Option Value)} {t5_1 u5_1 : Tok} {b6 : Addr} {db6 : Option Addr} {nb6 : Nat} {sb6 : Array (Option Value)} {b7 : Addr} {db7 : Option Addr} {nb7 : Nat} {sb7 : Array (Option Value)} {b8 : Addr} {db8 : Option Addr} {nb8 : Nat} {sb8 : Array (Option Value)} (rn0 : PySem.W.nsIn K aB "go" = some (some (.ref b0))) (rl0 : K.lookup b0 = some ⟨.type "tuple", db0, .seq ([.ref p0_0] : List Value).toArray nb0, sb0⟩) (rp0_0 : K.lookup p0_0 = some ⟨.type "tuple", dp0_0, .seq ([.int (-9) t0_0, .int 9 u0_0] : List Value).toArray np0_0, sp0_0⟩) (rn1 : PySem.W.nsIn K aB "turn" = some (some (.ref b1))) (rl1 : K.lookup b1 = some ⟨.type "tuple", db1, .seq ([.ref p1_0] : List Value).toArray nb1, sb1⟩) (rp1_0 : K.lookup p1_0 = some ⟨.type "tuple", dp1_0, .seq ([.int (1) t1_0, .int 3 u1_0] : List Value).toArray np1_0, sp1_0⟩) (rn2 : PySem.W.nsIn K aB "mirror" = some (some (.ref b2))) (rl2 : K.lookup b2 = some ⟨.type "tuple", db2, .seq ([] : List Value).toArray nb2, sb2⟩) (rn3 : PySem.W.nsIn K aB "scale" = some (some (.ref b3))) (rl3 : K.lookup b3 = some ⟨.type "tuple", db3, .seq ([.ref p3_0] : List Value).toArray nb3, sb3⟩) (rp3_0 : K.lookup p3_0 = some ⟨.type "tuple", dp3_0, .seq ([.int (-3) t3_0, .int 3 u3_0] : List Value).toArray np3_0, sp3_0⟩) (rn4 : PySem.W.nsIn K aB "aim" = some (some (.ref b4))) (rl4 : K.lookup b4 = some ⟨.type "tuple", db4, .seq ([.ref p4_0, .ref p4_1] : List Value).toArray nb4, sb4⟩) (rp4_0 : K.lookup p4_0 = some ⟨.type "tuple", dp4_0, .seq ([.int (-9) t4_0, .int 9 u4_0] : List Value).toArray np4_0, sp4_0⟩) (rp4_1 : K.lookup p4_1 = some ⟨.type "tuple", dp4_1, .seq ([.int (-9) t4_1, .int 9 u4_1] : List Value).toArray np4_1, sp4_1⟩) (rn5 : PySem.W.nsIn K aB "place" = some (some (.ref b5))) (rl5 : K.lookup b5 = some ⟨.type "tuple", db5, .seq ([.ref p5_0, .ref p5_1] : List Value).toArray nb5, sb5⟩) (rp5_0 : K.lookup p5_0 = some ⟨.type "tuple", dp5_0, .seq ([.int (-9) t5_0, .int 9 u5_0] : List Value).toArray np5_0, sp5_0⟩) (rp5_1 : K.lookup p5_1 = some ⟨.type "tuple", dp5_1, .seq ([.int (-9) t5_1, .int 9 u5_1] : List Value).toArray np5_1, sp5_1⟩) (rn6 : PySem.W.nsIn K aB "mark" = some (some (.ref b6))) (rl6 : K.lookup b6 = some ⟨.type "tuple", db6, .seq ([] : List Value).toArray nb6, sb6⟩) (rn7 : PySem.W.nsIn K aB "return" = some (some (.ref b7))) (rl7 : K.lookup b7 = some ⟨.type "tuple", db7, .seq ([] : List Value).toArray nb7, sb7⟩) (rn8 : PySem.W.nsIn K aB "exchange" = some (some (.ref b8))) (rl8 : K.lookup b8 = some ⟨.type "tuple", db8, .seq ([] : List Value).toArray nb8, sb8⟩)
    (ow0 : PySem.W.nsIn K aB "keep" = some none) (ow1 : PySem.W.nsIn K aB "again" = some none) (ow2 : PySem.W.nsIn K aB "either" = some none) (ow3 : PySem.W.nsIn K aB "call" = some none) (ow4 : PySem.W.nsIn K aB "end" = some none) (ow5 : PySem.W.nsIn K aB "Mark" = some none) (ow6 : PySem.W.nsIn K aB "bad" = some none)
    : ∃ fd : FuncData, (∀ (s : Shared) (v : Value), BindsTo s fd ⟨[v], []⟩ [("_law_script", v)]) ∧ ∀ base : Heap, K.In base → base.Ns mainGlobals mg → FnOk l.prog w K mg base CX0 22 fa fd ["_law_script"] (spLaw K) := by
  have e := hfa.symm.trans (PySem.W.mg_of X G a37)
  cases e
  have F0 := fun_mk (st := s_NoBook___init__) l0 c0 k0
  have F1 := fun_mk (st := s_is_integer) l1 c1 k1
  have F2 := fun_mk (st := s_is_within) l2 c2 k2
  have F3 := fun_mk (st := s_is_bit) l3 c3 k3
  have F4 := fun_mk (st := s_is_command) l4 c4 k4
  have F5 := fun_mk (st := s_is_index) l5 c5 k5
  have F6 := fun_mk (st := s_are_blocks) l6 c6 k6
  have F7 := fun_mk (st := s_is_call) l7 c7 k7
  have F8 := fun_mk (st := s_is_statement) l8 c8 k8
  have F9 := fun_mk (st := s_blocks_of) l9 c9 k9
  have F10 := fun_mk (st := s_with_blocks) l10 c10 k10
  have F11 := fun_mk (st := s_copied_statement) l11 c11 k11
  have F12 := fun_mk (st := s_copied) l12 c12 k12
  have F13 := fun_mk (st := s_check_block) l13 c13 k13
  have F14 := fun_mk (st := s_check_bodies) l14 c14 k14
  have F15 := fun_mk (st := s_Book___init__) l15 c15 k15
  have F16 := fun_mk (st := s_Book___len__) l16 c16 k16
  have F17 := fun_mk (st := s_Book_bodies) l17 c17 k17
  have F18 := fun_mk (st := s__law_pool) l18 c18 k18
  have F19 := fun_mk (st := s__law_draw) l19 c19 k19
  have F20 := fun_mk (st := s__law_command) l20 c20 k20
  have F21 := fun_mk (st := s__law_pair) l21 c21 k21
  have F22 := fun_mk (st := s__law_block) l22 c22 k22
  have F23 := fun_mk (st := s__law_piece) l23 c23 k23
  have F24 := fun_mk (st := s__law_around) l24 c24 k24
  have F25 := fun_mk (st := s__law_body) l25 c25 k25
  have F26 := fun_mk (st := s__law_book) l26 c26 k26
  have F27 := fun_mk (st := s__law_blocks) l27 c27 k27
  have F28 := fun_mk (st := s__law_with) l28 c28 k28
  have F29 := fun_mk (st := s__law_copy) l29 c29 k29
  have F30 := fun_mk (st := s__law_copies) l30 c30 k30
  have F31 := fun_mk (st := s__law_places) l31 c31 k31
  have F32 := fun_mk (st := s__law_all_places) l32 c32 k32
  have F33 := fun_mk (st := s__law_replaced) l33 c33 k33
  have F34 := fun_mk (st := s__law_same) l34 c34 k34
  have F35 := fun_mk (st := s__law_bad_statement) l35 c35 k35
  have F36 := fun_mk (st := s__law_made) l36 c36 k36
  have F37 := fun_mk (st := s_law) l37 c37 k37
  have T : ∃ T : Top w K mg, T.a_law = fa ∧ T.d_law = PySem.W.fnOf "law" "law" (defArgs s_law) (defBody s_law) (defScope s_law) .none kV37 dc37 pm37 an37 cd37 ct37 := ⟨{ C_Book := CC0, g_Book := PySem.W.mg_of X G qa0, cl_Book := ⟨qg0, qh0, qp0, qs0⟩, na_Book__bodies := qn0_0, C_NoBook := CE0, g_NoBook := PySem.W.mg_of X G ea0, O_NoBook := ⟨oex_cls el0, es0, eb0, et0, ek0⟩, x_NoBook := exm_of eb0 ec0 et0 eS0, xf_NoBook := ⟨eg0, eh0, eb0, ed0⟩, no_NoBook_procedure := en0_0, no_NoBook_path := en0_1, a_NoBook___init__ := f0, d_NoBook___init__ := PySem.W.fnOf "__init__" "NoBook.__init__" (defArgs s_NoBook___init__) (defBody s_NoBook___init__) (defScope s_NoBook___init__) .none kV0 dc0 pm0 an0 cd0 ct0, F_NoBook___init__ := F0, io_NoBook := a0, to_NoBook := i0, a_is_integer := f1, d_is_integer := PySem.W.fnOf "is_integer" "is_integer" (defArgs s_is_integer) (defBody s_is_integer) (defScope s_is_integer) .none kV1 dc1 pm1 an1 cd1 ct1, F_is_integer := F1, g_is_integer := PySem.W.mg_of X G a1, a_is_within := f2, d_is_within := PySem.W.fnOf "is_within" "is_within" (defArgs s_is_within) (defBody s_is_within) (defScope s_is_within) .none kV2 dc2 pm2 an2 cd2 ct2, F_is_within := F2, g_is_within := PySem.W.mg_of X G a2, a_is_bit := f3, d_is_bit := PySem.W.fnOf "is_bit" "is_bit" (defArgs s_is_bit) (defBody s_is_bit) (defScope s_is_bit) .none kV3 dc3 pm3 an3 cd3 ct3, F_is_bit := F3, g_is_bit := PySem.W.mg_of X G a3, a_is_command := f4, d_is_command := PySem.W.fnOf "is_command" "is_command" (defArgs s_is_command) (defBody s_is_command) (defScope s_is_command) .none kV4 dc4 pm4 an4 cd4 ct4, F_is_command := F4, g_is_command := PySem.W.mg_of X G a4, a_is_index := f5, d_is_index := PySem.W.fnOf "is_index" "is_index" (defArgs s_is_index) (defBody s_is_index) (defScope s_is_index) .none kV5 dc5 pm5 an5 cd5 ct5, F_is_index := F5, g_is_index := PySem.W.mg_of X G a5, a_are_blocks := f6, d_are_blocks := PySem.W.fnOf "are_blocks" "are_blocks" (defArgs s_are_blocks) (defBody s_are_blocks) (defScope s_are_blocks) .none kV6 dc6 pm6 an6 cd6 ct6, F_are_blocks := F6, g_are_blocks := PySem.W.mg_of X G a6, a_is_call := f7, d_is_call := PySem.W.fnOf "is_call" "is_call" (defArgs s_is_call) (defBody s_is_call) (defScope s_is_call) .none kV7 dc7 pm7 an7 cd7 ct7, F_is_call := F7, g_is_call := PySem.W.mg_of X G a7, a_is_statement := f8, d_is_statement := PySem.W.fnOf "is_statement" "is_statement" (defArgs s_is_statement) (defBody s_is_statement) (defScope s_is_statement) .none kV8 dc8 pm8 an8 cd8 ct8, F_is_statement := F8, g_is_statement := PySem.W.mg_of X G a8, a_blocks_of := f9, d_blocks_of := PySem.W.fnOf "blocks_of" "blocks_of" (defArgs s_blocks_of) (defBody s_blocks_of) (defScope s_blocks_of) .none kV9 dc9 pm9 an9 cd9 ct9, F_blocks_of := F9, g_blocks_of := PySem.W.mg_of X G a9, a_with_blocks := f10, d_with_blocks := PySem.W.fnOf "with_blocks" "with_blocks" (defArgs s_with_blocks) (defBody s_with_blocks) (defScope s_with_blocks) .none kV10 dc10 pm10 an10 cd10 ct10, F_with_blocks := F10, g_with_blocks := PySem.W.mg_of X G a10, a_copied_statement := f11, d_copied_statement := PySem.W.fnOf "copied_statement" "copied_statement" (defArgs s_copied_statement) (defBody s_copied_statement) (defScope s_copied_statement) .none kV11 dc11 pm11 an11 cd11 ct11, F_copied_statement := F11, g_copied_statement := PySem.W.mg_of X G a11, a_copied := f12, d_copied := PySem.W.fnOf "copied" "copied" (defArgs s_copied) (defBody s_copied) (defScope s_copied) .none kV12 dc12 pm12 an12 cd12 ct12, F_copied := F12, g_copied := PySem.W.mg_of X G a12, a_check_block := f13, d_check_block := PySem.W.fnOf "check_block" "check_block" (defArgs s_check_block) (defBody s_check_block) (defScope s_check_block) .none kV13 dc13 pm13 an13 cd13 ct13, F_check_block := F13, g_check_block := PySem.W.mg_of X G a13, a_check_bodies := f14, d_check_bodies := PySem.W.fnOf "check_bodies" "check_bodies" (defArgs s_check_bodies) (defBody s_check_bodies) (defScope s_check_bodies) .none kV14 dc14 pm14 an14 cd14 ct14, F_check_bodies := F14, g_check_bodies := PySem.W.mg_of X G a14, a_Book___init__ := f15, d_Book___init__ := PySem.W.fnOf "__init__" "Book.__init__" (defArgs s_Book___init__) (defBody s_Book___init__) (defScope s_Book___init__) .none kV15 dc15 pm15 an15 cd15 ct15, F_Book___init__ := F15, mk_Book := ⟨qm0, a15, i15, qk0⟩, a_Book___len__ := f16, d_Book___len__ := PySem.W.fnOf "__len__" "Book.__len__" (defArgs s_Book___len__) (defBody s_Book___len__) (defScope s_Book___len__) .none kV16 dc16 pm16 an16 cd16 ct16, F_Book___len__ := F16, m_Book___len__ := ⟨a16, i16, k16⟩, a_Book_bodies := f17, d_Book_bodies := PySem.W.fnOf "bodies" "Book.bodies" (defArgs s_Book_bodies) (defBody s_Book_bodies) (defScope s_Book_bodies) .none kV17 dc17 pm17 an17 cd17 ct17, F_Book_bodies := F17, m_Book_bodies := ⟨a17, i17, k17⟩, a__law_pool := f18, d__law_pool := PySem.W.fnOf "_law_pool" "_law_pool" (defArgs s__law_pool) (defBody s__law_pool) (defScope s__law_pool) .none kV18 dc18 pm18 an18 cd18 ct18, F__law_pool := F18, g__law_pool := PySem.W.mg_of X G a18, a__law_draw := f19, d__law_draw := PySem.W.fnOf "_law_draw" "_law_draw" (defArgs s__law_draw) (defBody s__law_draw) (defScope s__law_draw) .none kV19 dc19 pm19 an19 cd19 ct19, F__law_draw := F19, g__law_draw := PySem.W.mg_of X G a19, a__law_command := f20, d__law_command := PySem.W.fnOf "_law_command" "_law_command" (defArgs s__law_command) (defBody s__law_command) (defScope s__law_command) .none kV20 dc20 pm20 an20 cd20 ct20, F__law_command := F20, g__law_command := PySem.W.mg_of X G a20, a__law_pair := f21, d__law_pair := PySem.W.fnOf "_law_pair" "_law_pair" (defArgs s__law_pair) (defBody s__law_pair) (defScope s__law_pair) .none kV21 dc21 pm21 an21 cd21 ct21, F__law_pair := F21, g__law_pair := PySem.W.mg_of X G a21, a__law_block := f22, d__law_block := PySem.W.fnOf "_law_block" "_law_block" (defArgs s__law_block) (defBody s__law_block) (defScope s__law_block) .none kV22 dc22 pm22 an22 cd22 ct22, F__law_block := F22, g__law_block := PySem.W.mg_of X G a22, a__law_piece := f23, d__law_piece := PySem.W.fnOf "_law_piece" "_law_piece" (defArgs s__law_piece) (defBody s__law_piece) (defScope s__law_piece) .none kV23 dc23 pm23 an23 cd23 ct23, F__law_piece := F23, g__law_piece := PySem.W.mg_of X G a23, a__law_around := f24, d__law_around := PySem.W.fnOf "_law_around" "_law_around" (defArgs s__law_around) (defBody s__law_around) (defScope s__law_around) .none kV24 dc24 pm24 an24 cd24 ct24, F__law_around := F24, g__law_around := PySem.W.mg_of X G a24, a__law_body := f25, d__law_body := PySem.W.fnOf "_law_body" "_law_body" (defArgs s__law_body) (defBody s__law_body) (defScope s__law_body) .none kV25 dc25 pm25 an25 cd25 ct25, F__law_body := F25, g__law_body := PySem.W.mg_of X G a25, a__law_book := f26, d__law_book := PySem.W.fnOf "_law_book" "_law_book" (defArgs s__law_book) (defBody s__law_book) (defScope s__law_book) .none kV26 dc26 pm26 an26 cd26 ct26, F__law_book := F26, g__law_book := PySem.W.mg_of X G a26, a__law_blocks := f27, d__law_blocks := PySem.W.fnOf "_law_blocks" "_law_blocks" (defArgs s__law_blocks) (defBody s__law_blocks) (defScope s__law_blocks) .none kV27 dc27 pm27 an27 cd27 ct27, F__law_blocks := F27, g__law_blocks := PySem.W.mg_of X G a27, a__law_with := f28, d__law_with := PySem.W.fnOf "_law_with" "_law_with" (defArgs s__law_with) (defBody s__law_with) (defScope s__law_with) .none kV28 dc28 pm28 an28 cd28 ct28, F__law_with := F28, g__law_with := PySem.W.mg_of X G a28, a__law_copy := f29, d__law_copy := PySem.W.fnOf "_law_copy" "_law_copy" (defArgs s__law_copy) (defBody s__law_copy) (defScope s__law_copy) .none kV29 dc29 pm29 an29 cd29 ct29, F__law_copy := F29, g__law_copy := PySem.W.mg_of X G a29, a__law_copies := f30, d__law_copies := PySem.W.fnOf "_law_copies" "_law_copies" (defArgs s__law_copies) (defBody s__law_copies) (defScope s__law_copies) .none kV30 dc30 pm30 an30 cd30 ct30, F__law_copies := F30, g__law_copies := PySem.W.mg_of X G a30, a__law_places := f31, d__law_places := PySem.W.fnOf "_law_places" "_law_places" (defArgs s__law_places) (defBody s__law_places) (defScope s__law_places) .none kV31 dc31 pm31 an31 cd31 ct31, F__law_places := F31, g__law_places := PySem.W.mg_of X G a31, a__law_all_places := f32, d__law_all_places := PySem.W.fnOf "_law_all_places" "_law_all_places" (defArgs s__law_all_places) (defBody s__law_all_places) (defScope s__law_all_places) .none kV32 dc32 pm32 an32 cd32 ct32, F__law_all_places := F32, g__law_all_places := PySem.W.mg_of X G a32, a__law_replaced := f33, d__law_replaced := PySem.W.fnOf "_law_replaced" "_law_replaced" (defArgs s__law_replaced) (defBody s__law_replaced) (defScope s__law_replaced) .none kV33 dc33 pm33 an33 cd33 ct33, F__law_replaced := F33, g__law_replaced := PySem.W.mg_of X G a33, a__law_same := f34, d__law_same := PySem.W.fnOf "_law_same" "_law_same" (defArgs s__law_same) (defBody s__law_same) (defScope s__law_same) .none kV34 dc34 pm34 an34 cd34 ct34, F__law_same := F34, g__law_same := PySem.W.mg_of X G a34, a__law_bad_statement := f35, d__law_bad_statement := PySem.W.fnOf "_law_bad_statement" "_law_bad_statement" (defArgs s__law_bad_statement) (defBody s__law_bad_statement) (defScope s__law_bad_statement) .none kV35 dc35 pm35 an35 cd35 ct35, F__law_bad_statement := F35, g__law_bad_statement := PySem.W.mg_of X G a35, a__law_made := f36, d__law_made := PySem.W.fnOf "_law_made" "_law_made" (defArgs s__law_made) (defBody s__law_made) (defScope s__law_made) .none kV36 dc36 pm36 an36 cd36 ct36, F__law_made := F36, g__law_made := PySem.W.mg_of X G a36, a_law := fa, d_law := PySem.W.fnOf "law" "law" (defArgs s_law) (defBody s_law) (defScope s_law) .none kV37 dc37 pm37 an37 cd37 ct37, F_law := F37, g_law := PySem.W.mg_of X G a37, z_all := PySem.W.mg_none_of X G z0, z_bool := PySem.W.mg_none_of X G z1, z_enumerate := PySem.W.mg_none_of X G z2, z_int := PySem.W.mg_none_of X G z3, z_isinstance := PySem.W.mg_none_of X G z4, z_len := PySem.W.mg_none_of X G z5, z_list := PySem.W.mg_none_of X G z6, z_range := PySem.W.mg_none_of X G z7, z_reversed := PySem.W.mg_none_of X G z8, z_sorted := PySem.W.mg_none_of X G z9, z_str := PySem.W.mg_none_of X G z10, z_tuple := PySem.W.mg_none_of X G z11, z_zip := PySem.W.mg_none_of X G z12, c_DEEPEST_LEVEL := ⟨_, PySem.W.mg_of X G gi0, ⟨_, rfl⟩⟩, c_MOST_IN_A_LIST := ⟨_, PySem.W.mg_of X G gi1, ⟨_, rfl⟩⟩, c_MOST_IN_A_PROCEDURE := ⟨_, PySem.W.mg_of X G gi2, ⟨_, rfl⟩⟩, c_MOST_PROCEDURES := ⟨_, PySem.W.mg_of X G gi3, ⟨_, rfl⟩⟩, a_BOUNDS := aB, c_BOUNDS := ⟨_, PySem.W.mg_of X G gB, rfl⟩, e_B := eB, n_B := nB, D_B := ⟨lB, iB, wB⟩, L_B := lims_of (row1 lB iB rn0 rl0 rp0_0) (row1 lB iB rn1 rl1 rp1_0) (row0 lB iB rn2 rl2) (row1 lB iB rn3 rl3 rp3_0) (row2 lB iB rn4 rl4 rp4_0 rp4_1) (row2 lB iB rn5 rl5 rp5_0 rp5_1) (row0 lB iB rn6 rl6) (row0 lB iB rn7 rl7) (row0 lB iB rn8 rl8), W_B := oddw ow0 ow1 ow2 ow3 ow4 ow5 ow6 }, rfl, rfl⟩
  obtain ⟨T, e1, e2⟩ := T
  refine ⟨PySem.W.fnOf "law" "law" (defArgs s_law) (defBody s_law) (defScope s_law) .none kV37 dc37 pm37 an37 cd37 ct37, fun s v => .of_eq rfl, fun base _ _ => ?_⟩
  · rw [← e1, ← e2]; exact ok_law T
end My
open PySem PySem.W PyProof.Rows
set_option maxRecDepth 100000 in
set_option maxHeartbeats 0 in
theorem PySem.Challenge.cw_penhome_k12_faulty_statement_anywhere_holds : PySem.Challenge.rw_penhome_k12_faulty_statement_anywhere.Holds := by
  w_on; o_law; k_head; (case hw => w_witness2)
  k_fill
  refine L2.walk_of (l := PySem.Challenge.rw_penhome_k12_faulty_statement_anywhere) (n := 63) (k := 22) (x := "_law_script") (CX := fun _ => L2.CX0) (sp := fun w => My.spLaw _) rfl (by decide) rfl ⟨rfl, by decide, by decide⟩ (fun w h Y => PySem.W.kIn_of Y) ?F (fun _ _ a ns hl _ hS => ⟨a, ns, rfl, hS, hl, fun _ => rfl⟩) (fun _ _ _ _ _ h => h)
  case F =>
    intro w mg fa h KX G hmg
    refine' My.all_mk KX G hmg ?qa0 ?qg0 ?qh0 ?qp0 ?qs0 ?qm0 ?qk0 ?qn0_0 ?ea0 ?el0 ?es0 ?eb0 ?et0 ?ek0 ?ec0 ?eg0 ?eh0 ?ed0 ?eS0 ?en0_0 ?en0_1 ?a0 ?i0 ?l0 ?c0 ?k0 ?a1 ?l1 ?c1 ?k1 ?a2 ?l2 ?c2 ?k2 ?a3 ?l3 ?c3 ?k3 ?a4 ?l4 ?c4 ?k4 ?a5 ?l5 ?c5 ?k5 ?a6 ?l6 ?c6 ?k6 ?a7 ?l7 ?c7 ?k7 ?a8 ?l8 ?c8 ?k8 ?a9 ?l9 ?c9 ?k9 ?a10 ?l10 ?c10 ?k10 ?a11 ?l11 ?c11 ?k11 ?a12 ?l12 ?c12 ?k12 ?a13 ?l13 ?c13 ?k13 ?a14 ?l14 ?c14 ?k14 ?a15 ?i15 ?l15 ?c15 ?k15 ?a16 ?i16 ?l16 ?c16 ?k16 ?a17 ?i17 ?l17 ?c17 ?k17 ?a18 ?l18 ?c18 ?k18 ?a19 ?l19 ?c19 ?k19 ?a20 ?l20 ?c20 ?k20 ?a21 ?l21 ?c21 ?k21 ?a22 ?l22 ?c22 ?k22 ?a23 ?l23 ?c23 ?k23 ?a24 ?l24 ?c24 ?k24 ?a25 ?l25 ?c25 ?k25 ?a26 ?l26 ?c26 ?k26 ?a27 ?l27 ?c27 ?k27 ?a28 ?l28 ?c28 ?k28 ?a29 ?l29 ?c29 ?k29 ?a30 ?l30 ?c30 ?k30 ?a31 ?l31 ?c31 ?k31 ?a32 ?l32 ?c32 ?k32 ?a33 ?l33 ?c33 ?k33 ?a34 ?l34 ?c34 ?k34 ?a35 ?l35 ?c35 ?k35 ?a36 ?l36 ?c36 ?k36 ?a37 ?l37 ?c37 ?k37 ?z0 ?z1 ?z2 ?z3 ?z4 ?z5 ?z6 ?z7 ?z8 ?z9 ?z10 ?z11 ?z12 ?gi0 ?gi1 ?gi2 ?gi3 ?gB ?lB ?iB ?wB ?rn0 ?rl0 ?rp0_0 ?rn1 ?rl1 ?rp1_0 ?rn2 ?rl2 ?rn3 ?rl3 ?rp3_0 ?rn4 ?rl4 ?rp4_0 ?rp4_1 ?rn5 ?rl5 ?rp5_0 ?rp5_1 ?rn6 ?rl6 ?rn7 ?rl7 ?rn8 ?rl8 ?ow0 ?ow1 ?ow2 ?ow3 ?ow4 ?ow5 ?ow6
    (case qa0 => k_is); (case qg0 => k_is); (case qh0 => k_is); (case qp0 => k_is); (case qs0 => k_is); (case qm0 => k_is); (case qk0 => k_is); (case qn0_0 => k_is); (case ea0 => k_is); (case el0 => exact ⟨_, _, _, _, _, _, _, _, _, _, _, _, _, _, by k_is⟩); (case es0 => k_is); (case eb0 => k_is); (case et0 => k_is); (case ek0 => k_is); (case ec0 => k_is); (case eg0 => k_is); (case eh0 => k_is); (case ed0 => k_is); (case eS0 => first | rfl | k_is); (case en0_0 => k_is); (case en0_1 => k_is); (case a0 => k_is); (case i0 => k_is); (case l0 => k_is); (case c0 => k_is); (case k0 => k_is); (case a1 => k_is); (case l1 => k_is); (case c1 => k_is); (case k1 => k_is); (case a2 => k_is); (case l2 => k_is); (case c2 => k_is); (case k2 => k_is); (case a3 => k_is); (case l3 => k_is); (case c3 => k_is); (case k3 => k_is); (case a4 => k_is); (case l4 => k_is); (case c4 => k_is); (case k4 => k_is); (case a5 => k_is); (case l5 => k_is); (case c5 => k_is); (case k5 => k_is); (case a6 => k_is); (case l6 => k_is); (case c6 => k_is); (case k6 => k_is); (case a7 => k_is); (case l7 => k_is); (case c7 => k_is); (case k7 => k_is); (case a8 => k_is); (case l8 => k_is); (case c8 => k_is); (case k8 => k_is); (case a9 => k_is); (case l9 => k_is); (case c9 => k_is); (case k9 => k_is); (case a10 => k_is); (case l10 => k_is); (case c10 => k_is); (case k10 => k_is); (case a11 => k_is); (case l11 => k_is); (case c11 => k_is); (case k11 => k_is); (case a12 => k_is); (case l12 => k_is); (case c12 => k_is); (case k12 => k_is); (case a13 => k_is); (case l13 => k_is); (case c13 => k_is); (case k13 => k_is); (case a14 => k_is); (case l14 => k_is); (case c14 => k_is); (case k14 => k_is); (case a15 => k_is); (case i15 => k_is); (case l15 => k_is); (case c15 => k_is); (case k15 => k_is); (case a16 => k_is); (case i16 => k_is); (case l16 => k_is); (case c16 => k_is); (case k16 => k_is); (case a17 => k_is); (case i17 => k_is); (case l17 => k_is); (case c17 => k_is); (case k17 => k_is); (case a18 => k_is); (case l18 => k_is); (case c18 => k_is); (case k18 => k_is); (case a19 => k_is); (case l19 => k_is); (case c19 => k_is); (case k19 => k_is); (case a20 => k_is); (case l20 => k_is); (case c20 => k_is); (case k20 => k_is); (case a21 => k_is); (case l21 => k_is); (case c21 => k_is); (case k21 => k_is); (case a22 => k_is); (case l22 => k_is); (case c22 => k_is); (case k22 => k_is); (case a23 => k_is); (case l23 => k_is); (case c23 => k_is); (case k23 => k_is); (case a24 => k_is); (case l24 => k_is); (case c24 => k_is); (case k24 => k_is); (case a25 => k_is); (case l25 => k_is); (case c25 => k_is); (case k25 => k_is); (case a26 => k_is); (case l26 => k_is); (case c26 => k_is); (case k26 => k_is); (case a27 => k_is); (case l27 => k_is); (case c27 => k_is); (case k27 => k_is); (case a28 => k_is); (case l28 => k_is); (case c28 => k_is); (case k28 => k_is); (case a29 => k_is); (case l29 => k_is); (case c29 => k_is); (case k29 => k_is); (case a30 => k_is); (case l30 => k_is); (case c30 => k_is); (case k30 => k_is); (case a31 => k_is); (case l31 => k_is); (case c31 => k_is); (case k31 => k_is); (case a32 => k_is); (case l32 => k_is); (case c32 => k_is); (case k32 => k_is); (case a33 => k_is); (case l33 => k_is); (case c33 => k_is); (case k33 => k_is); (case a34 => k_is); (case l34 => k_is); (case c34 => k_is); (case k34 => k_is); (case a35 => k_is); (case l35 => k_is); (case c35 => k_is); (case k35 => k_is); (case a36 => k_is); (case l36 => k_is); (case c36 => k_is); (case k36 => k_is); (case a37 => k_is); (case l37 => k_is); (case c37 => k_is); (case k37 => k_is); (case z0 => k_is); (case z1 => k_is); (case z2 => k_is); (case z3 => k_is); (case z4 => k_is); (case z5 => k_is); (case z6 => k_is); (case z7 => k_is); (case z8 => k_is); (case z9 => k_is); (case z10 => k_is); (case z11 => k_is); (case z12 => k_is); (case gi0 => k_is); (case gi1 => k_is); (case gi2 => k_is); (case gi3 => k_is); (case gB => k_is); (case lB => k_is); (case iB => repeat (first | exact True.intro | refine ⟨⟨_, _, rfl, rfl⟩, ?_⟩)); (case wB => decide); (case rn0 => k_is); (case rl0 => k_is); (case rp0_0 => k_is); (case rn1 => k_is); (case rl1 => k_is); (case rp1_0 => k_is); (case rn2 => k_is); (case rl2 => k_is); (case rn3 => k_is); (case rl3 => k_is); (case rp3_0 => k_is); (case rn4 => k_is); (case rl4 => k_is); (case rp4_0 => k_is); (case rp4_1 => k_is); (case rn5 => k_is); (case rl5 => k_is); (case rp5_0 => k_is); (case rp5_1 => k_is); (case rn6 => k_is); (case rl6 => k_is); (case rn7 => k_is); (case rl7 => k_is); (case rn8 => k_is); (case rl8 => k_is); (case ow0 => k_is); (case ow1 => k_is); (case ow2 => k_is); (case ow3 => k_is); (case ow4 => k_is); (case ow5 => k_is); (case ow6 => k_is)

