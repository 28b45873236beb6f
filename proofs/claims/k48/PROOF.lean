import PyProof.Rows.All
import Wide.All
import OpenK.AllK
import Wide.FinOn
import HandS.ForMost
import HandS.Star
import HandS.Wide
import HandS.Flow
import HandS.IsInst
import HandS.Walk
import HandS.NoneIn
import HandS.Zip
import HandS.More
import HandS.Codes
import HandS.ExcOwn
import HandS.ExcInit
import HandS.ExcField
import HandS.Deep
import HandS.OwnEq
import HandS.TupAny
import HandS.WordsExc
import HandS.TryMany
import HandS.DictComp
import HandS.List
import HandS.Text
import HandS.FStr
import HandS.RaiseMore
import PyProof.StrLaws
import KE.GoesMore
import KE.GoesZip
import KE.GoesEnum
import PyProof.CollectIter
import PyProof.WalksMore
import KE.KUnpack
import PySem.Challenge.RW_penhome_k48_text_of_a_book
set_option Elab.async false
set_option linter.all false
set_option maxRecDepth 100000
namespace My
open PySem PySem.Spec PyProof.Rows L2
theorem hu64 {A : Around} {k : Nat} (hr : Room k A) : A.units + 64 < cLine := by
  have := hr.un
  omega
section
variable {X : Cx}
theorem call_intI : CallR X (.type "int") (fun xs H Q => ∃ i, xs = [.int i] ∧ Q (.int i) H) := fun pins s σ H xs us Q I r ⟨i, e, q⟩ => call_int1 pins s σ H xs us Q I r (.inl ⟨i, e, q⟩)
theorem call_intB : CallR X (.type "int") (fun xs H Q => ∃ k, xs = [.bl k] ∧ Q (.int (if k then 1 else 0)) H) := fun pins s σ H xs us Q I r ⟨i, e, q⟩ => call_int1 pins s σ H xs us Q I r (.inr ⟨i, e, q⟩)
theorem call_lenA : CallR X (.builtin "len") (fun xs H Q => ∃ p ys, xs = [.ref p] ∧ (SqL X.K H p ys ∨ SqT X.K H p ys) ∧ Q (.int ys.length) H) := call_len_seq
theorem call_listL : CallR X (.type "list") (fun xs H Q => ∃ p ys, xs = [.ref p] ∧ (SqL X.K H p ys ∨ SqT X.K H p ys) ∧ ∀ l, H l = none → Q (.ref l) (upd H l (.lst ys))) := call_list_of
theorem call_tupL : CallR X (.type "tuple") (fun xs H Q => ∃ p ys, xs = [.ref p] ∧ SqL X.K H p ys ∧ ∀ l, H l = none → Q (.ref l) (upd H l (.tup ys))) := fun pins s σ H xs us Q I r ⟨p, ys, e, h, q⟩ => call_tuple_of pins s σ H xs us Q I r ⟨p, ys, e, .inl ⟨h, q⟩⟩
theorem get_lst : PGet X (fun o i H Q => ∃ p xs k v, o = .ref p ∧ i = .int k ∧ 0 ≤ k ∧ SqL X.K H p xs ∧ xs[k.toNat]? = some v ∧ Q v H) := by
  intro pins s σ H o i ov iv Q I r1 r2 h
  obtain ⟨p, xs, k, v, rfl, rfl, h0, hq, he, q⟩ := h
  cases r1
  obtain ⟨t, rfl⟩ := r2
  obtain ⟨its, r, pl, hz⟩ := I.list hq
  obtain ⟨w, ew, rw'⟩ := r.get he
  have hl := r.length
  have hn := line63
  have hlt : k.toNat < xs.length := (List.getElem?_eq_some_iff.mp he).1
  exact wpAny_getItem_list pl.isList h0 (by omega) (by simpa using ew) ⟨v, H, I, rw', q⟩
end
/-! ### lists and tuples of ints compared -/
theorem dpAllInts {K : PySem.W.Frag} {H : Hp} : ∀ ns : List Int, DpAll K H (ns.map V.int) (ns.map PyData.int)
  | [] => .nil
  | n :: r => .cons (.int n) (dpAllInts r)
theorem canAllInts : ∀ ns : List Int, PyData.canLayAll0 (ns.map PyData.int) = true
  | [] => by simp [PyData.canLayAll0]
  | n :: r => by simp [PyData.canLayAll0, PyData.canLay0, canAllInts r]
theorem depthAllInts : ∀ ns : List Int, PyData.depthAll (ns.map PyData.int) = 0
  | [] => by simp [PyData.depthAll]
  | n :: r => by simp [PyData.depthAll, PyData.depth, depthAllInts r]
theorem shList (ns : List Int) : SeqAt.shaped (.list (ns.map PyData.int)) = true := by
  simp [SeqAt.shaped, PyData.canLay0, PyData.depth, canAllInts, depthAllInts]
theorem shTup (ns : List Int) : SeqAt.shaped (.tuple (ns.map PyData.int)) = true := by
  simp [SeqAt.shaped, PyData.canLay0, PyData.depth, canAllInts, depthAllInts]
theorem eqvAllInts : ∀ ns ms : List Int, PyData.eqvAll (ns.map PyData.int) (ms.map PyData.int) = decide (ns = ms)
  | [], [] => by simp [PyData.eqvAll]
  | [], m :: r => by simp [PyData.eqvAll]
  | n :: r, [] => by simp [PyData.eqvAll]
  | n :: r, m :: q => by
    rw [List.map_cons, List.map_cons, PyData.eqvAll, eqvAllInts r q, PyData.eqv]
    by_cases e : n = m
    · subst e; simp
    · simp [e]
section
variable {X : Cx}
def rEqI (K : PySem.W.Frag) : R2 := fun x y H Q => ∃ (a b : Addr) (ns ms : List Int), x = .ref a ∧ y = .ref b ∧ SqL K H a (ns.map V.int) ∧ SqL K H b (ms.map V.int) ∧ Q (.bl (decide (ns = ms))) H
def rNeI (K : PySem.W.Frag) : R2 := fun x y H Q => ∃ (a b : Addr) (ns ms : List Int), x = .ref a ∧ y = .ref b ∧ SqL K H a (ns.map V.int) ∧ SqL K H b (ms.map V.int) ∧ Q (.bl (!decide (ns = ms))) H
def rEqTI (K : PySem.W.Frag) : R2 := fun x y H Q => ∃ (a b : Addr) (ns ms : List Int), x = .ref a ∧ y = .ref b ∧ SqT K H a (ns.map V.int) ∧ SqT K H b (ms.map V.int) ∧ Q (.bl (decide (ns = ms))) H
def rNeTI (K : PySem.W.Frag) : R2 := fun x y H Q => ∃ (a b : Addr) (ns ms : List Int), x = .ref a ∧ y = .ref b ∧ SqT K H a (ns.map V.int) ∧ SqT K H b (ms.map V.int) ∧ Q (.bl (!decide (ns = ms))) H
theorem op_eqI (hu : X.A.units + 64 < cLine) : OpR X (compareOp .Eq) (rEqI X.K) := fun pins s σ H x y v u Q I rx ry ⟨a, b, ns, ms, e1, e2, h1, h2, q⟩ =>
  op_eqD hu pins s σ H x y v u Q I rx ry ⟨_, _, e1 ▸ .lst h1 (dpAllInts ns), e2 ▸ .lst h2 (dpAllInts ms), shList ns, shList ms, by rw [PyData.eqv, eqvAllInts]; exact q⟩
theorem op_neI (hu : X.A.units + 64 < cLine) : OpR X (compareOp .NotEq) (rNeI X.K) := fun pins s σ H x y v u Q I rx ry ⟨a, b, ns, ms, e1, e2, h1, h2, q⟩ =>
  op_neD hu pins s σ H x y v u Q I rx ry ⟨_, _, e1 ▸ .lst h1 (dpAllInts ns), e2 ▸ .lst h2 (dpAllInts ms), shList ns, shList ms, by rw [PyData.eqv, eqvAllInts]; exact q⟩
theorem op_eqTI (hu : X.A.units + 64 < cLine) : OpR X (compareOp .Eq) (rEqTI X.K) := fun pins s σ H x y v u Q I rx ry ⟨a, b, ns, ms, e1, e2, h1, h2, q⟩ =>
  op_eqD hu pins s σ H x y v u Q I rx ry ⟨_, _, e1 ▸ .tup h1 (dpAllInts ns), e2 ▸ .tup h2 (dpAllInts ms), shTup ns, shTup ms, by rw [PyData.eqv, eqvAllInts]; exact q⟩
theorem op_neTI (hu : X.A.units + 64 < cLine) : OpR X (compareOp .NotEq) (rNeTI X.K) := fun pins s σ H x y v u Q I rx ry ⟨a, b, ns, ms, e1, e2, h1, h2, q⟩ =>
  op_neD hu pins s σ H x y v u Q I rx ry ⟨_, _, e1 ▸ .tup h1 (dpAllInts ns), e2 ▸ .tup h2 (dpAllInts ms), shTup ns, shTup ms, by rw [PyData.eqv, eqvAllInts]; exact q⟩
end
/-! ### heaps -/
theorem same_upd {H : Hp} {p : Addr} {o : HO} (h : H p = none) : Same H (upd H p o) := fun b x e => by
  rw [upd_ne (ne_of_none e h)]
  exact e
/-- all that was tracked is as it was, but for what is at p -/
def Kp (p : Addr) (H H' : Hp) : Prop := ∀ b o, b ≠ p → H b = some o → H' b = some o
theorem Kp.refl (p : Addr) (H : Hp) : Kp p H H := fun _ _ _ h => h
theorem Kp.trans {p : Addr} {H H1 H2 : Hp} (a : Kp p H H1) (b : Kp p H1 H2) : Kp p H H2 := fun c o n h => b c o n (a c o n h)
theorem Kp.upd {p : Addr} {H : Hp} {o : HO} : Kp p H (upd H p o) := fun b x n e => by rw [upd_ne n]; exact e
theorem Kp.of {p : Addr} {H H' : Hp} (s : Same H H') : Kp p H H' := fun b o _ e => s b o e
theorem Kp.new {p q : Addr} {H H1 : Hp} {o : HO} (k : Kp p H H1) (n : H q = none) : Kp p H (L2.upd H1 q o) := fun b x nb e => by
  rw [upd_ne (ne_of_none e n)]
  exact k b x nb e
theorem same_new {q : Addr} {H H1 : Hp} {o : HO} (k : Same H H1) (n : H q = none) : Same H (upd H1 q o) := fun b x e => by
  rw [upd_ne (ne_of_none e n)]
  exact k b x e
theorem Kp.none {p q : Addr} {H H' : Hp} (k : Kp p H H') (h : H' q = none) (n : q ≠ p) : H q = none := by
  cases e : H q with
  | none => rfl
  | some o =>
    rw [k q o n e] at h
    cases h
/-- the law's pool: a list of L ints -/
def Pool (H : Hp) (p : Addr) (L : Nat) : Prop := ∃ ns : List Int, H p = some (.lst (ns.map V.int)) ∧ ns.length = L
theorem Pool.ne {H : Hp} {p q : Addr} {L : Nat} (h : Pool H p L) (n : H q = none) : q ≠ p := fun e => by
  obtain ⟨ns, h, _⟩ := h
  rw [← e, n] at h
  cases h
theorem Pool.new {H : Hp} {p q : Addr} {o : HO} {L : Nat} (h : Pool H p L) (n : H q = none) : Pool (upd H q o) p L := by
  have hn := (h.ne n).symm
  obtain ⟨ns, h, e⟩ := h
  exact ⟨ns, by rw [upd_ne hn]; exact h, e⟩
theorem Pool.keep {H : Hp} {p q : Addr} {o : HO} {L : Nat} (h : Pool H p L) (n : q ≠ p) : Pool (upd H q o) p L := by
  obtain ⟨ns, h, e⟩ := h
  exact ⟨ns, by rw [upd_ne n.symm]; exact h, e⟩
theorem get_map {ns : List Int} {i : Nat} {n : Int} (h : ns[i]? = some n) : (ns.map V.int)[i]? = some (.int n) := by
  rw [List.getElem?_map, h]
  rfl
theorem at_map {ns : List Int} {i : Int} (h0 : 0 ≤ i) (h1 : i < ns.length) : ∃ n, ns[i.toNat]? = some n ∧ atI (ns.map V.int) i = some (.int n) := by
  have hi : i.toNat < ns.length := by omega
  refine ⟨ns[i.toNat], List.getElem?_eq_getElem hi, ?_⟩
  refine at_of (j := i.toNat) (by omega) ?_
  exact get_map (List.getElem?_eq_getElem hi)
theorem ixN_in {n : Nat} {i : Int} (h0 : 0 ≤ i) (h1 : i < n) : ixN n i = some i.toNat := by
  unfold ixN
  rw [if_pos h0, if_pos h1]
theorem set_map {ns : List Int} {j : Nat} {z : Int} : (ns.map V.int).set j (.int z) = (ns.set j z).map V.int := by
  rw [List.map_set]
theorem small100 {n : Nat} (h : n ≤ 1000) : n ≤ sizeLine := Nat.le_of_lt (small1000 h)
theorem len_map (ns : List Int) : (ns.map V.int).length = ns.length := List.length_map ..
/-! ### what a for walks: a list or a tuple -/
def iSeq (K : PySem.W.Frag) (tl : TE) : TI := fun σ H R => iList K tl σ H R ∨ iTup K tl σ H R
theorem pi_seq {X : Cx} {tg l : Expr} {tl : TE} (h1 : PI X tg l (iList X.K tl)) (h2 : PI X tg l (iTup X.K tl)) : PI X tg l (iSeq X.K tl) :=
  ⟨fun pins s σ H R I h => h.elim (fun h => h1.run pins s σ H R I h) fun h => h2.run pins s σ H R I h⟩
theorem pi_sq {X : Cx} {tg l : Expr} {tl : TE} (h : PE X l tl) : PI X tg l (iSeq X.K tl) := pi_seq (pi_list h) (pi_tup h)
/-! ### the same rules, the written part by name (within a comprehension's block) -/
section
variable (K : PySem.W.Frag) {X : Cx}
def rLenA (K : PySem.W.Frag) : List V → Hp → VK → Prop := fun xs H Q => ∃ p ys, xs = [V.ref p] ∧ (SqL K H p ys ∨ SqT K H p ys) ∧ Q (.int ys.length) H
def rListL (K : PySem.W.Frag) : List V → Hp → VK → Prop := fun xs H Q => ∃ p ys, xs = [V.ref p] ∧ (SqL K H p ys ∨ SqT K H p ys) ∧ ∀ l, H l = none → Q (.ref l) (upd H l (.lst ys))
def rTupL (K : PySem.W.Frag) : List V → Hp → VK → Prop := fun xs H Q => ∃ p ys, xs = [V.ref p] ∧ SqL K H p ys ∧ ∀ l, H l = none → Q (.ref l) (upd H l (.tup ys))
theorem k_len (hK : X.K = K := by rfl) : CallR X (.builtin "len") (rLenA K) := hK ▸ call_lenA
theorem k_list (hK : X.K = K := by rfl) : CallR X (.type "list") (rListL K) := hK ▸ call_listL
theorem k_tuple (hK : X.K = K := by rfl) : CallR X (.type "tuple") (rTupL K) := hK ▸ call_tupL
theorem k_isi (hK : X.K = K := by rfl) : CallR X (.builtin "isinstance") (rIsi K) := hK ▸ call_isi
theorem k_all (hK : X.K = K := by rfl) (hc : X.calm = true := by rfl) : CallR X (.builtin "all") (rAll K) := hK ▸ cr_all hc
theorem k_sum (hK : X.K = K := by rfl) (hc : X.calm = true := by rfl) : CallR X (.builtin "sum") (rSum K) := hK ▸ cr_sum hc
theorem k_ixL (hK : X.K = K := by rfl) : IxR X (rIxL K) := hK ▸ ix_list
theorem k_ixT (hK : X.K = K := by rfl) : IxR X (rIxT K) := hK ▸ ix_tup
theorem k_slL (hK : X.K = K := by rfl) : SlR X (rSlL K) := hK ▸ sl_list
theorem k_slT (hK : X.K = K := by rfl) : SlR X (rSlT K) := hK ▸ sl_tup
theorem k_piL {tg l : Expr} {tl : TE} (hl : PE X l tl) (hK : X.K = K := by rfl) : PI X tg l (iList K tl) := hK ▸ pi_list hl
theorem k_piT {tg l : Expr} {tl : TE} (hl : PE X l tl) (hK : X.K = K := by rfl) : PI X tg l (iTup K tl) := hK ▸ pi_tup hl
theorem k_piS {tg l : Expr} {tl : TE} (hl : PE X l tl) (hK : X.K = K := by rfl) : PI X tg l (iSeq K tl) := hK ▸ pi_sq hl
theorem k_eqI (hu : X.A.units + 64 < cLine) (hK : X.K = K := by rfl) : OpR X (compareOp .Eq) (rEqI K) := hK ▸ op_eqI hu
theorem k_neI (hu : X.A.units + 64 < cLine) (hK : X.K = K := by rfl) : OpR X (compareOp .NotEq) (rNeI K) := hK ▸ op_neI hu
theorem k_eqTI (hu : X.A.units + 64 < cLine) (hK : X.K = K := by rfl) : OpR X (compareOp .Eq) (rEqTI K) := hK ▸ op_eqTI hu
theorem k_neTI (hu : X.A.units + 64 < cLine) (hK : X.K = K := by rfl) : OpR X (compareOp .NotEq) (rNeTI K) := hK ▸ op_neTI hu
theorem k_getL (hK : X.K = K := by rfl) : PGet X (fun o i H Q => ∃ p xs k v, o = .ref p ∧ i = .int k ∧ 0 ≤ k ∧ SqL K H p xs ∧ xs[k.toNat]? = some v ∧ Q v H) := hK ▸ get_lst
theorem k_star {e : Expr} {es : List Expr} {te : TE} {t : TA} {p : Pos} (he : PE X e te) (hr : PA X es t) (hK : X.K = K := by rfl) (hs : starEach (.Starred e p :: es) X.env = (true, eval e X.env) :: starEach es X.env := by rfl) : PA X (.Starred e p :: es) (StX.tStar K te t) := hK ▸ StX.pa_star he hr hs
end
theorem iteP {c A B : Prop} [Decidable c] (hc : c) (h : A) : if decide c = true then A else B := by
  rw [if_pos (decide_eq_true hc)]
  exact h
section
variable (K : PySem.W.Frag) {X : Cx}
theorem k_listT (hK : X.K = K := by rfl) : CallR X (.type "list") (rListL K) := k_list K hK
end
section
variable (K : PySem.W.Frag) {X : Cx}
theorem k_zipD {ta : TA} {e e2 : Expr} {p pos tpos : Pos} {elts : List Expr} {kk : Nat} (hg : Gl X "zip") (hm : X.mg "zip" = none) (ha : PA X [e, e2] ta) (hK : X.K = K := by rfl)
    (hs : starEach [e, e2] X.env = (false, eval e X.env) :: starEach [e2] X.env := by rfl) (hpl : (backTo pos (starEach [e2] X.env)).any (·.1) = false := by rfl) :
    PI X (.Tuple elts kk tpos) (.Call (.Name "zip" p) [e, e2] [] pos) (iZip K ta) := hK ▸ pi_zip hg hm ha hs hpl
end
section
variable (K : PySem.W.Frag) {X : Cx}
theorem k_isiT (hK : X.K = K := by rfl) : CallR X (.builtin "isinstance") (rIsiT K) := hK ▸ call_isiT
theorem k_ixQ (hK : X.K = K := by rfl) : IxR X (rIx K) := hK ▸ ix_seq
end

/-! ### word, *numbers = t -/
section
variable {prog : Program} {w : World} {A : Around} {E : Value → Shared → Prop} {s : Shared}
theorem tup_walks (hh : A.handled = none) (it t : Addr) (hne : t ≠ it) (items : Array Value) (k : Nat) :
    WalksS prog w A it [it, t] [it] (fun a b => b = a) (items.size - k) (fun i v => items[k + i]? = some v) (fun i s => IsTupIter s.heap it t (k + i) ∧ IsTup s.heap t items) where
  sub := fun b hb => by rw [List.mem_singleton.mp hb]; exact List.mem_cons_self ..
  grefl := fun _ => rfl
  gtrans := fun _ _ _ h1 h2 => h2.trans h1
  frame := fun i s h' tk st _ hk => by
    obtain ⟨⟨o, ho, r⟩, ⟨p, hp, u⟩⟩ := st
    exact ⟨⟨o, hk it (by simp) o ho, r⟩, ⟨p, hk t (by simp) p hp, u⟩⟩
  item := fun i s Q E hi st hQ => by
    have hlt : k + i < items.size := by omega
    refine next_tuple_item st.1 st.2 (x := items[k + i]) (by simp [hlt]) fun h' hit hs => ?_
    refine hQ _ _ (by simp [hlt]) ⟨hit, st.2.extBut hs.extBut hne⟩ ⟨fun b o hb e => hs.extBut b o (fun q => hb (by simp [q])) e, rfl, rfl, rfl, Nat.le_refl _⟩
  done := fun s Q E st hQ => next_tuple_end hh st.1 st.2 (by simp; omega) fun h' he => hQ _ ⟨fun b o hb e => he b o (fun q => hb (by simp [q])) e, rfl, rfl, rfl, Nat.le_refl _⟩
  self := fun i s Q E st hQ => wpAny_pyIter_tupleiter st.1 hQ
theorem unpack_star {t : Addr} {x : Value} {rest : List Value} {Q : List Value → Shared → Prop} (hh : A.handled = none) (ht : IsTup s.heap t (x :: rest).toArray) (hz : (x :: rest).length ≤ sizeLine)
    (hQ : ∀ (h' : Heap) (tk : Nat), (∀ b o, s.heap.get? b = some o → h'.get? b = some o) → Q [x, .ref h'.objs.size] { s with heap := h'.push { cls := .type "list", data := .seq rest.toArray }, toks := tk }) :
    wpAny (model prog w) A (unpackItems (.ref t) 2 (some 1)) Q E s := by
  have hlt : t < s.heap.objs.size := by
    obtain ⟨o, ho, _⟩ := id ht
    exact Heap.lt_size ho
  have hne : t ≠ s.heap.objs.size := Nat.ne_of_lt hlt
  unfold unpackItems
  refine wpAny_bind (show wpAny (model prog w) A (notIterableAtAll (.ref t)) _ E s from ?_)
  unfold notIterableAtAll
  refine wpAny_bind (wpAny_specialOf ht.typeIs slot_tuple_iter.lookup (wpAny_pure ?_))
  simp only [Bool.false_eq_true, if_false]
  refine wpAny_bind (wpAny_holding (iter_tuple ht ?_))
  refine wpAny_bind (wpAny_holding (draw_tuple hne 1 0 _ _ ⟨_, Heap.get?_push_size _ rfl, rfl, rfl⟩ (ht.push _) (by simp) fun h1 hit hs => ?_))
  have e1 : List.take 1 (List.drop 0 (x :: rest).toArray.toList) = [x] := by simp
  rw [e1, if_neg (by simp)]
  have ht1 : IsTup h1 t (x :: rest).toArray := (ht.push _).extBut hs.extBut hne
  have hlen : (x :: rest).toArray.size - 1 = rest.length := by simp
  have hlt1 : ∀ b ∈ [s.heap.objs.size, t], b < h1.objs.size := fun b hb => by
    have e : b = s.heap.objs.size ∨ b = t := by simpa using hb
    rcases e with rfl | rfl
    · obtain ⟨o, ho, _⟩ := id hit
      exact Heap.lt_size ho
    · obtain ⟨o, ho, _⟩ := id ht1
      exact Heap.lt_size ho
  refine wpAny_bind (wpAny_holding (wpAny_collect_iter (.inr (.inr (.inr rfl))) (tup_walks (A := A.in1) (prog := prog) (w := w) hh s.heap.objs.size t hne (x :: rest).toArray 1) (fun i s' st => ?_) ⟨hit, ht1⟩ hlt1 (by simp) (fun s' acc hm ha => ?_) (by rw [hlen]; rw [List.length_cons] at hz; omega)))
  · obtain ⟨o, ho, hc, _⟩ := st.1
    exact ⟨o, ho, hc⟩
  · have hacc : acc.toList = rest := by
      obtain ⟨hsz, hit⟩ := ha
      refine List.ext_getElem (by rw [Array.length_toList, hsz]; exact hlen) fun j h1 h2 => ?_
      have := hit j acc[j] (by simp [Array.length_toList] at h1; simp [h1])
      simp [Nat.add_comm 1 j] at this
      rw [List.getElem?_eq_getElem h2] at this
      simpa using (Option.some.inj this).symm
    rw [hacc]
    rw [if_neg (by omega)]
    simp only [Nat.sub_self, show 2 - 1 - 1 = 0 from rfl, Nat.sub_zero, List.take_length, List.drop_length, List.append_nil]
    obtain ⟨hp, gens, drawn, toks, os⟩ := s'
    obtain ⟨m1, m2, m3, m4, m5⟩ := hm
    cases m2
    cases m3
    cases m4
    refine wpAny_bind (wpAny_newObj_type (wpAny_pure ?_) (by show rest.toArray.size ≤ sizeLine; rw [List.size_toArray]; rw [List.length_cons] at hz; omega))
    refine hQ hp toks fun b o e => ?_
    have hb : b ≠ s.heap.objs.size := Nat.ne_of_lt (Heap.lt_size e)
    exact m1 b o (by simpa using hb) (hs.extBut b o hb (Heap.get?_push_of_some _ e))
end
def gStar (K : PySem.W.Frag) (g1 g2 : TG) : TG := fun v σ H Q => ∃ (a : Addr) (z : V) (xs : List V), v = .ref a ∧ SqT K H a (z :: xs) ∧ ∀ q, H q = none → g1 z σ (upd H q (.lst xs)) fun σ' H' => g2 (.ref q) σ' H' Q
theorem pg_star (K : PySem.W.Frag) {X : Cx} {t1 t2 : Expr} {g1 g2 : TG} {k : Nat} {p pos : Pos} (hc : X.calm = true) (h1 : PG X t1 g1) (h2 : PG X t2 g2) (hK : X.K = K := by rfl)
    (hs : assignEach [t1, .Starred t2 p] X.env = [(false, assign t1 X.env), (true, assign t2 X.env)] := by rfl) : PG X (.Tuple [t1, .Starred t2 p] k pos) (gStar K g1 g2) := by
  subst hK
  refine ⟨fun pins s σ H v u Q I r hw => ?_⟩
  obtain ⟨a, z, xs, rfl, hq, hw⟩ := hw
  cases r
  obtain ⟨its, rv, ht, hz⟩ := I.tuple hq
  cases rv with
  | @cons _ uz _ us rz rs =>
    rw [assign_Tuple, hs]
    refine wpAny_bind (wpAny_standAt ?_)
    unfold unpack
    refine wpAny_bind (wpAny_holding (unpack_star (I.ok.hd hc) ht (by have := rs.length; rw [List.length_cons] at hz ⊢; omega) fun h' tk hk => ?_))
    have I1 : Inv X pins σ H { s with heap := h', toks := tk } := I.kept (t' := tk) hk
    have hf : H h'.objs.size = none := I1.hok.fresh (Nat.le_refl _)
    have I2 : Inv X pins σ (upd H h'.objs.size (.lst xs)) { s with heap := h'.push { cls := .type "list", data := .seq us.toArray }, toks := tk } :=
      I1.laid (t' := tk) (o := .lst xs) (fun b ob q => Heap.get?_push_of_some _ q) (Nat.le_refl _) ⟨by rw [List.length_cons] at hz; omega, us, 0, rs, Heap.get?_push_size _ rfl⟩
    refine assignInOrder_cons (thn (h1.run pins _ σ _ z uz _ I2 rz (hw _ hf)) fun _ s3 ⟨σ3, H3, I3, q3⟩ => ?_)
    exact assignInOrder_cons (thn (h2.run pins s3 σ3 H3 (.ref h'.objs.size) _ _ I3 rfl q3) fun _ s4 h4 => assignInOrder_nil h4)

/-! ### zip of a list and a tuple -/
section
variable {prog : Program} {w : World} {A : Around}
theorem draws_tuple (hh : A.handled = none) (it t : Addr) (hne : t ≠ it) (items : Array Value) :
    Draws prog w A it [it, t] items.size (fun i v => items[i]? = some v) (fun i h => h.IsTupleIter it t i ∧ h.IsTuple t items) where
  live := fun _ _ st => by
    obtain ⟨⟨o, ho, _⟩, _⟩ := st
    exact ⟨o, ho⟩
  frame := fun _ _ _ st hk => ⟨st.1.at fun o e => hk it (by simp) o e, st.2.at fun o e => hk t (by simp) o e⟩
  item := fun i s Q E hi st hQ => RZ.nextOf_tuple_item st.1 st.2 (x := items[i]) (by simp [hi]) fun h' hit' hs' => hQ _ h' s.toks (by simp [hi]) ⟨hit', st.2.extBut hs'.extBut hne⟩ hs'
  done := fun s Q E st hE => RZ.nextOf_tuple_end hh st.1 st.2 (by simp) hE
end
def ItzLT (K : PySem.W.Frag) (a b : Addr) : It where
  go := fun i H => ∃ (xs ys : List V) (x y : V), SqL K H a xs ∧ SqT K H b ys ∧ xs[i]? = some x ∧ ys[i]? = some y
  yld := fun i H v H' => ∃ T x y, v = .ref T ∧ H T = none ∧ H' = upd H T (.tup [x, y]) ∧ (∀ xs, SqL K H a xs → xs[i]? = some x) ∧ ∀ ys, SqT K H b ys → ys[i]? = some y
  stop := fun i H => ∃ xs ys : List V, SqL K H a xs ∧ SqT K H b ys ∧ ((i = xs.length ∧ i ≤ ys.length) ∨ (i = ys.length ∧ i ≤ xs.length))
structure Five (z TI TO i1 i2 a b : Addr) : Prop where
  sep : ZipSep2 z TI TO i1 i2 [i1, a] [i2, b]
  ai : a ≠ i1
  bi : b ≠ i2
def StLT (z TI TO i1 i2 a b : Addr) (i : Nat) (h : Heap) : Prop := IsZip h z TI TO .none ∧ IsTupOf2 h TI (.ref i1) (.ref i2) ∧ (∃ x y, IsTupOf2 h TO x y) ∧ h.IsListIter i1 a i ∧ h.IsTupleIter i2 b i
theorem mem5 {c z TI TO i1 i2 : Addr} (h : c ∈ [z, TI, TO, i1, i2]) : c = z ∨ c = TI ∨ c = TO ∨ c = i1 ∨ c = i2 := by simpa using h
theorem StLT.lt {z TI TO i1 i2 a b : Addr} {i : Nat} {h : Heap} (st : StLT z TI TO i1 i2 a b i h) {c : Addr} (hc : c ∈ [z, TI, TO, i1, i2]) : c < h.objs.size := by
  obtain ⟨hz, hTI, ⟨_, _, hTO⟩, ⟨_, e1, _⟩, ⟨_, e2, _⟩⟩ := st
  rcases mem5 hc with rfl | rfl | rfl | rfl | rfl
  · exact Heap.lt_size hz
  · exact Heap.lt_size hTI
  · exact Heap.lt_size hTO
  · exact Heap.lt_size e1
  · exact Heap.lt_size e2
theorem turn_zipLT {P : Program} {w : World} {K : PySem.W.Frag} {elts : List Expr} {kk : Nat} {tpos : Pos} {a b z TI TO i1 i2 : Addr} (D : Five z TI TO i1 i2 a b) :
    Turn P w K (.Tuple elts kk tpos) (ItzLT K a b) [z, TI, TO, i1, i2] z (StLT z TI TO i1 i2 a b) where
  mem := List.mem_cons_self ..
  obj := fun i h st c hc => by
    obtain ⟨hz, hTI, ⟨x, y, hTO⟩, ⟨o1, e1, _, d1⟩, ⟨o2, e2, _, d2⟩⟩ := st
    rcases mem5 hc with rfl | rfl | rfl | rfl | rfl
    · exact ⟨_, hz, fun v q => nomatch q⟩
    · exact ⟨_, hTI, fun v q => nomatch q⟩
    · exact ⟨_, hTO, fun v q => nomatch q⟩
    · exact ⟨o1, e1, fun v q => by rw [d1] at q; cases q⟩
    · exact ⟨o2, e2, fun v q => by rw [d2] at q; cases q⟩
  keep := fun i h h' st k => by
    obtain ⟨hz, hTI, ⟨x, y, hTO⟩, h1, h2⟩ := st
    exact ⟨k _ (by simp) _ hz, k _ (by simp) _ hTI, ⟨x, y, k _ (by simp) _ hTO⟩, h1.at fun o q => k _ (by simp) o q, h2.at fun o q => k _ (by simp) o q⟩
  item := by
    intro X eP eW eK hc i pins s σ H E I hf st hg
    subst eP eW eK
    have st0 := st
    obtain ⟨hz, hTI, ⟨x0, y0, hTO⟩, h1, h2⟩ := st
    obtain ⟨xs, ys, x, y, qx, qy, gx, gy⟩ := hg
    obtain ⟨us, r1, p1, _⟩ := I.list qx
    obtain ⟨ws, r2, p2, _⟩ := I.tuple qy
    obtain ⟨u, hu, ru⟩ := r1.get gx
    obtain ⟨v, hv, rv⟩ := r2.get gy
    have lu := (List.getElem?_eq_some_iff.mp hu).1
    have lv := (List.getElem?_eq_some_iff.mp hv).1
    have hh := I.ok.hd hc
    refine wpAny_pyNext_zipD2_item D.sep (Draws.list (A := X.A.in1) hh i1 a D.ai us.toArray) (draws_tuple (A := X.A.in1) hh i2 b D.bi ws.toArray) hz hTI hTO ⟨h1, p1.isList⟩ ⟨h2, p2⟩ (by simpa using lu) (by simpa using lv) fun x1 x2 h' tk e1 e2 hz' hTO' s1 s2 hT hsz hk => ?_
    have e1 : u = x1 := by
      have : us[i]? = some x1 := by simpa using e1
      rw [hu] at this
      exact Option.some.inj this
    have e2 : v = x2 := by
      have : ws[i]? = some x2 := by simpa using e2
      rw [hv] at this
      exact Option.some.inj this
    subst e1 e2
    refine ⟨_, rfl, wpAny_letOwnedTupleGo_zip (s := { s with heap := h', toks := tk }) hz' fun h2' hz2 sb => ?_⟩
    have zlt : z < s.heap.objs.size := st0.lt (by simp)
    have hT2 : h2'.get? s.heap.objs.size = some { cls := .type "tuple", data := .seq #[u, v] } := (sb.2 _ (Nat.ne_of_gt zlt)).trans hT
    have new : ObjOk X.prog X.w (upd H s.heap.objs.size (.tup [x, y])) h2' s.heap.objs.size (.tup [x, y]) := ⟨small100 (n := 2) (by decide), [u, v], .cons ru (.cons rv .nil), ⟨_, hT2, rfl, _, rfl⟩⟩
    have old : ∀ c o, c ∉ [z, TI, TO, i1, i2] → s.heap.get? c = some o → h2'.get? c = some o := fun c o hb q => by
      simp only [List.mem_cons, List.not_mem_nil, or_false, not_or] at hb
      exact (sb.2 c hb.1).trans (hk c o hb.1 hb.2.2.1 hb.2.2.2.1 hb.2.2.2.2 q)
    have I1 : Inv X pins σ (upd H s.heap.objs.size (.tup [x, y])) { s with heap := h2', toks := tk } := I.turnedNew (t' := tk) (ch := [z, TI, TO, i1, i2]) old hf (Nat.le_refl _) new
    refine ⟨.ref s.heap.objs.size, _, I1, rfl, ⟨_, x, y, rfl, I.hok.fresh (Nat.le_refl _), rfl, fun l hl => ?_, fun l hl => ?_⟩, ⟨hz2, ?_, ⟨u, v, ?_⟩, ?_, ?_⟩, fun c hcm => ?_⟩
    · rw [I.list_inj hl qx]
      exact gx
    · rw [I.tuple_inj hl qy]
      exact gy
    · exact (sb.2 _ D.sep.TIz).trans (hk _ _ D.sep.TIz D.sep.TITO D.sep.TIi1 D.sep.TIi2 hTI)
    · exact (sb.2 _ D.sep.TOz).trans hTO'
    · exact s1.1.at fun o q => (sb.2 _ D.sep.zi1.symm).trans q
    · exact s2.1.at fun o q => (sb.2 _ D.sep.zi2.symm).trans q
    · rw [upd_ne (Nat.ne_of_lt (st0.lt hcm))]
      exact (hf c hcm).1
  done := by
    intro X eP eW eK hc i pins s σ H E I hf st hg
    subst eP eW eK
    obtain ⟨hz, hTI, ⟨x0, y0, hTO⟩, h1, h2⟩ := st
    obtain ⟨xs, ys, qx, qy, hend⟩ := hg
    obtain ⟨us, r1, p1, _⟩ := I.list qx
    obtain ⟨ws, r2, p2, _⟩ := I.tuple qy
    have l1 := r1.length
    have l2 := r2.length
    have hh := I.ok.hd hc
    have e1 : us.toArray.size = us.length := by simp
    have e2 : ws.toArray.size = ws.length := by simp
    refine wpAny_pyNext_zipD2_end D.sep (Draws.list (A := X.A.in1) hh i1 a D.ai us.toArray) (draws_tuple (A := X.A.in1) hh i2 b D.bi ws.toArray) hz hTI hTO ⟨h1, p1.isList⟩ ⟨h2, p2⟩ (by omega) (by omega) (by omega) fun h' tk hk => ⟨rfl, ?_⟩
    refine I.turnedL (t' := tk) (ch := [z, TI, TO, i1, i2]) (fun c o hb q => ?_) hf
    simp only [List.mem_cons, List.not_mem_nil, or_false, not_or] at hb
    exact hk c o hb.1 hb.2.2.1 hb.2.2.2.1 hb.2.2.2.2 q
  self := fun A i s Q E st h => wpAny_pyIter_zip st.1 h
def iZipLT (K : PySem.W.Frag) (ta : TA) : TI := fun σ H R => ta σ H fun vs H1 => ∃ (a b : Addr) (xs ys : List V), vs = [.ref a, .ref b] ∧ SqL K H1 a xs ∧ SqT K H1 b ys ∧ R (ItzLT K a b) H1
theorem pi_zipLT (K : PySem.W.Frag) {X : Cx} {e e2 : Expr} {ta : TA} {p pos tpos : Pos} {elts : List Expr} {kk : Nat} (hg : Gl X "zip") (hm : X.mg "zip" = none) (ha : PA X [e, e2] ta) (hK : X.K = K := by rfl)
    (hs : starEach [e, e2] X.env = (false, eval e X.env) :: starEach [e2] X.env := by rfl) (hpl : (backTo pos (starEach [e2] X.env)).any (·.1) = false := by rfl) :
    PI X (.Tuple elts kk tpos) (.Call (.Name "zip" p) [e, e2] [] pos) (iZipLT K ta) := by
  subst hK
  refine ⟨fun pins s σ H R I h => ?_⟩
  refine Call_ (ld_blt I hg hm PyProof.Rows.boot_zip (PyProof.Rows.callWith_type1 (thn (ha.run pos pins s σ H _ I h) fun us s1 ⟨vs, H1, I1, r1, q1⟩ => ?_) hs hpl))
  obtain ⟨a, b, xs, ys, rfl, qx, qy, q⟩ := q1
  obtain ⟨u1, u2, rfl, ra, rb⟩ := vals2 r1
  cases (show u1 = Value.ref a from ra)
  cases (show u2 = Value.ref b from rb)
  obtain ⟨ws, _, p1, _⟩ := I1.list qx
  obtain ⟨zs, _, p2, _⟩ := I1.tuple qy
  have la : a < s1.heap.objs.size := p1.lt
  have lb : b < s1.heap.objs.size := by
    obtain ⟨o, ho, _⟩ := id p2
    exact Heap.lt_size ho
  refine zip_begins2 (begins_list a ws.toArray) (begins_tuple b zs.toArray) p1.isList p2 fun h' hz hTI hTO g1 g2 hsz hk => wpAny_pyIter_zip hz ?_
  have I2 : Inv X pins σ H1 { s1 with heap := h' } := I1.kept (t' := s1.toks) hk
  have sep : ZipSep2 (s1.heap.objs.size + 4) (s1.heap.objs.size + 2) (s1.heap.objs.size + 3) s1.heap.objs.size (s1.heap.objs.size + 1) [s1.heap.objs.size, a] [s1.heap.objs.size + 1, b] :=
    zip_sep2 (fun c hc => by rw [List.mem_singleton.mp hc]; exact la) fun c hc => by rw [List.mem_singleton.mp hc]; exact lb
  have D : Five (s1.heap.objs.size + 4) (s1.heap.objs.size + 2) (s1.heap.objs.size + 3) s1.heap.objs.size (s1.heap.objs.size + 1) a b := ⟨sep, Nat.ne_of_lt la, Nat.ne_of_lt (Nat.lt_succ_of_lt lb)⟩
  refine ⟨_, [s1.heap.objs.size + 4, s1.heap.objs.size + 2, s1.heap.objs.size + 3, s1.heap.objs.size, s1.heap.objs.size + 1], _, _, H1, rfl, I2, turn_zipLT D, ⟨hz, hTI, ⟨_, _, hTO⟩, ⟨_, g1, rfl, rfl⟩, ⟨_, g2, rfl, rfl⟩⟩, fun c hcm => ?_, q⟩
  have hle : s1.heap.objs.size ≤ c := by rcases mem5 hcm with rfl | rfl | rfl | rfl | rfl <;> omega
  exact I1.fpOk hle (I1.hok.fresh hle)
theorem walk_zipLT {K : PySem.W.Frag} {a b : Addr} {xs ys : List V} {n : Nat} (h1 : xs.length = n) (h2 : ys.length = n) :
    Walk (ItzLT K a b) n (fun H => SqL K H a xs ∧ SqT K H b ys) (YPair (fun i => xs[i]?) (fun i => ys[i]?)) :=
  ⟨fun i H hi q => ⟨xs, ys, xs[i], ys[i], q.1, q.2, by simp, by simp⟩, fun H q => ⟨xs, ys, q.1, q.2, .inl ⟨h1.symm, by omega⟩⟩,
    fun i H v H' _ q y => by
      obtain ⟨T, x, y, e1, e2, e3, e4, e5⟩ := y
      exact ⟨T, x, y, e1, e2, e3, e4 _ q.1, e5 _ q.2⟩⟩

/-! ### the commands -/
inductive Cm where
  | go (k : Int) | turn (n : Int) | mirror | scale (k : Int) | aim (a b : Int) | place (a b : Int) | mark | ret | exch
def Cm.word : Cm → Str
  | .go _ => "go" | .turn _ => "turn" | .mirror => "mirror" | .scale _ => "scale" | .aim _ _ => "aim" | .place _ _ => "place" | .mark => "mark" | .ret => "return" | .exch => "exchange"
def Cm.nums : Cm → List Int
  | .go k => [k] | .turn n => [n] | .scale k => [k] | .aim a b => [a, b] | .place a b => [a, b] | _ => []
def Cm.lims : Cm → List (Int × Int)
  | .go _ => [(-9, 9)] | .turn _ => [(1, 3)] | .scale _ => [(-3, 3)] | .aim _ _ => [(-9, 9), (-9, 9)] | .place _ _ => [(-9, 9), (-9, 9)] | _ => []
def Cm.ok (c : Cm) : Prop := ∀ (i : Nat) (z : Int) (l : Int × Int), c.nums[i]? = some z → c.lims[i]? = some l → l.1 ≤ z ∧ z ≤ l.2
def Cm.vals (c : Cm) : List V := V.str c.word :: c.nums.map V.int
def rot : Nat → Int × Int → Int × Int
  | 0, h => h
  | n + 1, h => (-(rot n h).2, (rot n h).1)
def Cm.mv (c : Cm) : List Int → List Int
  | [x, y, u, v, p, q] => match c with
    | .go k => [x + k * u, y + k * v, u, v, p, q]
    | .turn n => [x, y, (rot n.toNat (u, v)).1, (rot n.toNat (u, v)).2, p, q]
    | .mirror => [x, y, u, -v, p, q]
    | .scale k => [x, y, k * u, k * v, p, q]
    | .aim a b => [x, y, a, b, p, q]
    | .place a b => [a, b, u, v, p, q]
    | .mark => [x, y, u, v, x, y]
    | .ret => [p, q, u, v, p, q]
    | .exch => [p, q, u, v, x, y]
  | ps => ps
/-- the module's table of limits -/
structure Lims (w : World) (K : PySem.W.Frag) (d : Addr) : Prop where
  row : ∀ c : Cm, ∃ (ab : Addr) (ps : List Addr), KDct K w d c.word (.ref ab) ∧ (∀ H, SqT K H ab (ps.map V.ref)) ∧ ps.length = c.nums.length ∧ c.lims.length = c.nums.length ∧
    ∀ (i : Nat) (p : Addr), ps[i]? = some p → ∃ l, c.lims[i]? = some l ∧ ∀ H, SqT K H p [.int l.1, .int l.2]
theorem sqK {K : PySem.W.Frag} {a : Addr} {d : Option Addr} {us : List Value} {n : Nat} {sl : Array (Option Value)} {xs : List V} (h : K.lookup a = some ⟨.type "tuple", d, .seq us.toArray n, sl⟩) (hl : us.length ≤ 1000) (r : Vals xs us) : ∀ H, SqT K H a xs :=
  fun H => .inr ⟨_, us.toArray, n, h, rfl, rfl, by rw [List.size_toArray]; exact small100 hl, r⟩

theorem iteN {c A B : Prop} [Decidable c] (hc : ¬ c) (h : B) : if decide c = true then A else B := by
  rw [if_neg (by rw [decide_eq_false hc]; exact Bool.false_ne_true)]
  exact h
theorem iteNN {c A B : Prop} [Decidable c] (hc : ¬ c) (h : A) : if (!decide c) = true then A else B := by
  rw [if_pos (by rw [decide_eq_false hc]; rfl)]
  exact h


def Row (w : World) (K : PySem.W.Frag) (d : Addr) (wd : Str) (ls : List (Int × Int)) : Prop := ∃ (ab : Addr) (ps : List Addr), KDct K w d wd (.ref ab) ∧ (∀ H, SqT K H ab (ps.map V.ref)) ∧ ps.length = ls.length ∧
  ∀ (i : Nat) (p : Addr), ps[i]? = some p → ∃ l, ls[i]? = some l ∧ ∀ H, SqT K H p [.int l.1, .int l.2]
section
variable {w : World} {K : PySem.W.Frag} {aB : Addr} {eB : Array DictEntry} {nB : Nat} {wd : Str} {b p p' : Addr} {db dp dp' : Option Addr} {nb np np' : Nat} {sb sp sp' : Array (Option Value)} {lo hi lo' hi' : Int} {t u t' u' : Tok}
theorem pairK (h : K.lookup p = some ⟨.type "tuple", dp, .seq ([.int lo t, .int hi u] : List Value).toArray np, sp⟩) : ∀ H, SqT K H p [.int lo, .int hi] := sqK h (by simp) (.cons ⟨t, rfl⟩ (.cons ⟨u, rfl⟩ .nil))
theorem row0 (lB : K.lookup aB = some ⟨.type "dict", none, .dict eB nB, #[]⟩) (iB : PySem.W.KeysLit w.params eB.toList) (n : PySem.W.nsIn K aB wd = some (some (.ref b))) (l : K.lookup b = some ⟨.type "tuple", db, .seq ([] : List Value).toArray nb, sb⟩) : Row w K aB wd [] :=
  ⟨b, [], ⟨eB, nB, _, lB, iB, n, rfl⟩, sqK l (by simp) .nil, rfl, fun i p e => by simp at e⟩
theorem row1 (lB : K.lookup aB = some ⟨.type "dict", none, .dict eB nB, #[]⟩) (iB : PySem.W.KeysLit w.params eB.toList) (n : PySem.W.nsIn K aB wd = some (some (.ref b))) (l : K.lookup b = some ⟨.type "tuple", db, .seq ([.ref p] : List Value).toArray nb, sb⟩)
    (q : K.lookup p = some ⟨.type "tuple", dp, .seq ([.int lo t, .int hi u] : List Value).toArray np, sp⟩) : Row w K aB wd [(lo, hi)] :=
  ⟨b, [p], ⟨eB, nB, _, lB, iB, n, rfl⟩, sqK l (by simp) (.cons rfl .nil), rfl, fun i z e => by
    match i, e with
    | 0, e => cases e; exact ⟨_, rfl, pairK q⟩⟩
theorem row2 (lB : K.lookup aB = some ⟨.type "dict", none, .dict eB nB, #[]⟩) (iB : PySem.W.KeysLit w.params eB.toList) (n : PySem.W.nsIn K aB wd = some (some (.ref b))) (l : K.lookup b = some ⟨.type "tuple", db, .seq ([.ref p, .ref p'] : List Value).toArray nb, sb⟩)
    (q : K.lookup p = some ⟨.type "tuple", dp, .seq ([.int lo t, .int hi u] : List Value).toArray np, sp⟩) (q' : K.lookup p' = some ⟨.type "tuple", dp', .seq ([.int lo' t', .int hi' u'] : List Value).toArray np', sp'⟩) : Row w K aB wd [(lo, hi), (lo', hi')] :=
  ⟨b, [p, p'], ⟨eB, nB, _, lB, iB, n, rfl⟩, sqK l (by simp) (.cons rfl (.cons rfl .nil)), rfl, fun i z e => by
    match i, e with
    | 0, e => cases e; exact ⟨_, rfl, pairK q⟩
    | 1, e => cases e; exact ⟨_, rfl, pairK q'⟩⟩
theorem lims_of (r0 : Row w K aB "go" [(-9, 9)]) (r1 : Row w K aB "turn" [(1, 3)]) (r2 : Row w K aB "mirror" []) (r3 : Row w K aB "scale" [(-3, 3)]) (r4 : Row w K aB "aim" [(-9, 9), (-9, 9)]) (r5 : Row w K aB "place" [(-9, 9), (-9, 9)])
    (r6 : Row w K aB "mark" []) (r7 : Row w K aB "return" []) (r8 : Row w K aB "exchange" []) : Lims w K aB := by
  refine ⟨fun c => ?_⟩
  have fit : ∀ {ls : List (Int × Int)}, Row w K aB c.word ls → c.lims = ls → c.lims.length = c.nums.length → ∃ (ab : Addr) (ps : List Addr), KDct K w aB c.word (.ref ab) ∧ (∀ H, SqT K H ab (ps.map V.ref)) ∧ ps.length = c.nums.length ∧ c.lims.length = c.nums.length ∧ ∀ (i : Nat) (p : Addr), ps[i]? = some p → ∃ l, c.lims[i]? = some l ∧ ∀ H, SqT K H p [.int l.1, .int l.2] := fun {ls} r e1 e2 => by
    obtain ⟨ab, ps, h1, h2, h3, h4⟩ := r
    exact ⟨ab, ps, h1, h2, by rw [h3, ← e1, e2], e2, by rw [e1]; exact h4⟩
  cases c with
  | go k => exact fit r0 rfl rfl
  | turn k => exact fit r1 rfl rfl
  | mirror => exact fit r2 rfl rfl
  | scale k => exact fit r3 rfl rfl
  | aim a b => exact fit r4 rfl rfl
  | place a b => exact fit r5 rfl rfl
  | mark => exact fit r6 rfl rfl
  | ret => exact fit r7 rfl rfl
  | exch => exact fit r8 rfl rfl
end

/-! ### data that stand in the heap, their lists at addresses of a kind -/
section
variable (S : Addr → Prop) (H : Hp)
mutual
def Tr : PyData → V → Prop
  | .none, v => v = .non
  | .bool b, v => v = .bl b
  | .int i, v => v = .int i
  | .str s, v => v = .str s
  | .list ds, v => ∃ a xs, v = .ref a ∧ S a ∧ H a = some (.lst xs) ∧ TrAll ds xs
  | .tuple ds, v => ∃ a xs, v = .ref a ∧ H a = some (.tup xs) ∧ TrAll ds xs
  | .dict ds, v => ∃ a kvs, v = .ref a ∧ H a = some (.dK kvs) ∧ (ds = [] → kvs = [])
def TrAll : List PyData → List V → Prop
  | [], xs => xs = []
  | d :: ds, xs => ∃ x r, xs = x :: r ∧ Tr d x ∧ TrAll ds r
end
end
/-- lists at M may have changed, nothing else that was tracked -/
def KpL (M : Addr → Prop) (H H' : Hp) : Prop := ∀ b o, (M b → ∀ xs, o ≠ .lst xs) → H b = some o → H' b = some o
section
variable {S S' M M' : Addr → Prop} {H H' H'' : Hp}
theorem KpL.refl : KpL M H H := fun _ _ _ h => h
theorem KpL.trans (a : KpL M H H') (b : KpL M H' H'') : KpL M H H'' := fun c o n h => b c o n (a c o n h)
theorem KpL.of (s : Same H H') : KpL M H H' := fun b o _ h => s b o h
theorem KpL.mono (k : KpL M H H') (h : ∀ a, M a → M' a) : KpL M' H H' := fun b o n e => k b o (fun m => n (h b m)) e
theorem KpL.at_ (k : KpL M H H') {b : Addr} {o : HO} (e : H b = some o) (n : ¬ M b) : H' b = some o := k b o (fun m => absurd m n) e
theorem KpL.tup (k : KpL M H H') {b : Addr} {xs : List V} (e : H b = some (.tup xs)) : H' b = some (.tup xs) := k b _ (fun _ _ z => nomatch z) e
theorem KpL.ins (k : KpL M H H') {b C dx : Addr} {xs : List (Str × V)} (e : H b = some (.ins C dx xs)) : H' b = some (.ins C dx xs) := k b _ (fun _ _ z => nomatch z) e
theorem KpL.put (k : KpL M H H') {p : Addr} {xs : List V} (hp : M p) (h : ∃ ys, H p = some (.lst ys)) : KpL M H (upd H' p (.lst xs)) := fun b o n e => by
  by_cases hb : b = p
  · subst hb
    obtain ⟨ys, h⟩ := h
    rw [h] at e
    cases e
    exact absurd rfl (n hp ys)
  · rw [upd_ne hb]
    exact k b o n e
theorem KpL.new {q : Addr} {o : HO} (k : KpL M H H') (n : H q = none) : KpL M H (upd H' q o) := fun b x m e => by
  rw [upd_ne (ne_of_none e n)]
  exact k b x m e
theorem KpL.kp {p : Addr} (k : Kp p H H') (hp : M p) (h : ∃ ys, H p = some (.lst ys)) : KpL M H H' := fun b o n e => by
  by_cases hb : b = p
  · subst hb
    obtain ⟨ys, h⟩ := h
    rw [h] at e
    cases e
    exact absurd rfl (n hp ys)
  · exact k b o hb e
/-- what is tracked stays tracked -/
theorem KpL.free {q : Addr} (k : KpL M H H') (hM : ∀ a, M a → ∃ ys, H' a = some (.lst ys)) (e : H' q = none) : H q = none := by
  cases h : H q with
  | none => rfl
  | some o =>
    by_cases m : M q
    · obtain ⟨ys, hy⟩ := hM q m
      rw [hy] at e
      cases e
    · rw [k.at_ h m] at e
      cases e
theorem KpL.same (k : KpL M H H') (hM : ∀ a, M a → H a = none) : Same H H' := fun b o e => k b o (fun m => by rw [hM b m] at e; cases e) e
mutual
theorem Tr.mono (h : ∀ a, S a → S' a) : ∀ (d : PyData) (v : V), Tr S H d v → Tr S' H d v
  | .none, v, e => e
  | .bool b, v, e => e
  | .int i, v, e => e
  | .str s, v, e => e
  | .list ds, v, ⟨a, xs, e, s, l, t⟩ => ⟨a, xs, e, h a s, l, TrAll.mono h ds xs t⟩
  | .tuple ds, v, ⟨a, xs, e, l, t⟩ => ⟨a, xs, e, l, TrAll.mono h ds xs t⟩
  | .dict _, v, e => e
theorem TrAll.mono (h : ∀ a, S a → S' a) : ∀ (ds : List PyData) (xs : List V), TrAll S H ds xs → TrAll S' H ds xs
  | [], xs, e => e
  | d :: ds, xs, ⟨x, r, e, t, q⟩ => ⟨x, r, e, Tr.mono h d x t, TrAll.mono h ds r q⟩
end
mutual
theorem Tr.kpl (k : KpL M H H') (h : ∀ a, S a → ¬ M a) : ∀ (d : PyData) (v : V), Tr S H d v → Tr S H' d v
  | .none, v, e => e
  | .bool b, v, e => e
  | .int i, v, e => e
  | .str s, v, e => e
  | .list ds, v, ⟨a, xs, e, s, l, t⟩ => ⟨a, xs, e, s, k.at_ l (h a s), TrAll.kpl k h ds xs t⟩
  | .tuple ds, v, ⟨a, xs, e, l, t⟩ => ⟨a, xs, e, k.tup l, TrAll.kpl k h ds xs t⟩
  | .dict _, v, ⟨a, kvs, e, l, z⟩ => ⟨a, kvs, e, k a _ (fun _ _ z => nomatch z) l, z⟩
theorem TrAll.kpl (k : KpL M H H') (h : ∀ a, S a → ¬ M a) : ∀ (ds : List PyData) (xs : List V), TrAll S H ds xs → TrAll S H' ds xs
  | [], xs, e => e
  | d :: ds, xs, ⟨x, r, e, t, q⟩ => ⟨x, r, e, Tr.kpl k h d x t, TrAll.kpl k h ds r q⟩
end
theorem Tr.same (s : Same H H') {d : PyData} {v : V} (t : Tr S H d v) : Tr S H' d v := Tr.kpl (M := fun _ => False) (KpL.of s) (fun _ _ h => h) d v t
theorem TrAll.same (s : Same H H') {ds : List PyData} {xs : List V} (t : TrAll S H ds xs) : TrAll S H' ds xs := TrAll.kpl (M := fun _ => False) (KpL.of s) (fun _ _ h => h) ds xs t
theorem TrAll.len : ∀ {ds : List PyData} {xs : List V}, TrAll S H ds xs → xs.length = ds.length
  | [], xs, e => by cases e; rfl
  | d :: ds, xs, ⟨x, r, e, _, q⟩ => by rw [e, List.length_cons, List.length_cons, q.len]
theorem TrAll.get : ∀ {ds : List PyData} {xs : List V} {i : Nat} {x : V}, TrAll S H ds xs → xs[i]? = some x → ∃ d, ds[i]? = some d ∧ Tr S H d x
  | [], xs, i, x, e, h => by cases e; simp at h
  | d :: ds, xs, 0, x, ⟨y, r, e, t, q⟩, h => by subst e; cases h; exact ⟨d, rfl, t⟩
  | d :: ds, xs, i + 1, x, ⟨y, r, e, t, q⟩, h => by subst e; exact q.get (i := i) h
theorem TrAll.get' : ∀ {ds : List PyData} {xs : List V} {i : Nat} {d : PyData}, TrAll S H ds xs → ds[i]? = some d → ∃ x, xs[i]? = some x ∧ Tr S H d x
  | [], xs, i, x, e, h => by simp at h
  | d :: ds, xs, 0, x, ⟨y, r, e, t, q⟩, h => by subst e; cases h; exact ⟨y, rfl, t⟩
  | d :: ds, xs, i + 1, x, ⟨y, r, e, t, q⟩, h => by subst e; exact q.get' (i := i) h
theorem TrAll.append : ∀ {ds es : List PyData} {xs ys : List V}, TrAll S H ds xs → TrAll S H es ys → TrAll S H (ds ++ es) (xs ++ ys)
  | [], es, xs, ys, e, t => by cases e; exact t
  | d :: ds, es, xs, ys, ⟨x, r, e, q, t⟩, u => by subst e; exact ⟨x, r ++ ys, rfl, q, TrAll.append t u⟩
theorem TrAll.nil : TrAll S H [] [] := rfl
theorem TrAll.one {d : PyData} {x : V} (t : Tr S H d x) : TrAll S H [d] [x] := ⟨x, [], rfl, t, rfl⟩
theorem TrAll.cons {d : PyData} {ds : List PyData} {x : V} {xs : List V} (t : Tr S H d x) (q : TrAll S H ds xs) : TrAll S H (d :: ds) (x :: xs) := ⟨x, xs, rfl, t, q⟩
theorem TrAll.snoc {ds : List PyData} {xs : List V} {d : PyData} {x : V} (q : TrAll S H ds xs) (t : Tr S H d x) : TrAll S H (ds ++ [d]) (xs ++ [x]) := q.append (TrAll.one t)
theorem TrAll.take : ∀ {ds : List PyData} {xs : List V} (n : Nat), TrAll S H ds xs → TrAll S H (ds.take n) (xs.take n)
  | [], xs, n, e => by cases e; simp [TrAll]
  | d :: ds, xs, 0, _ => by simp [TrAll]
  | d :: ds, xs, n + 1, ⟨x, r, e, t, q⟩ => by subst e; exact ⟨x, r.take n, rfl, t, q.take n⟩
theorem TrAll.drop : ∀ {ds : List PyData} {xs : List V} (n : Nat), TrAll S H ds xs → TrAll S H (ds.drop n) (xs.drop n)
  | [], xs, n, e => by cases e; simp [TrAll]
  | d :: ds, xs, 0, t => t
  | d :: ds, xs, n + 1, ⟨x, r, e, t, q⟩ => by subst e; exact q.drop n
theorem TrAll.ints : ∀ {ns : List Int} {us : List V}, TrAll S H (ns.map PyData.int) us → us = ns.map V.int
  | [], us, h => h
  | n :: r, us, ⟨x, q, e, t, h⟩ => by
    cases t
    rw [e, h.ints]
    rfl
theorem TrAll.ofInts : ∀ (ns : List Int), TrAll S H (ns.map PyData.int) (ns.map V.int)
  | [] => rfl
  | n :: r => ⟨_, _, rfl, rfl, TrAll.ofInts r⟩
mutual
theorem Tr.dp {K : PySem.W.Frag} : ∀ (d : PyData) (v : V), PyData.canLay0 d = true → Tr S H d v → Dp K H v d
  | .none, v, _, e => by cases e; exact .non
  | .bool b, v, _, e => by cases e; exact .bl b
  | .int i, v, _, e => by cases e; exact .int i
  | .str s, v, _, e => by cases e; exact .str s
  | .list ds, v, c, ⟨a, xs, e, s, l, t⟩ => by subst e; exact .lst (SqL.of l) (TrAll.dp ds xs (by simpa [PyData.canLay0] using c) t)
  | .tuple ds, v, c, ⟨a, xs, e, l, t⟩ => by subst e; exact .tup (SqT.of l) (TrAll.dp ds xs (by simpa [PyData.canLay0] using c) t)
  | .dict _, v, c, _ => by simp [PyData.canLay0] at c
theorem TrAll.dp {K : PySem.W.Frag} : ∀ (ds : List PyData) (xs : List V), PyData.canLayAll0 ds = true → TrAll S H ds xs → DpAll K H xs ds
  | [], xs, _, e => by cases e; exact .nil
  | d :: ds, xs, c, ⟨x, r, e, t, q⟩ => by
    have c : d.canLay0 = true ∧ PyData.canLayAll0 ds = true := by simpa [PyData.canLayAll0] using c
    subst e
    exact .cons (Tr.dp d x c.1 t) (TrAll.dp ds r c.2 q)
end
end
/-- new since H -/
abbrev New (H : Hp) : Addr → Prop := fun a => H a = none
/-! ### a new list of new data under construction -/
def Bld (H1 : Hp) (D : Addr) (ds : List PyData) (H' : Hp) : Prop := Same H1 H' ∧ ∃ zs, H' D = some (.lst zs) ∧ TrAll (fun a => H1 a = none ∧ a ≠ D) H' ds zs
section
variable {H1 H' H2 : Hp} {D : Addr} {ds : List PyData}
theorem Bld.nil (h : H1 D = none) : Bld H1 D [] (upd H1 D (.lst [])) := ⟨same_upd h, [], upd_same, TrAll.nil⟩
theorem Bld.push {d : PyData} {r : V} (m : Bld H1 D ds H') (nD : H1 D = none) (s : Same H' H2) (t : Tr (New H') H2 d r) : ∃ zs, H2 D = some (.lst zs) ∧ zs.length = ds.length ∧ Bld H1 D (ds ++ [d]) (upd H2 D (.lst (zs ++ [r]))) := by
  obtain ⟨sm, zs, hD, tz⟩ := m
  have k2 : KpL (fun a => a = D) H2 (upd H2 D (.lst (zs ++ [r]))) := KpL.refl.put rfl ⟨zs, s _ _ hD⟩
  refine ⟨zs, s _ _ hD, tz.len, same_new (sm.trans s) nD, zs ++ [r], upd_same, TrAll.snoc ?_ ?_⟩
  · exact TrAll.kpl k2 (fun a na e => na.2 e) _ _ (tz.same s)
  · refine Tr.kpl k2 (fun a na e => na.2 e) _ _ (Tr.mono (fun a na => ⟨sm.free na, fun e => ?_⟩) _ _ t)
    have na : H' a = none := na
    rw [e, hD] at na
    cases na
theorem Bld.done (m : Bld H1 D ds H') (nD : H1 D = none) : Tr (New H1) H' (.list ds) (.ref D) := by
  obtain ⟨sm, zs, hD, tz⟩ := m
  exact ⟨D, zs, rfl, nD, hD, TrAll.mono (fun a na => na.1) _ _ tz⟩
theorem Bld.len (m : Bld H1 D ds H') : ∃ zs, H' D = some (.lst zs) ∧ zs.length = ds.length := ⟨_, m.2.choose_spec.1, m.2.choose_spec.2.len⟩
end
theorem Tr.newer {H0 H1 H2 : Hp} {d : PyData} {v : V} (s : Same H0 H1) (t : Tr (New H1) H2 d v) : Tr (New H0) H2 d v := Tr.mono (fun _ n => s.free n) _ _ t
theorem TrAll.newer {H0 H1 H2 : Hp} {d : List PyData} {v : List V} (s : Same H0 H1) (t : TrAll (New H1) H2 d v) : TrAll (New H0) H2 d v := TrAll.mono (fun _ n => s.free n) _ _ t
section
variable {S : Addr → Prop} {H H' : Hp}
mutual
theorem Tr.keep (k : ∀ b o, ((∃ xs, o = .lst xs) ∧ S b ∨ (∃ xs, o = .tup xs) ∨ ∃ xs, o = .dK xs) → H b = some o → H' b = some o) : ∀ (d : PyData) (v : V), Tr S H d v → Tr S H' d v
  | .none, v, e => e
  | .bool b, v, e => e
  | .int i, v, e => e
  | .str s, v, e => e
  | .list ds, v, ⟨a, xs, e, s, l, t⟩ => ⟨a, xs, e, s, k a _ (.inl ⟨⟨_, rfl⟩, s⟩) l, TrAll.keep k ds xs t⟩
  | .tuple ds, v, ⟨a, xs, e, l, t⟩ => ⟨a, xs, e, k a _ (.inr (.inl ⟨_, rfl⟩)) l, TrAll.keep k ds xs t⟩
  | .dict _, v, ⟨a, kvs, e, l, z⟩ => ⟨a, kvs, e, k a _ (.inr (.inr ⟨_, rfl⟩)) l, z⟩
theorem TrAll.keep (k : ∀ b o, ((∃ xs, o = .lst xs) ∧ S b ∨ (∃ xs, o = .tup xs) ∨ ∃ xs, o = .dK xs) → H b = some o → H' b = some o) : ∀ (ds : List PyData) (xs : List V), TrAll S H ds xs → TrAll S H' ds xs
  | [], xs, e => e
  | d :: ds, xs, ⟨x, r, e, t, q⟩ => ⟨x, r, e, Tr.keep k d x t, TrAll.keep k ds r q⟩
end
/-- an object's attributes are stored to -/
theorem Tr.put {p C dx : Addr} {fs gs : List (Str × V)} {d : PyData} {v : V} (h : H p = some (.ins C dx fs)) (t : Tr S H d v) : Tr S (upd H p (.ins C dx gs)) d v :=
  Tr.keep (fun b o n e => by
    by_cases hb : b = p
    · subst hb
      rw [h] at e
      cases e
      rcases n with ⟨⟨_, n⟩, _⟩ | ⟨_, n⟩ | ⟨_, n⟩ <;> cases n
    · rw [upd_ne hb]
      exact e) d v t
end
theorem Tr.lst {S : Addr → Prop} {H : Hp} {ds : List PyData} {a : Addr} (t : Tr S H (.list ds) (.ref a)) : ∃ xs, S a ∧ H a = some (.lst xs) ∧ TrAll S H ds xs := by
  obtain ⟨b, xs, e, h⟩ := t
  cases e
  exact ⟨xs, h⟩
theorem Tr.tup {S : Addr → Prop} {H : Hp} {ds : List PyData} {a : Addr} (t : Tr S H (.tuple ds) (.ref a)) : ∃ xs, H a = some (.tup xs) ∧ TrAll S H ds xs := by
  obtain ⟨b, xs, e, h⟩ := t
  cases e
  exact ⟨xs, h⟩
section
variable {S : Addr → Prop} {H : Hp}
mutual
theorem Tr.tracked : ∀ (d : PyData) (v : V), Tr S H d v → Tr (fun a => S a ∧ H a ≠ none) H d v
  | .none, v, e => e
  | .bool b, v, e => e
  | .int i, v, e => e
  | .str s, v, e => e
  | .list ds, v, ⟨a, xs, e, s, l, t⟩ => ⟨a, xs, e, ⟨s, by rw [l]; exact fun z => nomatch z⟩, l, TrAll.tracked ds xs t⟩
  | .tuple ds, v, ⟨a, xs, e, l, t⟩ => ⟨a, xs, e, l, TrAll.tracked ds xs t⟩
  | .dict _, v, e => e
theorem TrAll.tracked : ∀ (ds : List PyData) (xs : List V), TrAll S H ds xs → TrAll (fun a => S a ∧ H a ≠ none) H ds xs
  | [], xs, e => e
  | d :: ds, xs, ⟨x, r, e, t, q⟩ => ⟨x, r, e, Tr.tracked d x t, TrAll.tracked ds r q⟩
end
end

/-! ### statements -/
inductive Stm where
  | cmd (c : Cm)
  | fin (way : Bool)
  | keep (b : List Stm)
  | again (b : List Stm)
  | either (a b : List Stm)
  | call (p : Nat) (saved : Bool) (a b : List Stm)
def Cm.d (c : Cm) : PyData := .tuple (.str c.word :: c.nums.map .int)
mutual
def Stm.d : Stm → PyData
  | .cmd c => c.d
  | .fin w => .tuple [.str "end", .int (if w then 1 else 0)]
  | .keep b => .tuple [.str "keep", .list (blkD b)]
  | .again b => .tuple [.str "again", .list (blkD b)]
  | .either a b => .tuple [.str "either", .list (blkD a), .list (blkD b)]
  | .call p s a b => .tuple [.str "call", .int p, .bool s, .list [.list (blkD a), .list (blkD b)]]
def blkD : List Stm → List PyData
  | [] => []
  | s :: r => s.d :: blkD r
end
mutual
/-- how many statements, all levels -/
def Stm.cnt : Stm → Nat
  | .keep b => 1 + cntB b
  | .again b => 1 + cntB b
  | .either a b => 1 + (cntB a + cntB b)
  | .call _ _ a b => 1 + (cntB a + cntB b)
  | _ => 1
def cntB : List Stm → Nat
  | [] => 0
  | s :: r => s.cnt + cntB r
end
mutual
/-- a statement of a list at level l of a book of many procedures -/
def Stm.ok (many : Nat) : Stm → Nat → Prop
  | .cmd c, _ => c.ok
  | .fin _, _ => True
  | .keep b, l => l < 3 ∧ b.length ≤ 8 ∧ okB many b (l + 1)
  | .again b, l => l < 3 ∧ b.length ≤ 8 ∧ okB many b (l + 1)
  | .either a b, l => l < 3 ∧ (a.length ≤ 8 ∧ okB many a (l + 1)) ∧ b.length ≤ 8 ∧ okB many b (l + 1)
  | .call p _ a b, l => l < 3 ∧ p < many ∧ (a.length ≤ 8 ∧ okB many a (l + 1)) ∧ b.length ≤ 8 ∧ okB many b (l + 1)
def okB (many : Nat) : List Stm → Nat → Prop
  | [], _ => True
  | s :: r, l => s.ok many l ∧ okB many r l
end
def Stm.blocks : Stm → List (List Stm)
  | .keep b => [b]
  | .again b => [b]
  | .either a b => [a, b]
  | .call _ _ a b => [a, b]
  | _ => []
theorem blkD_map : ∀ b : List Stm, blkD b = b.map Stm.d
  | [] => rfl
  | s :: r => by rw [blkD, blkD_map r]; rfl
theorem blkD_append (a b : List Stm) : blkD (a ++ b) = blkD a ++ blkD b := by rw [blkD_map, blkD_map, blkD_map, List.map_append]
theorem blkD_len (b : List Stm) : (blkD b).length = b.length := by rw [blkD_map, List.length_map]
theorem blkD_get {b : List Stm} {i : Nat} {d : PyData} (h : (blkD b)[i]? = some d) : ∃ s, b[i]? = some s ∧ d = s.d := by
  rw [blkD_map, List.getElem?_map] at h
  cases e : b[i]? with
  | none => rw [e] at h; cases h
  | some s => rw [e] at h; cases h; exact ⟨s, rfl, rfl⟩
theorem cntB_append : ∀ a b : List Stm, cntB (a ++ b) = cntB a + cntB b
  | [], b => by simp [cntB]
  | s :: r, b => by rw [List.cons_append, cntB, cntB_append r b, cntB]; omega
theorem Stm.cnt_pos : ∀ s : Stm, 1 ≤ s.cnt
  | .cmd _ => Nat.le_refl _
  | .fin _ => Nat.le_refl _
  | .keep b => by simp [Stm.cnt]
  | .again b => by simp [Stm.cnt]
  | .either a b => by simp [Stm.cnt]
  | .call _ _ a b => by simp [Stm.cnt]
theorem len_cntB : ∀ b : List Stm, b.length ≤ cntB b
  | [] => Nat.le_refl _
  | s :: r => by
    have := len_cntB r
    have := s.cnt_pos
    rw [List.length_cons, cntB]
    omega
theorem okB_append {many : Nat} : ∀ {a b : List Stm} {l : Nat}, okB many a l → okB many b l → okB many (a ++ b) l
  | [], b, l, _, h => h
  | s :: r, b, l, h1, h2 => ⟨h1.1, okB_append h1.2 h2⟩
theorem okB_get {many : Nat} : ∀ {b : List Stm} {l i : Nat} {s : Stm}, okB many b l → b[i]? = some s → s.ok many l
  | [], l, i, s, _, e => by simp at e
  | s :: r, l, 0, _, h, e => by cases e; exact h.1
  | s :: r, l, i + 1, _, h, e => okB_get (i := i) h.2 e
/-! ### what the program says of any value -/
def isI : PyData → Bool
  | .int _ => true
  | _ => false
def inD (d : PyData) (l : Int × Int) : Bool := match d with
  | .int z => decide (l.1 ≤ z) && decide (z ≤ l.2)
  | _ => false
def isLs : PyData → Bool
  | .list _ => true
  | _ => false
def isTp : PyData → Bool
  | .tuple _ => true
  | _ => false
def isBl : PyData → Bool
  | .bool _ => true
  | _ => false

def boundsOf (s : Str) : Option (List (Int × Int)) :=
  if s = "go" then some [(-9, 9)] else if s = "turn" then some [(1, 3)] else if s = "mirror" then some [] else if s = "scale" then some [(-3, 3)] else if s = "aim" then some [(-9, 9), (-9, 9)] else
  if s = "place" then some [(-9, 9), (-9, 9)] else if s = "mark" then some [] else if s = "return" then some [] else if s = "exchange" then some [] else none
def cmdOk : PyData → Bool
  | .tuple (.str s :: ns) => match boundsOf s with
    | some ls => decide (ns.length = ls.length) && (List.zipWith inD ns ls).all id
    | none => false
  | _ => false
def areBl (n : Nat) : PyData → Bool
  | .list bs => decide (bs.length = n) && bs.all isLs
  | _ => false
def areBlT (n : Nat) (bs : List PyData) : Bool := decide (bs.length = n) && bs.all isLs
def callOk (many : Int) : List PyData → Bool
  | [_, p, s, b] => inD p (0, many - 1) && isBl s && areBl 2 b
  | _ => false
def endOk : List PyData → Bool
  | [y] => inD y (0, 1)
  | _ => false
def stRest (level many : Int) : PyData → Bool
  | .tuple (x :: r) =>
    if PyData.eqv x (.str "end") then endOk r
    else if level = 3 then false
    else if PyData.eqv x (.str "call") then callOk many (x :: r)
    else if PyData.eqv x (.str "either") then areBlT 2 r
    else (PyData.eqv x (.str "keep") || PyData.eqv x (.str "again")) && areBlT 1 r
  | _ => false
def stOk (level many : Int) (d : PyData) : Bool := cmdOk d || stRest level many d
def oddWords : List Str := ["keep", "again", "either", "call", "end", "Mark", "bad"]
def WordOk : PyData → Prop
  | .tuple (.str s :: _) => s ∈ oddWords ∨ ∃ c : Cm, c.word = s
  | _ => True
theorem bounds_cm (c : Cm) : boundsOf c.word = some c.lims := by cases c <;> (simp only [Cm.word, Cm.lims]; decide +kernel)
theorem bounds_odd {s : Str} (h : s ∈ oddWords) : boundsOf s = none := by
  simp only [oddWords, List.mem_cons, List.not_mem_nil, or_false] at h
  rcases h with rfl | rfl | rfl | rfl | rfl | rfl | rfl <;> decide +kernel
theorem zip_ok : ∀ (ns : List Int) (ls : List (Int × Int)), (∀ (i : Nat) (z : Int) (l : Int × Int), ns[i]? = some z → ls[i]? = some l → l.1 ≤ z ∧ z ≤ l.2) → (List.zipWith inD (ns.map PyData.int) ls).all id = true
  | [], ls, _ => by cases ls <;> rfl
  | n :: r, [], _ => rfl
  | n :: r, l :: q, h => by
    have h0 := h 0 n l rfl rfl
    have hr := zip_ok r q fun i z k e1 e2 => h (i + 1) z k e1 e2
    show (inD (.int n) l && (List.zipWith inD (r.map PyData.int) q).all id) = true
    rw [hr]
    simp [inD, h0.1, h0.2]
theorem cmdOk_ok {c : Cm} (h : c.ok) : cmdOk c.d = true := by
  have hl : c.nums.length = c.lims.length := by cases c <;> rfl
  unfold Cm.d cmdOk
  dsimp only
  rw [bounds_cm]
  dsimp only
  rw [zip_ok _ _ h, List.length_map, hl]
  simp
theorem wordOk_d (s : Stm) : WordOk s.d := by
  cases s with
  | cmd c => exact .inr ⟨c, rfl⟩
  | _ => exact .inl (by simp [oddWords])
theorem stOk_ok {many : Nat} {s : Stm} {l : Nat} (h : s.ok many l) : stOk l many s.d = true := by
  have e3 : l < 3 → ((l : Int) = 3) = False := fun h => by simp; omega
  cases s with
  | cmd c =>
    show (cmdOk c.d || _) = true
    rw [cmdOk_ok h]
    rfl
  | fin w => cases w <;> simp [stOk, stRest, endOk, Stm.d, PyData.eqv, inD]
  | keep b =>
    have n1 : ¬ (("keep" : Str) = "end") := by decide +kernel
    have n2 : ¬ (("keep" : Str) = "call") := by decide +kernel
    have n3 : ¬ (("keep" : Str) = "either") := by decide +kernel
    simp [stOk, stRest, endOk, Stm.d, PyData.eqv, e3 h.1, n1, n2, n3, areBlT, isLs]
  | again b =>
    have n1 : ¬ (("again" : Str) = "end") := by decide +kernel
    have n2 : ¬ (("again" : Str) = "call") := by decide +kernel
    have n3 : ¬ (("again" : Str) = "either") := by decide +kernel
    simp [stOk, stRest, endOk, Stm.d, PyData.eqv, e3 h.1, n1, n2, n3, areBlT, isLs]
  | either a b =>
    have n1 : ¬ (("either" : Str) = "end") := by decide +kernel
    have n2 : ¬ (("either" : Str) = "call") := by decide +kernel
    simp [stOk, stRest, endOk, Stm.d, PyData.eqv, e3 h.1, n1, n2, areBlT, isLs]
  | call p s a b =>
    have n1 : ¬ (("call" : Str) = "end") := by decide +kernel
    have h2 := h.2.1
    have i1 : (0 : Int) ≤ (p : Int) := by omega
    have i2 : (p : Int) ≤ (many : Int) - 1 := by omega
    simp [stOk, stRest, endOk, Stm.d, PyData.eqv, e3 h.1, n1, callOk, areBl, isLs, isBl, inD, i2]
abbrev bD (b : List Stm) : PyData := .list (blkD b)
def isBlk (w : Str) : Bool := inV (.str w) [.str "keep", .str "either", .str "again"]
def callBl : List PyData → List PyData
  | [_, _, .list bs] => bs
  | _ => []
def blocksR (w : Str) (r : List PyData) : List PyData :=
  if w = "call" then callBl r else if isBlk w = true then r else []
theorem isBlk_cm (c : Cm) : isBlk c.word = false := by cases c <;> (simp only [Cm.word]; decide +kernel)
theorem cm_call (c : Cm) : ¬ c.word = "call" := by cases c <;> (simp only [Cm.word]; decide +kernel)
/-- the word and what stands behind it -/
def Stm.word : Stm → Str
  | .cmd c => c.word
  | .fin _ => "end"
  | .keep _ => "keep"
  | .again _ => "again"
  | .either _ _ => "either"
  | .call _ _ _ _ => "call"
def Stm.rest : Stm → List PyData
  | .cmd c => c.nums.map .int
  | .fin w => [.int (if w then 1 else 0)]
  | .keep b => [bD b]
  | .again b => [bD b]
  | .either a b => [bD a, bD b]
  | .call p s a b => [.int p, .bool s, .list [bD a, bD b]]
theorem Stm.d_eq (s : Stm) : s.d = .tuple (.str s.word :: s.rest) := by cases s <;> simp only [Stm.d, Stm.word, Stm.rest, Cm.d]
theorem blocksR_d (s : Stm) : blocksR s.word s.rest = s.blocks.map bD := by
  unfold blocksR
  cases s with
  | cmd c => simp only [Stm.word, if_neg (cm_call c), isBlk_cm, Bool.false_eq_true, if_false, Stm.blocks, List.map_nil]
  | fin w => simp only [Stm.word, if_neg (show ¬ ("end" : Str) = "call" by decide +kernel), show isBlk "end" = false by decide +kernel, Bool.false_eq_true, if_false, Stm.blocks, List.map_nil]
  | keep b => simp only [Stm.word, if_neg (show ¬ ("keep" : Str) = "call" by decide +kernel), show isBlk "keep" = true by decide +kernel, if_true, Stm.blocks, Stm.rest, List.map_nil, List.map_cons]
  | again b => simp only [Stm.word, if_neg (show ¬ ("again" : Str) = "call" by decide +kernel), show isBlk "again" = true by decide +kernel, if_true, Stm.blocks, Stm.rest, List.map_nil, List.map_cons]
  | either a b => simp only [Stm.word, if_neg (show ¬ ("either" : Str) = "call" by decide +kernel), show isBlk "either" = true by decide +kernel, if_true, Stm.blocks, Stm.rest, List.map_nil, List.map_cons]
  | call p s a b => simp only [Stm.word, if_true, callBl, Stm.blocks, Stm.rest, List.map_nil, List.map_cons]
theorem Stm.rest_len (s : Stm) : s.rest.length ≤ 3 := by
  cases s with
  | cmd c => cases c <;> simp [Stm.rest, Cm.nums]
  | _ => simp [Stm.rest]
theorem Stm.rest_call {s : Stm} (h : s.word = "call") : ∃ p q bs, s.rest = [p, q, .list bs] := by
  cases s with
  | call p s a b => exact ⟨_, _, _, rfl⟩
  | cmd c => exact absurd h (cm_call c)
  | fin w => exact absurd h (show ¬ ("end" : Str) = "call" by decide +kernel)
  | keep w => exact absurd h (show ¬ ("keep" : Str) = "call" by decide +kernel)
  | again w => exact absurd h (show ¬ ("again" : Str) = "call" by decide +kernel)
  | either w z => exact absurd h (show ¬ ("either" : Str) = "call" by decide +kernel)
def cntBs : List (List Stm) → Nat
  | [] => 0
  | b :: r => cntB b + cntBs r
theorem cnt_blocks (z : Stm) : z.cnt = 1 + cntBs z.blocks := by cases z <;> simp [Stm.cnt, Stm.blocks, cntBs]
theorem cntB_take : ∀ {b : List Stm} {i : Nat} {z : Stm}, b[i]? = some z → cntB (b.take (i + 1)) = cntB (b.take i) + z.cnt
  | [], i, z, e => by simp at e
  | s :: r, 0, z, e => by cases e; simp [cntB]
  | s :: r, i + 1, z, e => by
    have := cntB_take (b := r) (i := i) e
    rw [List.take_succ_cons, List.take_succ_cons, cntB, cntB, this]
    omega
theorem cntB_le : ∀ {b : List Stm} {i : Nat} {z : Stm}, b[i]? = some z → cntB (b.take i) + z.cnt ≤ cntB b
  | [], i, z, e => by simp at e
  | s :: r, 0, z, e => by cases e; simp [cntB]
  | s :: r, i + 1, z, e => by
    have := cntB_le (b := r) (i := i) e
    rw [List.take_succ_cons, cntB, cntB]
    omega
theorem cntBs_take : ∀ {b : List (List Stm)} {i : Nat} {z : List Stm}, b[i]? = some z → cntBs (b.take (i + 1)) = cntBs (b.take i) + cntB z
  | [], i, z, e => by simp at e
  | s :: r, 0, z, e => by cases e; simp [cntBs]
  | s :: r, i + 1, z, e => by
    have := cntBs_take (b := r) (i := i) e
    rw [List.take_succ_cons, List.take_succ_cons, cntBs, cntBs, this]
    omega
theorem cntBs_le : ∀ {b : List (List Stm)} {i : Nat} {z : List Stm}, b[i]? = some z → cntBs (b.take i) + cntB z ≤ cntBs b
  | [], i, z, e => by simp at e
  | s :: r, 0, z, e => by cases e; simp [cntBs]
  | s :: r, i + 1, z, e => by
    have := cntBs_le (b := r) (i := i) e
    rw [List.take_succ_cons, cntBs, cntBs]
    omega
theorem word_ok (z : Stm) : PyData.strOk z.word = true := by
  cases z with
  | cmd c => cases c <;> (simp only [Stm.word, Cm.word]; decide +kernel)
  | _ => simp only [Stm.word]; decide +kernel
abbrev bookD (bs : List (List Stm)) : PyData := .list (bs.map bD)
structure OkBook (bs : List (List Stm)) : Prop where
  lo : 1 ≤ bs.length
  hi : bs.length ≤ 3
  each : ∀ b ∈ bs, b.length ≤ 8 ∧ cntB b ≤ 12 ∧ okB bs.length b 0
theorem get_bodies {bs : List (List Stm)} {i : Nat} {d : PyData} (h : (bs.map bD)[i]? = some d) : ∃ b, bs[i]? = some b ∧ b ∈ bs ∧ d = bD b := by
  rw [List.getElem?_map] at h
  cases e : bs[i]? with
  | none => rw [e] at h; cases h
  | some b => rw [e] at h; cases h; exact ⟨b, rfl, List.mem_of_getElem? e, rfl⟩

/-! ### of what class a value is -/
def clsN : PyData → String
  | .none => "NoneType" | .bool _ => "bool" | .int _ => "int" | .str _ => "str" | .list _ => "list" | .tuple _ => "tuple" | .dict _ => "dict"
section
variable {S : Addr → Prop} {H : Hp} {d : PyData} {v : V} {Q : VK}
theorem tr_ty (K : PySem.W.Frag) : ∀ {d : PyData} {v : V}, Tr S H d v → TyX K H v (.type (clsN d))
  | .none, v, e => by cases e; exact .base .non
  | .bool b, v, e => by cases e; exact .base (.bl b)
  | .int b, v, e => by cases e; exact .base (.int b)
  | .str b, v, e => by cases e; exact .base (.str b)
  | .list _, v, ⟨a, xs, e, _, l, _⟩ => by cases e; exact .base (.lst l)
  | .tuple _, v, ⟨a, xs, e, l, _⟩ => by cases e; exact .base (.tup l)
  | .dict _, v, ⟨a, xs, e, l, _⟩ => by cases e; exact .base (.dK l)
def isNum : PyData → Bool
  | .int _ => true
  | .bool _ => true
  | _ => false
def isStr : PyData → Bool
  | .str _ => true
  | _ => false
variable (K : PySem.W.Frag)
theorem ki_int (d : PyData) : PySem.W.kitOne K (.type (clsN d)) (.type "int") = some (isNum d) := by cases d <;> (simp only [clsN, isNum, isBl, isStr, isLs, isTp]; exact kit_ty (by decide +kernel))
theorem ki_bool (d : PyData) : PySem.W.kitOne K (.type (clsN d)) (.type "bool") = some (isBl d) := by cases d <;> (simp only [clsN, isNum, isBl, isStr, isLs, isTp]; exact kit_ty (by decide +kernel))
theorem ki_str (d : PyData) : PySem.W.kitOne K (.type (clsN d)) (.type "str") = some (isStr d) := by cases d <;> (simp only [clsN, isNum, isBl, isStr, isLs, isTp]; exact kit_ty (by decide +kernel))
theorem ki_list (d : PyData) : PySem.W.kitOne K (.type (clsN d)) (.type "list") = some (isLs d) := by cases d <;> (simp only [clsN, isNum, isBl, isStr, isLs, isTp]; exact kit_ty (by decide +kernel))
theorem ki_tuple (d : PyData) : PySem.W.kitOne K (.type (clsN d)) (.type "tuple") = some (isTp d) := by cases d <;> (simp only [clsN, isNum, isBl, isStr, isLs, isTp]; exact kit_ty (by decide +kernel))
end
theorem ifTrue {A B : Prop} {b : Bool} (h : b = true) (q : A) : if b = true then A else B := by rw [if_pos h]; exact q
theorem ifFalse {A B : Prop} {b : Bool} (h : b = false) (q : B) : if b = true then A else B := by rw [if_neg (by rw [h]; exact Bool.false_ne_true)]; exact q
theorem ifB {A B : Prop} {b : Bool} (h1 : b = true → A) (h2 : b = false → B) : if b = true then A else B := by
  cases b
  · exact ifFalse rfl (h2 rfl)
  · exact ifTrue rfl (h1 rfl)

/-! ### signs of an own class: len(o), x in o, a == b, a + b -/
section
variable {X : Cx} {CX : CXT} {k : Nat} {f C : Addr} {fd : FuncData} {ps : List Str} {sp : Sp} {E : XK}
theorem run_sub {A : Around} {pins : List (Addr × Obj)} {σ : L2.St} {H : Hp} {s : Shared} {Q : VK} {us : List Value} {vs : List V} (hA : A.frames = X.A.frames) (hr : Room k A) (F : FnOk X.prog X.w X.K X.mg X.base CX k f fd ps sp) (hb : Binds X.K fd ps []) (hx : Passes CX X E) (I : Inv X pins σ H s) (r : Vals vs us) (h : sp vs H Q E) :
    wpAny (model X.prog X.w) A (call (.ref f) us) (EP X pins σ Q) X.xe s := by
  have e0 : Env0 X.prog X.w X.K X.mg X.base A X.stack s H := by
    have e := I.env0
    exact ⟨by rw [hA]; exact e.frames, e.mod, e.bs, e.bsz, e.funs, e.frf, e.hok, e.bare⟩
  have hl := F.len _ _ _ _ h
  have hl2 : us.length = ps.length := by rw [← r.length]; exact hl
  refine wpAny_call (codeAny_mono (F.run A X.stack s H ⟨us, []⟩ us vs Q E hr e0 (by
    have := hb s us I.kIn (by simpa using hl2)
    simpa using this) r h) fun r s' hq => ?_)
  cases r with
  | error e => exact hx pins σ H s e s' I hq
  | ok fl =>
    cases fl with
    | ret w => exact I.after hq
    | next => exact False.elim hq
    | brk => exact False.elim hq
    | cont => exact False.elim hq
def rLenO (C : Addr) (sp : Sp) (E : XK) : List V → Hp → VK → Prop := fun xs H Q => ∃ a dx fs, xs = [V.ref a] ∧ H a = some (.ins C dx fs) ∧ sp [.ref a] H (fun v H' => ∃ n : Int, v = .int n ∧ (0 ≤ n ∧ n < 2 ^ 63) ∧ Q (.int n) H') E
theorem call_lenO (F : FnOk X.prog X.w X.K X.mg X.base CX k f fd ps sp) (hm : Meth X.K C "__len__" f) (hr : Room (k + 1) X.A) (hb : Binds X.K fd ps []) (hx : Passes CX X E) : CallR X (.builtin "len") (rLenO C sp E) := by
  intro pins s σ H xs us Q I r h
  obtain ⟨a, dx, fs, rfl, ha, q⟩ := h
  cases r with
  | cons r1 r2 =>
    cases r2
    cases r1
    obtain ⟨mA, J, _⟩ := ins_get I.hok ha
    obtain ⟨od, J, _⟩ := J.look
    obtain ⟨m, hF⟩ := I.fr
    refine PySem.W.len_K hF I.ok.mod.kin J hm.at_ hm.fn ?_
    refine wpAny_mono (run_sub (A := X.A.in1) rfl hr.in1 F (us := [.ref a]) (vs := [.ref a]) hb hx I (.cons rfl .nil) q) (fun u s' z => ?_) fun _ _ z => z
    obtain ⟨v, H', I', rv, n, rfl, b, q'⟩ := z
    obtain ⟨t, rfl⟩ := rv
    exact ⟨b, .int n, H', I'.tok _, ⟨_, rfl⟩, q'⟩
def rInO (C : Addr) (sp : Sp) (E : XK) : R2 := fun x y H Q => ∃ a dx fs, y = V.ref a ∧ H a = some (.ins C dx fs) ∧ sp [.ref a, x] H (fun v H' => ∃ b : Bool, v = .bl b ∧ Q (.bl b) H') E
theorem op_inO (F : FnOk X.prog X.w X.K X.mg X.base CX k f fd ps sp) (hm : Meth X.K C "__contains__" f) (hr : Room k X.A) (hb : Binds X.K fd ps []) (hx : Passes CX X E) : OpR X (compareOp .In) (rInO C sp E) := by
  intro pins s σ H x y v u Q I rx ry h
  obtain ⟨a, dx, fs, rfl, ha, q⟩ := h
  cases ry
  obtain ⟨mA, J, _⟩ := ins_get I.hok ha
  obtain ⟨od, J, _⟩ := J.look
  obtain ⟨m, hF⟩ := I.fr
  refine PySem.W.in_K hF I.ok.mod.kin J hm.at_ hm.fn ?_
  refine wpAny_mono (run_sub (A := X.A) rfl hr F (us := [.ref a, v]) (vs := [.ref a, x]) hb hx I (.cons rfl (.cons rx .nil)) q) (fun u s' z => ?_) fun _ _ z => z
  obtain ⟨v, H', I', rv, b, rfl, q'⟩ := z
  cases rv
  exact wpAny_truthy_bool ⟨.bl b, H', I', rfl, q'⟩
def rNotInO (C : Addr) (sp : Sp) (E : XK) : R2 := fun x y H Q => ∃ a dx fs, y = V.ref a ∧ H a = some (.ins C dx fs) ∧ sp [.ref a, x] H (fun v H' => ∃ b : Bool, v = .bl b ∧ Q (.bl (!b)) H') E
theorem op_notInO (F : FnOk X.prog X.w X.K X.mg X.base CX k f fd ps sp) (hm : Meth X.K C "__contains__" f) (hr : Room k X.A) (hb : Binds X.K fd ps []) (hx : Passes CX X E) : OpR X (compareOp .NotIn) (rNotInO C sp E) := by
  intro pins s σ H x y v u Q I rx ry h
  obtain ⟨a, dx, fs, rfl, ha, q⟩ := h
  cases ry
  obtain ⟨mA, J, _⟩ := ins_get I.hok ha
  obtain ⟨od, J, _⟩ := J.look
  obtain ⟨m, hF⟩ := I.fr
  refine PySem.W.notIn_K hF I.ok.mod.kin J hm.at_ hm.fn ?_
  refine wpAny_mono (run_sub (A := X.A) rfl hr F (us := [.ref a, v]) (vs := [.ref a, x]) hb hx I (.cons rfl (.cons rx .nil)) q) (fun u s' z => ?_) fun _ _ z => z
  obtain ⟨v, H', I', rv, b, rfl, q'⟩ := z
  cases rv
  exact wpAny_truthy_bool ⟨.bl (!b), H', I', rfl, q'⟩
/-- a == b, two of one own class -/
def rEqO (C : Addr) (sp : Sp) (E : XK) : R2 := fun x y H Q => ∃ a b dx dy fs gs, x = V.ref a ∧ y = V.ref b ∧ H a = some (.ins C dx fs) ∧ H b = some (.ins C dy gs) ∧ sp [.ref a, .ref b] H (fun v H' => ∃ b : Bool, v = .bl b ∧ Q (.bl b) H') E
theorem op_eqO (F : FnOk X.prog X.w X.K X.mg X.base CX k f fd ps sp) (hm : Meth X.K C "__eq__" f) (hr : Room k X.A) (hb : Binds X.K fd ps []) (hx : Passes CX X E) : OpR X (compareOp .Eq) (rEqO C sp E) := by
  intro pins s σ H x y v u Q I rx ry h
  obtain ⟨a, b, dx, dy, fs, gs, rfl, rfl, ha, hb', q⟩ := h
  cases rx
  cases ry
  obtain ⟨mA, J, _⟩ := ins_get I.hok ha
  obtain ⟨mB, J', _⟩ := ins_get I.hok hb'
  obtain ⟨od, J, _⟩ := J.look
  obtain ⟨od', J', _⟩ := J'.look
  obtain ⟨m, hF⟩ := I.fr
  show wpAny (model X.prog X.w) X.A (richCompare .Eq _ _) (EP X pins σ Q) X.xe s
  refine PySem.W.cmp_K (op := .Eq) (tb := .ref C) hr.units0 hF I.ok.mod.kin J J'.type (by simp [PySem.W.notFirst]) hm.at_ hm.fn ?_
  refine wpAny_mono (run_sub (A := X.A) rfl hr F (us := [.ref a, .ref b]) (vs := [.ref a, .ref b]) hb hx I (.cons rfl (.cons rfl .nil)) q) (fun u s' z => ?_) fun _ _ z => z
  obtain ⟨v, H', I', rv, b, rfl, q'⟩ := z
  cases rv
  exact ⟨.bl b, H', I', rfl, q'⟩
/-- a + b, a * b, two of one own class -/
def rBinO (C : Addr) (sp : Sp) (E : XK) : R2 := fun x y H Q => ∃ a b dx dy fs gs, x = V.ref a ∧ y = V.ref b ∧ H a = some (.ins C dx fs) ∧ H b = some (.ins C dy gs) ∧ sp [.ref a, .ref b] H (fun v H' => (∃ p, v = .ref p) ∧ Q v H') E
theorem op_binO {op : Operator} (F : FnOk X.prog X.w X.K X.mg X.base CX k f fd ps sp) (hc : PySem.W.selfFirst X.K C = true) (hm : Meth X.K C (PySem.dunder op.info.2) f) (hr : Room k X.A) (hb : Binds X.K fd ps []) (hx : Passes CX X E) : OpR X (binaryOp op) (rBinO C sp E) := by
  intro pins s σ H x y v u Q I rx ry h
  obtain ⟨a, b, dx, dy, fs, gs, rfl, rfl, ha, hb', q⟩ := h
  cases rx
  cases ry
  obtain ⟨mA, J, _⟩ := ins_get I.hok ha
  obtain ⟨mB, J', _⟩ := ins_get I.hok hb'
  obtain ⟨od, J, _⟩ := J.look
  obtain ⟨od', J', _⟩ := J'.look
  obtain ⟨m, hF⟩ := I.fr
  refine PySem.W.binop_K hF I.ok.mod.kin J J'.type hc hm.at_ hm.fn ?_
  refine wpAny_mono (run_sub (A := X.A) rfl hr F (us := [.ref a, .ref b]) (vs := [.ref a, .ref b]) hb hx I (.cons rfl (.cons rfl .nil)) q) (fun u s' z => ?_) fun _ _ z => z
  obtain ⟨v, H', I', rv, ⟨p, rfl⟩, q'⟩ := z
  cases rv
  exact ⟨.ref p, H', I', rfl, q'⟩
end
theorem kit_self {K : PySem.W.Frag} {C : Addr} : PySem.W.kitOne K (.ref C) (.ref C) = some true := by
  unfold PySem.W.kitOne
  simp
/-! ### o[i], o of an own class -/
def rGetO (C : Addr) (sp : Sp) (E : XK) : R2 := fun x y H Q => ∃ a dx fs, x = V.ref a ∧ H a = some (.ins C dx fs) ∧ sp [.ref a, y] H Q E
theorem pe_getO {X : Cx} {CX : CXT} {k : Nat} {f C : Addr} {fd : FuncData} {ps : List Str} {sp : Sp} {E : XK} {a b : Expr} {ta tb : TE} {pos : Pos} (F : FnOk X.prog X.w X.K X.mg X.base CX k f fd ps sp) (hm : Meth X.K C "__getitem__" f) (hf : PySem.W.fnIn X.K f = true) (hr : Room (k + 1) X.A) (hb : Binds X.K fd ps []) (hx : Passes CX X E) (ha : PE X a ta) (hbx : PE X b tb)
    (hsl : ∀ (x : Addr) (i : Value), subscripted b true (.ref x) i = runValue (.builtin "lifetime.subscript" ⟨[.ref x, i], []⟩) := by intro x i; with_unfolding_all rfl) : PE X (.Subscript a b pos) (tOp (rGetO C sp E) ta tb) := by
  refine ⟨fun pins s σ H Q I h => ?_⟩
  refine Subscript_ (binT ha hbx I h fun v u s2 x y H2 I2 rx ry q => ?_)
  obtain ⟨o, dx, fs, rfl, ho, q⟩ := q
  cases rx
  obtain ⟨mA, J, _⟩ := ins_get I2.hok ho
  obtain ⟨od, J, _⟩ := J.look
  obtain ⟨m, hF⟩ := I2.fr
  refine PySem.W.sub_K hF I2.ok.mod.kin J hm.at_ hf hm.fn ?_ (hsl _ _)
  exact run_sub (A := X.A.in1) rfl hr.in1 F (us := [.ref o, u]) (vs := [.ref o, y]) hb hx I2 (.cons rfl (.cons ry .nil)) q

/-! ### what the law's draws of statements go by: the pool at p, the room at r, the calls at c -/
structure Drw (H : Hp) (p r c : Addr) (L : Nat) (m k : Int) (many : Nat) : Prop where
  pl : Pool H p L
  r : H r = some (.lst [.int m])
  c : H c = some (.lst [.int k, .int many])
structure Sep (p r c : Addr) : Prop where
  pr : p ≠ r
  pc : p ≠ c
  rc : r ≠ c
abbrev MM (p r c : Addr) : Addr → Prop := fun a => a = p ∨ a = r ∨ a = c
section
variable {H H' : Hp} {p r c : Addr} {L many : Nat} {m k : Int}
theorem Drw.lst (d : Drw H p r c L m k many) : ∀ a, MM p r c a → ∃ ys, H a = some (.lst ys) := fun a h => by
  obtain ⟨ns, hp, _⟩ := d.pl
  rcases h with rfl | rfl | rfl
  · exact ⟨_, hp⟩
  · exact ⟨_, d.r⟩
  · exact ⟨_, d.c⟩
theorem Drw.ne (d : Drw H p r c L m k many) {a : Addr} (h : H a = none) : ¬ MM p r c a := fun e => by
  obtain ⟨ys, hy⟩ := d.lst a e
  rw [hy] at h
  cases h
theorem Drw.kp (d : Drw H p r c L m k many) (s : Sep p r c) (e : Kp p H H') (pl : Pool H' p L) : Drw H' p r c L m k many := ⟨pl, e _ _ s.pr.symm d.r, e _ _ s.pc.symm d.c⟩
theorem Drw.gone (d : Drw H p r c L m k many) (s : Sep p r c) (e : Kp p H H') : KpL (MM p r c) H H' := KpL.kp e (.inl rfl) (d.lst p (.inl rfl))
theorem Drw.same (d : Drw H p r c L m k many) (e : Same H H') : Drw H' p r c L m k many := by
  obtain ⟨⟨ns, hp, hl⟩, h1, h2⟩ := d
  exact ⟨⟨ns, e _ _ hp, hl⟩, e _ _ h1, e _ _ h2⟩
theorem Drw.new (d : Drw H p r c L m k many) {q : Addr} {o : HO} (n : H q = none) : Drw (upd H q o) p r c L m k many := d.same (same_upd n)
theorem Drw.room (d : Drw H p r c L m k many) (s : Sep p r c) (z : Int) : Drw (upd H r (.lst [.int z])) p r c L z k many := by
  obtain ⟨⟨ns, hp, hl⟩, h1, h2⟩ := d
  exact ⟨⟨ns, by rw [upd_ne s.pr]; exact hp, hl⟩, upd_same, by rw [upd_ne s.rc.symm]; exact h2⟩
theorem Drw.calls (d : Drw H p r c L m k many) (s : Sep p r c) (z : Int) : Drw (upd H c (.lst [.int z, .int many])) p r c L m z many := by
  obtain ⟨⟨ns, hp, hl⟩, h1, h2⟩ := d
  exact ⟨⟨ns, by rw [upd_ne s.pc]; exact hp, hl⟩, by rw [upd_ne s.rc]; exact h1, upd_same⟩
theorem New.kpl {H0 : Hp} (d : Drw H0 p r c L m k many) {ds : PyData} {v : V} (e : KpL (MM p r c) H H') (t : Tr (New H0) H ds v) : Tr (New H0) H' ds v := Tr.kpl e (fun a n => d.ne n) _ _ t
theorem New.kplA {H0 : Hp} (d : Drw H0 p r c L m k many) {ds : List PyData} {v : List V} (e : KpL (MM p r c) H H') (t : TrAll (New H0) H ds v) : TrAll (New H0) H' ds v := TrAll.kpl e (fun a n => d.ne n) _ _ t
/-- new since a later heap is new since an earlier one -/
theorem New.old {H0 : Hp} {m' k' : Int} (e : KpL (MM p r c) H0 H) (d : Drw H p r c L m' k' many) {ds : PyData} {v : V} (t : Tr (New H) H' ds v) : Tr (New H0) H' ds v := Tr.mono (fun _ n => e.free d.lst n) _ _ t
end
/-- a list of statements is drawn: m statements may still be made, at least lo; n: how deep -/
def spD (lo : Int) (n : Nat) : Sp := fun vs H Q _ => ∃ (p r c : Addr) (L l many : Nat) (mood m k low : Int), vs = [.ref p, .int mood, .int l, .ref r, .ref c, .int low] ∧ Sep p r c ∧ Drw H p r c L m k many ∧
  (2 ≤ L ∧ L ≤ 64 ∧ 0 ≤ mood ∧ mood < 8 ∧ l ≤ 3 ∧ 0 ≤ low ∧ lo ≤ m ∧ m ≤ 8 ∧ m ≤ n ∧ many ≤ 3) ∧
  ∀ (q : Addr) (ss : List Stm) (H' : Hp) (m' k' : Int), KpL (MM p r c) H H' → Drw H' p r c L m' k' many → 0 ≤ m' → m' + cntB ss = m → okB many ss l → Tr (New H) H' (bD ss) (.ref q) → Q (.ref q) H'

/-! ### the law's own comparison -/
mutual
def sameD : PyData → PyData → Bool
  | .list xs, .list ys => sameAll xs ys
  | .tuple xs, .tuple ys => sameAll xs ys
  | .bool a, .bool b => a == b
  | .int a, .int b => a == b
  | .str a, .str b => a == b
  | .none, .none => true
  | _, _ => false
def sameAll : List PyData → List PyData → Bool
  | [], [] => true
  | x :: xs, y :: ys => sameD x y && sameAll xs ys
  | _, _ => false
end
mutual
/-- nested below n, lists of at most a hundred -/
def Fit : PyData → Nat → Prop
  | _, 0 => False
  | .list ds, n + 1 => ds.length ≤ 100 ∧ FitAll ds n
  | .tuple ds, n + 1 => ds.length ≤ 100 ∧ FitAll ds n
  | .str s, _ + 1 => PyData.strOk s = true
  | .dict _, _ + 1 => False
  | _, _ + 1 => True
def FitAll : List PyData → Nat → Prop
  | [], _ => True
  | d :: r, n => Fit d n ∧ FitAll r n
end
theorem FitAll.get : ∀ {ds : List PyData} {n i : Nat} {d : PyData}, FitAll ds n → ds[i]? = some d → Fit d n
  | [], n, i, d, _, e => by simp at e
  | x :: r, n, 0, d, h, e => by cases e; exact h.1
  | x :: r, n, i + 1, d, h, e => FitAll.get (i := i) h.2 e
theorem FitAll.of : ∀ {ds : List PyData} {n : Nat}, (∀ d ∈ ds, Fit d n) → FitAll ds n
  | [], _, _ => True.intro
  | d :: r, n, h => ⟨h d List.mem_cons_self, FitAll.of fun x hx => h x (List.mem_cons_of_mem _ hx)⟩
mutual
theorem Fit.lay : ∀ (d : PyData) (n : Nat), Fit d n → d.canLay0 = true ∧ d.depth ≤ n
  | .none, n + 1, _ => by simp [PyData.canLay0, PyData.depth]
  | .bool b, n + 1, _ => by simp [PyData.canLay0, PyData.depth]
  | .int b, n + 1, _ => by simp [PyData.canLay0, PyData.depth]
  | .str s, n + 1, h => by
    have h : PyData.strOk s = true := h
    simp [PyData.canLay0, PyData.depth, h]
  | .list ds, n + 1, ⟨_, h⟩ => by
    have := FitAll.lay ds n h
    simp only [PyData.canLay0, PyData.depth]
    exact ⟨this.1, by have := this.2; omega⟩
  | .tuple ds, n + 1, ⟨_, h⟩ => by
    have := FitAll.lay ds n h
    simp only [PyData.canLay0, PyData.depth]
    exact ⟨this.1, by have := this.2; omega⟩
  | .dict _, n + 1, h => h.elim
  | .none, 0, h => h.elim
  | .bool _, 0, h => h.elim
  | .int _, 0, h => h.elim
  | .str _, 0, h => h.elim
  | .list _, 0, h => h.elim
  | .tuple _, 0, h => h.elim
  | .dict _, 0, h => h.elim
theorem FitAll.lay : ∀ (ds : List PyData) (n : Nat), FitAll ds n → PyData.canLayAll0 ds = true ∧ PyData.depthAll ds ≤ n
  | [], n, _ => by simp [PyData.canLayAll0, PyData.depthAll]
  | d :: r, n, h => by
    have h1 := Fit.lay d n h.1
    have h2 := FitAll.lay r n h.2
    simp only [PyData.canLayAll0, PyData.depthAll, h1.1, h2.1]
    refine ⟨rfl, ?_⟩
    omega
end
theorem Fit.shaped {d : PyData} {n : Nat} (h : Fit d n) (hn : n ≤ 64) : SeqAt.shaped d = true := by
  have := Fit.lay d n h
  simp only [SeqAt.shaped, this.1, Bool.true_and, decide_eq_true_eq]
  omega
theorem sameAll_zip : ∀ (xs ys : List PyData), xs.length = ys.length → sameAll xs ys = (List.zipWith sameD xs ys).all id
  | [], [], _ => by simp [sameAll]
  | x :: r, y :: q, h => by
    rw [sameAll, sameAll_zip r q (by simpa using h), List.zipWith_cons_cons, List.all_cons]
    rfl
theorem sameAll_len : ∀ (xs ys : List PyData), xs.length ≠ ys.length → sameAll xs ys = false
  | [], [], h => absurd rfl h
  | [], y :: q, _ => by simp [sameAll]
  | x :: r, [], _ => by simp [sameAll]
  | x :: r, y :: q, h => by
    rw [sameAll, sameAll_len r q (fun e => h (by simp [e])), Bool.and_false]
mutual
theorem same_refl : ∀ (d : PyData) (n : Nat), Fit d n → sameD d d = true
  | .none, _, _ => by simp [sameD]
  | .bool b, _, _ => by simp [sameD]
  | .int b, _, _ => by simp [sameD]
  | .str s, _, _ => by simp [sameD]
  | .list ds, n + 1, ⟨_, h⟩ => by simp only [sameD]; exact sameAll_refl ds n h
  | .tuple ds, n + 1, ⟨_, h⟩ => by simp only [sameD]; exact sameAll_refl ds n h
  | .dict _, n + 1, h => h.elim
  | .list _, 0, h => h.elim
  | .tuple _, 0, h => h.elim
  | .dict _, 0, h => h.elim
theorem sameAll_refl : ∀ (ds : List PyData) (n : Nat), FitAll ds n → sameAll ds ds = true
  | [], _, _ => by simp [sameAll]
  | d :: r, n, h => by
    simp only [sameAll, same_refl d n h.1, sameAll_refl r n h.2, Bool.and_self]
end

mutual
/-- the data of a statement of a list at level l -/
theorem fit_stm {many : Nat} : ∀ (z : Stm) (l n : Nat), z.ok many l → 3 * (4 - l) ≤ n → Fit z.d (n + 2)
  | .cmd c, l, n, _, _ => by
    refine ⟨?_, word_ok (.cmd c), ?_⟩
    · rw [List.length_cons, List.length_map]
      cases c <;> simp [Cm.nums]
    · refine FitAll.of fun d hd => ?_
      obtain ⟨z, _, rfl⟩ := List.mem_map.mp hd
      exact True.intro
  | .fin w, l, n, _, _ => ⟨by simp, (show PyData.strOk "end" = true by decide +kernel), True.intro, True.intro⟩
  | .keep b, l, n, h, hn => ⟨by simp, (show PyData.strOk "keep" = true by decide +kernel), fit_blk b (l + 1) n h.2.1 h.2.2 (by have := h.1; omega) (by have := h.1; omega), True.intro⟩
  | .again b, l, n, h, hn => ⟨by simp, (show PyData.strOk "again" = true by decide +kernel), fit_blk b (l + 1) n h.2.1 h.2.2 (by have := h.1; omega) (by have := h.1; omega), True.intro⟩
  | .either a b, l, n, h, hn => ⟨by simp, (show PyData.strOk "either" = true by decide +kernel), fit_blk a (l + 1) n h.2.1.1 h.2.1.2 (by have := h.1; omega) (by have := h.1; omega), fit_blk b (l + 1) n h.2.2.1 h.2.2.2 (by have := h.1; omega) (by have := h.1; omega), True.intro⟩
  | .call p s a b, l, n, h, hn => by
    obtain ⟨n', rfl⟩ : ∃ n', n = n' + 1 := ⟨n - 1, by have := h.1; omega⟩
    exact ⟨by simp, (show PyData.strOk "call" = true by decide +kernel), True.intro, True.intro, ⟨by simp, fit_blk a (l + 1) n' h.2.2.1.1 h.2.2.1.2 (by have := h.1; omega) (by have := h.1; omega), fit_blk b (l + 1) n' h.2.2.2.1 h.2.2.2.2 (by have := h.1; omega) (by have := h.1; omega), True.intro⟩, True.intro⟩
theorem fit_blk {many : Nat} : ∀ (b : List Stm) (l n : Nat), b.length ≤ 8 → okB many b l → l ≤ 3 → 3 * (4 - l) + 2 ≤ n → Fit (bD b) (n + 1)
  | b, l, n, h8, h, hl, hn => by
    refine ⟨by rw [blkD_len]; omega, ?_⟩
    obtain ⟨n', rfl⟩ : ∃ n', n = n' + 2 := ⟨n - 2, by omega⟩
    exact fit_all b l n' h (by omega)
theorem fit_all {many : Nat} : ∀ (b : List Stm) (l n : Nat), okB many b l → 3 * (4 - l) ≤ n → FitAll (blkD b) (n + 2)
  | [], _, _, _, _ => True.intro
  | z :: r, l, n, h, hn => ⟨fit_stm z l n h.1 hn, fit_all r l n h.2 hn⟩
end
theorem fit_book {bs : List (List Stm)} (h : OkBook bs) : Fit (bookD bs) 16 := by
  refine ⟨by rw [List.length_map]; have := h.hi; omega, FitAll.of fun d hd => ?_⟩
  obtain ⟨b, mb, rfl⟩ := List.mem_map.mp hd
  obtain ⟨o1, o2, o3⟩ := h.each b mb
  exact fit_blk b 0 14 o1 o3 (by decide) (by decide)

/-! ### the places of statements -/
mutual
def Stm.places : Stm → List Nat → List (List Nat × Stm)
  | .keep b, p => placesB b (p ++ [0]) 0
  | .again b, p => placesB b (p ++ [0]) 0
  | .either a b, p => placesB a (p ++ [0]) 0 ++ placesB b (p ++ [1]) 0
  | .call _ _ a b, p => placesB a (p ++ [0]) 0 ++ placesB b (p ++ [1]) 0
  | _, _ => []
def placesB : List Stm → List Nat → Nat → List (List Nat × Stm)
  | [], _, _ => []
  | s :: r, p, i => (p ++ [i], s) :: (s.places (p ++ [i]) ++ placesB r p (i + 1))
end
def placesBs : List (List Stm) → List Nat → Nat → List (List Nat × Stm)
  | [], _, _ => []
  | b :: r, p, j => placesB b (p ++ [j]) 0 ++ placesBs r p (j + 1)
theorem places_blocks (z : Stm) (p : List Nat) : z.places p = placesBs z.blocks p 0 := by
  cases z <;> simp [Stm.places, Stm.blocks, placesBs]
mutual
theorem len_places : ∀ (z : Stm) (p : List Nat), (z.places p).length + 1 = z.cnt
  | .cmd _, p => rfl
  | .fin _, p => rfl
  | .keep b, p => by rw [Stm.places, Stm.cnt, len_placesB b]; omega
  | .again b, p => by rw [Stm.places, Stm.cnt, len_placesB b]; omega
  | .either a b, p => by rw [Stm.places, Stm.cnt, List.length_append, len_placesB a, len_placesB b]; omega
  | .call _ _ a b, p => by rw [Stm.places, Stm.cnt, List.length_append, len_placesB a, len_placesB b]; omega
theorem len_placesB : ∀ (b : List Stm) (p : List Nat) (i : Nat), (placesB b p i).length = cntB b
  | [], _, _ => rfl
  | s :: r, p, i => by
    have h1 := len_places s (p ++ [i])
    have h2 := len_placesB r p (i + 1)
    rw [placesB, List.length_cons, List.length_append, h2, cntB]
    omega
end
theorem len_placesBs : ∀ (bs : List (List Stm)) (p : List Nat) (i : Nat), (placesBs bs p i).length = cntBs bs
  | [], _, _ => rfl
  | b :: r, p, i => by rw [placesBs, List.length_append, len_placesB, len_placesBs r, cntBs]
theorem placesB_take : ∀ {b : List Stm} {i : Nat} {z : Stm} (p : List Nat) (k : Nat), b[i]? = some z → placesB (b.take (i + 1)) p k = placesB (b.take i) p k ++ ((p ++ [k + i], z) :: z.places (p ++ [k + i]))
  | [], i, z, p, k, e => by simp at e
  | s :: r, 0, z, p, k, e => by cases e; simp [placesB]
  | s :: r, i + 1, z, p, k, e => by
    have := placesB_take (b := r) (i := i) p (k + 1) e
    rw [List.take_succ_cons, List.take_succ_cons, placesB, placesB, this, show k + 1 + i = k + (i + 1) by omega]
    simp
theorem placesBs_take : ∀ {b : List (List Stm)} {i : Nat} {z : List Stm} (p : List Nat) (k : Nat), b[i]? = some z → placesBs (b.take (i + 1)) p k = placesBs (b.take i) p k ++ placesB z (p ++ [k + i]) 0
  | [], i, z, p, k, e => by simp at e
  | s :: r, 0, z, p, k, e => by cases e; simp [placesBs]
  | s :: r, i + 1, z, p, k, e => by
    have := placesBs_take (b := r) (i := i) p (k + 1) e
    rw [List.take_succ_cons, List.take_succ_cons, placesBs, placesBs, this, show k + 1 + i = k + (i + 1) by omega]
    simp
abbrev natD : Nat → PyData := fun n => .int n
abbrev natV : Nat → V := fun n => .int n
def pathD (p : List Nat) : PyData := .tuple (p.map natD)
def placeD (x : List Nat × Stm) : PyData := .tuple [pathD x.1, x.2.d]
theorem TrAll.ofNats {S : Addr → Prop} {H : Hp} : ∀ (ns : List Nat), TrAll S H (ns.map natD) (ns.map natV)
  | [] => rfl
  | n :: r => ⟨_, _, rfl, rfl, TrAll.ofNats r⟩
mutual
theorem mem_places {many : Nat} : ∀ (z : Stm) (p : List Nat) (l : Nat), z.ok many l → ∀ x ∈ z.places p, ∃ l', x.2.ok many l'
  | .cmd _, p, l, h, x, m => nomatch m
  | .fin _, p, l, h, x, m => nomatch m
  | .keep b, p, l, h, x, m => mem_placesB b _ _ _ h.2.2 x m
  | .again b, p, l, h, x, m => mem_placesB b _ _ _ h.2.2 x m
  | .either a b, p, l, h, x, m => (List.mem_append.mp m).elim (fun m => mem_placesB a _ _ _ h.2.1.2 x m) fun m => mem_placesB b _ _ _ h.2.2.2 x m
  | .call _ _ a b, p, l, h, x, m => (List.mem_append.mp m).elim (fun m => mem_placesB a _ _ _ h.2.2.1.2 x m) fun m => mem_placesB b _ _ _ h.2.2.2.2 x m
theorem mem_placesB {many : Nat} : ∀ (b : List Stm) (p : List Nat) (i l : Nat), okB many b l → ∀ x ∈ placesB b p i, ∃ l', x.2.ok many l'
  | [], _, _, _, _, x, m => nomatch m
  | s :: r, p, i, l, h, x, m => by
    rcases List.mem_cons.mp m with rfl | m
    · exact ⟨l, h.1⟩
    · rcases List.mem_append.mp m with m | m
      · exact mem_places s _ l h.1 x m
      · exact mem_placesB r _ _ l h.2 x m
end

theorem oddw {K : PySem.W.Frag} {aB : Addr} (w0 : PySem.W.nsIn K aB "keep" = some none) (w1 : PySem.W.nsIn K aB "again" = some none) (w2 : PySem.W.nsIn K aB "either" = some none) (w3 : PySem.W.nsIn K aB "call" = some none) (w4 : PySem.W.nsIn K aB "end" = some none) (w5 : PySem.W.nsIn K aB "Mark" = some none) (w6 : PySem.W.nsIn K aB "bad" = some none) :
    ∀ s ∈ oddWords, PySem.W.nsIn K aB s = some none := fun s hs => by
  simp only [oddWords, List.mem_cons, List.not_mem_nil, or_false] at hs
  rcases hs with rfl | rfl | rfl | rfl | rfl | rfl | rfl
  · exact w0
  · exact w1
  · exact w2
  · exact w3
  · exact w4
  · exact w5
  · exact w6

/-! ### x in (a, b, ..), data of any depth; slices of tuples -/
theorem hu65 {A : Around} {k : Nat} (hr : Room k A) : A.units + 65 < cLine := by
  have := hr.un
  omega
def rInDT (K : PySem.W.Frag) : R2 := fun x y H Q => ∃ d ds, Dp K H x d ∧ Dp K H y (.tuple ds) ∧ SeqAt.shaped d = true ∧ SeqAt.shaped (.tuple ds) = true ∧ Q (.bl (ds.any fun z => PyData.eqv z d)) H
theorem op_inDT {X : Cx} (hu : X.A.units + 65 < cLine) : OpR X (compareOp .In) (rInDT X.K) := by
  intro pins s σ H x y v u Q I rx ry h
  obtain ⟨d, ds, hd, he, sd, se, q⟩ := h
  obtain ⟨as, r1⟩ := Dp.reads I d x v hd rx
  obtain ⟨bs, r2⟩ := Dp.reads I (.tuple ds) y u he ry
  exact SeqAt.in_tuple_reads r2 r1 (SeqAt.canLay_of_shaped se) (SeqAt.canLay_of_shaped sd) (room_in_shaped sd hu) ⟨.bl _, H, I, rfl, q⟩
section
variable (K : PySem.W.Frag) {X : Cx}
theorem k_inDT (hu : X.A.units + 65 < cLine) (hK : X.K = K := by rfl) : OpR X (compareOp .In) (rInDT K) := hK ▸ op_inDT hu
theorem k_inD (hu : X.A.units + 65 < cLine) (hK : X.K = K := by rfl) : OpR X (compareOp .In) (rInD K) := hK ▸ op_inD hu
theorem k_eqD (hu : X.A.units + 64 < cLine) (hK : X.K = K := by rfl) : OpR X (compareOp .Eq) (rEqD K) := hK ▸ op_eqD hu
theorem k_neD (hu : X.A.units + 64 < cLine) (hK : X.K = K := by rfl) : OpR X (compareOp .NotEq) (rNeD K) := hK ▸ op_neD hu
theorem k_catT (hK : X.K = K := by rfl) : OpR X (binaryOp .Add) (rCatT K) := hK ▸ op_catT
end
theorem cut_from1 {x : V} {xs : List V} : cutV (x :: xs) (some 1) none = xs := by
  unfold cutV
  rw [HT.sIx_none, show HT.sIx (x :: xs).length 0 (some 1) = min 1 (x :: xs).length from HT.sIx_nat _ _ 1, List.length_cons, show min 1 (xs.length + 1) = 1 by omega, List.drop_one, List.tail_cons, Nat.add_sub_cancel, List.take_length]
theorem cut_ne1 {x : V} {xs : List V} : ¬ (HT.sIx (x :: xs).length 0 (some 1) = 0 ∧ HT.sIx (x :: xs).length (x :: xs).length none = (x :: xs).length) := by
  rw [show HT.sIx (x :: xs).length 0 (some 1) = min 1 (x :: xs).length from HT.sIx_nat _ _ 1, List.length_cons]
  omega
theorem cut_to {xs : List V} {n : Nat} : cutV xs none (some (n : Int)) = xs.take n := by
  unfold cutV
  rw [HT.sIx_none, HT.sIx_nat, List.drop_zero, Nat.sub_zero, ← List.take_take]
  rw [List.take_length]
theorem cut_ne {xs : List V} {n : Nat} (h : n < xs.length) : ¬ (HT.sIx xs.length 0 none = 0 ∧ HT.sIx xs.length xs.length (some (n : Int)) = xs.length) := by
  rw [HT.sIx_nat]
  omega
theorem cut_from {xs : List V} {n : Nat} : cutV xs (some (n : Int)) none = xs.drop n := by
  unfold cutV
  rw [HT.sIx_none, HT.sIx_nat]
  by_cases h : n ≤ xs.length
  · rw [show min n xs.length = n by omega]
    exact List.take_of_length_le (by rw [List.length_drop]; exact Nat.le_refl _)
  · rw [show min n xs.length = xs.length by omega, List.drop_of_length_le (Nat.le_refl _), List.drop_of_length_le (by omega), List.take_nil]
theorem canOf {d : PyData} (h : SeqAt.shaped d = true) : d.canLay0 = true := SeqAt.canLay_of_shaped h
theorem sh_str {s : Str} (h : PyData.strOk s = true) : SeqAt.shaped (.str s) = true := by simp [SeqAt.shaped, PyData.canLay0, PyData.depth, h]
theorem sh_strs {ss : List Str} (h : ∀ s ∈ ss, PyData.strOk s = true) : SeqAt.shaped (.tuple (ss.map PyData.str)) = true := by
  have hb : ∀ ss : List Str, (∀ s ∈ ss, PyData.strOk s = true) → PyData.canLayAll0 (ss.map PyData.str) = true ∧ PyData.depthAll (ss.map PyData.str) = 0 := by
    intro ss
    induction ss with
    | nil => intro _; simp [PyData.canLayAll0, PyData.depthAll]
    | cons s r ih =>
      intro h
      have ih := ih fun x hx => h x (List.mem_cons_of_mem _ hx)
      simp [PyData.canLayAll0, PyData.canLay0, PyData.depthAll, PyData.depth, ih.1, ih.2, h s List.mem_cons_self]
  simp [SeqAt.shaped, PyData.canLay0, PyData.depth, (hb ss h).1, (hb ss h).2]
theorem dp_strs {K : PySem.W.Frag} {H : Hp} : ∀ ss : List Str, DpAll K H (ss.map V.str) (ss.map PyData.str)
  | [] => .nil
  | s :: r => .cons (.str s) (dp_strs r)

theorem dec_int {a b : Int} (h : ¬ decide (V.int a = V.int b) = true) : a ≠ b := fun e => h (by rw [e]; exact decide_eq_true rfl)
theorem dec_int' {a b : Int} (h : decide (V.int a = V.int b) = true) : a = b := V.int.inj (of_decide_eq_true h)
theorem eqv_strC (s : Str) (x : PyData) : PyData.eqv (.str s) x = PyData.eqv x (.str s) := by
  cases x with
  | str t =>
    rw [PyData.eqv, PyData.eqv]
    by_cases h : s = t
    · subst h
      rfl
    · have h2 : ¬ t = s := fun e => h e.symm
      exact Eq.trans (beq_eq_false_iff_ne.mpr h) (beq_eq_false_iff_ne.mpr h2).symm
  | _ => simp [PyData.eqv]

/-- an own error's class, without __init__ of its own, over ValueError -/
structure ExcT (K : PySem.W.Frag) (mg : Str → Option Value) (x : Str) (C : Addr) : Prop where
  g : mg x = some (.ref C)
  q : PySem.W.excIn K C [.type "ValueError", .type "Exception", .type "BaseException", .type "object"] "ValueError.__new__" = true
  k : PySem.W.keepIn K (.ref C) = true
  b : PySem.W.subIn K (.ref C) (.type "BaseException") = some true
  t : PySem.W.typeIn K (.ref C) = some (.type "type")
  e : PySem.W.exmOne K (.ref C) (.ref C) = some true
section
variable {X : Cx} {C : Addr} {x : Str} {p pos pos' : Pos} {W : WX}
/-- X() -/
theorem pmk_own0 (T : ExcT X.K X.mg x C) (hg : Gl X x) (hdb : (x == ("__debug__" : Str)) = false := by decide) : PMk X (.Call (.Name x p) [] [] pos) (fun _ H Q => Q (.ref C) none H) := by
  intro pins s σ H Q I h
  refine wpAny_Call_Name_kw (ld_glob I hg T.g ?_ hdb)
  refine PySem.W.callWith_K0 I.kIn T.k ?_
  show wpAny _ _ (call (.ref C) []) _ _ _
  obtain ⟨bm, N, nm, qn, bs, hdct, sn, sub, ab, col, dd, k0, k1, k2, k3, k5, mN, hC, hN, hni, TT⟩ := exc_obj I.kIn T.q
  refine wpAny_call_exc_subT F.excBase_ValueError TT hC hN hni (fun h' e hm => ?_) (Nat.zero_le _)
  exact mk_of I hm (raises_own T.b T.t) h (I.hok.gone hm.new)
/-- raise X() -/
theorem ps_own0 (hc : X.calm = true) (tk : Takes X W) (T : ExcT X.K X.mg x C) (hg : Gl X x) (hdb : (x == ("__debug__" : Str)) = false := by decide) :
    PS X (.Raise (some (.Call (.Name x p) [] [] pos)) none pos') (fun _ σ H => W (.ref C) none σ H) := ps_raise hc tk (pmk_own0 T hg hdb)
end
/-- a thing of any kind that the law draws, no list of them being the pool at p; its answer: is it an integer -/
inductive Any (H : Hp) (p : Addr) : V → Bool → Prop
  | int (z : Int) : Any H p (.int z) true
  | bl (k : Bool) : Any H p (.bl k) false
  | non : Any H p .non false
  | str (s : Str) : Any H p (.str s) false
  | tup {a : Addr} {xs : List V} (h : H a = some (.tup xs)) (n : a ≠ p) : Any H p (.ref a) false
  | lst {a : Addr} {xs : List V} (h : H a = some (.lst xs)) (n : a ≠ p) : Any H p (.ref a) false
  | dct {a : Addr} {xs : List (Key × V)} (h : H a = some (.dK xs)) (n : a ≠ p) : Any H p (.ref a) false
theorem Any.kp {H J : Hp} {p : Addr} {v : V} {k : Bool} (h : Any H p v k) (s : Kp p H J) : Any J p v k := by
  cases h with
  | int z => exact .int z
  | bl k => exact .bl k
  | non => exact .non
  | str s => exact .str s
  | tup h n => exact .tup (s _ _ n h) n
  | lst h n => exact .lst (s _ _ n h) n
  | dct h n => exact .dct (s _ _ n h) n
/-- is it a pen -/
inductive PenV (H : Hp) (p : Addr) : V → Bool → Prop
  | lst {a : Addr} {xs : List V} (h : H a = some (.lst xs)) (n : a ≠ p) : PenV H p (.ref a) false
  | len {a : Addr} {xs : List V} (h : H a = some (.tup xs)) (n : a ≠ p) (l : xs.length ≠ 6) (b : xs.length ≤ 100) : PenV H p (.ref a) false
  | tup {a : Addr} {xs : List V} {bs : List Bool} (h : H a = some (.tup xs)) (n : a ≠ p) (l : xs.length = 6) (lb : bs.length = 6) (m : ∀ (i : Nat) (x : V), xs[i]? = some x → ∃ k, bs[i]? = some k ∧ Any H p x k) : PenV H p (.ref a) (bs.all id)
theorem PenV.kp {H J : Hp} {p : Addr} {v : V} {k : Bool} (h : PenV H p v k) (s : Kp p H J) : PenV J p v k := by
  cases h with
  | lst h n => exact .lst (s _ _ n h) n
  | len h n l b => exact .len (s _ _ n h) n l b
  | tup h n l lb m =>
    refine .tup (s _ _ n h) n l lb fun i x e => ?_
    obtain ⟨k, h1, h2⟩ := m i x e
    exact ⟨k, h1, h2.kp s⟩
/-- within a range -/
def inl : V → Int × Int → Bool
  | .int z, l => decide (l.1 ≤ z) && decide (z ≤ l.2)
  | _, _ => true
def badWords : List Str := ["1", "", "keep", "end", "Mark", "marks"]
/-- is it a command -/
inductive CmdV (H : Hp) (p : Addr) : V → Bool → Prop
  | oth {v : V} {k : Bool} (h : Any H p v k) (n : ∀ (a : Addr) (xs : List V), v = .ref a → H a = some (.tup xs) → False) : CmdV H p v false
  | nil {a : Addr} (h : H a = some (.tup [])) (n : a ≠ p) : CmdV H p (.ref a) false
  | odd {a : Addr} {x : V} {xs : List V} {k : Bool} (h : H a = some (.tup (x :: xs))) (n : a ≠ p) (hx : Any H p x k) (ns : ∀ s, x ≠ .str s) : CmdV H p (.ref a) false
  | word {a : Addr} {s : Str} {xs : List V} (h : H a = some (.tup (.str s :: xs))) (n : a ≠ p) (hs : s ∈ badWords) : CmdV H p (.ref a) false
  | len {a : Addr} {c : Cm} {xs : List V} (h : H a = some (.tup (.str c.word :: xs))) (n : a ≠ p) (l : xs.length ≠ c.nums.length) : CmdV H p (.ref a) false
  | num {a : Addr} {c : Cm} {xs : List V} {bs : List Bool} (h : H a = some (.tup (.str c.word :: xs))) (n : a ≠ p) (l : xs.length = c.nums.length) (lb : bs.length = xs.length)
      (m : ∀ (i : Nat) (x : V) (b : Int × Int), xs[i]? = some x → c.lims[i]? = some b → ∃ k, Any H p x k ∧ bs[i]? = some (k && inl x b)) : CmdV H p (.ref a) (bs.all id)
theorem CmdV.kp {H J : Hp} {p : Addr} {v : V} {k : Bool} (h : CmdV H p v k) (s : Kp p H J) : CmdV J p v k := by
  cases h with
  | oth h n =>
    refine .oth (h.kp s) fun a xs e e2 => ?_
    subst e
    cases h with
    | tup h nn => exact n _ _ rfl h
    | lst h nn => exact nomatch (Option.some.inj ((s _ _ nn h).symm.trans e2))
    | dct h nn => exact nomatch (Option.some.inj ((s _ _ nn h).symm.trans e2))
  | nil h n => exact .nil (s _ _ n h) n
  | odd h n hx ns => exact .odd (s _ _ n h) n (hx.kp s) ns
  | word h n hs => exact .word (s _ _ n h) n hs
  | len h n l => exact .len (s _ _ n h) n l
  | num h n l lb m =>
    refine .num (s _ _ n h) n l lb fun i x b e1 e2 => ?_
    obtain ⟨k, h1, h2⟩ := m i x b e1 e2
    exact ⟨k, h1.kp s, h2⟩

theorem exm_of' {K : PySem.W.Frag} {R S : Addr} {b : Bool} (h0 : PySem.W.subIn K (.ref R) (.type "BaseException") = some true) (h1 : PySem.W.subIn K (.ref S) (.type "BaseException") = some true) (h2 : PySem.W.isClsIn K S = true) (h3 : PySem.W.typeIn K (.ref S) = some (.type "type")) (h4 : PySem.W.subIn K (.ref R) (.ref S) = some b) : PySem.W.exmOne K (.ref R) (.ref S) = some b := by
  have e1 : (PySem.W.subIn K (.ref S) (.type "BaseException") == some true) = true := by rw [h1] <;> rfl
  have e2 : ((PySem.W.clsIn K S).isSome && PySem.W.typeIn K (.ref S) == some (.type "type")) = true := by
    rw [show (PySem.W.clsIn K S).isSome = true from h2, h3] <;> rfl
  show (if (PySem.W.subIn K (.ref S) (.type "BaseException") == some true) = true then (if ((PySem.W.clsIn K S).isSome && PySem.W.typeIn K (.ref S) == some (.type "type")) = true then PySem.W.subIn K (.ref R) (.ref S) else none) else none) = some b
  rw [if_pos e1, if_pos e2]
  exact h4
theorem exm_of {K : PySem.W.Frag} {S : Addr} {b : Bool} (h1 : PySem.W.subIn K (.ref S) (.type "BaseException") = some true) (h2 : PySem.W.isClsIn K S = true) (h3 : PySem.W.typeIn K (.ref S) = some (.type "type")) (h4 : PySem.W.subIn K (.ref S) (.ref S) = some b) : PySem.W.exmOne K (.ref S) (.ref S) = some b := exm_of' h1 h1 h2 h3 h4

/-! ### own errors with fields of their own (NoBook: procedure, path) -/
theorem oex_cls {K : PySem.W.Frag} {C HE : Addr}
    (h : ∃ nm q N bs sn sub ab col dd k0 k1 k2 k3 k5, K.lookup C = some (excClassObj nm q C N bs [.ref HE, .type "ValueError", .type "Exception", .type "BaseException", .type "object"] true sn sub ab col dd k0 k1 k2 k3 k5 "ValueError.__new__")) :
    ∃ nm q N bs bm sn sub ab col dd k0 k1 k2 k3 k5, K.lookup C = some (excClassObj nm q C N bs bm true sn sub ab col dd k0 k1 k2 k3 k5 "ValueError.__new__") ∧ PySem.HandSPX.refsVE bm = true := by
  obtain ⟨nm, q, N, bs, sn, sub, ab, col, dd, k0, k1, k2, k3, k5, h⟩ := h
  exact ⟨nm, q, N, bs, _, sn, sub, ab, col, dd, k0, k1, k2, k3, k5, h, rfl⟩

/-! ### the names of a comprehension -/
theorem wipe_get : ∀ (vs : List Nat) (σ : L2.St) (j : Nat), (wipe σ vs)[j]? = if j ∈ vs then (σ[j]?).map (fun _ => none) else σ[j]?
  | [], σ, j => by simp [wipe]
  | v :: r, σ, j => by
    rw [wipe, List.getElem?_set]
    have ih := wipe_get r σ j
    have hl := wipe_length σ r
    by_cases h : v = j
    · subst h
      rw [if_pos rfl, if_pos List.mem_cons_self]
      by_cases h2 : v < (wipe σ r).length
      · rw [if_pos h2, List.getElem?_eq_getElem (by omega)]
        rfl
      · rw [if_neg h2, List.getElem?_eq_none (by omega)]
        rfl
    · rw [if_neg h, ih]
      by_cases h3 : j ∈ r
      · rw [if_pos h3, if_pos (List.mem_cons_of_mem _ h3)]
      · rw [if_neg h3, if_neg (fun z => (List.mem_cons.mp z).elim (fun z => h z.symm) h3)]
theorem wipe_set {vs : List Nat} {σ : L2.St} {i : Nat} {x : Option V} (h : i ∈ vs) : wipe (σ.set i x) vs = wipe σ vs := by
  refine List.ext_getElem? fun j => ?_
  rw [wipe_get, wipe_get]
  by_cases hj : j ∈ vs
  · rw [if_pos hj, if_pos hj, List.getElem?_set]
    by_cases e : i = j
    · subst e
      rw [if_pos rfl]
      by_cases hl : i < σ.length
      · rw [if_pos hl, List.getElem?_eq_getElem hl]
        rfl
      · rw [if_neg hl, List.getElem?_eq_none (by omega)]
    · rw [if_neg e]
  · rw [if_neg hj, if_neg hj, List.getElem?_set_ne (fun e => hj (by rw [← e]; exact h))]
theorem wipe_wipe {vs : List Nat} {σ : L2.St} : wipe (wipe σ vs) vs = wipe σ vs := by
  refine List.ext_getElem? fun j => ?_
  rw [wipe_get, wipe_get]
  by_cases hj : j ∈ vs
  · rw [if_pos hj, if_pos hj]
    cases σ[j]? <;> rfl
  · rw [if_neg hj, if_neg hj]
theorem wipe7 {vs : List Nat} {σ : L2.St} {a b c d e f g : Nat} {x0 x1 x2 x3 x4 x5 x6 : Option V} (h : a ∈ vs ∧ b ∈ vs ∧ c ∈ vs ∧ d ∈ vs ∧ e ∈ vs ∧ f ∈ vs ∧ g ∈ vs) :
    wipe (((((((((wipe σ vs).set a x0).set b x1).set c x2).set d x3).set e x4).set f x5).set g x6)) vs = wipe σ vs := by
  obtain ⟨h0, h1, h2, h3, h4, h5, h6⟩ := h
  rw [wipe_set h6, wipe_set h5, wipe_set h4, wipe_set h3, wipe_set h2, wipe_set h1, wipe_set h0, wipe_wipe]
theorem at_slots {te : TE} {σ σ' : L2.St} {H : Hp} {K : VK} {N : Hp → Prop} (e : σ = σ') (q : te σ' H K) : tYes σ H fun b H3 => if b = true then te σ H3 K else N H3 := by
  subst e
  exact q

section
variable {P : Program} {w : World} {K : PySem.W.Frag} {mg : Str → Option Value} {base : Heap}
--SPLIT
/-! ## readings without a heap: what a name holds is data -/
theorem pe_weak {X : Cx} {e : Expr} {t t' : TE} (h : PE X e t) (w : ∀ σ H Q, t' σ H Q → t σ H Q) : PE X e t' := ⟨fun pins s σ H Q I q => h.run pins s σ H Q I (w _ _ _ q)⟩
theorem pt_weak {X : Cx} {e : Expr} {t t' : TT} (h : PT X e t) (w : ∀ σ H Q, t' σ H Q → t σ H Q) : PT X e t' := ⟨fun pins s σ H Q I q => h.run pins s σ H Q I (w _ _ _ q)⟩
theorem pw_weak {X : Cx} {e : Expr} {t t' : TT} (h : PW X e t) (w : ∀ σ H Q, t' σ H Q → t σ H Q) : PW X e t' := ⟨fun wh pins s σ H Q I q => h.run wh pins s σ H Q I (w _ _ _ q)⟩
theorem pa_weak {X : Cx} {e : List Expr} {t t' : TA} (h : PA X e t) (w : ∀ σ H Q, t' σ H Q → t σ H Q) : PA X e t' := ⟨fun pos pins s σ H Q I q => h.run pos pins s σ H Q I (w _ _ _ q)⟩
theorem ps_weak {X : Cx} {e : Stmt} {t t' : TS} (h : PS X e t) (w : ∀ D σ H, t' D σ H → t D σ H) : PS X e t' := ⟨fun pins s σ H D I q => h.run pins s σ H D I (w _ _ _ q)⟩
theorem pss_weak {X : Cx} {e : List Stmt} {t t' : TS} (h : PSs X e t) (w : ∀ D σ H, t' D σ H → t D σ H) : PSs X e t' := ⟨fun pins s σ H D I q => h.run pins s σ H D I (w _ _ _ q)⟩
theorem pg_weak {X : Cx} {e : Expr} {t t' : TG} (h : PG X e t) (w : ∀ v σ H Q, t' v σ H Q → t v σ H Q) : PG X e t' := ⟨fun pins s σ H v u Q I r q => h.run pins s σ H v u Q I r (w _ _ _ _ q)⟩
theorem pts_weak {X : Cx} {e : List Expr} {t t' : TT} (h : PTs X e t) (w : ∀ σ H Q, t' σ H Q → t σ H Q) : PTs X e t' := ⟨fun pins s σ H Q I q => h.run pins s σ H Q I (w _ _ _ q)⟩
/-- d: data, its lists at S; v: this very value; o: a list of the def's own -/
inductive Av where
  | d (x : PyData)
  | v (x : V)
  | o (ds : List PyData)
abbrev DEnv := List (Option Av)
structure DC where
  M : Addr → Prop
  W : Hp → Prop
  S0 : Addr → Prop
  H0 : Hp
  stab : ∀ H H', (∀ b o, H0 b ≠ none → H b = some o → H' b = some o) → W H → W H'
  lst : ∀ H a, W H → M a → ∃ xs, H a = some (.lst xs)
  w0 : W H0
  sm0 : ∀ a, S0 a → ¬ M a
def AvR (c : DC) (S : Addr → Prop) (H : Hp) : Av → V → Prop
  | .d x, v => Tr S H x v
  | .v y, v => v = y
  | .o ds, v => ∃ D xs, v = .ref D ∧ H D = some (.lst xs) ∧ TrAll S H ds xs ∧ c.H0 D = none ∧ ¬ S D
def AvsR (c : DC) (S : Addr → Prop) (H : Hp) : List Av → List V → Prop
  | [], vs => vs = []
  | a :: r, vs => ∃ v us, vs = v :: us ∧ AvR c S H a v ∧ AvsR c S H r us
structure DH (c : DC) (S : Addr → Prop) (H : Hp) : Prop where
  w : c.W H
  k : KpL c.M c.H0 H
  sub : ∀ a, S a → c.S0 a ∨ c.H0 a = none
  trk : ∀ a, S a → H a ≠ none
structure Step (c : DC) (S : Addr → Prop) (H : Hp) (S' : Addr → Prop) (H' : Hp) : Prop where
  inc : ∀ a, S a → S' a
  k : KpL c.M H H'
  new : ∀ a, S' a → S a ∨ (H a = none ∧ H' a ≠ none)
/-- what a loop walks -/
inductive Gh where
  | l (a : Addr) (vs : List V) (ds : List PyData)
  | t (a : Addr) (vs : List V) (ds : List PyData)
def GhR (S : Addr → Prop) (H : Hp) : Gh → Prop
  | .l a vs ds => S a ∧ H a = some (.lst vs) ∧ TrAll S H ds vs
  | .t a vs ds => H a = some (.tup vs) ∧ TrAll S H ds vs
structure DInv (c : DC) (S : Addr → Prop) (γ : List Gh) (ρ : DEnv) (σ : L2.St) (H : Hp) : Prop where
  h : DH c S H
  gh : ∀ g ∈ γ, GhR S H g
  len : ρ.length = σ.length
  ent : ∀ (i : Nat) (av : Av), ρ[i]? = some (some av) → ∃ v, σ[i]? = some (some v) ∧ AvR c S H av v
  sep : ∀ (i j : Nat) (ds es : List PyData) (a : Addr), ρ[i]? = some (some (.o ds)) → ρ[j]? = some (some (.o es)) → σ[i]? = some (some (.ref a)) → σ[j]? = some (some (.ref a)) → i = j
section
variable {c : DC} {S S' S'' : Addr → Prop} {H H' H'' : Hp} {γ : List Gh} {ρ : DEnv} {σ : L2.St}
theorem DC.new (c : DC) {a : Addr} (e : c.H0 a = none) : ¬ c.M a := fun m => by
  obtain ⟨xs, h⟩ := c.lst _ a c.w0 m
  rw [e] at h
  cases h
theorem DC.same (c : DC) (s : Same H H') (w : c.W H) : c.W H' := c.stab H H' (fun b o _ e => s b o e) w
theorem DC.fwd (c : DC) (w : c.W H') (k : KpL c.M H H') {a : Addr} (h : H a ≠ none) : H' a ≠ none := fun e => by
  by_cases m : c.M a
  · obtain ⟨xs, z⟩ := c.lst _ a w m
    rw [e] at z
    cases z
  · cases z : H a with
    | none => exact h z
    | some o =>
      rw [k.at_ z m] at e
      cases e
theorem DC.back (c : DC) (w : c.W H') (k : KpL c.M H H') {a : Addr} (e : H' a = none) : H a = none := k.free (fun a m => c.lst _ a w m) e
theorem DH.free (h : DH c S H) {a : Addr} (e : H a = none) : c.H0 a = none := c.back h.w h.k e
theorem DH.notM (h : DH c S H) {a : Addr} (s : S a) : ¬ c.M a := fun m => (h.sub a s).elim (fun z => c.sm0 a z m) fun z => c.new z m
theorem Step.refl : Step c S H S H := ⟨fun _ h => h, KpL.refl, fun _ h => .inl h⟩
theorem Step.trans (a : Step c S H S' H') (w : c.W H') (w2 : c.W H'') (b : Step c S' H' S'' H'') : Step c S H S'' H'' :=
  ⟨fun x h => b.inc x (a.inc x h), a.k.trans b.k, fun x h => (b.new x h).elim (fun z => (a.new x z).elim .inl fun e => .inr ⟨e.1, c.fwd w2 b.k e.2⟩) fun e => .inr ⟨c.back w a.k e.1, e.2⟩⟩
theorem Step.same (s : Same H H') : Step c S H S H' := ⟨fun _ h => h, KpL.of s, fun _ h => .inl h⟩
theorem AvR.step (h : DH c S H) (st : Step c S H S' H') : ∀ {av : Av} {v : V}, AvR c S H av v → AvR c S' H' av v
  | .d x, v, r => Tr.mono st.inc _ _ (Tr.kpl st.k (fun _ s => h.notM s) _ _ r)
  | .v y, v, r => r
  | .o ds, v, ⟨D, xs, e, l, t, n, ns⟩ => ⟨D, xs, e, st.k.at_ l (c.new n), TrAll.mono st.inc _ _ (TrAll.kpl st.k (fun _ s => h.notM s) _ _ t), n, fun s => (st.new D s).elim ns fun z => by have z := z.1; rw [l] at z; cases z⟩
theorem AvsR.step (h : DH c S H) (st : Step c S H S' H') : ∀ {avs : List Av} {vs : List V}, AvsR c S H avs vs → AvsR c S' H' avs vs
  | [], _, e => e
  | a :: r, _, ⟨v, us, e, t, q⟩ => ⟨v, us, e, t.step h st, AvsR.step h st q⟩
theorem GhR.step (h : DH c S H) (st : Step c S H S' H') : ∀ {g : Gh}, GhR S H g → GhR S' H' g
  | .l a vs ds, ⟨s, e, t⟩ => ⟨st.inc _ s, st.k.at_ e (h.notM s), TrAll.mono st.inc _ _ (TrAll.kpl st.k (fun _ s => h.notM s) _ _ t)⟩
  | .t a vs ds, ⟨e, t⟩ => ⟨st.k.tup e, TrAll.mono st.inc _ _ (TrAll.kpl st.k (fun _ s => h.notM s) _ _ t)⟩
theorem DH.step (h : DH c S H) (st : Step c S H S' H') (w : c.W H') : DH c S' H' :=
  ⟨w, h.k.trans st.k, fun a s => (st.new a s).elim (h.sub a) fun e => .inr (h.free e.1), fun a s => (st.new a s).elim (fun z => c.fwd w st.k (h.trk a z)) fun e => e.2⟩
theorem DInv.step (I : DInv c S γ ρ σ H) (st : Step c S H S' H') (w : c.W H') : DInv c S' γ ρ σ H' :=
  ⟨I.h.step st w, fun g m => (I.gh g m).step I.h st, I.len, fun i av e => by obtain ⟨v, h1, h2⟩ := I.ent i av e; exact ⟨v, h1, h2.step I.h st⟩, I.sep⟩
theorem DInv.same (I : DInv c S γ ρ σ H) (s : Same H H') : DInv c S γ ρ σ H' := I.step (Step.same s) (c.same s I.h.w)
/-- a new object -/
theorem Step.newL {p : Addr} {o : HO} (n : H p = none) : Step c S H (fun a => S a ∨ a = p) (upd H p o) :=
  ⟨fun _ h => .inl h, KpL.of (same_upd n), fun a h => h.elim .inl fun e => .inr ⟨e ▸ n, by rw [e, upd_same]; exact fun z => nomatch z⟩⟩
theorem DInv.newO (I : DInv c S γ ρ σ H) {p : Addr} {o : HO} (n : H p = none) : DInv c S γ ρ σ (upd H p o) := I.same (same_upd n)
theorem DInv.newL (I : DInv c S γ ρ σ H) {p : Addr} {o : HO} (n : H p = none) : DInv c (fun a => S a ∨ a = p) γ ρ σ (upd H p o) := I.step (Step.newL n) (c.same (same_upd n) I.h.w)
theorem AvsR.len : ∀ {avs : List Av} {vs : List V}, AvsR c S H avs vs → vs.length = avs.length
  | [], _, e => by cases e; rfl
  | a :: r, _, ⟨v, us, e, _, q⟩ => by subst e; rw [List.length_cons, List.length_cons, q.len]
theorem AvsR.all : ∀ {ds : List PyData} {vs : List V}, AvsR c S H (ds.map Av.d) vs → TrAll S H ds vs
  | [], _, e => e
  | d :: r, _, ⟨v, us, e, t, q⟩ => ⟨v, us, e, t, q.all⟩
theorem DInv.put (I : DInv c S γ ρ σ H) (i : Nat) {av : Av} {v : V} (hi : i < ρ.length) (r : AvR c S H av v) (hs : ∀ ds, av = .o ds → ∀ j es a, j ≠ i → ρ[j]? = some (some (.o es)) → σ[j]? = some (some (.ref a)) → v ≠ .ref a) : DInv c S γ (ρ.set i (some av)) (σ.set i (some v)) H := by
  have hi2 : i < σ.length := I.len ▸ hi
  refine ⟨I.h, I.gh, by rw [List.length_set, List.length_set]; exact I.len, fun j a e => ?_, fun j k ds es a e1 e2 e3 e4 => ?_⟩
  · by_cases h : i = j
    · subst h
      rw [List.getElem?_set_self hi] at e
      cases e
      exact ⟨v, List.getElem?_set_self hi2, r⟩
    · rw [List.getElem?_set_ne h] at e ⊢
      exact I.ent j a e
  · by_cases h : i = j
    · by_cases h2 : i = k
      · omega
      · subst h
        rw [List.getElem?_set_self hi] at e1
        rw [List.getElem?_set_self hi2] at e3
        rw [List.getElem?_set_ne h2] at e2 e4
        cases e1
        cases e3
        exact absurd rfl (hs _ rfl k es a (fun e => h2 e.symm) e2 e4)
    · rw [List.getElem?_set_ne h] at e1 e3
      by_cases h2 : i = k
      · subst h2
        rw [List.getElem?_set_self hi] at e2
        rw [List.getElem?_set_self hi2] at e4
        cases e2
        cases e4
        exact absurd rfl (hs _ rfl j ds a (fun e => h e.symm) e1 e3)
      · rw [List.getElem?_set_ne h2] at e2 e4
        exact I.sep j k ds es a e1 e2 e3 e4
/-- an own list is changed -/
theorem DInv.chg (I : DInv c S γ ρ σ H) {i : Nat} {ds es : List PyData} {D : Addr} {ys : List V} (hi : ρ[i]? = some (some (.o ds))) (hs : σ[i]? = some (some (.ref D))) (t : TrAll S H es ys) :
    DInv c S γ (ρ.set i (some (.o es))) σ (upd H D (.lst ys)) := by
  obtain ⟨v, h1, D', xs, e, l, _, n, ns⟩ := I.ent i _ hi
  rw [hs] at h1
  cases h1
  cases e
  have k2 : KpL (fun a => a = D) H (upd H D (.lst ys)) := KpL.refl.put rfl ⟨_, l⟩
  have no : ∀ a, S a → ¬ a = D := fun a s e => ns (e ▸ s)
  have hl := (List.getElem?_eq_some_iff.mp hi).1
  refine ⟨⟨c.stab H _ (fun b o nb e => ?_) I.h.w, I.h.k.new n, I.h.sub, fun a s => by rw [upd_ne (no a s)]; exact I.h.trk a s⟩, fun g m => ?_, by rw [List.length_set]; exact I.len, fun j a e => ?_, fun j k ds1 es1 a e1 e2 e3 e4 => ?_⟩
  · rw [upd_ne (fun z => nb (by rw [z]; exact n))]
    exact e
  · have h := I.gh g m
    cases g with
    | l a vs ds => exact ⟨h.1, k2.at_ h.2.1 (no _ h.1), TrAll.kpl k2 no _ _ h.2.2⟩
    | t a vs ds => exact ⟨k2.tup h.1, TrAll.kpl k2 no _ _ h.2⟩
  · by_cases h : i = j
    · subst h
      rw [List.getElem?_set_self hl] at e
      cases e
      exact ⟨_, hs, D, ys, rfl, upd_same, TrAll.kpl k2 no _ _ t, n, ns⟩
    · rw [List.getElem?_set_ne h] at e
      obtain ⟨v, h1, h2⟩ := I.ent j a e
      refine ⟨v, h1, ?_⟩
      cases a with
      | d x => exact Tr.kpl k2 no _ _ h2
      | v x => exact h2
      | o xs =>
        obtain ⟨D2, zs, e', l2, t2, n2, ns2⟩ := h2
        subst e'
        exact ⟨D2, zs, rfl, k2.at_ l2 (fun z => h (I.sep i j _ _ D hi e hs (z ▸ h1))), TrAll.kpl k2 no _ _ t2, n2, ns2⟩
  · have fix : ∀ {m : Nat} {ds1 : List PyData}, (ρ.set i (some (.o es)))[m]? = some (some (.o ds1)) → ∃ ds2, ρ[m]? = some (some (.o ds2)) := fun {m ds1} e => by
      by_cases h : i = m
      · subst h
        exact ⟨_, hi⟩
      · rw [List.getElem?_set_ne h] at e
        exact ⟨_, e⟩
    obtain ⟨d1, f1⟩ := fix e1
    obtain ⟨d2, f2⟩ := fix e2
    exact I.sep j k d1 d2 a f1 f2 e3 e4
/-- an own list is no longer changed -/
theorem DInv.frz (I : DInv c S γ ρ σ H) {i : Nat} {ds : List PyData} (hi : ρ[i]? = some (some (.o ds))) : ∃ S', DInv c S' γ (ρ.set i (some (.d (.list ds)))) σ H := by
  obtain ⟨v, h1, D, xs, e, l, t, n, ns⟩ := I.ent i _ hi
  subst e
  have hl := (List.getElem?_eq_some_iff.mp hi).1
  have inc : ∀ a, S a → S a ∨ a = D := fun _ s => .inl s
  refine ⟨fun a => S a ∨ a = D, ⟨I.h.w, I.h.k, fun a s => s.elim (I.h.sub a) fun e => .inr (e ▸ n), fun a s => s.elim (I.h.trk a) fun e => by rw [e, l]; exact fun z => nomatch z⟩, fun g m => ?_, by rw [List.length_set]; exact I.len, fun j a e => ?_, fun j k ds1 es1 a e1 e2 e3 e4 => ?_⟩
  · have h := I.gh g m
    cases g with
    | l a vs ds => exact ⟨.inl h.1, h.2.1, TrAll.mono inc _ _ h.2.2⟩
    | t a vs ds => exact ⟨h.1, TrAll.mono inc _ _ h.2⟩
  · by_cases h : i = j
    · subst h
      rw [List.getElem?_set_self hl] at e
      cases e
      exact ⟨_, h1, D, xs, rfl, .inr rfl, l, TrAll.mono inc _ _ t⟩
    · rw [List.getElem?_set_ne h] at e
      obtain ⟨v, g1, h2⟩ := I.ent j a e
      refine ⟨v, g1, ?_⟩
      cases a with
      | d x => exact Tr.mono inc _ _ h2
      | v x => exact h2
      | o xs =>
        obtain ⟨D2, zs, e', l2, t2, n2, ns2⟩ := h2
        subst e'
        exact ⟨D2, zs, rfl, l2, TrAll.mono inc _ _ t2, n2, fun s => s.elim ns2 fun z => h (I.sep i j _ _ D hi e h1 (z ▸ g1))⟩
  · have back : ∀ {m : Nat} {ds1 : List PyData}, (ρ.set i (some (.d (.list ds))))[m]? = some (some (.o ds1)) → ρ[m]? = some (some (.o ds1)) := fun {m ds1} e => by
      by_cases h : i = m
      · subst h
        rw [List.getElem?_set_self hl] at e
        cases e
      · rw [List.getElem?_set_ne h] at e
        exact e
    exact I.sep j k ds1 es1 a (back e1) (back e2) e3 e4
end
abbrev DE := DEnv → (Av → Prop) → Prop
abbrev DA := DEnv → (List Av → Prop) → Prop
abbrev DT := DEnv → (Bool → Prop) → Prop
abbrev DN := DEnv → (List PyData → Prop) → Prop
def tDE (c : DC) (e : DE) : TE := fun σ H Q => ∃ S γ ρ, DInv c S γ ρ σ H ∧ e ρ fun av => ∀ S' v H', Step c S H S' H' → DInv c S' γ ρ σ H' → AvR c S' H' av v → Q v H'
def tDA (c : DC) (a : DA) : TA := fun σ H Q => ∃ S γ ρ, DInv c S γ ρ σ H ∧ a ρ fun avs => ∀ S' vs H', Step c S H S' H' → DInv c S' γ ρ σ H' → AvsR c S' H' avs vs → Q vs H'
def tDT (c : DC) (t : DT) : TT := fun σ H Q => ∃ S γ ρ, DInv c S γ ρ σ H ∧ t ρ fun b => ∀ S' H', Step c S H S' H' → DInv c S' γ ρ σ H' → Q b H'
/-- a new list -/
def tDN (c : DC) (n : DN) : TE := fun σ H Q => ∃ S γ ρ, DInv c S γ ρ σ H ∧ n ρ fun ds => ∀ S' D xs H', Step c S H S' H' → DInv c S' γ ρ σ H' → H' D = some (.lst xs) → TrAll S' H' ds xs → H D = none → ¬ S' D → Q (.ref D) H'
structure PD (X : Cx) (c : DC) (x : Expr) (e : DE) : Prop where
  run : PE X x (tDE c e)
  mono : ∀ {ρ P P'}, (∀ av, P av → P' av) → e ρ P → e ρ P'
structure PDA (X : Cx) (c : DC) (x : List Expr) (e : DA) : Prop where
  run : PA X x (tDA c e)
  mono : ∀ {ρ P P'}, (∀ av, P av → P' av) → e ρ P → e ρ P'
structure PDT (X : Cx) (c : DC) (x : Expr) (e : DT) : Prop where
  run : PT X x (tDT c e)
  mono : ∀ {ρ P P'}, (∀ av, P av → P' av) → e ρ P → e ρ P'
structure PDW (X : Cx) (c : DC) (x : Expr) (e : DT) : Prop where
  run : PW X x (tDT c e)
  mono : ∀ {ρ P P'}, (∀ av, P av → P' av) → e ρ P → e ρ P'
structure PDN (X : Cx) (c : DC) (x : Expr) (e : DN) : Prop where
  run : PE X x (tDN c e)
  mono : ∀ {ρ P P'}, (∀ av, P av → P' av) → e ρ P → e ρ P'

/-! ### expressions -/
def dName (i : Nat) : DE := fun ρ Q => ∃ av, ρ[i]? = some (some av) ∧ Q av
def dC (d : PyData) : DE := fun _ Q => Q (.d d)
def dNil : DA := fun _ Q => Q []
def dCons (e : DE) (a : DA) : DA := fun ρ Q => e ρ fun x => a ρ fun xs => Q (x :: xs)
def dTup (a : DA) : DE := fun ρ Q => a ρ fun avs => ∃ ds, avs = ds.map Av.d ∧ ds.length ≤ 1000 ∧ Q (.d (.tuple ds))
def nLst (a : DA) : DN := fun ρ Q => a ρ fun avs => ∃ ds, avs = ds.map Av.d ∧ ds.length ≤ 1000 ∧ Q ds
def dFrz (n : DN) : DE := fun ρ Q => n ρ fun ds => Q (.d (.list ds))
def Av.dat : Av → Option PyData
  | .d x => some x
  | .v _ => none
  | .o ds => some (.list ds)
def Av.seq : Av → Option (List PyData)
  | .d (.list ds) => some ds
  | .d (.tuple ds) => some ds
  | .o ds => some ds
  | _ => none
section
variable {X : Cx} {c : DC} {S S' : Addr → Prop} {H H' : Hp} {γ : List Gh} {ρ : DEnv} {σ : L2.St} {x x2 : Expr}
theorem pd_name {i : Nat} (h : PE X x (tVar i)) : PD X c x (dName i) :=
  ⟨pe_weak h fun σ H Q ⟨S, γ, ρ, I, av, e, q⟩ => by obtain ⟨v, h1, h2⟩ := I.ent i av e; exact ⟨v, h1, q S v H Step.refl I h2⟩, fun m ⟨av, e, q⟩ => ⟨av, e, m _ q⟩⟩
/-- a constant -/
theorem pd_c {v : V} {d : PyData} (h : PE X x (tC v)) (hd : ∀ S H, Tr S H d v) : PD X c x (dC d) := ⟨pe_weak h fun σ H Q ⟨S, γ, ρ, I, q⟩ => q S v H Step.refl I (hd S H), fun m q => m _ q⟩
theorem pd_int {i : Int} {j pos} : PD X c (.Constant (.int i) j pos) (dC (.int i)) := pd_c pe_int fun _ _ => rfl
theorem pd_bl {b : Bool} {j pos} : PD X c (.Constant (.bool b) j pos) (dC (.bool b)) := pd_c pe_bl fun _ _ => rfl
theorem pd_non {j pos} : PD X c (.Constant .none j pos) (dC .none) := pd_c pe_non fun _ _ => rfl
theorem pd_str {s : Str} {j pos} : PD X c (.Constant (.str s) j pos) (dC (.str s)) := pd_c pe_str fun _ _ => rfl
theorem pda_nil : PDA X c [] dNil := ⟨pa_weak pa_nil fun σ H Q ⟨S, γ, ρ, I, q⟩ => q S [] H Step.refl I rfl, fun m q => m _ q⟩
theorem pda_cons {es : List Expr} {e : DE} {a : DA} (he : PD X c x e) (ha : PDA X c es a) (hs : starEach (x :: es) X.env = (false, eval x X.env) :: starEach es X.env := by rfl) : PDA X c (x :: es) (dCons e a) :=
  ⟨pa_weak (pa_cons he.run ha.run hs) fun σ H Q ⟨S, γ, ρ, I, q⟩ => ⟨S, γ, ρ, I, he.mono (fun av h S1 v H1 st1 I1 r1 => ⟨S1, γ, ρ, I1, ha.mono (fun avs h2 S2 vs H2 st2 I2 r2 =>
      h2 S2 (v :: vs) H2 (st1.trans I1.h.w I2.h.w st2) I2 ⟨v, vs, rfl, r1.step I1.h st2, r2⟩) h⟩) q⟩, fun m q => he.mono (fun _ h => ha.mono (fun _ h2 => m _ h2) h) q⟩
theorem pd_tup {es : List Expr} {k pos} {a : DA} (ha : PDA X c es a) : PD X c (.Tuple es k pos) (dTup a) :=
  ⟨pe_weak (pe_tup ha.run) fun σ H Q ⟨S, γ, ρ, I, q⟩ => ⟨S, γ, ρ, I, ha.mono (fun avs ⟨ds, e, hl, h⟩ S1 vs H1 st1 I1 r1 => by
    subst e
    have t := r1.all
    refine ⟨small100 (by rw [t.len]; exact hl), fun p np => h S1 (.ref p) _ (st1.trans I1.h.w (I1.newO np).h.w (Step.same (same_upd np))) (I1.newO np) ⟨p, vs, rfl, upd_same, t.same (same_upd np)⟩⟩) q⟩,
   fun m q => ha.mono (fun _ ⟨ds, e, hl, h⟩ => ⟨ds, e, hl, m _ h⟩) q⟩
theorem pn_lst {es : List Expr} {pos} {a : DA} (ha : PDA X c es a) : PDN X c (.List es pos) (nLst a) :=
  ⟨pe_weak (pe_lst ha.run) fun σ H Q ⟨S, γ, ρ, I, q⟩ => ⟨S, γ, ρ, I, ha.mono (fun avs ⟨ds, e, hl, h⟩ S1 vs H1 st1 I1 r1 => by
    subst e
    have t := r1.all
    exact ⟨small100 (by rw [t.len]; exact hl), fun p np => h S1 p vs _ (st1.trans I1.h.w (I1.newO np).h.w (Step.same (same_upd np))) (I1.newO np) upd_same (t.same (same_upd np)) (c.back I1.h.w st1.k np) fun s => I1.h.trk p s np⟩) q⟩,
   fun m q => ha.mono (fun _ ⟨ds, e, hl, h⟩ => ⟨ds, e, hl, m _ h⟩) q⟩
theorem DInv.add {S1 : Addr → Prop} {H1 : Hp} {D : Addr} {xs : List V} (I : DInv c S γ ρ σ H) (I1 : DInv c S1 γ ρ σ H1) (n : H D = none) (e : H1 D = some (.lst xs)) : DInv c (fun a => S1 a ∨ a = D) γ ρ σ H1 := by
  have inc : ∀ a, S1 a → S1 a ∨ a = D := fun _ s => .inl s
  refine ⟨⟨I1.h.w, I1.h.k, fun a s => s.elim (I1.h.sub a) fun z => .inr (I.h.free (z ▸ n)), fun a s => s.elim (I1.h.trk a) fun z => by rw [z, e]; exact fun z => nomatch z⟩, fun g m => ?_, I1.len, fun i av h => ?_, I1.sep⟩
  · have h := I1.gh g m
    cases g with
    | l a vs ds => exact ⟨.inl h.1, h.2.1, TrAll.mono inc _ _ h.2.2⟩
    | t a vs ds => exact ⟨h.1, TrAll.mono inc _ _ h.2⟩
  · obtain ⟨v, h1, h2⟩ := I1.ent i av h
    refine ⟨v, h1, ?_⟩
    cases av with
    | d x => exact Tr.mono inc _ _ h2
    | v x => exact h2
    | o zs =>
      obtain ⟨D2, ys, e', l2, t2, n2, ns2⟩ := h2
      obtain ⟨v', g1, D3, ws, e3, l3, _⟩ := I.ent i _ h
      rw [h1] at g1
      cases g1
      subst e'
      cases e3
      exact ⟨D2, ys, rfl, l2, TrAll.mono inc _ _ t2, n2, fun s => s.elim ns2 fun z => by rw [z, n] at l3; cases l3⟩
theorem Step.add {S1 : Addr → Prop} {H1 : Hp} {D : Addr} {xs : List V} (st : Step c S H S1 H1) (n : H D = none) (e : H1 D = some (.lst xs)) : Step c S H (fun a => S1 a ∨ a = D) H1 :=
  ⟨fun a s => .inl (st.inc a s), st.k, fun a s => s.elim (st.new a) fun z => .inr ⟨z ▸ n, by rw [z, e]; exact fun z => nomatch z⟩⟩
/-- a new list, as data -/
theorem pdn {n : DN} (h : PDN X c x n) : PD X c x (dFrz n) :=
  ⟨pe_weak h.run fun σ H Q ⟨S, γ, ρ, I, q⟩ => ⟨S, γ, ρ, I, h.mono (fun ds g S1 D xs H1 st1 I1 e t n ns => g _ (.ref D) H1 (st1.add n e) (I.add I1 n e) ⟨D, xs, rfl, .inr rfl, e, TrAll.mono (fun _ s => .inl s) _ _ t⟩) q⟩, fun m q => h.mono (fun _ g => m _ g) q⟩
/-! operators -/
def GE (c : DC) (S : Addr → Prop) (γ : List Gh) (ρ : DEnv) (σ : L2.St) (H : Hp) (P : Av → Prop) (Q : VK) : Prop := ∀ av S' w H', P av → Step c S H S' H' → DInv c S' γ ρ σ H' → AvR c S' H' av w → Q w H'
def GN (c : DC) (S : Addr → Prop) (γ : List Gh) (ρ : DEnv) (σ : L2.St) (H : Hp) (P : List PyData → Prop) (Q : VK) : Prop := ∀ ds S' D xs H', P ds → Step c S H S' H' → DInv c S' γ ρ σ H' → H' D = some (.lst xs) → TrAll S' H' ds xs → H D = none → ¬ S' D → Q (.ref D) H'
structure DOp (c : DC) (r : R2) (k : Av → Av → (Av → Prop) → Prop) : Prop where
  run : ∀ {S γ ρ σ H x y v u P Q}, DInv c S γ ρ σ H → AvR c S H x v → AvR c S H y u → k x y P → GE c S γ ρ σ H P Q → r v u H Q
  mono : ∀ {x y P P'}, (∀ av, P av → P' av) → k x y P → k x y P'
structure DOpN (c : DC) (r : R2) (k : Av → Av → (List PyData → Prop) → Prop) : Prop where
  run : ∀ {S γ ρ σ H x y v u P Q}, DInv c S γ ρ σ H → AvR c S H x v → AvR c S H y u → k x y P → GN c S γ ρ σ H P Q → r v u H Q
  mono : ∀ {x y P P'}, (∀ av, P av → P' av) → k x y P → k x y P'
structure DUn (c : DC) (r : V → Hp → VK → Prop) (k : Av → (Av → Prop) → Prop) : Prop where
  run : ∀ {S γ ρ σ H x v P Q}, DInv c S γ ρ σ H → AvR c S H x v → k x P → GE c S γ ρ σ H P Q → r v H Q
  mono : ∀ {x P P'}, (∀ av, P av → P' av) → k x P → k x P'
structure DCl (c : DC) (r : List V → Hp → VK → Prop) (k : List Av → (Av → Prop) → Prop) : Prop where
  run : ∀ {S γ ρ σ H x v P Q}, DInv c S γ ρ σ H → AvsR c S H x v → k x P → GE c S γ ρ σ H P Q → r v H Q
  mono : ∀ {x P P'}, (∀ av, P av → P' av) → k x P → k x P'
structure DClN (c : DC) (r : List V → Hp → VK → Prop) (k : List Av → (List PyData → Prop) → Prop) : Prop where
  run : ∀ {S γ ρ σ H x v P Q}, DInv c S γ ρ σ H → AvsR c S H x v → k x P → GN c S γ ρ σ H P Q → r v H Q
  mono : ∀ {x P P'}, (∀ av, P av → P' av) → k x P → k x P'
def dOp {α : Type} (k : Av → Av → (α → Prop) → Prop) (a b : DE) : DEnv → (α → Prop) → Prop := fun ρ Q => a ρ fun x => b ρ fun y => k x y Q
def dUn {α : Type} (k : Av → (α → Prop) → Prop) (a : DE) : DEnv → (α → Prop) → Prop := fun ρ Q => a ρ fun x => k x Q
def dCl {α : Type} (k : List Av → (α → Prop) → Prop) (a : DA) : DEnv → (α → Prop) → Prop := fun ρ Q => a ρ fun x => k x Q
section
variable {e1 e2 : Expr} {a b : DE} {r : R2}
theorem pd_op {k : Av → Av → (Av → Prop) → Prop} (hp : ∀ {ta tb}, PE X e1 ta → PE X e2 tb → PE X x (tOp r ta tb)) (hk : DOp c r k) (ha : PD X c e1 a) (hb : PD X c e2 b) : PD X c x (dOp k a b) :=
  ⟨pe_weak (hp ha.run hb.run) fun σ H Q ⟨S, γ, ρ, I, q⟩ => ⟨S, γ, ρ, I, ha.mono (fun av h S1 v H1 st1 I1 r1 => ⟨S1, γ, ρ, I1, hb.mono (fun bv h2 S2 u H2 st2 I2 r2 =>
    hk.run I2 (r1.step I1.h st2) r2 h2 fun av S3 w H3 g st3 I3 r3 => g S3 w H3 (st1.trans I1.h.w I3.h.w (st2.trans I2.h.w I3.h.w st3)) I3 r3) h⟩) q⟩,
   fun m q => ha.mono (fun _ h => hb.mono (fun _ h2 => hk.mono m h2) h) q⟩
theorem pn_op {k : Av → Av → (List PyData → Prop) → Prop} (hp : ∀ {ta tb}, PE X e1 ta → PE X e2 tb → PE X x (tOp r ta tb)) (hk : DOpN c r k) (ha : PD X c e1 a) (hb : PD X c e2 b) : PDN X c x (dOp k a b) :=
  ⟨pe_weak (hp ha.run hb.run) fun σ H Q ⟨S, γ, ρ, I, q⟩ => ⟨S, γ, ρ, I, ha.mono (fun av h S1 v H1 st1 I1 r1 => ⟨S1, γ, ρ, I1, hb.mono (fun bv h2 S2 u H2 st2 I2 r2 =>
    hk.run I2 (r1.step I1.h st2) r2 h2 fun ds S3 D xs H3 g st3 I3 e t n ns => g S3 D xs H3 (st1.trans I1.h.w I3.h.w (st2.trans I2.h.w I3.h.w st3)) I3 e t (c.back I1.h.w st1.k (c.back I2.h.w st2.k n)) ns) h⟩) q⟩,
   fun m q => ha.mono (fun _ h => hb.mono (fun _ h2 => hk.mono m h2) h) q⟩
theorem pd_un {r : V → Hp → VK → Prop} {k : Av → (Av → Prop) → Prop} (hp : ∀ {ta}, PE X e1 ta → PE X x (tUn r ta)) (hk : DUn c r k) (ha : PD X c e1 a) : PD X c x (dUn k a) :=
  ⟨pe_weak (hp ha.run) fun σ H Q ⟨S, γ, ρ, I, q⟩ => ⟨S, γ, ρ, I, ha.mono (fun av h S1 v H1 st1 I1 r1 =>
    hk.run I1 r1 h fun av S3 w H3 g st3 I3 r3 => g S3 w H3 (st1.trans I1.h.w I3.h.w st3) I3 r3) q⟩, fun m q => ha.mono (fun _ h => hk.mono m h) q⟩
theorem pd_cl {r : List V → Hp → VK → Prop} {k : List Av → (Av → Prop) → Prop} {es : List Expr} {a : DA} (hp : ∀ {ta}, PA X es ta → PE X x (tCB r ta)) (hk : DCl c r k) (ha : PDA X c es a) : PD X c x (dCl k a) :=
  ⟨pe_weak (hp ha.run) fun σ H Q ⟨S, γ, ρ, I, q⟩ => ⟨S, γ, ρ, I, ha.mono (fun av h S1 v H1 st1 I1 r1 =>
    hk.run I1 r1 h fun av S3 w H3 g st3 I3 r3 => g S3 w H3 (st1.trans I1.h.w I3.h.w st3) I3 r3) q⟩, fun m q => ha.mono (fun _ h => hk.mono m h) q⟩
theorem pn_cl {r : List V → Hp → VK → Prop} {k : List Av → (List PyData → Prop) → Prop} {es : List Expr} {a : DA} (hp : ∀ {ta}, PA X es ta → PE X x (tCB r ta)) (hk : DClN c r k) (ha : PDA X c es a) : PDN X c x (dCl k a) :=
  ⟨pe_weak (hp ha.run) fun σ H Q ⟨S, γ, ρ, I, q⟩ => ⟨S, γ, ρ, I, ha.mono (fun av h S1 v H1 st1 I1 r1 =>
    hk.run I1 r1 h fun ds S3 D xs H3 g st3 I3 e t n ns => g S3 D xs H3 (st1.trans I1.h.w I3.h.w st3) I3 e t (c.back I1.h.w st1.k n) ns) q⟩, fun m q => ha.mono (fun _ h => hk.mono m h) q⟩
/-- as a test -/
def dTest (e : DE) : DT := fun ρ Q => e ρ fun av => ∃ b, av = .d (.bool b) ∧ Q b
theorem pdt_op {k : Av → Av → (Av → Prop) → Prop} (hp : ∀ {ta tb}, PE X e1 ta → PE X e2 tb → PT X x (tTest (tOp r ta tb))) (hk : DOp c r k) (ha : PD X c e1 a) (hb : PD X c e2 b) : PDT X c x (dTest (dOp k a b)) :=
  ⟨pt_weak (hp ha.run hb.run) fun σ H Q ⟨S, γ, ρ, I, q⟩ => ⟨S, γ, ρ, I, ha.mono (fun av h S1 v H1 st1 I1 r1 => ⟨S1, γ, ρ, I1, hb.mono (fun bv h2 S2 u H2 st2 I2 r2 =>
    hk.run I2 (r1.step I1.h st2) r2 h2 fun av S3 w H3 ⟨b, e, g⟩ st3 I3 r3 => by subst e; exact ⟨b, r3, g S3 H3 (st1.trans I1.h.w I3.h.w (st2.trans I2.h.w I3.h.w st3)) I3⟩) h⟩) q⟩,
   fun m q => ha.mono (fun _ h => hb.mono (fun _ h2 => hk.mono (fun _ ⟨b, e, g⟩ => ⟨b, e, m _ g⟩) h2) h) q⟩
theorem pdt_val (hp : ∀ {t}, PE X x t → PT X x (tB t)) (ha : PD X c x a) : PDT X c x (dTest a) :=
  ⟨pt_weak (hp ha.run) fun σ H Q ⟨S, γ, ρ, I, q⟩ => ⟨S, γ, ρ, I, ha.mono (fun av ⟨b, e, g⟩ S1 v H1 st1 I1 r1 => by subst e; exact ⟨b, r1, g S1 H1 st1 I1⟩) q⟩, fun m q => ha.mono (fun _ ⟨b, e, g⟩ => ⟨b, e, m _ g⟩) q⟩
/-- by its truth -/
def truD : Av → Option Bool
  | .d .none => some false
  | .d (.bool b) => some b
  | .d (.int i) => some (i != 0)
  | .d (.list ds) => some !ds.isEmpty
  | .d (.tuple ds) => some !ds.isEmpty
  | .o ds => some !ds.isEmpty
  | _ => none
def dTru (e : DE) : DT := fun ρ Q => e ρ fun av => ∃ b, truD av = some b ∧ Q b
theorem isE {ds : List PyData} {xs : List V} (t : TrAll S H ds xs) : (!xs.isEmpty) = !ds.isEmpty := by
  cases ds with
  | nil => cases t; rfl
  | cons d r => obtain ⟨x, us, e, _⟩ := t; subst e; rfl
theorem tru_of {av : Av} {v : V} {b : Bool} {K : PySem.W.Frag} (r1 : AvR c S H av v) (e : truD av = some b) : TruV K v H b := by
  cases av with
  | v y => cases e
  | o ds =>
    obtain ⟨D, xs, e', l, t, _⟩ := r1
    subst e'
    cases e
    exact .inl ⟨xs, SqL.of l, (isE t).symm⟩
  | d y =>
    cases y with
    | none => cases e; cases r1; exact rfl
    | bool b' => cases e; cases r1; exact rfl
    | int i => cases e; cases r1; exact rfl
    | list ds => obtain ⟨D, xs, e', _, l, t⟩ := r1; subst e'; cases e; exact .inl ⟨xs, SqL.of l, (isE t).symm⟩
    | tuple ds => obtain ⟨D, xs, e', l, t⟩ := r1; subst e'; cases e; exact .inr (.inl ⟨xs, SqT.of l, (isE t).symm⟩)
    | str s => cases e
    | dict s => cases e
theorem pdt_tru (hp : ∀ {t}, PE X x t → PT X x (fun σ H Q => t σ H fun x H' => ∃ k, TruV X.K x H' k ∧ Q k H')) (ha : PD X c x a) : PDT X c x (dTru a) :=
  ⟨pt_weak (hp ha.run) fun σ H Q ⟨S, γ, ρ, I, q⟩ => ⟨S, γ, ρ, I, ha.mono (fun av ⟨b, e, g⟩ S1 v H1 st1 I1 r1 => ⟨b, tru_of r1 e, g S1 H1 st1 I1⟩) q⟩, fun m q => ha.mono (fun _ ⟨b, e, g⟩ => ⟨b, e, m _ g⟩) q⟩
def dtNot (t : DT) : DT := fun ρ Q => t ρ fun b => Q (!b)
def dtAnd (t u : DT) : DT := fun ρ Q => t ρ fun b => if b = true then u ρ Q else Q false
def dtOr (t u : DT) : DT := fun ρ Q => t ρ fun b => if b = true then Q true else u ρ Q
theorem ifMono {A B A' B' : Prop} {b : Bool} (h1 : A → A') (h2 : B → B') (h : if b = true then A else B) : if b = true then A' else B' := by cases b <;> simp_all
theorem pdt_not {t : DT} {pos} (h : PDT X c x t) : PDT X c (.UnaryOp .Not x pos) (dtNot t) :=
  ⟨pt_weak (pt_not h.run) fun σ H Q ⟨S, γ, ρ, I, q⟩ => ⟨S, γ, ρ, I, h.mono (fun _ g => g) q⟩, fun m q => h.mono (fun _ g => m _ g) q⟩
theorem pdw_and1 {t : DT} {pos} (h : PDT X c x t) : PDW X c (.BoolOp .And [x] pos) t := ⟨pw_and1 h.run, h.mono⟩
theorem pdw_or1 {t : DT} {pos} (h : PDT X c x t) : PDW X c (.BoolOp .Or [x] pos) t := ⟨pw_or1 h.run, h.mono⟩
theorem pdw_and {t u : DT} {rest : List Expr} {pos} (h : PDT X c x t) (h2 : PDW X c (.BoolOp .And (x2 :: rest) pos) u) : PDW X c (.BoolOp .And (x :: x2 :: rest) pos) (dtAnd t u) :=
  ⟨pw_weak (pw_and h.run h2.run) fun σ H Q ⟨S, γ, ρ, I, q⟩ => ⟨S, γ, ρ, I, h.mono (fun b g S1 H1 st1 I1 => ifMono (fun g => ⟨S1, γ, ρ, I1, h2.mono (fun b g S2 H2 st2 I2 => g S2 H2 (st1.trans I1.h.w I2.h.w st2) I2) g⟩) (fun g => g S1 H1 st1 I1) g) q⟩,
   fun m q => h.mono (fun b g => ifMono (fun g => h2.mono m g) (m _) g) q⟩
theorem pdw_or {t u : DT} {rest : List Expr} {pos} (h : PDT X c x t) (h2 : PDW X c (.BoolOp .Or (x2 :: rest) pos) u) : PDW X c (.BoolOp .Or (x :: x2 :: rest) pos) (dtOr t u) :=
  ⟨pw_weak (pw_or h.run h2.run) fun σ H Q ⟨S, γ, ρ, I, q⟩ => ⟨S, γ, ρ, I, h.mono (fun b g S1 H1 st1 I1 => ifMono (fun g => g S1 H1 st1 I1) (fun g => ⟨S1, γ, ρ, I1, h2.mono (fun b g S2 H2 st2 I2 => g S2 H2 (st1.trans I1.h.w I2.h.w st2) I2) g⟩) g) q⟩,
   fun m q => h.mono (fun b g => ifMono (m _) (fun g => h2.mono m g) g) q⟩
theorem pdw_t {t : DT} (h : PDW X c x t) : PDT X c x t := ⟨PW.pt h.run, h.mono⟩
/-! as values -/
def deNot (e : DE) : DE := fun ρ Q => e ρ fun av => ∃ b, av = .d (.bool b) ∧ Q (.d (.bool !b))
def deAnd (e f : DE) : DE := fun ρ Q => e ρ fun av => ∃ b, av = .d (.bool b) ∧ if b = true then f ρ Q else Q (.d (.bool false))
def deOr (e f : DE) : DE := fun ρ Q => e ρ fun av => ∃ b, av = .d (.bool b) ∧ if b = true then Q (.d (.bool true)) else f ρ Q
def deIf (t : DT) (e f : DE) : DE := fun ρ Q => t ρ fun b => if b = true then e ρ Q else f ρ Q
theorem pd_not {pos} (h : PD X c x a) : PD X c (.UnaryOp .Not x pos) (deNot a) :=
  ⟨pe_weak (pe_not h.run) fun σ H Q ⟨S, γ, ρ, I, q⟩ => ⟨S, γ, ρ, I, h.mono (fun _ ⟨b, e, g⟩ S1 v H1 st1 I1 r1 => by subst e; exact ⟨b, r1, g S1 _ H1 st1 I1 rfl⟩) q⟩, fun m q => h.mono (fun _ ⟨b, e, g⟩ => ⟨b, e, m _ g⟩) q⟩
theorem pd_one {op pos} (h : PD X c x a) : PD X c (.BoolOp op [x] pos) a := ⟨pe_one h.run, h.mono⟩
theorem pd_and {rest : List Expr} {pos} (h : PD X c x a) (h2 : PD X c (.BoolOp .And (x2 :: rest) pos) b) : PD X c (.BoolOp .And (x :: x2 :: rest) pos) (deAnd a b) :=
  ⟨pe_weak (pe_and h.run h2.run) fun σ H Q ⟨S, γ, ρ, I, q⟩ => ⟨S, γ, ρ, I, h.mono (fun _ ⟨b, e, g⟩ S1 v H1 st1 I1 r1 => by subst e; exact ⟨b, r1, ifMono (fun g => ⟨S1, γ, ρ, I1, h2.mono (fun _ g S2 w H2 st2 I2 r2 => g S2 w H2 (st1.trans I1.h.w I2.h.w st2) I2 r2) g⟩) (fun g => g S1 _ H1 st1 I1 rfl) g⟩) q⟩,
   fun m q => h.mono (fun _ ⟨b, e, g⟩ => ⟨b, e, ifMono (fun g => h2.mono m g) (m _) g⟩) q⟩
theorem pd_or {rest : List Expr} {pos} (h : PD X c x a) (h2 : PD X c (.BoolOp .Or (x2 :: rest) pos) b) : PD X c (.BoolOp .Or (x :: x2 :: rest) pos) (deOr a b) :=
  ⟨pe_weak (pe_or h.run h2.run) fun σ H Q ⟨S, γ, ρ, I, q⟩ => ⟨S, γ, ρ, I, h.mono (fun _ ⟨b, e, g⟩ S1 v H1 st1 I1 r1 => by subst e; exact ⟨b, r1, ifMono (fun g => g S1 _ H1 st1 I1 rfl) (fun g => ⟨S1, γ, ρ, I1, h2.mono (fun _ g S2 w H2 st2 I2 r2 => g S2 w H2 (st1.trans I1.h.w I2.h.w st2) I2 r2) g⟩) g⟩) q⟩,
   fun m q => h.mono (fun _ ⟨b, e, g⟩ => ⟨b, e, ifMono (m _) (fun g => h2.mono m g) g⟩) q⟩
theorem pd_if {t : DT} {x3 : Expr} {pos} (h : PDT X c x t) (h1 : PD X c x2 a) (h2 : PD X c x3 b) : PD X c (.IfExp x x2 x3 pos) (deIf t a b) :=
  ⟨pe_weak (pe_ifExp h.run h1.run h2.run) fun σ H Q ⟨S, γ, ρ, I, q⟩ => ⟨S, γ, ρ, I, h.mono (fun b g S1 H1 st1 I1 => ifMono (fun g => ⟨S1, γ, ρ, I1, h1.mono (fun _ g S2 w H2 st2 I2 r2 => g S2 w H2 (st1.trans I1.h.w I2.h.w st2) I2 r2) g⟩) (fun g => ⟨S1, γ, ρ, I1, h2.mono (fun _ g S2 w H2 st2 I2 r2 => g S2 w H2 (st1.trans I1.h.w I2.h.w st2) I2 r2) g⟩) g) q⟩,
   fun m q => h.mono (fun _ g => ifMono (fun g => h1.mono m g) (fun g => h2.mono m g) g) q⟩
end
end

/-! ### operators by data -/
def cutL {α : Type} (xs : List α) (lo hi : Option Int) : List α := (xs.drop (HT.sIx xs.length 0 lo)).take (HT.sIx xs.length xs.length hi - HT.sIx xs.length 0 lo)
def kI (C : Int → Int → Prop) (g : Int → Int → PyData) : Av → Av → (Av → Prop) → Prop := fun x y Q => ∃ i j, x = .d (.int i) ∧ y = .d (.int j) ∧ C i j ∧ Q (.d (g i j))
def kI0 (g : Int → Int → PyData) : Av → Av → (Av → Prop) → Prop := fun x y Q => ∃ i j, x = .d (.int i) ∧ y = .d (.int j) ∧ Q (.d (g i j))
def kU (g : Int → PyData) : Av → (Av → Prop) → Prop := fun x Q => ∃ i, x = .d (.int i) ∧ Q (.d (g i))
def kEq : Av → Av → (Av → Prop) → Prop := fun x y Q => ∃ d e, x.dat = some d ∧ y.dat = some e ∧ SeqAt.shaped d = true ∧ SeqAt.shaped e = true ∧ Q (.d (.bool (PyData.eqv d e)))
def kNe : Av → Av → (Av → Prop) → Prop := fun x y Q => ∃ d e, x.dat = some d ∧ y.dat = some e ∧ SeqAt.shaped d = true ∧ SeqAt.shaped e = true ∧ Q (.d (.bool (!PyData.eqv d e)))
def kIn : Av → Av → (Av → Prop) → Prop := fun x y Q => ∃ d ds, x.dat = some d ∧ y.seq = some ds ∧ SeqAt.shaped d = true ∧ SeqAt.shaped (.list ds) = true ∧ Q (.d (.bool (ds.any fun z => PyData.eqv z d)))
def kNotIn : Av → Av → (Av → Prop) → Prop := fun x y Q => ∃ d ds, x.dat = some d ∧ y.seq = some ds ∧ SeqAt.shaped d = true ∧ SeqAt.shaped (.list ds) = true ∧ Q (.d (.bool (!ds.any fun z => PyData.eqv z d)))
def isNo : PyData → Bool
  | .none => true
  | _ => false
def kIsN : Av → Av → (Av → Prop) → Prop := fun x y Q => ∃ d, x = .d d ∧ y = .d .none ∧ Q (.d (.bool (isNo d)))
def kNotN : Av → Av → (Av → Prop) → Prop := fun x y Q => ∃ d, x = .d d ∧ y = .d .none ∧ Q (.d (.bool (!isNo d)))
def kIx : Av → Av → (Av → Prop) → Prop := fun x y Q => ∃ ds i d, x.seq = some ds ∧ y = .d (.int i) ∧ atI ds i = some d ∧ Q (.d d)
def kCat : Av → Av → (List PyData → Prop) → Prop := fun x y Q => ∃ ds es, x.dat = some (.list ds) ∧ y.dat = some (.list es) ∧ ds.length + es.length ≤ 1000 ∧ Q (ds ++ es)
def kCatT : Av → Av → (Av → Prop) → Prop := fun x y Q => ∃ ds es, x = .d (.tuple ds) ∧ y = .d (.tuple es) ∧ ds.length + es.length ≤ 1000 ∧ Q (.d (.tuple (ds ++ es)))
def kCatS : Av → Av → (Av → Prop) → Prop := fun x y Q => ∃ s t : Str, x = .d (.str s) ∧ y = .d (.str t) ∧ s.length + t.length ≤ sizeLine ∧ Q (.d (.str (s ++ t)))
def kLen : List Av → (Av → Prop) → Prop := fun xs Q => ∃ x ds, xs = [x] ∧ x.seq = some ds ∧ Q (.d (.int ds.length))
def kInt : List Av → (Av → Prop) → Prop := fun xs Q => (∃ i, xs = [.d (.int i)] ∧ Q (.d (.int i))) ∨ ∃ b, xs = [.d (.bool b)] ∧ Q (.d (.int (if b then 1 else 0)))
def kListOf : List Av → (List PyData → Prop) → Prop := fun xs Q => ∃ x ds, xs = [x] ∧ x.seq = some ds ∧ Q ds
def kTupOf : List Av → (Av → Prop) → Prop := fun xs Q => ∃ x ds, xs = [x] ∧ x.dat = some (.list ds) ∧ Q (.d (.tuple ds))
def kAll : List Av → (Av → Prop) → Prop := fun xs Q => ∃ (x : Av) (bs : List Bool), xs = [x] ∧ x.dat = some (.list (bs.map PyData.bool)) ∧ Q (.d (.bool (bs.all id)))
def kAny : List Av → (Av → Prop) → Prop := fun xs Q => ∃ (x : Av) (bs : List Bool), xs = [x] ∧ x.dat = some (.list (bs.map PyData.bool)) ∧ Q (.d (.bool (bs.any id)))
def kSum : List Av → (Av → Prop) → Prop := fun xs Q => ∃ (x : Av) (ns : List Int), xs = [x] ∧ x.dat = some (.list (ns.map PyData.int)) ∧ Q (.d (.int ns.sum))
section
variable {K : PySem.W.Frag} {c : DC} {S S' : Addr → Prop} {H H' : Hp} {γ : List Gh} {ρ : DEnv} {σ : L2.St}
theorem AvR.dat_tr {x : Av} {v : V} {d : PyData} (r : AvR c S H x v) (e : x.dat = some d) : ∃ S1, Tr S1 H d v := by
  cases x with
  | d y => cases e; exact ⟨S, r⟩
  | v y => cases e
  | o ds =>
    cases e
    obtain ⟨D, xs, e, l, t, _⟩ := r
    exact ⟨fun _ => True, D, xs, e, True.intro, l, TrAll.mono (fun _ _ => True.intro) _ _ t⟩
theorem AvR.dp {x : Av} {v : V} {d : PyData} (r : AvR c S H x v) (e : x.dat = some d) (h : SeqAt.shaped d = true) : Dp K H v d := by
  obtain ⟨S1, t⟩ := r.dat_tr e
  exact Tr.dp d v (SeqAt.canLay_of_shaped h) t
theorem AvR.seq {x : Av} {v : V} {ds : List PyData} (r : AvR c S H x v) (e : x.seq = some ds) : ∃ a xs, v = .ref a ∧ (H a = some (.lst xs) ∨ H a = some (.tup xs)) ∧ TrAll S H ds xs := by
  cases x with
  | v y => cases e
  | o es =>
    cases e
    obtain ⟨D, xs, e, l, t, _⟩ := r
    exact ⟨D, xs, e, .inl l, t⟩
  | d y =>
    cases y with
    | list es => cases e; obtain ⟨D, xs, e, _, l, t⟩ := r; exact ⟨D, xs, e, .inl l, t⟩
    | tuple es => cases e; obtain ⟨D, xs, e, l, t⟩ := r; exact ⟨D, xs, e, .inr l, t⟩
    | _ => cases e
theorem AvR.lst {x : Av} {v : V} {ds : List PyData} (r : AvR c S H x v) (e : x.dat = some (.list ds)) : ∃ a xs, v = .ref a ∧ H a = some (.lst xs) ∧ TrAll S H ds xs := by
  cases x with
  | v y => cases e
  | o es => cases e; obtain ⟨D, xs, e, l, t, _⟩ := r; exact ⟨D, xs, e, l, t⟩
  | d y => cases e; obtain ⟨D, xs, e, _, l, t⟩ := r; exact ⟨D, xs, e, l, t⟩
theorem AvR.tup {v : V} {ds : List PyData} (r : AvR c S H (.d (.tuple ds)) v) : ∃ a xs, v = .ref a ∧ H a = some (.tup xs) ∧ TrAll S H ds xs := by
  obtain ⟨D, xs, e, l, t⟩ := r
  exact ⟨D, xs, e, l, t⟩
theorem sqv {a : Addr} {xs : List V} (h : H a = some (.lst xs) ∨ H a = some (.tup xs)) : SqL K H a xs ∨ SqT K H a xs := h.elim (fun h => .inl (SqL.of h)) fun h => .inr (SqT.of h)
theorem TrAll.atI {ds : List PyData} {xs : List V} {i : Int} {d : PyData} (t : TrAll S H ds xs) (e : atI ds i = some d) : ∃ x, atI xs i = some x ∧ Tr S H d x := by
  unfold L2.atI at e ⊢
  rw [t.len]
  cases hn : ixN ds.length i with
  | none => rw [hn] at e; cases e
  | some j =>
    rw [hn] at e
    obtain ⟨x, h1, h2⟩ := t.get' (i := j) e
    exact ⟨x, h1, h2⟩
theorem TrAll.bools : ∀ {bs : List Bool} {us : List V}, TrAll S H (bs.map PyData.bool) us → us = bs.map V.bl
  | [], us, h => h
  | n :: r, us, ⟨x, q, e, t, h⟩ => by
    cases t
    rw [e, h.bools]
    rfl
theorem dk_rI0 {g : Int → Int → V} {gd : Int → Int → PyData} (hg : ∀ i j S H, Tr S H (gd i j) (g i j)) : DOp c (rI0 g) (kI0 gd) :=
  ⟨fun I rx ry ⟨i, j, e1, e2, q⟩ g => by subst e1 e2; exact ⟨i, j, rx, ry, g _ _ _ _ q Step.refl I (hg i j _ _)⟩, fun m ⟨i, j, e1, e2, q⟩ => ⟨i, j, e1, e2, m _ q⟩⟩
theorem dk_rI {C : Int → Int → Prop} {g : Int → Int → V} {gd : Int → Int → PyData} (hg : ∀ i j S H, Tr S H (gd i j) (g i j)) : DOp c (rI C g) (kI C gd) :=
  ⟨fun I rx ry ⟨i, j, e1, e2, hc, q⟩ g => by subst e1 e2; exact ⟨i, j, rx, ry, hc, g _ _ _ _ q Step.refl I (hg i j _ _)⟩, fun m ⟨i, j, e1, e2, hc, q⟩ => ⟨i, j, e1, e2, hc, m _ q⟩⟩
theorem dk_i0 {g : Int → Int → Int} : DOp c (rI0 fun i j => .int (g i j)) (kI0 fun i j => .int (g i j)) := dk_rI0 fun _ _ _ _ => rfl
theorem dk_b0 {g : Int → Int → Bool} : DOp c (rI0 fun i j => .bl (g i j)) (kI0 fun i j => .bool (g i j)) := dk_rI0 fun _ _ _ _ => rfl
theorem dk_i {C : Int → Int → Prop} {g : Int → Int → Int} : DOp c (rI C fun i j => .int (g i j)) (kI C fun i j => .int (g i j)) := dk_rI fun _ _ _ _ => rfl
theorem dk_u {g : Int → Int} : DUn c (rU fun i => .int (g i)) (kU fun i => .int (g i)) := ⟨fun I rx ⟨i, e, q⟩ g => by subst e; exact ⟨i, rx, g _ _ _ _ q Step.refl I rfl⟩, fun m ⟨i, e, q⟩ => ⟨i, e, m _ q⟩⟩
theorem dk_eq : DOp c (rEqD K) kEq := ⟨fun I rx ry ⟨d, e, h1, h2, s1, s2, q⟩ g => ⟨d, e, rx.dp h1 s1, ry.dp h2 s2, s1, s2, g _ _ _ _ q Step.refl I rfl⟩, fun m ⟨d, e, h1, h2, s1, s2, q⟩ => ⟨d, e, h1, h2, s1, s2, m _ q⟩⟩
theorem dk_ne : DOp c (rNeD K) kNe := ⟨fun I rx ry ⟨d, e, h1, h2, s1, s2, q⟩ g => ⟨d, e, rx.dp h1 s1, ry.dp h2 s2, s1, s2, g _ _ _ _ q Step.refl I rfl⟩, fun m ⟨d, e, h1, h2, s1, s2, q⟩ => ⟨d, e, h1, h2, s1, s2, m _ q⟩⟩
theorem sh_lt {ds : List PyData} (h : SeqAt.shaped (.list ds) = true) : SeqAt.shaped (.tuple ds) = true := by
  simpa [SeqAt.shaped, PyData.canLay0, PyData.depth] using h
def rInA (K : PySem.W.Frag) : R2 := fun x y H Q => rInD K x y H Q ∨ rInDT K x y H Q
def rNotInDT (K : PySem.W.Frag) : R2 := fun x y H Q => ∃ d ds, Dp K H x d ∧ Dp K H y (.tuple ds) ∧ SeqAt.shaped d = true ∧ SeqAt.shaped (.tuple ds) = true ∧ Q (.bl (!ds.any fun z => PyData.eqv z d)) H
theorem in_dp {av : Av} {v : V} {ds : List PyData} (r : AvR c S H av v) (e : av.seq = some ds) (h : SeqAt.shaped (.list ds) = true) : Dp K H v (.list ds) ∨ Dp K H v (.tuple ds) := by
  cases av with
  | v y => cases e
  | o es => cases e; exact .inl (r.dp rfl h)
  | d y =>
    cases y with
    | list es => cases e; exact .inl (r.dp rfl h)
    | tuple es => cases e; exact .inr (r.dp rfl (sh_lt h))
    | _ => cases e
theorem dk_in : DOp c (rInA K) kIn := ⟨fun I rx ry ⟨d, ds, h1, h2, s1, s2, q⟩ g => (in_dp ry h2 s2).elim (fun z => .inl ⟨d, ds, rx.dp h1 s1, z, s1, s2, g _ _ _ _ q Step.refl I rfl⟩) fun z => .inr ⟨d, ds, rx.dp h1 s1, z, s1, sh_lt s2, g _ _ _ _ q Step.refl I rfl⟩,
  fun m ⟨d, e, h1, h2, s1, s2, q⟩ => ⟨d, e, h1, h2, s1, s2, m _ q⟩⟩
theorem isNo_tr {d : PyData} {v : V} (t : Tr S H d v) : decide (v = .non) = isNo d := by
  cases d with
  | none => cases t; rfl
  | bool b => cases t; rfl
  | int b => cases t; rfl
  | str b => cases t; rfl
  | list b => obtain ⟨_, _, e, _⟩ := t; subst e; rfl
  | tuple b => obtain ⟨_, _, e, _⟩ := t; subst e; rfl
  | dict b => obtain ⟨_, _, e, _⟩ := t; subst e; rfl
theorem dk_isN : DOp c (fun x y H Q => y = .non ∧ Q (.bl (decide (x = .non))) H) kIsN := ⟨fun I rx ry ⟨d, e1, e2, q⟩ g => by subst e1 e2; exact ⟨ry, by rw [isNo_tr rx]; exact g _ _ _ _ q Step.refl I rfl⟩, fun m ⟨d, e1, e2, q⟩ => ⟨d, e1, e2, m _ q⟩⟩
theorem dk_notN : DOp c (fun x y H Q => y = .non ∧ Q (.bl (!decide (x = .non))) H) kNotN := ⟨fun I rx ry ⟨d, e1, e2, q⟩ g => by subst e1 e2; exact ⟨ry, by rw [isNo_tr rx]; exact g _ _ _ _ q Step.refl I rfl⟩, fun m ⟨d, e1, e2, q⟩ => ⟨d, e1, e2, m _ q⟩⟩
theorem dk_ix : DOp c (rIx K) kIx := ⟨fun I rx ry ⟨ds, i, d, h1, h2, h3, q⟩ g => by
    subst h2
    obtain ⟨a, xs, e, h, t⟩ := rx.seq h1
    obtain ⟨x, hx, tx⟩ := t.atI h3
    exact h.elim (fun h => .inl ⟨a, xs, i, x, e, ry, SqL.of h, hx, g _ _ _ _ q Step.refl I tx⟩) fun h => .inr (.inl ⟨a, xs, i, x, e, ry, SqT.of h, hx, g _ _ _ _ q Step.refl I tx⟩),
  fun m ⟨ds, i, d, h1, h2, h3, q⟩ => ⟨ds, i, d, h1, h2, h3, m _ q⟩⟩
/-- a new list at a free place -/
theorem GN.at {ρ : DEnv} {P : List PyData → Prop} {Q : VK} (g : GN c S γ ρ σ H P Q) (I : DInv c S γ ρ σ H) {ds : List PyData} {xs : List V} {p : Addr} (q : P ds) (t : TrAll S H ds xs) (np : H p = none) : Q (.ref p) (upd H p (.lst xs)) :=
  g ds S p xs _ q (Step.same (same_upd np)) (I.newO np) upd_same (t.same (same_upd np)) np fun s => I.h.trk p s np
theorem GE.tup {ρ : DEnv} {P : Av → Prop} {Q : VK} (g : GE c S γ ρ σ H P Q) (I : DInv c S γ ρ σ H) {ds : List PyData} {xs : List V} {p : Addr} (q : P (.d (.tuple ds))) (t : TrAll S H ds xs) (np : H p = none) : Q (.ref p) (upd H p (.tup xs)) :=
  g _ S (.ref p) _ q (Step.same (same_upd np)) (I.newO np) ⟨p, xs, rfl, upd_same, t.same (same_upd np)⟩
theorem dk_cat : DOpN c rCat kCat := ⟨fun I rx ry ⟨ds, es, h1, h2, hl, q⟩ g => by
    obtain ⟨a, xs, e, l, t⟩ := rx.lst h1
    obtain ⟨b, ys, e2, l2, t2⟩ := ry.lst h2
    exact ⟨a, b, xs, ys, e, e2, l, l2, small100 (by rw [t.len, t2.len]; exact hl), fun p np => g.at I q (t.append t2) np⟩,
  fun m ⟨ds, es, h1, h2, hl, q⟩ => ⟨ds, es, h1, h2, hl, m _ q⟩⟩
theorem dk_catT : DOp c (rCatA K) kCatT := ⟨fun I rx ry ⟨ds, es, h1, h2, hl, q⟩ g => by
    subst h1 h2
    obtain ⟨a, xs, e, l, t⟩ := rx.tup
    obtain ⟨b, ys, e2, l2, t2⟩ := ry.tup
    have lx := t.len
    have ly := t2.len
    refine ⟨a, b, xs, ys, e, e2, SqT.of l, SqT.of l2, small100 (by rw [t.len, t2.len]; exact hl), fun z => ?_, fun _ z => ?_, fun _ _ p np => g.tup I q (t.append t2) np⟩
    · subst z
      have : ds = [] := List.length_eq_zero_iff.mp lx.symm
      subst this
      exact g _ _ _ _ q Step.refl I ⟨b, ys, rfl, l2, t2⟩
    · subst z
      have : es = [] := List.length_eq_zero_iff.mp ly.symm
      subst this
      rw [List.append_nil] at q
      exact g _ _ _ _ q Step.refl I ⟨a, xs, rfl, l, t⟩,
  fun m ⟨ds, es, h1, h2, hl, q⟩ => ⟨ds, es, h1, h2, hl, m _ q⟩⟩
theorem dk_catS : DOp c (fun x y H Q => ∃ i j : Str, x = .str i ∧ y = .str j ∧ i.length + j.length ≤ sizeLine ∧ Q (.str (i ++ j)) H) kCatS :=
  ⟨fun I rx ry ⟨s, t, h1, h2, hl, q⟩ g => by subst h1 h2; exact ⟨s, t, rx, ry, hl, g _ _ _ _ q Step.refl I rfl⟩, fun m ⟨s, t, h1, h2, hl, q⟩ => ⟨s, t, h1, h2, hl, m _ q⟩⟩
theorem AvsR.one {x : Av} {vs : List V} (r : AvsR c S H [x] vs) : ∃ v, vs = [v] ∧ AvR c S H x v := by
  obtain ⟨v, us, e, r1, r2⟩ := r
  cases r2
  exact ⟨v, e, r1⟩
theorem dk_len : DCl c (rLenA K) kLen := ⟨fun I r ⟨x, ds, e, h, q⟩ g => by
    subst e
    obtain ⟨v, e2, r1⟩ := r.one
    subst e2
    obtain ⟨a, xs, e, h, t⟩ := r1.seq h
    subst e
    exact ⟨a, xs, rfl, sqv h, by rw [t.len]; exact g _ _ _ _ q Step.refl I rfl⟩,
  fun m ⟨x, ds, e, h, q⟩ => ⟨x, ds, e, h, m _ q⟩⟩
theorem dk_int : DCl c (fun xs H Q => (∃ i, xs = [V.int i] ∧ Q (.int i) H) ∨ ∃ k : Bool, xs = [.bl k] ∧ Q (.int (if k then 1 else 0)) H) kInt := ⟨fun I r h g => by
    rcases h with ⟨i, e, q⟩ | ⟨b, e, q⟩
    · subst e
      obtain ⟨v, e2, r1⟩ := r.one
      subst e2
      cases r1
      exact .inl ⟨i, rfl, g _ _ _ _ q Step.refl I rfl⟩
    · subst e
      obtain ⟨v, e2, r1⟩ := r.one
      subst e2
      cases r1
      exact .inr ⟨b, rfl, g _ _ _ _ q Step.refl I rfl⟩,
  fun m h => h.elim (fun ⟨i, e, q⟩ => .inl ⟨i, e, m _ q⟩) fun ⟨i, e, q⟩ => .inr ⟨i, e, m _ q⟩⟩
theorem dk_listOf : DClN c (rListL K) kListOf := ⟨fun I r ⟨x, ds, e, h, q⟩ g => by
    subst e
    obtain ⟨v, e2, r1⟩ := r.one
    subst e2
    obtain ⟨a, xs, e, h, t⟩ := r1.seq h
    subst e
    exact ⟨a, xs, rfl, sqv h, fun p np => g.at I q t np⟩,
  fun m ⟨x, ds, e, h, q⟩ => ⟨x, ds, e, h, m _ q⟩⟩
theorem dk_tupOf : DCl c (rTupL K) kTupOf := ⟨fun I r ⟨x, ds, e, h, q⟩ g => by
    subst e
    obtain ⟨v, e2, r1⟩ := r.one
    subst e2
    obtain ⟨a, xs, e, h, t⟩ := r1.lst h
    subst e
    exact ⟨a, xs, rfl, SqL.of h, fun p np => g.tup I q t np⟩,
  fun m ⟨x, ds, e, h, q⟩ => ⟨x, ds, e, h, m _ q⟩⟩
theorem dk_all : DCl c (rAll K) kAll := ⟨fun I r ⟨x, bs, e, h, q⟩ g => by
    subst e
    obtain ⟨v, e2, r1⟩ := r.one
    subst e2
    obtain ⟨a, xs, e, h, t⟩ := r1.lst h
    subst e
    exact ⟨a, bs, rfl, by rw [← t.bools]; exact SqL.of h, g _ _ _ _ q Step.refl I rfl⟩,
  fun m ⟨x, ds, e, h, q⟩ => ⟨x, ds, e, h, m _ q⟩⟩
theorem dk_any : DCl c (rAny K) kAny := ⟨fun I r ⟨x, bs, e, h, q⟩ g => by
    subst e
    obtain ⟨v, e2, r1⟩ := r.one
    subst e2
    obtain ⟨a, xs, e, h, t⟩ := r1.lst h
    subst e
    exact ⟨a, bs, rfl, by rw [← t.bools]; exact SqL.of h, g _ _ _ _ q Step.refl I rfl⟩,
  fun m ⟨x, ds, e, h, q⟩ => ⟨x, ds, e, h, m _ q⟩⟩
theorem dk_sum : DCl c (rSum K) kSum := ⟨fun I r ⟨x, bs, e, h, q⟩ g => by
    subst e
    obtain ⟨v, e2, r1⟩ := r.one
    subst e2
    obtain ⟨a, xs, e, h, t⟩ := r1.lst h
    subst e
    exact ⟨a, bs, rfl, by rw [← t.ints]; exact SqL.of h, g _ _ _ _ q Step.refl I rfl⟩,
  fun m ⟨x, ds, e, h, q⟩ => ⟨x, ds, e, h, m _ q⟩⟩
end
section
variable (K : PySem.W.Frag) {X : Cx}
theorem k_catA (hK : X.K = K := by rfl) : OpR X (binaryOp .Add) (rCatA K) := hK ▸ op_catA
theorem k_slA (hK : X.K = K := by rfl) : SlR X (rSlA K) := hK ▸ sl_tupA
theorem k_any (hK : X.K = K := by rfl) (hc : X.calm = true := by rfl) : CallR X (.builtin "any") (rAny K) := hK ▸ cr_any hc
theorem OpR.or {f : Value → Value → Sem Value} {r r' : R2} (h : OpR X f r) (h' : OpR X f r') : OpR X f (fun x y H Q => r x y H Q ∨ r' x y H Q) := fun pins s σ H x y v u Q I rx ry q => q.elim (h pins s σ H x y v u Q I rx ry) (h' pins s σ H x y v u Q I rx ry)
theorem k_inA (hu : X.A.units + 65 < cLine) (hK : X.K = K := by rfl) : OpR X (compareOp .In) (rInA K) := OpR.or (k_inD K hu hK) (k_inDT K hu hK)
end

--SPLIT
/-! ### targets, comprehensions, statements -/
def dwipe (ρ : DEnv) : List Nat → DEnv
  | [] => ρ
  | v :: vs => (dwipe ρ vs).set v none
theorem dwipe_len (ρ : DEnv) : ∀ vs, (dwipe ρ vs).length = ρ.length
  | [] => rfl
  | v :: vs => by rw [dwipe, List.length_set, dwipe_len ρ vs]
theorem dwipe_get : ∀ {vs : List Nat} {ρ : DEnv} {i : Nat} {x : Av}, (dwipe ρ vs)[i]? = some (some x) → ρ[i]? = some (some x) ∧ i ∉ vs
  | [], ρ, i, x, h => ⟨h, by simp⟩
  | v :: vs, ρ, i, x, h => by
    rw [dwipe] at h
    by_cases e : v = i
    · subst e
      by_cases hl : v < (dwipe ρ vs).length
      · rw [List.getElem?_set_self hl] at h
        cases h
      · rw [List.getElem?_eq_none (by rw [List.length_set]; omega)] at h
        cases h
    · rw [List.getElem?_set_ne e] at h
      obtain ⟨h1, h2⟩ := dwipe_get h
      exact ⟨h1, fun z => (List.mem_cons.mp z).elim (fun z => e z.symm) h2⟩
abbrev DG := PyData → DEnv → (DEnv → Prop) → Prop
abbrev DGs := List PyData → DEnv → (DEnv → Prop) → Prop
def dgName (i : Nat) : DG := fun d ρ Q => Q (ρ.set i (some (.d d)))
def dgNil : DGs := fun ds ρ Q => ds = [] ∧ Q ρ
def dgCons (g : DG) (gs : DGs) : DGs := fun ds ρ Q => ∃ x r, ds = x :: r ∧ g x ρ fun ρ' => gs r ρ' Q
def dgTup (n : Nat) (gs : DGs) : DG := fun d ρ Q => ∃ ds, d = .tuple ds ∧ ds.length = n ∧ gs ds ρ Q
def dgLst (n : Nat) (gs : DGs) : DG := fun d ρ Q => ∃ ds, d = .list ds ∧ ds.length = n ∧ gs ds ρ Q
def tDG (c : DC) (vs : List Nat) (g : DG) : TG := fun v σ H Q => ∃ S γ ρ d, DInv c S γ ρ σ H ∧ Tr S H d v ∧ g d ρ fun ρ' => ∀ σ', wipe σ' vs = wipe σ vs → DInv c S γ ρ' σ' H → Q σ' H
def tDGs (c : DC) (vs : List Nat) (g : DGs) : TGs := fun us σ H Q => ∃ S γ ρ ds, DInv c S γ ρ σ H ∧ TrAll S H ds us ∧ g ds ρ fun ρ' => ∀ σ', wipe σ' vs = wipe σ vs → DInv c S γ ρ' σ' H → Q σ' H
structure PDG (X : Cx) (c : DC) (vs : List Nat) (x : Expr) (g : DG) : Prop where
  run : PG X x (tDG c vs g)
  mono : ∀ {d ρ P P'}, (∀ ρ, P ρ → P' ρ) → g d ρ P → g d ρ P'
structure PDGs (X : Cx) (c : DC) (vs : List Nat) (x : List Expr) (g : DGs) : Prop where
  run : PGs X x (tDGs c vs g)
  mono : ∀ {d ρ P P'}, (∀ ρ, P ρ → P' ρ) → g d ρ P → g d ρ P'
structure PDTs (X : Cx) (c : DC) (x : List Expr) (e : DT) : Prop where
  run : PTs X x (tDT c e)
  mono : ∀ {ρ P P'}, (∀ av, P av → P' av) → e ρ P → e ρ P'
structure DWalk (c : DC) (J : It) (gs : List Gh) (ds : List PyData) : Prop where
  ex : ∃ G Y, Walk J ds.length G Y ∧ (∀ S H, DH c S H → (∀ g ∈ gs, GhR S H g) → G H) ∧ ∀ i S H v H', DH c S H → (∀ g ∈ gs, GhR S H g) → i < ds.length → Y i H v H' → ∃ d, ds[i]? = some d ∧ Same H H' ∧ Tr S H' d v
structure PDI (X : Cx) (c : DC) (tg iter : Expr) (wi : TI) (xs : DN) : Prop where
  pi : PI X tg iter wi
  run : ∀ {S γ ρ σ H P R}, DInv c S γ ρ σ H → xs ρ P → (∀ ds S' H' J gs, P ds → Step c S H S' H' → DInv c S' γ ρ σ H' → (∀ g ∈ gs, GhR S' H' g) → DWalk c J gs ds → R J H') → wi σ H R
  mono : ∀ {ρ P P'}, (∀ av, P av → P' av) → xs ρ P → xs ρ P'
structure DEnds where
  nx : DEnv → Prop
  rt : Av → Prop
  bk : DEnv → Prop
  ct : DEnv → Prop
structure DEnds.Le (E E' : DEnds) : Prop where
  nx : ∀ ρ, E.nx ρ → E'.nx ρ
  rt : ∀ a, E.rt a → E'.rt a
  bk : ∀ ρ, E.bk ρ → E'.bk ρ
  ct : ∀ ρ, E.ct ρ → E'.ct ρ
abbrev DS := DEnds → DEnv → Prop
def dends (c : DC) (γ : List Gh) (D : Ends) : DEnds :=
  ⟨fun ρ => ∀ S σ H, DInv c S γ ρ σ H → D.nx σ H, fun av => ∀ S v H, DH c S H → AvR c S H av v → D.rt v H, fun ρ => ∀ S σ H, DInv c S γ ρ σ H → D.bk σ H, fun ρ => ∀ S σ H, DInv c S γ ρ σ H → D.ct σ H⟩
def tDS (c : DC) (s : DS) : TS := fun D σ H => ∃ S γ ρ, DInv c S γ ρ σ H ∧ s (dends c γ D) ρ
structure PDS (X : Cx) (c : DC) (x : Stmt) (s : DS) : Prop where
  run : PS X x (tDS c s)
  mono : ∀ {E E' : DEnds} {ρ}, E.Le E' → s E ρ → s E' ρ
structure PDSs (X : Cx) (c : DC) (x : List Stmt) (s : DS) : Prop where
  run : PSs X x (tDS c s)
  mono : ∀ {E E' : DEnds} {ρ}, E.Le E' → s E ρ → s E' ρ
section
variable {X : Cx} {c : DC} {S S' : Addr → Prop} {H H' : Hp} {γ : List Gh} {ρ : DEnv} {σ : L2.St} {x x2 : Expr} {vs : List Nat}
theorem DInv.put' (I : DInv c S γ ρ σ H) (i : Nat) {d : PyData} {v : V} (r : Tr S H d v) : DInv c S γ (ρ.set i (some (.d d))) (σ.set i (some v)) H := by
  by_cases h : i < ρ.length
  · exact I.put i (av := .d d) h r fun ds e => nomatch e
  · rw [List.set_eq_of_length_le (by omega), List.set_eq_of_length_le (by rw [← I.len]; omega)]
    exact I
theorem DInv.wipe (I : DInv c S γ ρ σ H) (vs : List Nat) : DInv c S γ (dwipe ρ vs) (wipe σ vs) H := by
  refine ⟨I.h, I.gh, by rw [dwipe_len, wipe_length]; exact I.len, fun i av e => ?_, fun i j ds es a e1 e2 e3 e4 => ?_⟩
  · obtain ⟨h1, h2⟩ := dwipe_get e
    obtain ⟨v, h3, h4⟩ := I.ent i av h1
    exact ⟨v, by rw [wipe_get, if_neg h2]; exact h3, h4⟩
  · obtain ⟨h1, n1⟩ := dwipe_get e1
    obtain ⟨h2, n2⟩ := dwipe_get e2
    rw [wipe_get, if_neg n1] at e3
    rw [wipe_get, if_neg n2] at e4
    exact I.sep i j ds es a h1 h2 e3 e4
theorem DInv.ghs (I : DInv c S γ ρ σ H) {gs : List Gh} (h : ∀ g ∈ gs, GhR S H g) : DInv c S (gs ++ γ) ρ σ H := ⟨I.h, fun g m => (List.mem_append.mp m).elim (h g) (I.gh g), I.len, I.ent, I.sep⟩
theorem DInv.unghs {gs : List Gh} (I : DInv c S (gs ++ γ) ρ σ H) : DInv c S γ ρ σ H := ⟨I.h, fun g m => I.gh g (List.mem_append_right _ m), I.len, I.ent, I.sep⟩
/-- a list that no name holds is changed -/
theorem DInv.chgN (I : DInv c S γ ρ σ H) {D : Addr} {xs ys : List V} (hD : H D = some (.lst xs)) (n : c.H0 D = none) (ns : ¬ S D) (ho : ∀ (j : Nat) (ds : List PyData) (a : Addr), ρ[j]? = some (some (.o ds)) → σ[j]? = some (some (.ref a)) → a ≠ D) :
    DInv c S γ ρ σ (upd H D (.lst ys)) := by
  have k2 : KpL (fun a => a = D) H (upd H D (.lst ys)) := KpL.refl.put rfl ⟨_, hD⟩
  have no : ∀ a, S a → ¬ a = D := fun a s e => ns (e ▸ s)
  refine ⟨⟨c.stab H _ (fun b o nb e => ?_) I.h.w, I.h.k.new n, I.h.sub, fun a s => by rw [upd_ne (no a s)]; exact I.h.trk a s⟩, fun g m => ?_, I.len, fun j av e => ?_, I.sep⟩
  · rw [upd_ne (fun z => nb (by rw [z]; exact n))]
    exact e
  · have h := I.gh g m
    cases g with
    | l a vs ds => exact ⟨h.1, k2.at_ h.2.1 (no _ h.1), TrAll.kpl k2 no _ _ h.2.2⟩
    | t a vs ds => exact ⟨k2.tup h.1, TrAll.kpl k2 no _ _ h.2⟩
  · obtain ⟨v, h1, h2⟩ := I.ent j av e
    refine ⟨v, h1, ?_⟩
    cases av with
    | d x => exact Tr.kpl k2 no _ _ h2
    | v x => exact h2
    | o zs =>
      obtain ⟨D2, us, e', l2, t2, n2, ns2⟩ := h2
      subst e'
      exact ⟨D2, us, rfl, k2.at_ l2 (ho j _ _ e h1), TrAll.kpl k2 no _ _ t2, n2, ns2⟩
theorem pdg_name {i : Nat} (h : PG X x (gName i)) (hi : i ∈ vs) : PDG X c vs x (dgName i) :=
  ⟨pg_weak h fun v σ H Q ⟨S, γ, ρ, d, I, t, q⟩ => q _ (wipe_set hi) (I.put' i t), fun m q => m _ q⟩
theorem pgs_weak {es : List Expr} {t t' : TGs} (h : PGs X es t) (w : ∀ v σ H Q, t' v σ H Q → t v σ H Q) : PGs X es t' := ⟨fun pins s σ H v u Q I r q => h.run pins s σ H v u Q I r (w _ _ _ _ q)⟩
theorem pdgs_nil : PDGs X c vs [] dgNil := ⟨pgs_weak pgs_nil fun us σ H Q ⟨S, γ, ρ, ds, I, t, e, q⟩ => by subst e; exact ⟨t, q σ rfl I⟩, fun m ⟨e, q⟩ => ⟨e, m _ q⟩⟩
theorem pdgs_cons {es : List Expr} {g : DG} {gs : DGs} (hp : ∀ {t u}, PG X x t → PGs X es u → PGs X (x :: es) (gCons t u)) (h1 : PDG X c vs x g) (h2 : PDGs X c vs es gs) : PDGs X c vs (x :: es) (dgCons g gs) :=
  ⟨pgs_weak (hp h1.run h2.run) fun us σ H Q ⟨S, γ, ρ, ds, I, t, d, r, e, q⟩ => by
      subst e
      obtain ⟨v, us', e, t1, t2⟩ := t
      exact ⟨v, us', e, S, γ, ρ, d, I, t1, h1.mono (fun ρ' q σ' hw I' => ⟨S, γ, ρ', r, I', t2, h2.mono (fun ρ2 q σ2 hw2 I2 => q σ2 (hw2.trans hw) I2) q⟩) q⟩,
   fun m ⟨d, r, e, q⟩ => ⟨d, r, e, h1.mono (fun _ q => h2.mono m q) q⟩⟩
theorem pdg_tup {K : PySem.W.Frag} {es : List Expr} {gs : DGs} {n : Nat} (hp : ∀ {t}, PGs X es t → PG X x (gTup K n t)) (h : PDGs X c vs es gs) : PDG X c vs x (dgTup n gs) :=
  ⟨pg_weak (hp h.run) fun v σ H Q ⟨S, γ, ρ, d, I, t, ds, e, l, q⟩ => by
      subst e
      obtain ⟨a, xs, e, h, t⟩ := t
      exact ⟨a, xs, e, SqT.of h, by rw [t.len]; exact l, S, γ, ρ, ds, I, t, q⟩,
   fun m ⟨ds, e, l, q⟩ => ⟨ds, e, l, h.mono m q⟩⟩
theorem pdg_lst {K : PySem.W.Frag} {es : List Expr} {gs : DGs} {n : Nat} (hp : ∀ {t}, PGs X es t → PG X x (gUnl K n t)) (h : PDGs X c vs es gs) : PDG X c vs x (dgLst n gs) :=
  ⟨pg_weak (hp h.run) fun v σ H Q ⟨S, γ, ρ, d, I, t, ds, e, l, q⟩ => by
      subst e
      obtain ⟨a, xs, e, _, h, t⟩ := t
      exact ⟨a, xs, e, SqL.of h, by rw [t.len]; exact l, S, γ, ρ, ds, I, t, q⟩,
   fun m ⟨ds, e, l, q⟩ => ⟨ds, e, l, h.mono m q⟩⟩
def dtYes : DT := fun _ Q => Q true
theorem pdts_nil : PDTs X c [] dtYes := ⟨pts_weak pts_nil fun σ H Q ⟨S, γ, ρ, I, q⟩ => q S H Step.refl I, fun m q => m _ q⟩
theorem pdts_one {t : DT} (h : PDT X c x t) : PDTs X c [x] t := ⟨pts_one h.run, h.mono⟩
/-! what is walked -/
def xsL (e : DE) : DN := fun ρ Q => e ρ fun av => ∃ ds, av = .d (.list ds) ∧ Q ds
def xsT (e : DE) : DN := fun ρ Q => e ρ fun av => ∃ ds, av = .d (.tuple ds) ∧ Q ds
def intsFrom (lo : Int) (n : Nat) : List PyData := (List.range n).map fun (k : Nat) => .int (lo + (k : Int))
def xsR1 (a : DA) : DN := fun ρ Q => a ρ fun avs => ∃ j : Int, avs = [.d (.int j)] ∧ -(2 ^ 62) ≤ j ∧ j < 2 ^ 62 ∧ Q (intsFrom 0 j.toNat)
def xsR2 (a : DA) : DN := fun ρ Q => a ρ fun avs => ∃ i j : Int, avs = [.d (.int i), .d (.int j)] ∧ (-(2 ^ 62) ≤ i ∧ i < 2 ^ 62 ∧ -(2 ^ 62) ≤ j ∧ j < 2 ^ 62) ∧ Q (intsFrom i (j - i).toNat)
theorem pdi_list {K : PySem.W.Frag} {tg : Expr} {e : DE} (hp : ∀ {t}, PE X x t → PI X tg x (iList K t)) (he : PD X c x e) : PDI X c tg x (iList K (tDE c e)) (xsL e) :=
  ⟨hp he.run, fun {S γ ρ σ H P R} I q k => ⟨S, γ, ρ, I, he.mono (fun av ⟨ds, ea, q⟩ S1 v H1 st1 I1 r1 => by
      subst ea
      obtain ⟨a, xs, e, s, h, t⟩ := r1
      subst e
      refine ⟨a, rfl, ⟨xs, SqL.of h⟩, k ds S1 H1 _ [.l a xs ds] q st1 I1 (fun g m => ?_) ⟨_, _, t.len ▸ walk_list (xs := xs), fun S H _ hg => ?_, fun i S H v H' hd hg hi y => ?_⟩⟩
      · rw [List.mem_singleton.mp m]
        exact ⟨s, h, t⟩
      · exact SqL.of (hg _ List.mem_cons_self).2.1
      · obtain ⟨e, y⟩ := y
        subst e
        obtain ⟨d, h1, h2⟩ := (hg _ List.mem_cons_self).2.2.get y
        exact ⟨d, h1, Same.refl _, h2⟩) q⟩,
   fun m q => he.mono (fun _ ⟨ds, e, q⟩ => ⟨ds, e, m _ q⟩) q⟩
theorem pdi_tup {K : PySem.W.Frag} {tg : Expr} {e : DE} (hp : ∀ {t}, PE X x t → PI X tg x (iTup K t)) (he : PD X c x e) : PDI X c tg x (iTup K (tDE c e)) (xsT e) :=
  ⟨hp he.run, fun {S γ ρ σ H P R} I q k => ⟨S, γ, ρ, I, he.mono (fun av ⟨ds, ea, q⟩ S1 v H1 st1 I1 r1 => by
      subst ea
      obtain ⟨a, xs, e, h, t⟩ := r1
      subst e
      refine ⟨a, rfl, ⟨xs, SqT.of h⟩, k ds S1 H1 _ [.t a xs ds] q st1 I1 (fun g m => ?_) ⟨_, _, t.len ▸ walk_tup (xs := xs), fun S H _ hg => ?_, fun i S H v H' hd hg hi y => ?_⟩⟩
      · rw [List.mem_singleton.mp m]
        exact ⟨h, t⟩
      · exact SqT.of (hg _ List.mem_cons_self).1
      · obtain ⟨e, y⟩ := y
        subst e
        obtain ⟨d, h1, h2⟩ := (hg _ List.mem_cons_self).2.get y
        exact ⟨d, h1, Same.refl _, h2⟩) q⟩,
   fun m q => he.mono (fun _ ⟨ds, e, q⟩ => ⟨ds, e, m _ q⟩) q⟩
theorem dw_range {lo : Int} {n : Nat} : DWalk c (Itr lo n) [] (intsFrom lo n) := by
  have hl : (intsFrom lo n).length = n := by unfold intsFrom; rw [List.length_map, List.length_range]
  refine ⟨_, YFn fun i => .int (lo + (i : Int)), by rw [hl]; exact walk_range, fun _ _ _ _ => True.intro, fun i S H v H' _ _ hi y => ?_⟩
  obtain ⟨e1, e2⟩ := y
  subst e1 e2
  rw [hl] at hi
  exact ⟨.int (lo + (i : Int)), by unfold intsFrom; rw [List.getElem?_map, List.getElem?_range hi]; rfl, Same.refl _, rfl⟩
theorem AvsR.ints1 {j : Int} {us : List V} (r : AvsR c S H [.d (.int j)] us) : us = [.int j] := by
  obtain ⟨v, e, r⟩ := r.one
  cases r
  exact e
theorem AvsR.ints2 {i j : Int} {us : List V} (r : AvsR c S H [.d (.int i), .d (.int j)] us) : us = [.int i, .int j] := by
  obtain ⟨v, us', e, r, r2⟩ := r
  cases r
  obtain ⟨v2, e2, r2⟩ := AvsR.one r2
  cases r2
  rw [e, e2]
theorem pdi_range1 {tg : Expr} {es : List Expr} {a : DA} (hp : ∀ {t}, PA X es t → PI X tg x (iRng1 t)) (ha : PDA X c es a) : PDI X c tg x (iRng1 (tDA c a)) (xsR1 a) :=
  ⟨hp ha.run, fun {S γ ρ σ H P R} I q k => ⟨S, γ, ρ, I, ha.mono (fun avs ⟨j, e, l1, l2, q⟩ S1 us H1 st1 I1 r1 => by
      subst e
      exact ⟨j, r1.ints1, l1, l2, k _ S1 H1 _ [] q st1 I1 (fun g m => by cases m) dw_range⟩) q⟩,
   fun m q => ha.mono (fun _ ⟨j, e, l1, l2, q⟩ => ⟨j, e, l1, l2, m _ q⟩) q⟩
theorem pdi_range2 {tg : Expr} {es : List Expr} {a : DA} (hp : ∀ {t}, PA X es t → PI X tg x (iRng2 t)) (ha : PDA X c es a) : PDI X c tg x (iRng2 (tDA c a)) (xsR2 a) :=
  ⟨hp ha.run, fun {S γ ρ σ H P R} I q k => ⟨S, γ, ρ, I, ha.mono (fun avs ⟨i, j, e, l, q⟩ S1 us H1 st1 I1 r1 => by
      subst e
      exact ⟨i, j, r1.ints2, l, k _ S1 H1 _ [] q st1 I1 (fun g m => by cases m) dw_range⟩) q⟩,
   fun m q => ha.mono (fun _ ⟨i, j, e, l, q⟩ => ⟨i, j, e, l, m _ q⟩) q⟩
/-! comprehensions -/
def dLc (vs : List Nat) (xs : DN) (g : DG) (t : DT) (e : DE) : DN := fun ρ Q => xs ρ fun ds => ∃ I : Nat → List PyData → Prop, I 0 [] ∧ (∀ i d acc, ds[i]? = some d → I i acc → g d (dwipe ρ vs) fun ρ' => t ρ' fun b =>
  if b = true then e ρ' (fun av => ∃ z, av = .d z ∧ acc.length < 1000 ∧ I (i + 1) (acc ++ [z])) else I (i + 1) acc) ∧ ∀ acc, I ds.length acc → Q acc
theorem lcw {tg iter elt : Expr} {ifs : List Expr} {scope : Scope} {wi : TI} {xs : DN} {g : DG} {t : DT} {e : DE}
    (hi : PDI X c tg iter wi xs) (hg : ∀ (s : Shared) (H : Hp) (C : Addr) (cl : List (Str × Addr)) (fp : List Addr), PDG (X.blk s H scope (compEnvC scope cl C X.env) fp) c vs tg g)
    (ht : ∀ (s : Shared) (H : Hp) (C : Addr) (cl : List (Str × Addr)) (fp : List Addr), PDTs (X.blk s H scope (compEnvC scope cl C X.env) fp) c ifs t) (he : ∀ (s : Shared) (H : Hp) (C : Addr) (cl : List (Str × Addr)) (fp : List Addr), PD (X.blk s H scope (compEnvC scope cl C X.env) fp) c elt e) :
    ∀ σ H Q, tDN c (dLc vs xs g t e) σ H Q → tLc wi (tDG c vs g) (tDT c t) (tDE c e) vs σ H Q := by
  have g0 := hg X.s_0 X.H_0 0 [] []
  have t0 := ht X.s_0 X.H_0 0 [] []
  have e0 := he X.s_0 X.H_0 0 [] []
  intro σ H Q ⟨S, γ, ρ, I, q⟩
  refine hi.run I q fun ds S1 H1 J gs ⟨Iv, h0, hs, hd⟩ st1 I1 hgs W D nD => ?_
  obtain ⟨G, Y, wk, hG, hY⟩ := W.ex
  have nD0 := I1.h.free nD
  have ho : ∀ (j : Nat) (es : List PyData) (a : Addr), (dwipe ρ vs)[j]? = some (some (.o es)) → (wipe σ vs)[j]? = some (some (.ref a)) → a ≠ D := fun j es a e1 e2 z => by
    obtain ⟨h1, n1⟩ := dwipe_get e1
    rw [wipe_get, if_neg n1] at e2
    obtain ⟨v, h2, D2, us, e3, l3, _⟩ := I1.ent j _ h1
    rw [e2] at h2
    cases h2
    cases e3
    rw [z, nD] at l3
    cases l3
  refine lc_it wk (fun i H' => ∃ S' acc us, DInv c S' (gs ++ γ) (dwipe ρ vs) (wipe σ vs) H' ∧ Step c S1 H1 S' H' ∧ H' D = some (.lst us) ∧ TrAll S' H' acc us ∧ ¬ S' D ∧ Iv i acc) ?_ (fun i H' _ ⟨S', acc, us, I2, _⟩ => hG S' H' I2.h fun g m => I2.gh g (List.mem_append_left _ m)) (fun i v H2 H3 hi ⟨S', acc, us, I2, st2, hD, ta, nS, hI⟩ y => ?_) (fun H' ⟨S', acc, us, I2, st2, hD, ta, nS, hI⟩ => ?_)
  · refine ⟨S1, [], [], ((I1.ghs hgs).wipe vs).newO nD, Step.same (same_upd nD), upd_same, TrAll.nil, fun s => I1.h.trk D s nD, h0⟩
  · obtain ⟨d, hdi, sm, tr⟩ := hY i S' H2 v H3 I2.h (fun g m => I2.gh g (List.mem_append_left _ m)) hi y
    have I3 := I2.same sm
    refine ⟨S', gs ++ γ, dwipe ρ vs, d, I3, tr, g0.mono (fun ρ' hq σ' hw I4 => ⟨hw.trans wipe_wipe, S', gs ++ γ, ρ', I4, t0.mono (fun b hb S5 H5 st5 I5 => ?_) hq⟩) (hs i d acc hdi hI)⟩
    have w3 := I3.h.w
    have w5 := I5.h.w
    have st25 := (Step.same (c := c) (S := S') sm).trans w3 w5 st5
    refine ifMono (fun hb => ?_) (fun hb => ?_) hb
    · refine ⟨S5, gs ++ γ, ρ', I5, e0.mono (fun av hz S6 w H6 st6 I6 r6 => ?_) hb⟩
      obtain ⟨z, ez, hlen, hI'⟩ := hz
      subst ez
      have w6 := I6.h.w
      have st26 := st25.trans w5 w6 st6
      have st16 := st2.trans I2.h.w w6 st26
      have hD6 := st26.k.at_ hD (c.new nD0)
      have nS6 : ¬ S6 D := fun s => (st26.new D s).elim nS fun z => by rw [hD] at z; exact nomatch z.1
      have ta6 : TrAll S6 H6 (acc ++ [z]) (us ++ [w]) := TrAll.snoc (TrAll.mono st26.inc _ _ (TrAll.kpl st26.k (fun _ s => I2.h.notM s) _ _ ta)) r6
      have k2 : KpL (fun a => a = D) H6 (upd H6 D (.lst (us ++ [w]))) := KpL.refl.put rfl ⟨_, hD6⟩
      have no : ∀ a, S6 a → ¬ a = D := fun a s e => nS6 (e ▸ s)
      exact ⟨us, hD6, small1000 (by rw [ta.len]; omega), S6, acc ++ [z], us ++ [w], (I2.step st26 w6).chgN hD6 nD0 nS6 ho, ⟨st16.inc, st16.k.new nD, fun a s => (st16.new a s).elim .inl fun z => .inr ⟨z.1, by rw [upd_ne (no a s)]; exact z.2⟩⟩, upd_same, TrAll.kpl k2 no _ _ ta6, nS6, hI'⟩
    · have hb := hb
      have n5 : ¬ S5 D := fun s => (st25.new D s).elim nS fun z => by rw [hD] at z; exact nomatch z.1
      exact ⟨S5, acc, us, I2.step st25 w5, st2.trans I2.h.w w5 st25, st25.k.at_ hD (c.new nD0), TrAll.mono st25.inc _ _ (TrAll.kpl st25.k (fun _ s => I2.h.notM s) _ _ ta), n5, hb⟩
  · exact hd acc hI S' D us H' (st1.trans I1.h.w I2.h.w st2) (I1.step st2 I2.h.w) hD ta (c.back I1.h.w st1.k nD) nS
theorem dLc_mono {tg iter : Expr} {wi : TI} {xs : DN} {g : DG} {t : DT} {e : DE} (hi : PDI X c tg iter wi xs) : ∀ {ρ P P'}, (∀ ds, P ds → P' ds) → dLc vs xs g t e ρ P → dLc vs xs g t e ρ P' := fun m q => hi.mono (fun ds ⟨J, h0, hs, hd⟩ => ⟨J, h0, hs, fun acc h => m _ (hd acc h)⟩) q
theorem pn_lc {tg iter elt : Expr} {ifs : List Expr} {scope : Scope} {wi : TI} {xs : DN} {g : DG} {t : DT} {e : DE}
    (hp : ∀ {g : TG} {tt : TT} {te : TE}, PI X tg iter wi → (∀ (s : Shared) (H : Hp) (C : Addr) (cl : List (Str × Addr)) (fp : List Addr), PG (X.blk s H scope (compEnvC scope cl C X.env) fp) tg g) →
      (∀ (s : Shared) (H : Hp) (C : Addr) (cl : List (Str × Addr)) (fp : List Addr), PTs (X.blk s H scope (compEnvC scope cl C X.env) fp) ifs tt) → (∀ (s : Shared) (H : Hp) (C : Addr) (cl : List (Str × Addr)) (fp : List Addr), PE (X.blk s H scope (compEnvC scope cl C X.env) fp) elt te) → PE X x (tLc wi g tt te vs))
    (hi : PDI X c tg iter wi xs) (hg : ∀ (s : Shared) (H : Hp) (C : Addr) (cl : List (Str × Addr)) (fp : List Addr), PDG (X.blk s H scope (compEnvC scope cl C X.env) fp) c vs tg g)
    (ht : ∀ (s : Shared) (H : Hp) (C : Addr) (cl : List (Str × Addr)) (fp : List Addr), PDTs (X.blk s H scope (compEnvC scope cl C X.env) fp) c ifs t) (he : ∀ (s : Shared) (H : Hp) (C : Addr) (cl : List (Str × Addr)) (fp : List Addr), PD (X.blk s H scope (compEnvC scope cl C X.env) fp) c elt e) :
    PDN X c x (dLc vs xs g t e) := ⟨pe_weak (hp hi.pi (fun s H C cl fp => (hg s H C cl fp).run) (fun s H C cl fp => (ht s H C cl fp).run) (fun s H C cl fp => (he s H C cl fp).run)) (lcw hi hg ht he), dLc_mono hi⟩
end

/-! ### statements -/
def dSkip : DS := fun E ρ => E.nx ρ
def dSeq (s t : DS) : DS := fun E ρ => s { E with nx := fun ρ' => t E ρ' } ρ
def dSet (i : Nat) (e : DE) : DS := fun E ρ => e ρ fun av => ∃ d, av = .d d ∧ E.nx (ρ.set i (some (.d d)))
def dSetV (i : Nat) (e : DE) : DS := fun E ρ => e ρ fun av => ∃ v, av = .v v ∧ E.nx (ρ.set i (some (.v v)))
def dOwn (i : Nat) (n : DN) : DS := fun E ρ => n ρ fun ds => E.nx (ρ.set i (some (.o ds)))
def dAsg (e : DE) (g : DG) : DS := fun E ρ => e ρ fun av => ∃ d, av = .d d ∧ g d ρ E.nx
def dDo (e : DE) : DS := fun E ρ => e ρ fun _ => E.nx ρ
def dRet (e : DE) : DS := fun E ρ => e ρ E.rt
def dRetN : DS := fun E _ => E.rt (.d .none)
def dIf (t : DT) (s u : DS) : DS := fun E ρ => t ρ fun b => if b = true then s E ρ else u E ρ
def dBrk : DS := fun E ρ => E.bk ρ
def dCnt : DS := fun E ρ => E.ct ρ
def dApp (i : Nat) (e : DE) : DS := fun E ρ => ∃ ds, ρ[i]? = some (some (.o ds)) ∧ e ρ fun av => ∃ d, av = .d d ∧ ds.length < 1000 ∧ E.nx (ρ.set i (some (.o (ds ++ [d]))))
def dPut (i : Nat) (e f : DE) : DS := fun E ρ => ∃ ds, ρ[i]? = some (some (.o ds)) ∧ f ρ fun v => ∃ d, v = .d d ∧ e ρ fun k => ∃ j n, k = .d (.int j) ∧ ixN ds.length j = some n ∧ E.nx (ρ.set i (some (.o (ds.set n d))))
def dFor (xs : DN) (g : DG) (b : DS) : DS := fun E ρ => xs ρ fun ds => ∃ I : Nat → DEnv → Prop, I 0 ρ ∧ (∀ i d ρ', ds[i]? = some d → I i ρ' → g d ρ' fun ρ2 => b ⟨I (i + 1), E.rt, E.nx, I (i + 1)⟩ ρ2) ∧ ∀ ρ', I ds.length ρ' → E.nx ρ'
/-- an own list is data from here on -/
def dThaw (i : Nat) (s : DS) : DS := fun E ρ => ∃ ds, ρ[i]? = some (some (.o ds)) ∧ s E (ρ.set i (some (.d (.list ds))))
def dAug (i : Nat) (k : Av → Av → (Av → Prop) → Prop) (e : DE) : DS := fun E ρ => ∃ x, ρ[i]? = some (some x) ∧ e ρ fun y => k x y fun av => ∃ d, av = .d d ∧ E.nx (ρ.set i (some (.d d)))
section
variable {X : Cx} {c : DC} {S S' : Addr → Prop} {H H' : Hp} {γ : List Gh} {ρ : DEnv} {σ : L2.St} {x x2 : Expr} {st : Stmt} {sts : List Stmt}
theorem DEnds.le_seq {E E' : DEnds} {t : DS} (h : E.Le E') (m : ∀ {ρ}, t E ρ → t E' ρ) : DEnds.Le { E with nx := fun ρ' => t E ρ' } { E' with nx := fun ρ' => t E' ρ' } := ⟨fun _ q => m q, h.rt, h.bk, h.ct⟩
theorem pdss_nil : PDSs X c [] dSkip := ⟨pss_weak pss_nil fun D σ H ⟨S, γ, ρ, I, q⟩ => q S σ H I, fun h q => h.nx _ q⟩
theorem pdss_cons {s t : DS} (h1 : PDS X c st s) (h2 : PDSs X c sts t) : PDSs X c (st :: sts) (dSeq s t) :=
  ⟨pss_weak (pss_cons h1.run h2.run) fun D σ H ⟨S, γ, ρ, I, q⟩ => ⟨S, γ, ρ, I, h1.mono (E := { dends c γ D with nx := fun ρ' => t (dends c γ D) ρ' }) (E' := dends c γ { D with nx := tDS c t D }) ⟨fun ρ' q S' σ' H' I' => ⟨S', γ, ρ', I', q⟩, fun _ q => q, fun _ q => q, fun _ q => q⟩ q⟩,
   fun h q => h1.mono (DEnds.le_seq h (h2.mono h)) q⟩
theorem pdss_one {s : DS} (h1 : PDS X c st s) : PDSs X c [st] s := ⟨pss_one h1.run, h1.mono⟩
theorem set_weak {i : Nat} {e : DE} (m : ∀ {ρ P P'}, (∀ av, P av → P' av) → e ρ P → e ρ P') {D : Ends} : tDS c (dSet i e) D σ H → tDE c e σ H fun x H1 => gName i x σ H1 D.nx :=
  fun ⟨S, γ, ρ, I, q⟩ => ⟨S, γ, ρ, I, m (fun av ⟨d, e, g⟩ S1 v H1 st1 I1 r1 => by subst e; exact g S1 _ H1 (I1.put' i r1)) q⟩
theorem own_weak {i : Nat} {n : DN} (m : ∀ {ρ P P'}, (∀ av, P av → P' av) → n ρ P → n ρ P') {D : Ends} : tDS c (dOwn i n) D σ H → tDN c n σ H fun x H1 => gName i x σ H1 D.nx :=
  fun ⟨S, γ, ρ, I, q⟩ => ⟨S, γ, ρ, I, m (fun ds g S1 D1 xs H1 st1 I1 e t n ns => by
      have r : AvR c S1 H1 (.o ds) (.ref D1) := ⟨D1, xs, rfl, e, t, I.h.free n, ns⟩
      refine g S1 _ H1 ?_
      by_cases h : i < ρ.length
      · refine I1.put i h r fun ds1 e1 j es a hj e2 e3 z => ?_
        cases z
        obtain ⟨v, h1, D2, us, e4, l4, _⟩ := I.ent j _ e2
        rw [e3] at h1
        cases h1
        cases e4
        rw [n] at l4
        cases l4
      · rw [List.set_eq_of_length_le (by omega), List.set_eq_of_length_le (by rw [← I1.len]; omega)]
        exact I1) q⟩
theorem frz_weak {n : DN} (m : ∀ {ρ P P'}, (∀ av, P av → P' av) → n ρ P → n ρ P') {Q : VK} : tDE c (dFrz n) σ H Q → tDN c n σ H Q :=
  fun ⟨S, γ, ρ, I, q⟩ => ⟨S, γ, ρ, I, m (fun ds g S1 D xs H1 st1 I1 e t n ns => g _ (.ref D) H1 (st1.add n e) (I.add I1 n e) ⟨D, xs, rfl, .inr rfl, e, TrAll.mono (fun _ s => .inl s) _ _ t⟩) q⟩
theorem pds_set {i : Nat} {e : DE} (hp : ∀ {t}, PE X x t → PS X st (tAsg t (gName i))) (he : PD X c x e) : PDS X c st (dSet i e) :=
  ⟨ps_weak (hp he.run) fun D σ H => set_weak (e := e) (fun m q => he.mono m q), fun h q => he.mono (fun _ ⟨d, e, g⟩ => ⟨d, e, h.nx _ g⟩) q⟩
theorem pds_own {i : Nat} {n : DN} (hp : ∀ {t}, PE X x t → PS X st (tAsg t (gName i))) (hn : PDN X c x n) : PDS X c st (dOwn i n) :=
  ⟨ps_weak (hp hn.run) fun D σ H => own_weak (n := n) (fun m q => hn.mono m q), fun h q => hn.mono (fun _ g => h.nx _ g) q⟩
section
variable {tg iter elt : Expr} {ifs : List Expr} {scope : Scope} {wi : TI} {xs : DN} {g : DG} {t : DT} {e : DE} {i : Nat} {vs : List Nat}
theorem pds_setLc
    (hp : ∀ {g : TG} {tt : TT} {te : TE}, PI X tg iter wi → (∀ (s : Shared) (H : Hp) (C : Addr) (cl : List (Str × Addr)) (fp : List Addr), PG (X.blk s H scope (compEnvC scope cl C X.env) fp) tg g) →
      (∀ (s : Shared) (H : Hp) (C : Addr) (cl : List (Str × Addr)) (fp : List Addr), PTs (X.blk s H scope (compEnvC scope cl C X.env) fp) ifs tt) → (∀ (s : Shared) (H : Hp) (C : Addr) (cl : List (Str × Addr)) (fp : List Addr), PE (X.blk s H scope (compEnvC scope cl C X.env) fp) elt te) → PS X st (tAsg (tLc wi g tt te vs) (gName i)))
    (hi : PDI X c tg iter wi xs) (hg : ∀ (s : Shared) (H : Hp) (C : Addr) (cl : List (Str × Addr)) (fp : List Addr), PDG (X.blk s H scope (compEnvC scope cl C X.env) fp) c vs tg g)
    (ht : ∀ (s : Shared) (H : Hp) (C : Addr) (cl : List (Str × Addr)) (fp : List Addr), PDTs (X.blk s H scope (compEnvC scope cl C X.env) fp) c ifs t) (he : ∀ (s : Shared) (H : Hp) (C : Addr) (cl : List (Str × Addr)) (fp : List Addr), PD (X.blk s H scope (compEnvC scope cl C X.env) fp) c elt e) : PDS X c st (dSet i (dFrz (dLc vs xs g t e))) :=
  ⟨ps_weak (hp hi.pi (fun s H C cl fp => (hg s H C cl fp).run) (fun s H C cl fp => (ht s H C cl fp).run) (fun s H C cl fp => (he s H C cl fp).run)) fun D σ H h => lcw hi hg ht he _ _ _ (frz_weak (n := dLc vs xs g t e) (fun m q => dLc_mono hi m q) (set_weak (e := dFrz (dLc vs xs g t e)) (fun m q => dLc_mono hi (fun _ g => m _ g) q) h)), fun h q => dLc_mono hi (fun _ ⟨d, e, g⟩ => ⟨d, e, h.nx _ g⟩) q⟩
theorem pds_ownLc
    (hp : ∀ {g : TG} {tt : TT} {te : TE}, PI X tg iter wi → (∀ (s : Shared) (H : Hp) (C : Addr) (cl : List (Str × Addr)) (fp : List Addr), PG (X.blk s H scope (compEnvC scope cl C X.env) fp) tg g) →
      (∀ (s : Shared) (H : Hp) (C : Addr) (cl : List (Str × Addr)) (fp : List Addr), PTs (X.blk s H scope (compEnvC scope cl C X.env) fp) ifs tt) → (∀ (s : Shared) (H : Hp) (C : Addr) (cl : List (Str × Addr)) (fp : List Addr), PE (X.blk s H scope (compEnvC scope cl C X.env) fp) elt te) → PS X st (tAsg (tLc wi g tt te vs) (gName i)))
    (hi : PDI X c tg iter wi xs) (hg : ∀ (s : Shared) (H : Hp) (C : Addr) (cl : List (Str × Addr)) (fp : List Addr), PDG (X.blk s H scope (compEnvC scope cl C X.env) fp) c vs tg g)
    (ht : ∀ (s : Shared) (H : Hp) (C : Addr) (cl : List (Str × Addr)) (fp : List Addr), PDTs (X.blk s H scope (compEnvC scope cl C X.env) fp) c ifs t) (he : ∀ (s : Shared) (H : Hp) (C : Addr) (cl : List (Str × Addr)) (fp : List Addr), PD (X.blk s H scope (compEnvC scope cl C X.env) fp) c elt e) : PDS X c st (dOwn i (dLc vs xs g t e)) :=
  ⟨ps_weak (hp hi.pi (fun s H C cl fp => (hg s H C cl fp).run) (fun s H C cl fp => (ht s H C cl fp).run) (fun s H C cl fp => (he s H C cl fp).run)) fun D σ H h => lcw hi hg ht he _ _ _ (own_weak (n := dLc vs xs g t e) (fun m q => dLc_mono hi m q) h), fun h q => dLc_mono hi (fun _ g => h.nx _ g) q⟩
end
theorem pds_asg {e : DE} {g : DG} {vs : List Nat} (hp : ∀ {t u}, PE X x t → PG X x2 u → PS X st (tAsg t u)) (he : PD X c x e) (hg : PDG X c vs x2 g) : PDS X c st (dAsg e g) :=
  ⟨ps_weak (hp he.run hg.run) fun D σ H ⟨S, γ, ρ, I, q⟩ => ⟨S, γ, ρ, I, he.mono (fun av ⟨d, e, q⟩ S1 v H1 st1 I1 r1 => by
      subst e
      exact ⟨S1, γ, ρ, d, I1, r1, hg.mono (fun ρ' q σ' _ I' => q S1 σ' H1 I') q⟩) q⟩, fun h q => he.mono (fun _ ⟨d, e, g⟩ => ⟨d, e, hg.mono (fun _ q => h.nx _ q) g⟩) q⟩
theorem pds_do {e : DE} (hp : ∀ {t}, PE X x t → PS X st (tDrop t)) (he : PD X c x e) : PDS X c st (dDo e) :=
  ⟨ps_weak (hp he.run) fun D σ H ⟨S, γ, ρ, I, q⟩ => ⟨S, γ, ρ, I, he.mono (fun av g S1 v H1 st1 I1 r1 => g S1 σ H1 I1) q⟩, fun h q => he.mono (fun _ g => h.nx _ g) q⟩
theorem pds_ret {e : DE} {pos} (he : PD X c x e) : PDS X c (.Return (some x) pos) (dRet e) :=
  ⟨ps_weak (ps_ret he.run) fun D σ H ⟨S, γ, ρ, I, q⟩ => ⟨S, γ, ρ, I, he.mono (fun av g S1 v H1 st1 I1 r1 => g S1 v H1 I1.h r1) q⟩, fun h q => he.mono (fun _ g => h.rt _ g) q⟩
theorem pds_retN {pos} : PDS X c (.Return none pos) dRetN := ⟨ps_weak ps_retN fun D σ H ⟨S, γ, ρ, I, q⟩ => q S .non H I.h rfl, fun h q => h.rt _ q⟩
theorem pds_if {t : DT} {s u : DS} {a b : List Stmt} {pos} (ht : PDT X c x t) (hs : PDSs X c a s) (hu : PDSs X c b u) : PDS X c (.If x a b pos) (dIf t s u) :=
  ⟨ps_weak (ps_if ht.run hs.run hu.run) fun D σ H ⟨S, γ, ρ, I, q⟩ => ⟨S, γ, ρ, I, ht.mono (fun b g S1 H1 st1 I1 => ifMono (fun g => ⟨S1, γ, ρ, I1, g⟩) (fun g => ⟨S1, γ, ρ, I1, g⟩) g) q⟩, fun h q => ht.mono (fun _ g => ifMono (hs.mono h) (hu.mono h) g) q⟩
theorem pds_pass {pos} : PDS X c (.Pass pos) dSkip := ⟨ps_weak ps_pass fun D σ H ⟨S, γ, ρ, I, q⟩ => q S σ H I, fun h q => h.nx _ q⟩
theorem pds_brk {pos} : PDS X c (.Break pos) dBrk := ⟨ps_weak ps_break fun D σ H ⟨S, γ, ρ, I, q⟩ => q S σ H I, fun h q => h.bk _ q⟩
theorem pds_cnt {pos} : PDS X c (.Continue pos) dCnt := ⟨ps_weak ps_continue fun D σ H ⟨S, γ, ρ, I, q⟩ => q S σ H I, fun h q => h.ct _ q⟩
theorem pds_app {K : PySem.W.Frag} {i : Nat} {e : DE} (hp : ∀ {t}, PE X x t → PS X st (tDrop (tBM K "list" rAppend (tVar i) (tCons t tNil)))) (he : PD X c x e) : PDS X c st (dApp i e) :=
  ⟨ps_weak (hp he.run) fun D σ H ⟨S, γ, ρ, I, ds, hi, q⟩ => by
      obtain ⟨v, h1, D1, xs, e1, l, t, n, ns⟩ := I.ent i _ hi
      subst e1
      refine ⟨_, h1, .inl ⟨rfl, _, SqL.of l⟩, S, γ, ρ, I, he.mono (fun av ⟨d, e, hl, g⟩ S1 v H1 st1 I1 r1 => ?_) q⟩
      subst e
      have l1 := st1.k.at_ l (c.new n)
      exact ⟨D1, xs, v, rfl, rfl, l1, small1000 (by rw [t.len]; omega), g S1 σ _ (I1.chg hi h1 (TrAll.snoc (TrAll.mono st1.inc _ _ (TrAll.kpl st1.k (fun _ s => I.h.notM s) _ _ t)) r1))⟩,
   fun h ⟨ds, hi, q⟩ => ⟨ds, hi, he.mono (fun _ ⟨d, e, hl, g⟩ => ⟨d, e, hl, h.nx _ g⟩) q⟩⟩
theorem TrAll.set : ∀ {ds : List PyData} {xs : List V} (n : Nat) {d : PyData} {v : V}, TrAll S H ds xs → Tr S H d v → TrAll S H (ds.set n d) (xs.set n v)
  | [], xs, n, d, v, e, t => by cases e; exact TrAll.nil
  | z :: r, _, 0, d, v, ⟨y, us, e, q, w⟩, t => by subst e; exact .cons t w
  | z :: r, _, n + 1, d, v, ⟨y, us, e, q, w⟩, t => by subst e; exact .cons q (TrAll.set n w t)
theorem pds_put {i : Nat} {e f : DE} (hp : ∀ {t u}, PE X x2 u → PE X x t → PS X st (tAsg t (gSub (tVar i) u rSetL))) (he : PD X c x2 e) (hf : PD X c x f) : PDS X c st (dPut i e f) :=
  ⟨ps_weak (hp he.run hf.run) fun D σ H ⟨S, γ, ρ, I, ds, hi, q⟩ => by
      obtain ⟨v, h1, D1, xs, e1, l, t, n, ns⟩ := I.ent i _ hi
      subst e1
      refine ⟨S, γ, ρ, I, hf.mono (fun av ⟨d, e1, q⟩ S1 v H1 st1 I1 r1 => ?_) q⟩
      subst e1
      refine ⟨_, h1, S1, γ, ρ, I1, he.mono (fun kv ⟨j, m, e2, hx, q⟩ S2 u H2 st2 I2 r2 => ?_) q⟩
      subst e2
      have st := st1.trans I1.h.w I2.h.w st2
      have l2 := st.k.at_ l (c.new n)
      have t2 : TrAll S2 H2 ds xs := TrAll.mono st.inc _ _ (TrAll.kpl st.k (fun _ s => I.h.notM s) _ _ t)
      exact ⟨D1, xs, j, m, rfl, r2, l2, by rw [t.len]; exact hx, q S2 σ _ (I2.chg hi h1 (t2.set m (Tr.mono st2.inc _ _ (Tr.kpl st2.k (fun _ s => I1.h.notM s) _ _ r1))))⟩,
   fun h ⟨ds, hi, q⟩ => ⟨ds, hi, hf.mono (fun _ ⟨d, e1, q⟩ => ⟨d, e1, he.mono (fun _ ⟨j, m, e2, hx, q⟩ => ⟨j, m, e2, hx, h.nx _ q⟩) q⟩) q⟩⟩
theorem pds_thaw {i : Nat} {s : DS} (h : PDS X c st s) : PDS X c st (dThaw i s) :=
  ⟨ps_weak h.run fun D σ H ⟨S, γ, ρ, I, ds, hi, q⟩ => by obtain ⟨S', I'⟩ := I.frz hi; exact ⟨S', γ, _, I', q⟩, fun l ⟨ds, hi, q⟩ => ⟨ds, hi, h.mono l q⟩⟩
theorem pds_aug {i : Nat} {e : DE} {r : TIp} {k : Av → Av → (Av → Prop) → Prop} (hp : ∀ {t}, PE X x t → PS X st (tAug i t r)) (hk : DOp c r k) (he : PD X c x e) : PDS X c st (dAug i k e) :=
  ⟨ps_weak (hp he.run) fun D σ H ⟨S, γ, ρ, I, a, hi, q⟩ => by
      obtain ⟨v, h1, r1⟩ := I.ent i _ hi
      exact ⟨v, h1, S, γ, ρ, I, he.mono (fun b g S1 u H1 st1 I1 r2 => hk.run I1 (r1.step I.h st1) r2 g fun av S3 w H3 ⟨d, e, g⟩ st3 I3 r3 => by subst e; exact g S3 _ H3 (I3.put' i r3)) q⟩,
   fun h ⟨a, hi, q⟩ => ⟨a, hi, he.mono (fun _ g => hk.mono (fun _ ⟨d, e, g⟩ => ⟨d, e, h.nx _ g⟩) g) q⟩⟩
theorem pds_for {tg iter : Expr} {wi : TI} {xs : DN} {g : DG} {b : DS} {body : List Stmt} {vs : List Nat} (hp : ∀ {u t}, PI X tg iter wi → PG X tg u → PSs X body t → PS X st (tFor wi u t)) (hi : PDI X c tg iter wi xs) (hg : PDG X c vs tg g) (hb : PDSs X c body b) : PDS X c st (dFor xs g b) :=
  ⟨ps_weak (hp hi.pi hg.run hb.run) fun D σ H ⟨S, γ, ρ, I, q⟩ => hi.run I q fun ds S1 H1 J gs ⟨Iv, h0, hs, hd⟩ st1 I1 hgs W => by
      obtain ⟨G, Y, wk, hG, hY⟩ := W.ex
      refine for_it wk (fun i σ' H' => ∃ S' ρ', DInv c S' (gs ++ γ) ρ' σ' H' ∧ Iv i ρ') ⟨S1, ρ, I1.ghs hgs, h0⟩ (fun i σ' H' _ ⟨S', ρ', I', _⟩ => hG S' H' I'.h fun g m => I'.gh g (List.mem_append_left _ m)) (fun i v σ' H2 H3 hlt ⟨S', ρ', I', hI⟩ y => ?_) (fun σ' H' ⟨S', ρ', I', hI⟩ => hd ρ' hI S' σ' H' I'.unghs)
      obtain ⟨d, hdi, sm, tr⟩ := hY i S' H2 v H3 I'.h (fun g m => I'.gh g (List.mem_append_left _ m)) hlt y
      refine ⟨S', gs ++ γ, ρ', d, I'.same sm, tr, hg.mono (fun ρ2 q σ2 _ I2 => ⟨S', gs ++ γ, ρ2, I2, hb.mono (E := ⟨Iv (i + 1), (dends c γ D).rt, (dends c γ D).nx, Iv (i + 1)⟩) ⟨fun ρ3 q S3 σ3 H3 I3 => ⟨S3, ρ3, I3, q⟩, fun av q S3 v3 H3 h3 r3 => q S3 v3 H3 h3 r3, fun ρ3 q S3 σ3 H3 I3 => q S3 σ3 H3 I3.unghs, fun ρ3 q S3 σ3 H3 I3 => ⟨S3, ρ3, I3, q⟩⟩ q⟩) (hs i d ρ' hdi hI)⟩,
   fun {E E' ρ} h q => hi.mono (fun ds ⟨Iv, h0, hs, hd⟩ => ⟨Iv, h0, fun i d ρ' e z => hg.mono (fun ρ2 q => hb.mono (E := ⟨Iv (i + 1), E.rt, E.nx, Iv (i + 1)⟩) (E' := ⟨Iv (i + 1), E'.rt, E'.nx, Iv (i + 1)⟩) ⟨fun _ q => q, fun a q => h.rt a q, fun ρ q => h.nx ρ q, fun _ q => q⟩ q) (hs i d ρ' e z), fun ρ' z => h.nx _ (hd ρ' z)⟩) q⟩
end

/-! ### isinstance, slices, chains -/
def dIsi (f : PyData → Bool) (e : DE) : DE := fun ρ Q => e ρ fun av => ∃ d, av.dat = some d ∧ Q (.d (.bool (f d)))
def dPart (e : DE) : DEnv → (Option Int → Prop) → Prop := fun ρ Q => e ρ fun av => ∃ i, av = .d (.int i) ∧ Q (some i)
def dNoP : DEnv → (Option Int → Prop) → Prop := fun _ Q => Q none
abbrev DO := DEnv → (Option Int → Prop) → Prop
def tDO (c : DC) (o : DO) : TO := fun σ H Q => ∃ S γ ρ, DInv c S γ ρ σ H ∧ o ρ fun i => ∀ S' H', Step c S H S' H' → DInv c S' γ ρ σ H' → Q i H'
structure PDO (X : Cx) (c : DC) (x : Option Expr) (o : DO) : Prop where
  run : PO X x (tDO c o)
  mono : ∀ {ρ P P'}, (∀ av, P av → P' av) → o ρ P → o ρ P'
theorem po_weak {X : Cx} {e : Option Expr} {t t' : TO} (h : PO X e t) (w : ∀ σ H Q, t' σ H Q → t σ H Q) : PO X e t' := ⟨fun pins s σ H Q I q => h.run pins s σ H Q I (w _ _ _ q)⟩
def nSl (e : DE) (lo hi : DO) : DN := fun ρ Q => e ρ fun av => lo ρ fun l => hi ρ fun h => ∃ ds, av.dat = some (.list ds) ∧ Q (cutL ds l h)
def dSlT (e : DE) (lo hi : DO) : DE := fun ρ Q => e ρ fun av => lo ρ fun l => hi ρ fun h => ∃ ds, av = .d (.tuple ds) ∧ Q (.d (.tuple (cutL ds l h)))
def dChain (p q : Int → Int → Bool) (a b e : DE) : DE := fun ρ Q => a ρ fun x => b ρ fun y => ∃ i j, x = .d (.int i) ∧ y = .d (.int j) ∧ if p i j = true then e ρ (fun z => ∃ k, z = .d (.int k) ∧ Q (.d (.bool (q j k)))) else Q (.d (.bool false))
section
variable {K : PySem.W.Frag} {X : Cx} {c : DC} {S S' : Addr → Prop} {H H' : Hp} {γ : List Gh} {ρ : DEnv} {σ : L2.St} {x x2 : Expr}
theorem AvR.ty {av : Av} {v : V} {d : PyData} (r : AvR c S H av v) (e : av.dat = some d) : TyX K H v (.type (clsN d)) := by
  obtain ⟨S1, t⟩ := r.dat_tr e
  exact tr_ty K t
theorem pd_isi {T : String} {f : PyData → Bool} {e : DE} (hk : ∀ d, PySem.W.kitOne K (.type (clsN d)) (.type T) = some (f d)) (hp : ∀ {t}, PE X x t → PE X x2 (tCB (rIsi K) (tCons t (tCons (tC (.ty T)) tNil)))) (he : PD X c x e) : PD X c x2 (dIsi f e) :=
  ⟨pe_weak (hp he.run) fun σ H Q ⟨S, γ, ρ, I, q⟩ => ⟨S, γ, ρ, I, he.mono (fun av ⟨d, ed, g⟩ S1 v H1 st1 I1 r1 => ⟨v, .ty T, _, _, f d, rfl, .ty T, r1.ty ed, hk d, g S1 _ H1 st1 I1 rfl⟩) q⟩, fun m q => he.mono (fun _ ⟨d, ed, g⟩ => ⟨d, ed, m _ g⟩) q⟩
theorem ki_ltD (K : PySem.W.Frag) (d : PyData) : PySem.W.kitAny K (.type (clsN d)) [.type "list", .type "tuple"] = some (isLs d || isTp d) := by
  unfold PySem.W.kitAny
  rw [ki_list K d]
  cases h : isLs d
  · unfold PySem.W.kitAny
    rw [ki_tuple K d]
    cases h2 : isTp d
    · rfl
    · rfl
  · rfl
/-- isinstance(x, (list, tuple)) -/
theorem pd_isiLT {e : DE} (hp : ∀ {t}, PE X x t → PE X x2 (tCB (rIsiT K) (tCons t (tCons (tTup (tCons (tC (.ty "list")) (tCons (tC (.ty "tuple")) tNil))) tNil)))) (he : PD X c x e) : PD X c x2 (dIsi (fun d => isLs d || isTp d) e) :=
  ⟨pe_weak (hp he.run) fun σ H Q ⟨S, γ, ρ, I, q⟩ => ⟨S, γ, ρ, I, he.mono (fun av ⟨d, ed, g⟩ S1 v H1 st1 I1 r1 => ⟨small100 (n := 2) (by decide), fun p np => ⟨v, p, _, _, _, _, rfl, upd_same, .cons (.ty _) (.cons (.ty _) .nil), (r1.step I1.h (Step.same (same_upd np))).ty ed, ki_ltD K d, g S1 _ _ (st1.trans I1.h.w (I1.newO np).h.w (Step.same (same_upd np))) (I1.newO np) rfl⟩⟩) q⟩,
   fun m q => he.mono (fun _ ⟨d, ed, g⟩ => ⟨d, ed, m _ g⟩) q⟩
theorem pdo_none : PDO X c none dNoP := ⟨po_weak po_none fun σ H Q ⟨S, γ, ρ, I, q⟩ => q S H Step.refl I, fun m q => m _ q⟩
theorem pdo_some {e : DE} (he : PD X c x e) : PDO X c (some x) (dPart e) :=
  ⟨po_weak (po_some he.run) fun σ H Q ⟨S, γ, ρ, I, q⟩ => ⟨S, γ, ρ, I, he.mono (fun av ⟨i, e, g⟩ S1 v H1 st1 I1 r1 => by subst e; exact ⟨i, r1, g S1 H1 st1 I1⟩) q⟩, fun m q => he.mono (fun _ ⟨i, e, g⟩ => ⟨i, e, m _ g⟩) q⟩
theorem cut_tr {ds : List PyData} {xs : List V} {lo hi : Option Int} (t : TrAll S H ds xs) : TrAll S H (cutL ds lo hi) (cutV xs lo hi) := by
  unfold cutL cutV
  rw [t.len]
  exact (t.drop _).take _
theorem pn_sl {e : DE} {lo hi : Option Expr} {l h : DO} (hp : ∀ {t u w}, PE X x t → PO X lo u → PO X hi w → PE X x2 (tSl (rSlL K) t u w)) (he : PD X c x e) (hl : PDO X c lo l) (hh : PDO X c hi h) : PDN X c x2 (nSl e l h) :=
  ⟨pe_weak (hp he.run hl.run hh.run) fun σ H Q ⟨S, γ, ρ, I, q⟩ => ⟨S, γ, ρ, I, he.mono (fun av q S1 v H1 st1 I1 r1 => ⟨S1, γ, ρ, I1, hl.mono (fun i q S2 H2 st2 I2 => ⟨S2, γ, ρ, I2, hh.mono (fun j ⟨ds, ed, g⟩ S3 H3 st3 I3 => by
      have st13 := st2.trans I2.h.w I3.h.w st3
      obtain ⟨a, xs, e, hx, t⟩ := (r1.step I1.h st13).lst ed
      have st03 := st1.trans I1.h.w I3.h.w st13
      refine ⟨a, xs, e, SqL.of hx, fun p np => ?_⟩
      exact g S3 p _ _ (st03.trans I3.h.w (I3.newO np).h.w (Step.same (same_upd np))) (I3.newO np) upd_same ((cut_tr t).same (same_upd np)) (c.back I3.h.w st03.k np) fun s => I3.h.trk p s np) q⟩) q⟩) q⟩,
   fun m q => he.mono (fun _ q => hl.mono (fun _ q => hh.mono (fun _ ⟨ds, ed, g⟩ => ⟨ds, ed, m _ g⟩) q) q) q⟩
theorem pd_slT {e : DE} {lo hi : Option Expr} {l h : DO} (hp : ∀ {t u w}, PE X x t → PO X lo u → PO X hi w → PE X x2 (tSl (rSlA K) t u w)) (he : PD X c x e) (hl : PDO X c lo l) (hh : PDO X c hi h) : PD X c x2 (dSlT e l h) :=
  ⟨pe_weak (hp he.run hl.run hh.run) fun σ H Q ⟨S, γ, ρ, I, q⟩ => ⟨S, γ, ρ, I, he.mono (fun av q S1 v H1 st1 I1 r1 => ⟨S1, γ, ρ, I1, hl.mono (fun i q S2 H2 st2 I2 => ⟨S2, γ, ρ, I2, hh.mono (fun j ⟨ds, ed, g⟩ S3 H3 st3 I3 => by
      subst ed
      have st13 := st2.trans I2.h.w I3.h.w st3
      obtain ⟨a, xs, e, hx, t⟩ := (r1.step I1.h st13).tup
      have st03 := st1.trans I1.h.w I3.h.w st13
      refine ⟨a, xs, e, SqT.of hx, fun z => ?_, fun _ p np => ?_⟩
      · have e1 : cutL ds i j = ds := by
          unfold cutL
          rw [← t.len, z.1, z.2, List.drop_zero, Nat.sub_zero, t.len]
          exact List.take_length ..
        rw [e1] at g
        exact g S3 _ H3 st03 I3 ⟨a, xs, rfl, hx, t⟩
      · exact g S3 (.ref p) _ (st03.trans I3.h.w (I3.newO np).h.w (Step.same (same_upd np))) (I3.newO np) ⟨p, _, rfl, upd_same, (cut_tr t).same (same_upd np)⟩) q⟩) q⟩) q⟩,
   fun m q => he.mono (fun _ q => hl.mono (fun _ q => hh.mono (fun _ ⟨ds, ed, g⟩ => ⟨ds, ed, m _ g⟩) q) q) q⟩
/-! ### promises by data -/
abbrev FD := List PyData → (PyData → Prop) → Prop
def spF (F : FD) : Sp := fun vs H Q _ => ∃ S ds, TrAll S H ds vs ∧ F ds fun d => ∀ v H', Same H H' → Tr (fun a => S a ∨ H a = none) H' d v → Q v H'
def spP (F : FD) : Sp := fun vs H Q _ => ∃ p L S ds us, vs = .ref p :: us ∧ Pool H p L ∧ (2 ≤ L ∧ L ≤ 64) ∧ ¬ S p ∧ TrAll S H ds us ∧ F ds fun d => ∀ v H', Kp p H H' → Pool H' p L → Tr (fun a => S a ∨ H a = none) H' d v → Q v H'
structure FMono (F : FD) : Prop where
  m : ∀ {ds P P'}, (∀ d, P d → P' d) → F ds P → F ds P'
structure DPl (c : DC) (p : Addr) (L : Nat) : Prop where
  m : c.M p
  pl : ∀ H, c.W H → Pool H p L
  keep : ∀ H H', c.W H → Kp p H H' → Pool H' p L → c.W H'
  lim : 2 ≤ L ∧ L ≤ 64
def dCallF (F : FD) (a : DA) : DE := fun ρ Q => a ρ fun avs => ∃ ds, avs = ds.map Av.d ∧ F ds fun d => Q (.d d)
def dCallP (p : Addr) (F : FD) (a : DA) : DE := fun ρ Q => a ρ fun avs => ∃ ds, avs = .v (.ref p) :: ds.map Av.d ∧ F ds fun d => Q (.d d)
theorem kpl_kp {p : Addr} {M : Addr → Prop} {H H' : Hp} (k : Kp p H H') (m : M p) (h : ∃ ys, H p = some (.lst ys)) : KpL M H H' := KpL.kp k m h
theorem pd_callF {F : FD} {es : List Expr} {a : DA} {E : XK} (hF : FMono F) (hp : ∀ {t}, PA X es t → PE X x (tCall (spF F) [] E t)) (ha : PDA X c es a) : PD X c x (dCallF F a) :=
  ⟨pe_weak (hp ha.run) fun σ H Q ⟨S, γ, ρ, I, q⟩ => ⟨S, γ, ρ, I, ha.mono (fun avs ⟨ds, e, q⟩ S1 vs H1 st1 I1 r1 => by
      subst e
      refine ⟨S1, ds, by rw [List.append_nil]; exact r1.all, hF.m (fun d g v H2 sm t => ?_) q⟩
      have w2 := c.same sm I1.h.w
      have st2 : Step c S1 H1 (fun a => (S1 a ∨ H1 a = none) ∧ H2 a ≠ none) H2 := ⟨fun a s => ⟨.inl s, c.fwd w2 (KpL.of sm) (I1.h.trk a s)⟩, KpL.of sm, fun a s => s.1.elim .inl fun z => .inr ⟨z, s.2⟩⟩
      exact g _ v H2 (st1.trans I1.h.w w2 st2) (I1.step st2 w2) (Tr.tracked _ _ t)) q⟩,
   fun m q => ha.mono (fun _ ⟨ds, e, g⟩ => ⟨ds, e, hF.m (fun _ z => m _ z) g⟩) q⟩
theorem pd_callP {F : FD} {es : List Expr} {a : DA} {E : XK} {p : Addr} {L : Nat} (hP : DPl c p L) (hF : FMono F) (hp : ∀ {t}, PA X es t → PE X x (tCall (spP F) [] E t)) (ha : PDA X c es a) : PD X c x (dCallP p F a) :=
  ⟨pe_weak (hp ha.run) fun σ H Q ⟨S, γ, ρ, I, q⟩ => ⟨S, γ, ρ, I, ha.mono (fun avs ⟨ds, e, q⟩ S1 vs H1 st1 I1 r1 => by
      subst e
      obtain ⟨v, us, e, r0, r1⟩ := r1
      subst e
      cases r0
      have np : ¬ S1 p := fun s => I1.h.notM s hP.m
      refine ⟨p, L, S1, ds, us, by rw [List.append_nil], hP.pl _ I1.h.w, hP.lim, np, r1.all, hF.m (fun d g v H2 k pl t => ?_) q⟩
      have w2 := hP.keep _ _ I1.h.w k pl
      have kl : KpL c.M H1 H2 := KpL.kp k hP.m (c.lst _ p I1.h.w hP.m)
      have st2 : Step c S1 H1 (fun a => (S1 a ∨ H1 a = none) ∧ H2 a ≠ none) H2 := ⟨fun a s => ⟨.inl s, c.fwd w2 kl (I1.h.trk a s)⟩, kl, fun a s => s.1.elim .inl fun z => .inr ⟨z, s.2⟩⟩
      exact g _ v H2 (st1.trans I1.h.w w2 st2) (I1.step st2 w2) (Tr.tracked _ _ t)) q⟩,
   fun m q => ha.mono (fun _ ⟨ds, e, g⟩ => ⟨ds, e, hF.m (fun _ z => m _ z) g⟩) q⟩
end
def pureC (S : Addr → Prop) (H : Hp) : DC := ⟨fun _ => False, fun _ => True, S, H, fun _ _ _ w => w, fun _ _ _ m => m.elim, True.intro, fun _ _ m => m⟩
theorem pool_lst {H : Hp} {p a : Addr} {L : Nat} (h : Pool H p L) (e : a = p) : ∃ xs, H a = some (.lst xs) := by
  obtain ⟨ns, h, _⟩ := h
  exact ⟨_, by rw [e]; exact h⟩
theorem pool_stab {H0 H H' : Hp} {p : Addr} {L : Nat} (h0 : Pool H0 p L) (k : ∀ b o, H0 b ≠ none → H b = some o → H' b = some o) (h : Pool H p L) : Pool H' p L := by
  obtain ⟨ns, h, e⟩ := h
  obtain ⟨ms, h0, _⟩ := h0
  exact ⟨ns, k _ _ (by rw [h0]; exact fun z => nomatch z) h, e⟩
def poolC (p : Addr) (L : Nat) (S : Addr → Prop) (H : Hp) (h : Pool H p L) (ns : ¬ S p) : DC :=
  ⟨fun a => a = p, fun H' => Pool H' p L, S, H, fun _ _ k w => pool_stab h k w, fun _ _ w m => pool_lst w m, h, fun a s m => ns (m ▸ s)⟩
theorem poolC_pl {p : Addr} {L : Nat} {S : Addr → Prop} {H : Hp} {h : Pool H p L} {ns : ¬ S p} (l : 2 ≤ L ∧ L ≤ 64) : DPl (poolC p L S H h ns) p L := ⟨rfl, fun _ w => w, fun _ _ _ _ w => w, l⟩
/-- the names at the start -/
def dstart (N : List Str) (avs : List Av) : DEnv := avs.map some ++ List.replicate (N.length - avs.length) none
theorem start_inv {c : DC} {S : Addr → Prop} {H : Hp} {N : List Str} : ∀ {avs : List Av} {vs : List V}, DH c S H → AvsR c S H avs vs → (∀ ds, Av.o ds ∉ avs) → DInv c S [] (dstart N avs) (L2.start N vs) H := by
  intro avs vs h r no
  have hl := r.len
  refine ⟨h, fun g m => absurd m List.not_mem_nil, ?_, fun i av e => ?_, fun i j ds es a e1 e2 e3 e4 => ?_⟩
  · unfold dstart L2.start
    rw [List.length_append, List.length_append, List.length_map, List.length_map, List.length_replicate, List.length_replicate, hl]
  · unfold dstart at e
    unfold L2.start
    rw [List.getElem?_append] at e ⊢
    rw [List.length_map] at e ⊢
    by_cases hi : i < avs.length
    · rw [if_pos hi] at e
      rw [if_pos (by omega)]
      have key : ∀ {avs : List Av} {vs : List V} {i : Nat}, AvsR c S H avs vs → (avs.map some)[i]? = some (some av) → ∃ v, (vs.map some)[i]? = some (some v) ∧ AvR c S H av v := by
        intro avs
        induction avs with
        | nil => intro vs i _ e; simp at e
        | cons a r ih =>
          intro vs i q e
          obtain ⟨v, us, e0, q1, q2⟩ := q
          subst e0
          cases i with
          | zero => simp at e; subst e; exact ⟨v, rfl, q1⟩
          | succ i => exact ih (i := i) q2 (by simpa using e)
      exact key r e
    · rw [if_neg hi] at e
      rw [List.getElem?_replicate] at e
      split at e <;> cases e
  · have key : some (Av.o ds) ∈ dstart N avs := List.mem_of_getElem? e1
    unfold dstart at key
    rcases List.mem_append.mp key with k | k
    · obtain ⟨x, hx, e⟩ := List.mem_map.mp k
      cases e
      exact absurd hx (no ds)
    · have := List.eq_of_mem_replicate k
      cases this
def retD (Q : PyData → Prop) : Av → Prop := fun av => ∃ d, av.dat = some d ∧ Q d
def fends (Q : PyData → Prop) : DEnds := ⟨fun _ => Q .none, retD Q, fun _ => False, fun _ => False⟩
theorem AvR.ret {c : DC} {S : Addr → Prop} {H : Hp} {av : Av} {v : V} {d : PyData} (h : DH c S H) (r : AvR c S H av v) (e : av.dat = some d) : Tr (fun a => c.S0 a ∨ c.H0 a = none) H d v := by
  cases av with
  | d y => cases e; exact Tr.mono h.sub _ _ r
  | v y => cases e
  | o ds =>
    cases e
    obtain ⟨D, xs, e, l, t, n, _⟩ := r
    exact ⟨D, xs, e, .inr n, l, TrAll.mono h.sub _ _ t⟩
section
variable {P : Program} {w : World} {K : PySem.W.Frag} {mg : Str → Option Value} {base : Heap} {x qual : Str} {st : Stmt} {f : Addr} {fd : FuncData} {N ps : List Str} {k : Nat}
theorem noO : ∀ {ds : List PyData} {es : List PyData}, Av.o es ∉ ds.map Av.d := fun {ds es} h => by
  obtain ⟨d, _, e⟩ := List.mem_map.mp h
  cases e
theorem avs_of {c : DC} {S : Addr → Prop} {H : Hp} : ∀ {ds : List PyData} {vs : List V}, TrAll S H ds vs → AvsR c S H (ds.map Av.d) vs
  | [], _, e => e
  | d :: r, _, ⟨v, us, e, t, q⟩ => ⟨v, us, e, t, avs_of q⟩
/-- a def by data -/
theorem fnF {F : FD} {s : DS} (hF : FMono F) (Fn : Fun K x qual st f fd) (sc : FnScope N ps (defScope st)) (hl : ∀ ds Q, F ds Q → ds.length = ps.length)
    (hb : ∀ (c : DC) (cdv : Value) (A : Around) (outer : List Env) (sh : Shared) (H : Hp) (E : XK), Room k (A.deeper (envOfC qual (defScope st) sh.heap.objs.size f cdv)) → PDSs (cxOf CX0 P w K mg base N qual (defScope st) f cdv A outer sh H E).nox c (defBody st) s)
    (hs : ∀ ds Q, F ds Q → s (fends Q) (dstart N (ds.map Av.d))) : FnOk P w K mg base CX0 (k + 1) f fd ps (spF F) := by
  refine Fn.ok sc (fun vs H Q E h => ?_) (fun cdv A outer sh H vs Q E hr h => ?_)
  · obtain ⟨S, ds, t, q⟩ := h
    rw [t.len]
    exact hl ds _ q
  · obtain ⟨S, ds, t, q⟩ := h
    have t := TrAll.tracked _ _ t
    refine ⟨_, (hb (pureC (fun a => S a ∧ H a ≠ none) H) cdv A outer sh H E hr).run, fun a => S a ∧ H a ≠ none, [], _, start_inv ⟨True.intro, KpL.refl, fun a s => .inl s, fun a s => s.2⟩ (avs_of t) (fun _ => noO), ?_⟩
    have key := hs ds _ q
    refine (hb (pureC (fun a => S a ∧ H a ≠ none) H) cdv A outer sh H E hr).mono (E := fends _) ⟨fun ρ q S' σ' H' I => ?_, fun av ⟨d, e, q⟩ S' v H' h' r => ?_, fun _ z => z.elim, fun _ z => z.elim⟩ key
    · exact q .non H' (I.h.k.same fun a z => z.elim) rfl
    · exact q v H' (h'.k.same fun a z => z.elim) (Tr.mono (fun a s => s.elim (fun s => .inl s.1) .inr) _ _ (r.ret h' e))
theorem fnP {F : FD} {s : Addr → DS} (hF : FMono F) (Fn : Fun K x qual st f fd) (sc : FnScope N ps (defScope st)) (hl : ∀ ds Q, F ds Q → ds.length + 1 = ps.length)
    (hb : ∀ (c : DC) (p : Addr) (L : Nat) (hP : DPl c p L) (cdv : Value) (A : Around) (outer : List Env) (sh : Shared) (H : Hp) (E : XK), Room k (A.deeper (envOfC qual (defScope st) sh.heap.objs.size f cdv)) → PDSs (cxOf CX0 P w K mg base N qual (defScope st) f cdv A outer sh H E).nox c (defBody st) (s p))
    (hs : ∀ p ds Q, F ds Q → s p (fends Q) (dstart N (.v (.ref p) :: ds.map Av.d))) : FnOk P w K mg base CX0 (k + 1) f fd ps (spP F) := by
  refine Fn.ok sc (fun vs H Q E h => ?_) (fun cdv A outer sh H vs Q E hr h => ?_)
  · obtain ⟨p, L, S, ds, us, rfl, _, _, _, t, q⟩ := h
    rw [List.length_cons, t.len]
    exact hl ds _ q
  · obtain ⟨p, L, S, ds, us, rfl, pl, lim, ns, t, q⟩ := h
    have t := TrAll.tracked _ _ t
    have ns' : ¬ (S p ∧ H p ≠ none) := fun z => ns z.1
    have b := hb (poolC p L (fun a => S a ∧ H a ≠ none) H pl ns') p L (poolC_pl lim) cdv A outer sh H E hr
    refine ⟨_, b.run, fun a => S a ∧ H a ≠ none, [], _, start_inv (avs := .v (.ref p) :: ds.map Av.d) ⟨pl, KpL.refl, fun a s => .inl s, fun a s => s.2⟩ ⟨_, _, rfl, rfl, avs_of t⟩ (fun es m => (List.mem_cons.mp m).elim (fun z => nomatch z) noO), ?_⟩
    have key := hs p ds _ q
    have toKp : ∀ {H' : Hp}, KpL (fun a => a = p) H H' → Kp p H H' := fun k b o n e => k b o (fun m => absurd m n) e
    refine b.mono (E := fends _) ⟨fun ρ q S' σ' H' I => ?_, fun av ⟨d, e, q⟩ S' v H' h' r => ?_, fun _ z => z.elim, fun _ z => z.elim⟩ key
    · exact q .non H' (toKp I.h.k) I.h.w rfl
    · exact q v H' (toKp h'.k) h'.w (Tr.mono (fun a s => s.elim (fun s => .inl s.1) .inr) _ _ (r.ret h' e))
end
section
variable {K : PySem.W.Frag} {X : Cx} {c : DC} {x x2 x3 x4 : Expr}
theorem op_notInDT {X : Cx} (hu : X.A.units + 65 < cLine) : OpR X (compareOp .NotIn) (rNotInDT X.K) := by
  intro pins s σ H x y v u Q I rx ry h
  obtain ⟨d, ds, hd, he, sd, se, q⟩ := h
  obtain ⟨as, r1⟩ := Dp.reads I d x v hd rx
  obtain ⟨bs, r2⟩ := Dp.reads I (.tuple ds) y u he ry
  exact SeqAt.notIn_tuple_reads r2 r1 (SeqAt.canLay_of_shaped se) (SeqAt.canLay_of_shaped sd) (room_in_shaped sd hu) ⟨.bl _, H, I, rfl, q⟩
def rNotInA (K : PySem.W.Frag) : R2 := fun x y H Q => rNotInD K x y H Q ∨ rNotInDT K x y H Q
theorem dk_notIn : DOp c (rNotInA K) kNotIn := ⟨fun I rx ry ⟨d, ds, h1, h2, s1, s2, q⟩ g => (in_dp ry h2 s2).elim (fun z => .inl ⟨d, ds, rx.dp h1 s1, z, s1, s2, g _ _ _ _ q Step.refl I rfl⟩) fun z => .inr ⟨d, ds, rx.dp h1 s1, z, s1, sh_lt s2, g _ _ _ _ q Step.refl I rfl⟩,
  fun m ⟨d, e, h1, h2, s1, s2, q⟩ => ⟨d, e, h1, h2, s1, s2, m _ q⟩⟩
theorem k_notInA (K : PySem.W.Frag) (hu : X.A.units + 65 < cLine) (hK : X.K = K := by rfl) : OpR X (compareOp .NotIn) (rNotInA K) := hK ▸ OpR.or (op_notInD hu) (op_notInDT hu)
theorem dk_ipadd : DOp c (ipI fun i j => i + j) (kI0 fun i j => .int (i + j)) := dk_i0
theorem dk_ipsub : DOp c (ipI fun i j => i - j) (kI0 fun i j => .int (i - j)) := dk_i0
theorem pd_callF0 {F : FD} {E : XK} (hF : FMono F) (hp : PE X x (tCall (spF F) [] E tNil)) : PD X c x (dCallF F dNil) :=
  ⟨pe_weak hp fun σ H Q ⟨S, γ, ρ, I, ds, e, q⟩ => by
      have e : ds = [] := by cases ds with | nil => rfl | cons d r => cases e
      subst e
      refine ⟨S, [], rfl, hF.m (fun d g v H2 sm t => ?_) q⟩
      have w2 := c.same sm I.h.w
      have st2 : Step c S H (fun a => (S a ∨ H a = none) ∧ H2 a ≠ none) H2 := ⟨fun a s => ⟨.inl s, c.fwd w2 (KpL.of sm) (I.h.trk a s)⟩, KpL.of sm, fun a s => s.1.elim .inl fun z => .inr ⟨z, s.2⟩⟩
      exact g _ v H2 st2 (I.step st2 w2) (Tr.tracked _ _ t),
   fun m ⟨ds, e, g⟩ => ⟨ds, e, hF.m (fun _ z => m _ z) g⟩⟩
theorem pd_chain {p q : Int → Int → Bool} {a b e : DE} (hp : ∀ {ta tb tc}, PE X x ta → PE X x2 tb → PE X x3 tc → PE X x4 (tChain (rI0 fun i j => .bl (p i j)) (rI0 fun i j => .bl (q i j)) ta tb tc)) (ha : PD X c x a) (hb : PD X c x2 b) (he : PD X c x3 e) : PD X c x4 (dChain p q a b e) :=
  ⟨pe_weak (hp ha.run hb.run he.run) fun σ H Q ⟨S, γ, ρ, I, h⟩ => ⟨S, γ, ρ, I, ha.mono (fun x h S1 v H1 st1 I1 r1 => ⟨S1, γ, ρ, I1, hb.mono (fun y ⟨i, j, e1, e2, h2⟩ S2 u H2 st2 I2 r2 => by
      subst e1 e2
      cases r1
      cases r2
      have st12 := st1.trans I1.h.w I2.h.w st2
      exact ⟨i, j, rfl, rfl, p i j, rfl, ifMono (fun h => ⟨S2, γ, ρ, I2, he.mono (fun z ⟨k, ez, h⟩ S3 w H3 st3 I3 r3 => by
        subst ez
        cases r3
        exact ⟨j, k, rfl, rfl, h S3 _ H3 (st12.trans I2.h.w I3.h.w st3) I3 rfl⟩) h⟩) (fun h => h S2 _ H2 st12 I2 rfl) h2⟩) h⟩) h⟩,
   fun m h => ha.mono (fun x h => hb.mono (fun y ⟨i, j, e1, e2, h⟩ => ⟨i, j, e1, e2, ifMono (fun h => he.mono (fun z ⟨k, ez, h⟩ => ⟨k, ez, m _ h⟩) h) (m _) h⟩) h) h⟩
theorem pdt_chain {p q : Int → Int → Bool} {a b e : DE} (hp : ∀ {ta tb tc}, PE X x ta → PE X x2 tb → PE X x3 tc → PT X x4 (tTest (tChain (rI0 fun i j => .bl (p i j)) (rI0 fun i j => .bl (q i j)) ta tb tc))) (ha : PD X c x a) (hb : PD X c x2 b) (he : PD X c x3 e) : PDT X c x4 (dTest (dChain p q a b e)) :=
  ⟨pt_weak (hp ha.run hb.run he.run) fun σ H Q ⟨S, γ, ρ, I, h⟩ => ⟨S, γ, ρ, I, ha.mono (fun x h S1 v H1 st1 I1 r1 => ⟨S1, γ, ρ, I1, hb.mono (fun y ⟨i, j, e1, e2, h2⟩ S2 u H2 st2 I2 r2 => by
      subst e1 e2
      cases r1
      cases r2
      have st12 := st1.trans I1.h.w I2.h.w st2
      exact ⟨i, j, rfl, rfl, p i j, rfl, ifMono (fun h => ⟨S2, γ, ρ, I2, he.mono (fun z ⟨k, ez, b, eb, h⟩ S3 w H3 st3 I3 r3 => by
        subst ez
        cases r3
        cases eb
        exact ⟨j, k, rfl, rfl, _, rfl, h S3 H3 (st12.trans I2.h.w I3.h.w st3) I3⟩) h⟩) (fun ⟨b, eb, h⟩ => by
        cases eb
        exact ⟨_, rfl, h S2 H2 st12 I2⟩) h2⟩) h⟩) h⟩,
   fun m h => ha.mono (fun x h => hb.mono (fun y ⟨i, j, e1, e2, h⟩ => ⟨i, j, e1, e2, ifMono (fun h => he.mono (fun z ⟨k, ez, b, eb, h⟩ => ⟨k, ez, b, eb, m _ h⟩) h) (fun ⟨b, eb, h⟩ => ⟨b, eb, m _ h⟩) h⟩) h) h⟩
/-- the law's draw -/
def F__law_draw : FD := fun ds Q => ∃ m : Int, ds = [.int m] ∧ 0 < m ∧ m ≤ 1000 ∧ ∀ r : Int, 0 ≤ r → r < m → Q (.int r)
theorem FM__law_draw : FMono F__law_draw := ⟨fun m ⟨k, e, h0, h1, q⟩ => ⟨k, e, h0, h1, fun r a b => m _ (q r a b)⟩⟩
end
def zipD (ds es : List PyData) : List PyData := List.zipWith (fun a b => .tuple [a, b]) ds es
def xsZ (a : DA) : DN := fun ρ Q => a ρ fun avs => ∃ ds es, avs = [.d (.list ds), .d (.list es)] ∧ Q (zipD ds es)
def enumD (ds : List PyData) : List PyData := List.zipWith (fun (i : Nat) b => .tuple [.int i, b]) (List.range ds.length) ds
def xsE (a : DA) : DN := fun ρ Q => a ρ fun avs => ∃ ds, avs = [.d (.list ds)] ∧ Q (enumD ds)
section
variable {K : PySem.W.Frag} {X : Cx} {c : DC} {x : Expr}
theorem pair_tr {S : Addr → Prop} {H H' : Hp} {T : Addr} {x y : V} {a b : PyData} (n : H T = none) (e : H' = upd H T (.tup [x, y])) (ta : Tr S H a x) (tb : Tr S H b y) : Same H H' ∧ Tr S H' (.tuple [a, b]) (.ref T) := by
  subst e
  exact ⟨same_upd n, T, [x, y], rfl, upd_same, .cons (ta.same (same_upd n)) (.cons (tb.same (same_upd n)) .nil)⟩
theorem pdi_zip {tg : Expr} {es : List Expr} {a : DA} (hp : ∀ {t}, PA X es t → PI X tg x (iZip K t)) (ha : PDA X c es a) : PDI X c tg x (iZip K (tDA c a)) (xsZ a) :=
  ⟨hp ha.run, fun {S γ ρ σ H P R} I q k => ⟨S, γ, ρ, I, ha.mono (fun avs ⟨ds, es, e, q⟩ S1 us H1 st1 I1 r1 => by
      subst e
      obtain ⟨v, us', e, r, r2⟩ := r1
      obtain ⟨v2, e2, r2⟩ := AvsR.one r2
      obtain ⟨p, xs, e3, s1, l1, t1⟩ := r
      obtain ⟨p2, ys, e4, s2, l2, t2⟩ := r2
      subst e3 e4 e2
      refine ⟨p, p2, xs, ys, e, SqL.of l1, SqL.of l2, k _ S1 H1 _ [.l p xs ds, .l p2 ys es] q st1 I1 (fun g m => ?_) ⟨_, _, walk_zip (xs := xs) (ys := ys) (by unfold zipD; rw [List.length_zipWith, t1.len, t2.len]), fun S H _ hg => ?_, fun i S H v H' hd hg hi y => ?_⟩⟩
      · rcases List.mem_cons.mp m with e | m
        · rw [e]
          exact ⟨s1, l1, t1⟩
        · rw [List.mem_singleton.mp m]
          exact ⟨s2, l2, t2⟩
      · exact ⟨SqL.of (hg _ List.mem_cons_self).2.1, SqL.of (hg _ (List.mem_cons_of_mem _ List.mem_cons_self)).2.1⟩
      · obtain ⟨T, x, y, e, n, e', hx, hy⟩ := y
        obtain ⟨d1, h1, h2⟩ := (hg _ List.mem_cons_self).2.2.get hx
        obtain ⟨d2, h3, h4⟩ := (hg _ (List.mem_cons_of_mem _ List.mem_cons_self)).2.2.get hy
        obtain ⟨sm, tr⟩ := pair_tr n e' h2 h4
        subst e
        exact ⟨.tuple [d1, d2], by unfold zipD; rw [List.getElem?_zipWith, h1, h3], sm, tr⟩) q⟩,
   fun m q => ha.mono (fun _ ⟨ds, es, e, q⟩ => ⟨ds, es, e, m _ q⟩) q⟩
theorem pdi_enum {tg : Expr} {es : List Expr} {a : DA} (hp : ∀ {t}, PA X es t → PI X tg x (iEnum K t)) (ha : PDA X c es a) : PDI X c tg x (iEnum K (tDA c a)) (xsE a) :=
  ⟨hp ha.run, fun {S γ ρ σ H P R} I q k => ⟨S, γ, ρ, I, ha.mono (fun avs ⟨ds, e, q⟩ S1 us H1 st1 I1 r1 => by
      subst e
      obtain ⟨v, e, r⟩ := r1.one
      obtain ⟨p, xs, e3, s1, l1, t1⟩ := r
      subst e3
      refine ⟨p, xs, e, SqL.of l1, k _ S1 H1 _ [.l p xs ds] q st1 I1 (fun g m => ?_) ⟨_, _, (by unfold enumD; rw [List.length_zipWith, List.length_range, Nat.min_self, ← t1.len]; exact walk_enum (xs := xs)), fun S H _ hg => ?_, fun i S H v H' hd hg hi y => ?_⟩⟩
      · rw [List.mem_singleton.mp m]
        exact ⟨s1, l1, t1⟩
      · exact SqL.of (hg _ List.mem_cons_self).2.1
      · obtain ⟨T, x, y, e, n, e', hx, hy⟩ := y
        cases hx
        obtain ⟨d2, h3, h4⟩ := (hg _ List.mem_cons_self).2.2.get hy
        obtain ⟨sm, tr⟩ := pair_tr (a := .int i) n e' rfl h4
        subst e
        have hlt := (List.getElem?_eq_some_iff.mp h3).1
        exact ⟨.tuple [.int i, d2], by unfold enumD; rw [List.getElem?_zipWith, List.getElem?_range hlt, h3], sm, tr⟩) q⟩,
   fun m q => ha.mono (fun _ ⟨ds, e, q⟩ => ⟨ds, e, m _ q⟩) q⟩
end
/-- a comprehension that gives f of each item -/
theorem lc_map {ds : List PyData} {Q : List PyData → Prop} {g : DG} {e : DE} {ρw : DEnv} (f : PyData → PyData) (hl : ds.length ≤ 1000) (he : ∀ d, d ∈ ds → ∀ P : Av → Prop, P (.d (f d)) → g d ρw fun ρ' => dtYes ρ' fun b => if b = true then e ρ' P else False) (q : Q (ds.map f))
    (mg : ∀ {d ρ} {P P' : DEnv → Prop}, (∀ ρ, P ρ → P' ρ) → g d ρ P → g d ρ P') :
    ∃ I : Nat → List PyData → Prop, I 0 [] ∧ (∀ i d acc, ds[i]? = some d → I i acc → g d ρw fun ρ' => dtYes ρ' fun b => if b = true then e ρ' (fun av => ∃ z, av = .d z ∧ acc.length < 1000 ∧ I (i + 1) (acc ++ [z])) else I (i + 1) acc) ∧ ∀ acc, I ds.length acc → Q acc := by
  refine ⟨fun i acc => acc = (ds.take i).map f, by simp, fun i d acc h ea => ?_, fun acc e => by rw [e, List.take_length]; exact q⟩
  have hi := (List.getElem?_eq_some_iff.mp h).1
  refine mg (P := fun ρ' => dtYes ρ' fun b => if b = true then e ρ' (fun av => ∃ z, av = .d z ∧ acc.length < 1000 ∧ (fun i acc => acc = (ds.take i).map f) (i + 1) (acc ++ [z])) else False) (fun ρ' z => z) (he d (List.mem_of_getElem? h) _ ⟨f d, rfl, ?_, ?_⟩)
  · rw [ea, List.length_map, List.length_take]
    omega
  · show acc ++ [f d] = (ds.take (i + 1)).map f
    rw [List.take_add_one, h, List.map_append, ← show acc = (ds.take i).map f from ea]
    rfl
theorem mgN {i : Nat} {d : PyData} {ρ : DEnv} {P P' : DEnv → Prop} (h : ∀ ρ, P ρ → P' ρ) (q : dgName i d ρ P) : dgName i d ρ P' := h _ q
/-- a list's method -/
def dMt (k : Av → List Av → (Av → Prop) → Prop) (e : DE) (a : DA) : DE := fun ρ Q => e ρ fun x => (∃ ds, x.dat = some (.list ds)) ∧ a ρ fun ys => k x ys Q
structure DMt (c : DC) (r : V → List V → Hp → VK → Prop) (k : Av → List Av → (Av → Prop) → Prop) : Prop where
  run : ∀ {S γ ρ σ H x v ys us P Q}, DInv c S γ ρ σ H → AvR c S H x v → AvsR c S H ys us → k x ys P → GE c S γ ρ σ H P Q → r v us H Q
  mono : ∀ {x ys P P'}, (∀ av, P av → P' av) → k x ys P → k x ys P'
def kIndex : Av → List Av → (Av → Prop) → Prop := fun x ys Q => ∃ ds y d j z, x.dat = some (.list ds) ∧ ys = [y] ∧ y.dat = some d ∧ SeqAt.shaped d = true ∧ SeqAt.shaped (.list ds) = true ∧ ds[j]? = some z ∧ PyData.eqv z d = true ∧ (∀ i w, i < j → ds[i]? = some w → PyData.eqv w d = false) ∧ Q (.d (.int (j : Nat)))
section
variable {K : PySem.W.Frag} {X : Cx} {c : DC} {x o : Expr} {es : List Expr}
theorem pd_mt {r : V → List V → Hp → VK → Prop} {k : Av → List Av → (Av → Prop) → Prop} {e : DE} {a : DA} (hp : ∀ {t u}, PE X o t → PA X es u → PE X x (tBM K "list" r t u)) (hk : DMt c r k) (he : PD X c o e) (ha : PDA X c es a) : PD X c x (dMt k e a) :=
  ⟨pe_weak (hp he.run ha.run) fun σ H Q ⟨S, γ, ρ, I, q⟩ => ⟨S, γ, ρ, I, he.mono (fun av ⟨⟨ds, ed⟩, q⟩ S1 v H1 st1 I1 r1 => by
      obtain ⟨p, xs, e1, l, t⟩ := r1.lst ed
      subst e1
      exact ⟨.inl ⟨rfl, _, SqL.of l⟩, S1, γ, ρ, I1, ha.mono (fun avs g S2 us H2 st2 I2 r2 => hk.run I2 (r1.step I1.h st2) r2 g fun av S3 w H3 g st3 I3 r3 => g S3 w H3 (st1.trans I1.h.w I3.h.w (st2.trans I2.h.w I3.h.w st3)) I3 r3) q⟩) q⟩,
   fun m q => he.mono (fun _ ⟨h, q⟩ => ⟨h, ha.mono (fun _ g => hk.mono m g) q⟩) q⟩
theorem dk_index : DMt c (rIndexD K) kIndex := ⟨fun I rx ry ⟨ds, y, d, j, z, e1, e2, e3, s1, s2, h1, h2, h3, q⟩ g => by
    subst e2
    obtain ⟨v, e, r⟩ := ry.one
    obtain ⟨p, xs, e4, l, t⟩ := rx.lst e1
    subst e4 e
    exact ⟨p, v, d, ds, j, z, rfl, rfl, rx.dp e1 s2, r.dp e3 s1, s2, s1, h1, h2, h3, g _ _ _ _ q Step.refl I rfl⟩,
  fun m ⟨ds, y, d, j, z, e1, e2, e3, s1, s2, h1, h2, h3, q⟩ => ⟨ds, y, d, j, z, e1, e2, e3, s1, s2, h1, h2, h3, m _ q⟩⟩
end
section
variable (K : PySem.W.Frag) {X : Cx}
theorem k_mtIndexD (hu : X.A.units + 65 < cLine) (hK : X.K = K := by rfl) : MtR X "list.index" (rIndexD K) := hK ▸ mt_indexD hu
end
theorem spP_draw {F : FD} {vs : List V} {H : Hp} {Q : VK} {E : XK} (hF : ∀ ds Q, F ds Q → ∃ m : Int, ds = [.int m] ∧ 0 < m ∧ m ≤ 1000 ∧ ∀ r : Int, 0 ≤ r → r < m → Q (.int r)) (h : spP F vs H Q E) :
    ∃ (p : Addr) (L : Nat) (m : Int), vs = [.ref p, .int m] ∧ Pool H p L ∧ 2 ≤ L ∧ L ≤ 64 ∧ 0 < m ∧ m ≤ 1000 ∧ ∀ (r : Int) (H' : Hp), 0 ≤ r → r < m → Kp p H H' → Pool H' p L → Q (.int r) H' := by
  obtain ⟨p, L, S, ds, us, rfl, pl, lim, ns, t, q⟩ := h
  obtain ⟨m, rfl, h0, h1, q⟩ := hF ds _ q
  obtain ⟨v, us', rfl, tv, tn⟩ := t
  cases tv
  cases tn
  exact ⟨p, L, m, rfl, pl, lim.1, lim.2, h0, h1, fun r H' r0 r1 k pl' => q r r0 r1 _ H' k pl' rfl⟩
theorem pd_dnew {X : Cx} {c : DC} {pos : Pos} : PD X c (.Dict [] [] pos) (dC (.dict [])) :=
  ⟨pe_weak pe_dnewK fun σ H Q ⟨S, γ, ρ, I, q⟩ => fun p np => q S (.ref p) _ (Step.same (same_upd np)) (I.newO np) ⟨p, [], rfl, upd_same, fun _ => rfl⟩, fun m q => m _ q⟩
/-- what a statement leaves is said once -/
def dCut (s t : DS) : DS := fun E ρ => ∃ P : DEnv → Prop, s { E with nx := P } ρ ∧ ∀ ρ', P ρ' → t E ρ'
theorem pdss_cut {X : Cx} {c : DC} {st : Stmt} {sts : List Stmt} {s t : DS} (h1 : PDS X c st s) (h2 : PDSs X c sts t) : PDSs X c (st :: sts) (dCut s t) :=
  ⟨pss_weak (pdss_cons h1 h2).run fun D σ H ⟨S, γ, ρ, I, P, q1, q2⟩ => ⟨S, γ, ρ, I, h1.mono (E := { dends c γ D with nx := P }) (E' := { dends c γ D with nx := fun ρ' => t (dends c γ D) ρ' }) ⟨q2, fun _ q => q, fun _ q => q, fun _ q => q⟩ q1⟩,
   fun {E E' ρ} h ⟨P, q1, q2⟩ => ⟨P, h1.mono (E := { E with nx := P }) (E' := { E' with nx := P }) ⟨fun _ q => q, h.rt, h.bk, h.ct⟩ q1, fun ρ' z => h2.mono h (q2 ρ' z)⟩⟩

/-! ### strings -/
def rStrA : List V → Hp → VK → Prop := fun xs H Q => (∃ i : Int, xs = [.int i] ∧ i.natAbs.log2 < 1920 ∧ Q (.str (toString i)) H) ∨ ∃ a : Str, xs = [.str a] ∧ Q (.str a) H
theorem call_strA {X : Cx} : CallR X (.type "str") rStrA := by
  intro pins s σ H xs us Q I r h
  rcases h with h | h
  · exact call_str_int pins s σ H xs us Q I r h
  · exact SkE.call_str_str pins s σ H xs us Q I r h
def kStr : List Av → (Av → Prop) → Prop := fun xs Q => (∃ i : Int, xs = [.d (.int i)] ∧ i.natAbs.log2 < 1920 ∧ Q (.d (.str (toString i)))) ∨ ∃ a : Str, xs = [.d (.str a)] ∧ Q (.d (.str a))
def rMulS : R2 := fun x y H Q => ∃ (a : Str) (n : Int), x = .str a ∧ y = .int n ∧ MulOk a n ∧ Q (.str (Txt.mul a n)) H
theorem op_mulS {X : Cx} : OpR X (binaryOp .Mult) rMulS := by
  intro pins s σ H x y v u Q I rx ry h
  obtain ⟨a, n, rfl, rfl, ok, q⟩ := h
  obtain ⟨t, rfl⟩ := rx
  obtain ⟨t', rfl⟩ := ry
  exact SB.mul ok fun t' k => ⟨.str _, H, I.tok _, ⟨_, rfl⟩, q⟩
def kMulS : Av → Av → (Av → Prop) → Prop := fun x y Q => ∃ (a : Str) (n : Int), x = .d (.str a) ∧ y = .d (.int n) ∧ MulOk a n ∧ Q (.d (.str (Txt.mul a n)))
def dFmt (e : DE) : DE := fun ρ Q => e ρ fun x => (∃ y : Str, x = .d (.str y) ∧ y.length ≤ sizeLine ∧ Q (.d (.str y))) ∨ ∃ i : Int, x = .d (.int i) ∧ i.natAbs.log2 < 1920 ∧ Q (.d (.str (toString i)))
def dJs : List DE → Str → DEnv → (Str → Prop) → Prop
  | [], acc, _, Q => Q acc
  | e :: r, acc, ρ, Q => e ρ fun x => ∃ y : Str, x = .d (.str y) ∧ (acc ++ y).length ≤ sizeLine ∧ dJs r (acc ++ y) ρ Q
inductive PDJ (X : Cx) (c : DC) : List Expr → List DE → Prop where
  | nil : PDJ X c [] []
  | cons {e : Expr} {t : DE} {es : List Expr} {ts : List DE} (h : PD X c e t) (r : PDJ X c es ts) : PDJ X c (e :: es) (t :: ts)
def dJoin (a b : DE) : DE := fun ρ Q => a ρ fun x => ∃ s : Str, x = .d (.str s) ∧ b ρ fun y => ∃ ys : List Str, y.dat = some (.list (ys.map PyData.str)) ∧ (ys.map (·.length)).sum + ys.length * s.length ≤ 16777216 ∧ Q (.d (.str (Txt.join s ys)))
def dExt (i : Nat) (e : DE) : DS := fun E ρ => ∃ ds, ρ[i]? = some (some (.o ds)) ∧ e ρ fun av => ∃ es, av = .d (.list es) ∧ ds.length + es.length ≤ 1000 ∧ E.nx (ρ.set i (some (.o (ds ++ es))))
section
variable {K : PySem.W.Frag} {X : Cx} {c : DC} {x x2 x3 : Expr} {st : Stmt}
theorem dk_str : DCl c rStrA kStr := ⟨fun I r h g => by
    rcases h with ⟨i, e, l, q⟩ | ⟨b, e, q⟩
    · subst e
      obtain ⟨v, e2, r1⟩ := r.one
      subst e2
      cases r1
      exact .inl ⟨i, rfl, l, g _ _ _ _ q Step.refl I rfl⟩
    · subst e
      obtain ⟨v, e2, r1⟩ := r.one
      subst e2
      cases r1
      exact .inr ⟨b, rfl, g _ _ _ _ q Step.refl I rfl⟩,
  fun m h => h.elim (fun ⟨i, e, l, q⟩ => .inl ⟨i, e, l, m _ q⟩) fun ⟨i, e, q⟩ => .inr ⟨i, e, m _ q⟩⟩
theorem dk_mulS : DOp c rMulS kMulS :=
  ⟨fun I rx ry ⟨s, t, h1, h2, hl, q⟩ g => by subst h1 h2; exact ⟨s, t, rx, ry, hl, g _ _ _ _ q Step.refl I rfl⟩, fun m ⟨s, t, h1, h2, hl, q⟩ => ⟨s, t, h1, h2, hl, m _ q⟩⟩
theorem pd_fmt {e : DE} (hp : ∀ {t}, PE X x t → PE X x2 (tFmt t)) (he : PD X c x e) : PD X c x2 (dFmt e) :=
  ⟨pe_weak (hp he.run) fun σ H Q ⟨S, γ, ρ, I, q⟩ => ⟨S, γ, ρ, I, he.mono (fun av h S1 v H1 st1 I1 r1 => by
      rcases h with ⟨y, e, l, q⟩ | ⟨i, e, l, q⟩
      · subst e
        cases r1
        exact .inl ⟨y, rfl, l, q S1 _ H1 st1 I1 rfl⟩
      · subst e
        cases r1
        exact .inr ⟨i, rfl, l, q S1 _ H1 st1 I1 rfl⟩) q⟩,
   fun m q => he.mono (fun av h => h.elim (fun ⟨y, e, l, q⟩ => .inl ⟨y, e, l, m _ q⟩) fun ⟨i, e, l, q⟩ => .inr ⟨i, e, l, m _ q⟩) q⟩
theorem PDJ.pj {es : List Expr} {ts : List DE} (h : PDJ X c es ts) : PJ X es (ts.map (tDE c)) := by
  induction h with
  | nil => exact .nil
  | cons h r ih => exact .cons h.run ih
theorem PDJ.mono {es : List Expr} {ts : List DE} (h : PDJ X c es ts) : ∀ {acc ρ P P'}, (∀ s, P s → P' s) → dJs ts acc ρ P → dJs ts acc ρ P' := by
  induction h with
  | nil => exact fun m q => m _ q
  | cons h r ih => exact fun m q => h.mono (fun _ ⟨y, e, l, q⟩ => ⟨y, e, l, ih m q⟩) q
theorem PDJ.run {es : List Expr} {ts : List DE} (h : PDJ X c es ts) : ∀ {acc : Str} {S γ ρ σ H} {P : Str → Prop} {Q : Str → Hp → Prop}, DInv c S γ ρ σ H → dJs ts acc ρ P → (∀ out S' H', Step c S H S' H' → DInv c S' γ ρ σ H' → P out → Q out H') → tJs (ts.map (tDE c)) acc σ H Q := by
  induction h with
  | nil => exact fun I q g => g _ _ _ Step.refl I q
  | cons h r ih =>
    intro acc S γ ρ σ H P Q I q g
    refine ⟨S, γ, ρ, I, h.mono (fun av ⟨y, e, l, q⟩ S1 v H1 st1 I1 r1 => ?_) q⟩
    subst e
    cases r1
    exact ⟨y, rfl, l, ih I1 q fun out S2 H2 st2 I2 p => g out S2 H2 (st1.trans I1.h.w I2.h.w st2) I2 p⟩
theorem pd_joined {v1 v2 : Expr} {rest : List Expr} {ts : List DE} {pos : Pos} (h : PDJ X c (v1 :: v2 :: rest) ts) : PD X c (.JoinedStr (v1 :: v2 :: rest) pos) (fun ρ Q => dJs ts Str.empty ρ fun s => Q (.d (.str s))) :=
  ⟨pe_weak (pe_joined h.pj) fun σ H Q ⟨S, γ, ρ, I, q⟩ => h.run I q fun out S1 H1 st1 I1 p => p S1 _ H1 st1 I1 rfl, fun m q => h.mono (fun _ z => m _ z) q⟩
theorem strs_tr {S : Addr → Prop} {H : Hp} : ∀ {ys : List Str} {xs : List V}, TrAll S H (ys.map PyData.str) xs → xs = ys.map V.str
  | [], _, h => h
  | y :: r, _, ⟨v, us, e, t, u⟩ => by
    cases t
    rw [e, strs_tr u]
    rfl
theorem pd_join {a b : DE} (hp : ∀ {t u}, PE X x t → PE X x2 u → PE X x3 (tM1 (fun x xs H Q => ∃ a p, ∃ ys : List Str, x = .str a ∧ xs = [.ref p] ∧ (SqL X.K H p (ys.map V.str) ∨ SqT X.K H p (ys.map V.str)) ∧ (ys.map (·.length)).sum + ys.length * a.length ≤ 16777216 ∧ Q (.str (Txt.join a ys)) H) t u)) (ha : PD X c x a) (hb : PD X c x2 b) : PD X c x3 (dJoin a b) :=
  ⟨pe_weak (hp ha.run hb.run) fun σ H Q ⟨S, γ, ρ, I, q⟩ => ⟨S, γ, ρ, I, ha.mono (fun av ⟨s, e, q⟩ S1 v H1 st1 I1 r1 => by
      subst e
      cases r1
      refine ⟨⟨s, rfl⟩, S1, γ, ρ, I1, hb.mono (fun y ⟨ys, ey, l, q⟩ S2 u H2 st2 I2 r2 => ?_) q⟩
      obtain ⟨p, xs, e3, hl, t⟩ := r2.lst ey
      subst e3
      have := strs_tr t
      subst this
      exact ⟨s, p, ys, rfl, rfl, .inl (SqL.of hl), l, q S2 _ H2 (st1.trans I1.h.w I2.h.w st2) I2 rfl⟩) q⟩,
   fun m q => ha.mono (fun _ ⟨s, e, q⟩ => ⟨s, e, hb.mono (fun _ ⟨ys, ey, l, q⟩ => ⟨ys, ey, l, m _ q⟩) q⟩) q⟩
theorem pds_ext {i : Nat} {e : DE} (hp : ∀ {t}, PE X x t → PS X st (tDrop (tBM K "list" rExtend (tVar i) (tCons t tNil)))) (he : PD X c x e) : PDS X c st (dExt i e) :=
  ⟨ps_weak (hp he.run) fun D σ H ⟨S, γ, ρ, I, ds, hi, q⟩ => by
      obtain ⟨v, h1, D1, xs, e1, l, t, n, ns⟩ := I.ent i _ hi
      subst e1
      refine ⟨_, h1, .inl ⟨rfl, _, SqL.of l⟩, S, γ, ρ, I, he.mono (fun av ⟨es, e, hl, g⟩ S1 v H1 st1 I1 r1 => ?_) q⟩
      subst e
      obtain ⟨b, zs, e2, sb, lb, tz⟩ := r1
      subst e2
      have l1 := st1.k.at_ l (c.new n)
      exact ⟨D1, b, xs, zs, rfl, rfl, l1, lb, Nat.le_trans (m := 1000) (by rw [t.len, tz.len]; omega) (by decide), g S1 σ _ (I1.chg hi h1 ((TrAll.mono st1.inc _ _ (TrAll.kpl st1.k (fun _ s => I.h.notM s) _ _ t)).append tz))⟩,
   fun h ⟨ds, hi, q⟩ => ⟨ds, hi, he.mono (fun _ ⟨d, e, hl, g⟩ => ⟨d, e, hl, h.nx _ g⟩) q⟩⟩
end

theorem shB (b : Bool) : SeqAt.shaped (.bool b) = true := by simp [SeqAt.shaped, PyData.canLay0, PyData.depth]
theorem shI (i : Int) : SeqAt.shaped (.int i) = true := by simp [SeqAt.shaped, PyData.canLay0, PyData.depth]
theorem atI_mem {ds : List PyData} {r : Int} (h0 : 0 ≤ r) (h1 : r < ds.length) : ∃ d, atI ds r = some d ∧ d ∈ ds := by
  have hi : r.toNat < ds.length := by omega
  refine ⟨ds[r.toNat], ?_, List.getElem_mem hi⟩
  have e : (r.toNat : Int) = r := Int.toNat_of_nonneg h0
  have h : atI ds (r.toNat : Int) = some ds[r.toNat] := atI_nat (List.getElem?_eq_getElem hi)
  rw [e] at h
  exact h
theorem eqvI (i j : Int) : PyData.eqv (.int i) (.int j) = decide (i = j) := by
  rw [PyData.eqv]
  by_cases h : i = j
  · subst h; simp
  · simp [h]
theorem eqvI2 (i j : Int) : PyData.eqv (.int i) (.int j) = (i == j) := by rw [PyData.eqv]
theorem eqvB (i j : Bool) : PyData.eqv (.bool i) (.bool j) = (i == j) := by rw [PyData.eqv]
theorem eqvS (i j : Str) : PyData.eqv (.str i) (.str j) = (i == j) := by rw [PyData.eqv]
theorem avd1 {x : PyData} {r : List Av} {ds : List PyData} : (Av.d x :: r = List.map Av.d ds) ↔ ∃ es, r = List.map Av.d es ∧ ds = x :: es := by
  constructor
  · intro h
    cases ds with
    | nil => cases h
    | cons y es =>
      cases h
      exact ⟨es, rfl, rfl⟩
  · rintro ⟨es, rfl, rfl⟩
    rfl
theorem avd0 {ds : List PyData} : (([] : List Av) = List.map Av.d ds) ↔ ds = [] := by
  cases ds with
  | nil => exact ⟨fun _ => rfl, fun _ => rfl⟩
  | cons y es => exact ⟨fun h => (nomatch h), fun h => (nomatch h)⟩

--SPLIT
def topS (i : Nat) : Stmt := PySem.Challenge.pw_penhome_k48_text_of_a_book.main.body.getD i (.Pass ⟨0, 0, 0, 0⟩)
theorem bt_all : bootBuiltins "all" = some (.builtin "all") := by decide +kernel
theorem bt_bool : bootBuiltins "bool" = some (.type "bool") := by decide +kernel
theorem bt_enumerate : bootBuiltins "enumerate" = some (.type "enumerate") := by decide +kernel
theorem bt_int : bootBuiltins "int" = some (.type "int") := by decide +kernel
theorem bt_isinstance : bootBuiltins "isinstance" = some (.builtin "isinstance") := by decide +kernel
theorem bt_len : bootBuiltins "len" = some (.builtin "len") := by decide +kernel
theorem bt_list : bootBuiltins "list" = some (.type "list") := by decide +kernel
theorem bt_range : bootBuiltins "range" = some (.type "range") := by decide +kernel
theorem bt_str : bootBuiltins "str" = some (.type "str") := by decide +kernel
theorem bt_tuple : bootBuiltins "tuple" = some (.type "tuple") := by decide +kernel
theorem bt_zip : bootBuiltins "zip" = some (.type "zip") := by decide +kernel
abbrev s_is_integer : Stmt := topS 8
abbrev N_is_integer : List Str := ["thing"]
theorem sc_is_integer : FnScope N_is_integer ["thing"] (defScope s_is_integer) := ⟨rfl, rfl, rfl, by decide +kernel, rfl, by decide +kernel, by decide +kernel⟩
abbrev s_is_within : Stmt := topS 9
abbrev N_is_within : List Str := ["thing", "bounds", "low", "high"]
theorem sc_is_within : FnScope N_is_within ["thing", "bounds"] (defScope s_is_within) := ⟨rfl, rfl, rfl, by decide +kernel, rfl, by decide +kernel, by decide +kernel⟩
abbrev s_is_bit : Stmt := topS 10
abbrev N_is_bit : List Str := ["thing"]
theorem sc_is_bit : FnScope N_is_bit ["thing"] (defScope s_is_bit) := ⟨rfl, rfl, rfl, by decide +kernel, rfl, by decide +kernel, by decide +kernel⟩
abbrev s_is_command : Stmt := topS 11
abbrev N_is_command : List Str := ["thing", "word", "numbers", "bounds", "number", "pair"]
theorem sc_is_command : FnScope N_is_command ["thing"] (defScope s_is_command) := ⟨rfl, rfl, rfl, by decide +kernel, rfl, by decide +kernel, by decide +kernel⟩
abbrev s_is_index : Stmt := topS 17
abbrev N_is_index : List Str := ["thing", "many"]
theorem sc_is_index : FnScope N_is_index ["thing", "many"] (defScope s_is_index) := ⟨rfl, rfl, rfl, by decide +kernel, rfl, by decide +kernel, by decide +kernel⟩
abbrev s_are_blocks : Stmt := topS 18
abbrev N_are_blocks : List Str := ["thing", "many", "block"]
theorem sc_are_blocks : FnScope N_are_blocks ["thing", "many"] (defScope s_are_blocks) := ⟨rfl, rfl, rfl, by decide +kernel, rfl, by decide +kernel, by decide +kernel⟩
abbrev s_is_call : Stmt := topS 19
abbrev N_is_call : List Str := ["thing", "procedures", "_", "procedure", "saved", "blocks"]
theorem sc_is_call : FnScope N_is_call ["thing", "procedures"] (defScope s_is_call) := ⟨rfl, rfl, rfl, by decide +kernel, rfl, by decide +kernel, by decide +kernel⟩
abbrev s_is_statement : Stmt := topS 20
abbrev N_is_statement : List Str := ["thing", "level", "procedures", "word"]
theorem sc_is_statement : FnScope N_is_statement ["thing", "level", "procedures"] (defScope s_is_statement) := ⟨rfl, rfl, rfl, by decide +kernel, rfl, by decide +kernel, by decide +kernel⟩
abbrev s_blocks_of : Stmt := topS 21
abbrev N_blocks_of : List Str := ["statement", "word"]
theorem sc_blocks_of : FnScope N_blocks_of ["statement"] (defScope s_blocks_of) := ⟨rfl, rfl, rfl, by decide +kernel, rfl, by decide +kernel, by decide +kernel⟩
abbrev s_with_blocks : Stmt := topS 22
abbrev N_with_blocks : List Str := ["statement", "blocks", "word"]
theorem sc_with_blocks : FnScope N_with_blocks ["statement", "blocks"] (defScope s_with_blocks) := ⟨rfl, rfl, rfl, by decide +kernel, rfl, by decide +kernel, by decide +kernel⟩
abbrev s_copied_statement : Stmt := topS 23
abbrev N_copied_statement : List Str := ["statement", "block"]
theorem sc_copied_statement : FnScope N_copied_statement ["statement"] (defScope s_copied_statement) := ⟨rfl, rfl, rfl, by decide +kernel, rfl, by decide +kernel, by decide +kernel⟩
abbrev s_copied : Stmt := topS 24
abbrev N_copied : List Str := ["block", "statement"]
theorem sc_copied : FnScope N_copied ["block"] (defScope s_copied) := ⟨rfl, rfl, rfl, by decide +kernel, rfl, by decide +kernel, by decide +kernel⟩
abbrev s_check_block : Stmt := topS 28
abbrev N_check_block : List Str := ["block", "procedure", "ahead", "read", "procedures", "at", "statement", "path", "number", "inner"]
theorem sc_check_block : FnScope N_check_block ["block", "procedure", "ahead", "read", "procedures"] (defScope s_check_block) := ⟨rfl, rfl, rfl, by decide +kernel, rfl, by decide +kernel, by decide +kernel⟩
abbrev s_check_bodies : Stmt := topS 29
abbrev N_check_bodies : List Str := ["bodies", "procedure", "body"]
theorem sc_check_bodies : FnScope N_check_bodies ["bodies"] (defScope s_check_bodies) := ⟨rfl, rfl, rfl, by decide +kernel, rfl, by decide +kernel, by decide +kernel⟩
abbrev s_Book___init__ : Stmt := inClass (topS 31) 0
abbrev N_Book___init__ : List Str := ["self", "bodies", "body"]
theorem sc_Book___init__ : FnScope N_Book___init__ ["self", "bodies"] (defScope s_Book___init__) := ⟨rfl, rfl, rfl, by decide +kernel, rfl, by decide +kernel, by decide +kernel⟩
abbrev s_Book___len__ : Stmt := inClass (topS 31) 1
abbrev N_Book___len__ : List Str := ["self"]
theorem sc_Book___len__ : FnScope N_Book___len__ ["self"] (defScope s_Book___len__) := ⟨rfl, rfl, rfl, by decide +kernel, rfl, by decide +kernel, by decide +kernel⟩
abbrev s_Book_bodies : Stmt := inClass (topS 31) 6
abbrev N_Book_bodies : List Str := ["self", "body"]
theorem sc_Book_bodies : FnScope N_Book_bodies ["self"] (defScope s_Book_bodies) := ⟨rfl, rfl, rfl, by decide +kernel, rfl, by decide +kernel, by decide +kernel⟩
abbrev s_heads_of : Stmt := topS 33
abbrev N_heads_of : List Str := ["statement", "word", "_", "procedure", "saved", "blocks", "first", "item"]
theorem sc_heads_of : FnScope N_heads_of ["statement"] (defScope s_heads_of) := ⟨rfl, rfl, rfl, by decide +kernel, rfl, by decide +kernel, by decide +kernel⟩
abbrev s_lines_of : Stmt := topS 34
abbrev N_lines_of : List Str := ["block", "level", "margin", "lines", "statement", "head", "inner"]
theorem sc_lines_of : FnScope N_lines_of ["block", "level"] (defScope s_lines_of) := ⟨rfl, rfl, rfl, by decide +kernel, rfl, by decide +kernel, by decide +kernel⟩
abbrev s_book_text : Stmt := topS 35
abbrev N_book_text : List Str := ["book", "lines", "procedure", "body"]
theorem sc_book_text : FnScope N_book_text ["book"] (defScope s_book_text) := ⟨rfl, rfl, rfl, by decide +kernel, rfl, by decide +kernel, by decide +kernel⟩
abbrev s__law_pool : Stmt := topS 37
abbrev N__law_pool : List Str := ["_law_script", "_law_cell"]
theorem sc__law_pool : FnScope N__law_pool ["_law_script"] (defScope s__law_pool) := ⟨rfl, rfl, rfl, by decide +kernel, rfl, by decide +kernel, by decide +kernel⟩
abbrev s__law_draw : Stmt := topS 38
abbrev N__law_draw : List Str := ["_law_pool_here", "_law_many", "_law_at", "_law_cell", "_law_number"]
theorem sc__law_draw : FnScope N__law_draw ["_law_pool_here", "_law_many"] (defScope s__law_draw) := ⟨rfl, rfl, rfl, by decide +kernel, rfl, by decide +kernel, by decide +kernel⟩
abbrev s__law_command : Stmt := topS 39
abbrev N__law_command : List Str := ["_law_pool_here", "_law_mood", "_law_menus", "_law_menu", "_law_kind", "_law_far"]
theorem sc__law_command : FnScope N__law_command ["_law_pool_here", "_law_mood"] (defScope s__law_command) := ⟨rfl, rfl, rfl, by decide +kernel, rfl, by decide +kernel, by decide +kernel⟩
abbrev s__law_pair : Stmt := topS 40
abbrev N__law_pair : List Str := ["_law_pool_here", "_law_mood", "_law_k", "_law_kind", "_law_rows"]
theorem sc__law_pair : FnScope N__law_pair ["_law_pool_here", "_law_mood"] (defScope s__law_pair) := ⟨rfl, rfl, rfl, by decide +kernel, rfl, by decide +kernel, by decide +kernel⟩
abbrev s__law_block : Stmt := topS 41
abbrev N__law_block : List Str := ["_law_pool_here", "_law_mood", "_law_level", "_law_room", "_law_calls", "_law_low", "_law_block_here", "_law_turn"]
theorem sc__law_block : FnScope N__law_block ["_law_pool_here", "_law_mood", "_law_level", "_law_room", "_law_calls", "_law_low"] (defScope s__law_block) := ⟨rfl, rfl, rfl, by decide +kernel, rfl, by decide +kernel, by decide +kernel⟩
abbrev s__law_piece : Stmt := topS 42
abbrev N__law_piece : List Str := ["_law_pool_here", "_law_mood", "_law_level", "_law_room", "_law_calls", "_law_low", "_law_kind", "_law_pair_here", "_law_inner", "_law_one", "_law_goal", "_law_saved"]
theorem sc__law_piece : FnScope N__law_piece ["_law_pool_here", "_law_mood", "_law_level", "_law_room", "_law_calls", "_law_low"] (defScope s__law_piece) := ⟨rfl, rfl, rfl, by decide +kernel, rfl, by decide +kernel, by decide +kernel⟩
abbrev s__law_around : Stmt := topS 43
abbrev N__law_around : List Str := ["_law_pool_here", "_law_mood", "_law_room", "_law_calls", "_law_goal", "_law_saved", "_law_at", "_law_pair_here", "_law_rows"]
theorem sc__law_around : FnScope N__law_around ["_law_pool_here", "_law_mood", "_law_room", "_law_calls"] (defScope s__law_around) := ⟨rfl, rfl, rfl, by decide +kernel, rfl, by decide +kernel, by decide +kernel⟩
abbrev s__law_body : Stmt := topS 44
abbrev N__law_body : List Str := ["_law_pool_here", "_law_mood", "_law_room", "_law_calls", "_law_low", "_law_ending", "_law_body_here", "_law_turn", "_law_rows"]
theorem sc__law_body : FnScope N__law_body ["_law_pool_here", "_law_mood", "_law_room", "_law_calls", "_law_low"] (defScope s__law_body) := ⟨rfl, rfl, rfl, by decide +kernel, rfl, by decide +kernel, by decide +kernel⟩
abbrev s__law_book : Stmt := topS 45
abbrev N__law_book : List Str := ["_law_pool_here", "_law_most", "_law_size", "_law_mood", "_law_wild", "_law_many", "_law_calls", "_law_bodies", "_law_procedure", "_law_room", "_law_low"]
theorem sc__law_book : FnScope N__law_book ["_law_pool_here", "_law_most", "_law_size"] (defScope s__law_book) := ⟨rfl, rfl, rfl, by decide +kernel, rfl, by decide +kernel, by decide +kernel⟩
abbrev s__law_any_command : Stmt := topS 46
abbrev N__law_any_command : List Str := ["_law_pool_here", "_law_kind"]
theorem sc__law_any_command : FnScope N__law_any_command ["_law_pool_here"] (defScope s__law_any_command) := ⟨rfl, rfl, rfl, by decide +kernel, rfl, by decide +kernel, by decide +kernel⟩
abbrev s__law_blocks : Stmt := topS 47
abbrev N__law_blocks : List Str := ["_law_statement", "_law_item"]
theorem sc__law_blocks : FnScope N__law_blocks ["_law_statement"] (defScope s__law_blocks) := ⟨rfl, rfl, rfl, by decide +kernel, rfl, by decide +kernel, by decide +kernel⟩
abbrev s__law_with : Stmt := topS 48
abbrev N__law_with : List Str := ["_law_statement", "_law_blocks_here"]
theorem sc__law_with : FnScope N__law_with ["_law_statement", "_law_blocks_here"] (defScope s__law_with) := ⟨rfl, rfl, rfl, by decide +kernel, rfl, by decide +kernel, by decide +kernel⟩
abbrev s__law_copy : Stmt := topS 49
abbrev N__law_copy : List Str := ["_law_block_here", "_law_row", "_law_inner"]
theorem sc__law_copy : FnScope N__law_copy ["_law_block_here"] (defScope s__law_copy) := ⟨rfl, rfl, rfl, by decide +kernel, rfl, by decide +kernel, by decide +kernel⟩
abbrev s__law_copies : Stmt := topS 50
abbrev N__law_copies : List Str := ["_law_bodies", "_law_body_here"]
theorem sc__law_copies : FnScope N__law_copies ["_law_bodies"] (defScope s__law_copies) := ⟨rfl, rfl, rfl, by decide +kernel, rfl, by decide +kernel, by decide +kernel⟩
abbrev s__law_same : Stmt := topS 51
abbrev N__law_same : List Str := ["_law_one", "_law_other", "_law_k"]
theorem sc__law_same : FnScope N__law_same ["_law_one", "_law_other"] (defScope s__law_same) := ⟨rfl, rfl, rfl, by decide +kernel, rfl, by decide +kernel, by decide +kernel⟩
abbrev s__law_words : Stmt := topS 52
abbrev N__law_words : List Str := ["_law_statement", "_law_text", "_law_item"]
theorem sc__law_words : FnScope N__law_words ["_law_statement"] (defScope s__law_words) := ⟨rfl, rfl, rfl, by decide +kernel, rfl, by decide +kernel, by decide +kernel⟩
abbrev s__law_lines : Stmt := topS 53
abbrev N__law_lines : List Str := ["_law_block_here", "_law_indent", "_law_lines_here", "_law_statement", "_law_word"]
theorem sc__law_lines : FnScope N__law_lines ["_law_block_here", "_law_indent"] (defScope s__law_lines) := ⟨rfl, rfl, rfl, by decide +kernel, rfl, by decide +kernel, by decide +kernel⟩
abbrev s__law_text_lines : Stmt := topS 54
abbrev N__law_text_lines : List Str := ["_law_bodies", "_law_lines_here", "_law_procedure"]
theorem sc__law_text_lines : FnScope N__law_text_lines ["_law_bodies"] (defScope s__law_text_lines) := ⟨rfl, rfl, rfl, by decide +kernel, rfl, by decide +kernel, by decide +kernel⟩
abbrev s_law : Stmt := topS 55
abbrev N_law : List Str := ["_law_script", "_law_pool_here", "_law_more", "_law_command_here", "_law_bodies", "_law_book_here", "_law_due", "_law_text"]
theorem sc_law : FnScope N_law ["_law_script"] (defScope s_law) := ⟨rfl, rfl, rfl, by decide +kernel, rfl, by decide +kernel, by decide +kernel⟩
structure Top (w : World) (K : PySem.W.Frag) (mg : Str → Option Value) where
  C_Book : Addr
  g_Book : mg "Book" = some (.ref C_Book)
  cl_Book : Cls K C_Book
  na_Book__bodies : NoAttr K C_Book "_bodies"
  a_is_integer : Addr
  d_is_integer : FuncData
  F_is_integer : Fun K "is_integer" "is_integer" s_is_integer a_is_integer d_is_integer
  g_is_integer : mg "is_integer" = some (.ref a_is_integer)
  a_is_within : Addr
  d_is_within : FuncData
  F_is_within : Fun K "is_within" "is_within" s_is_within a_is_within d_is_within
  g_is_within : mg "is_within" = some (.ref a_is_within)
  a_is_bit : Addr
  d_is_bit : FuncData
  F_is_bit : Fun K "is_bit" "is_bit" s_is_bit a_is_bit d_is_bit
  g_is_bit : mg "is_bit" = some (.ref a_is_bit)
  a_is_command : Addr
  d_is_command : FuncData
  F_is_command : Fun K "is_command" "is_command" s_is_command a_is_command d_is_command
  g_is_command : mg "is_command" = some (.ref a_is_command)
  a_is_index : Addr
  d_is_index : FuncData
  F_is_index : Fun K "is_index" "is_index" s_is_index a_is_index d_is_index
  g_is_index : mg "is_index" = some (.ref a_is_index)
  a_are_blocks : Addr
  d_are_blocks : FuncData
  F_are_blocks : Fun K "are_blocks" "are_blocks" s_are_blocks a_are_blocks d_are_blocks
  g_are_blocks : mg "are_blocks" = some (.ref a_are_blocks)
  a_is_call : Addr
  d_is_call : FuncData
  F_is_call : Fun K "is_call" "is_call" s_is_call a_is_call d_is_call
  g_is_call : mg "is_call" = some (.ref a_is_call)
  a_is_statement : Addr
  d_is_statement : FuncData
  F_is_statement : Fun K "is_statement" "is_statement" s_is_statement a_is_statement d_is_statement
  g_is_statement : mg "is_statement" = some (.ref a_is_statement)
  a_blocks_of : Addr
  d_blocks_of : FuncData
  F_blocks_of : Fun K "blocks_of" "blocks_of" s_blocks_of a_blocks_of d_blocks_of
  g_blocks_of : mg "blocks_of" = some (.ref a_blocks_of)
  a_with_blocks : Addr
  d_with_blocks : FuncData
  F_with_blocks : Fun K "with_blocks" "with_blocks" s_with_blocks a_with_blocks d_with_blocks
  g_with_blocks : mg "with_blocks" = some (.ref a_with_blocks)
  a_copied_statement : Addr
  d_copied_statement : FuncData
  F_copied_statement : Fun K "copied_statement" "copied_statement" s_copied_statement a_copied_statement d_copied_statement
  g_copied_statement : mg "copied_statement" = some (.ref a_copied_statement)
  a_copied : Addr
  d_copied : FuncData
  F_copied : Fun K "copied" "copied" s_copied a_copied d_copied
  g_copied : mg "copied" = some (.ref a_copied)
  a_check_block : Addr
  d_check_block : FuncData
  F_check_block : Fun K "check_block" "check_block" s_check_block a_check_block d_check_block
  g_check_block : mg "check_block" = some (.ref a_check_block)
  a_check_bodies : Addr
  d_check_bodies : FuncData
  F_check_bodies : Fun K "check_bodies" "check_bodies" s_check_bodies a_check_bodies d_check_bodies
  g_check_bodies : mg "check_bodies" = some (.ref a_check_bodies)
  a_Book___init__ : Addr
  d_Book___init__ : FuncData
  F_Book___init__ : Fun K "__init__" "Book.__init__" s_Book___init__ a_Book___init__ d_Book___init__
  mk_Book : Mk K C_Book a_Book___init__
  a_Book___len__ : Addr
  d_Book___len__ : FuncData
  F_Book___len__ : Fun K "__len__" "Book.__len__" s_Book___len__ a_Book___len__ d_Book___len__
  m_Book___len__ : Meth K C_Book "__len__" a_Book___len__
  a_Book_bodies : Addr
  d_Book_bodies : FuncData
  F_Book_bodies : Fun K "bodies" "Book.bodies" s_Book_bodies a_Book_bodies d_Book_bodies
  m_Book_bodies : Meth K C_Book "bodies" a_Book_bodies
  a_heads_of : Addr
  d_heads_of : FuncData
  F_heads_of : Fun K "heads_of" "heads_of" s_heads_of a_heads_of d_heads_of
  g_heads_of : mg "heads_of" = some (.ref a_heads_of)
  a_lines_of : Addr
  d_lines_of : FuncData
  F_lines_of : Fun K "lines_of" "lines_of" s_lines_of a_lines_of d_lines_of
  g_lines_of : mg "lines_of" = some (.ref a_lines_of)
  a_book_text : Addr
  d_book_text : FuncData
  F_book_text : Fun K "book_text" "book_text" s_book_text a_book_text d_book_text
  g_book_text : mg "book_text" = some (.ref a_book_text)
  a__law_pool : Addr
  d__law_pool : FuncData
  F__law_pool : Fun K "_law_pool" "_law_pool" s__law_pool a__law_pool d__law_pool
  g__law_pool : mg "_law_pool" = some (.ref a__law_pool)
  a__law_draw : Addr
  d__law_draw : FuncData
  F__law_draw : Fun K "_law_draw" "_law_draw" s__law_draw a__law_draw d__law_draw
  g__law_draw : mg "_law_draw" = some (.ref a__law_draw)
  a__law_command : Addr
  d__law_command : FuncData
  F__law_command : Fun K "_law_command" "_law_command" s__law_command a__law_command d__law_command
  g__law_command : mg "_law_command" = some (.ref a__law_command)
  a__law_pair : Addr
  d__law_pair : FuncData
  F__law_pair : Fun K "_law_pair" "_law_pair" s__law_pair a__law_pair d__law_pair
  g__law_pair : mg "_law_pair" = some (.ref a__law_pair)
  a__law_block : Addr
  d__law_block : FuncData
  F__law_block : Fun K "_law_block" "_law_block" s__law_block a__law_block d__law_block
  g__law_block : mg "_law_block" = some (.ref a__law_block)
  a__law_piece : Addr
  d__law_piece : FuncData
  F__law_piece : Fun K "_law_piece" "_law_piece" s__law_piece a__law_piece d__law_piece
  g__law_piece : mg "_law_piece" = some (.ref a__law_piece)
  a__law_around : Addr
  d__law_around : FuncData
  F__law_around : Fun K "_law_around" "_law_around" s__law_around a__law_around d__law_around
  g__law_around : mg "_law_around" = some (.ref a__law_around)
  a__law_body : Addr
  d__law_body : FuncData
  F__law_body : Fun K "_law_body" "_law_body" s__law_body a__law_body d__law_body
  g__law_body : mg "_law_body" = some (.ref a__law_body)
  a__law_book : Addr
  d__law_book : FuncData
  F__law_book : Fun K "_law_book" "_law_book" s__law_book a__law_book d__law_book
  g__law_book : mg "_law_book" = some (.ref a__law_book)
  a__law_any_command : Addr
  d__law_any_command : FuncData
  F__law_any_command : Fun K "_law_any_command" "_law_any_command" s__law_any_command a__law_any_command d__law_any_command
  g__law_any_command : mg "_law_any_command" = some (.ref a__law_any_command)
  a__law_blocks : Addr
  d__law_blocks : FuncData
  F__law_blocks : Fun K "_law_blocks" "_law_blocks" s__law_blocks a__law_blocks d__law_blocks
  g__law_blocks : mg "_law_blocks" = some (.ref a__law_blocks)
  a__law_with : Addr
  d__law_with : FuncData
  F__law_with : Fun K "_law_with" "_law_with" s__law_with a__law_with d__law_with
  g__law_with : mg "_law_with" = some (.ref a__law_with)
  a__law_copy : Addr
  d__law_copy : FuncData
  F__law_copy : Fun K "_law_copy" "_law_copy" s__law_copy a__law_copy d__law_copy
  g__law_copy : mg "_law_copy" = some (.ref a__law_copy)
  a__law_copies : Addr
  d__law_copies : FuncData
  F__law_copies : Fun K "_law_copies" "_law_copies" s__law_copies a__law_copies d__law_copies
  g__law_copies : mg "_law_copies" = some (.ref a__law_copies)
  a__law_same : Addr
  d__law_same : FuncData
  F__law_same : Fun K "_law_same" "_law_same" s__law_same a__law_same d__law_same
  g__law_same : mg "_law_same" = some (.ref a__law_same)
  a__law_words : Addr
  d__law_words : FuncData
  F__law_words : Fun K "_law_words" "_law_words" s__law_words a__law_words d__law_words
  g__law_words : mg "_law_words" = some (.ref a__law_words)
  a__law_lines : Addr
  d__law_lines : FuncData
  F__law_lines : Fun K "_law_lines" "_law_lines" s__law_lines a__law_lines d__law_lines
  g__law_lines : mg "_law_lines" = some (.ref a__law_lines)
  a__law_text_lines : Addr
  d__law_text_lines : FuncData
  F__law_text_lines : Fun K "_law_text_lines" "_law_text_lines" s__law_text_lines a__law_text_lines d__law_text_lines
  g__law_text_lines : mg "_law_text_lines" = some (.ref a__law_text_lines)
  a_law : Addr
  d_law : FuncData
  F_law : Fun K "law" "law" s_law a_law d_law
  g_law : mg "law" = some (.ref a_law)
  c_DEEPEST_LEVEL : ∃ u, mg "DEEPEST_LEVEL" = some u ∧ RelV (.int 3) u
  c_MOST_IN_A_LIST : ∃ u, mg "MOST_IN_A_LIST" = some u ∧ RelV (.int 8) u
  c_MOST_IN_A_PROCEDURE : ∃ u, mg "MOST_IN_A_PROCEDURE" = some u ∧ RelV (.int 12) u
  c_MOST_PROCEDURES : ∃ u, mg "MOST_PROCEDURES" = some u ∧ RelV (.int 3) u
  z_all : mg "all" = none
  z_bool : mg "bool" = none
  z_enumerate : mg "enumerate" = none
  z_int : mg "int" = none
  z_isinstance : mg "isinstance" = none
  z_len : mg "len" = none
  z_list : mg "list" = none
  z_range : mg "range" = none
  z_str : mg "str" = none
  z_tuple : mg "tuple" = none
  z_zip : mg "zip" = none
  a_BOUNDS : Addr
  c_BOUNDS : ∃ u, mg "BOUNDS" = some u ∧ RelV (.ref a_BOUNDS) u
  e_B : Array DictEntry
  n_B : Nat
  D_B : KDict K w a_BOUNDS e_B n_B
  L_B : Lims w K a_BOUNDS
  W_B : ∀ s ∈ oddWords, PySem.W.nsIn K a_BOUNDS s = some none
theorem b_is_integer {w : World} {K : PySem.W.Frag} {mg : Str → Option Value} (T : Top w K mg) : Binds K T.d_is_integer ["thing"] [] := T.F_is_integer.binds (ps := ["thing"]) fun _ _ _ _ _ _ us hl => match us, hl with | [_], _ => rfl
theorem b_is_within {w : World} {K : PySem.W.Frag} {mg : Str → Option Value} (T : Top w K mg) : Binds K T.d_is_within ["thing", "bounds"] [] := T.F_is_within.binds (ps := ["thing", "bounds"]) fun _ _ _ _ _ _ us hl => match us, hl with | [_, _], _ => rfl
theorem b_is_bit {w : World} {K : PySem.W.Frag} {mg : Str → Option Value} (T : Top w K mg) : Binds K T.d_is_bit ["thing"] [] := T.F_is_bit.binds (ps := ["thing"]) fun _ _ _ _ _ _ us hl => match us, hl with | [_], _ => rfl
theorem b_is_command {w : World} {K : PySem.W.Frag} {mg : Str → Option Value} (T : Top w K mg) : Binds K T.d_is_command ["thing"] [] := T.F_is_command.binds (ps := ["thing"]) fun _ _ _ _ _ _ us hl => match us, hl with | [_], _ => rfl
theorem b_is_index {w : World} {K : PySem.W.Frag} {mg : Str → Option Value} (T : Top w K mg) : Binds K T.d_is_index ["thing", "many"] [] := T.F_is_index.binds (ps := ["thing", "many"]) fun _ _ _ _ _ _ us hl => match us, hl with | [_, _], _ => rfl
theorem b_are_blocks {w : World} {K : PySem.W.Frag} {mg : Str → Option Value} (T : Top w K mg) : Binds K T.d_are_blocks ["thing", "many"] [] := T.F_are_blocks.binds (ps := ["thing", "many"]) fun _ _ _ _ _ _ us hl => match us, hl with | [_, _], _ => rfl
theorem b_is_call {w : World} {K : PySem.W.Frag} {mg : Str → Option Value} (T : Top w K mg) : Binds K T.d_is_call ["thing", "procedures"] [] := T.F_is_call.binds (ps := ["thing", "procedures"]) fun _ _ _ _ _ _ us hl => match us, hl with | [_, _], _ => rfl
theorem b_is_statement {w : World} {K : PySem.W.Frag} {mg : Str → Option Value} (T : Top w K mg) : Binds K T.d_is_statement ["thing", "level", "procedures"] [] := T.F_is_statement.binds (ps := ["thing", "level", "procedures"]) fun _ _ _ _ _ _ us hl => match us, hl with | [_, _, _], _ => rfl
theorem b_blocks_of {w : World} {K : PySem.W.Frag} {mg : Str → Option Value} (T : Top w K mg) : Binds K T.d_blocks_of ["statement"] [] := T.F_blocks_of.binds (ps := ["statement"]) fun _ _ _ _ _ _ us hl => match us, hl with | [_], _ => rfl
theorem b_with_blocks {w : World} {K : PySem.W.Frag} {mg : Str → Option Value} (T : Top w K mg) : Binds K T.d_with_blocks ["statement", "blocks"] [] := T.F_with_blocks.binds (ps := ["statement", "blocks"]) fun _ _ _ _ _ _ us hl => match us, hl with | [_, _], _ => rfl
theorem b_copied_statement {w : World} {K : PySem.W.Frag} {mg : Str → Option Value} (T : Top w K mg) : Binds K T.d_copied_statement ["statement"] [] := T.F_copied_statement.binds (ps := ["statement"]) fun _ _ _ _ _ _ us hl => match us, hl with | [_], _ => rfl
theorem b_copied {w : World} {K : PySem.W.Frag} {mg : Str → Option Value} (T : Top w K mg) : Binds K T.d_copied ["block"] [] := T.F_copied.binds (ps := ["block"]) fun _ _ _ _ _ _ us hl => match us, hl with | [_], _ => rfl
theorem b_check_block {w : World} {K : PySem.W.Frag} {mg : Str → Option Value} (T : Top w K mg) : Binds K T.d_check_block ["block", "procedure", "ahead", "read", "procedures"] [] := T.F_check_block.binds (ps := ["block", "procedure", "ahead", "read", "procedures"]) fun _ _ _ _ _ _ us hl => match us, hl with | [_, _, _, _, _], _ => rfl
theorem b_check_bodies {w : World} {K : PySem.W.Frag} {mg : Str → Option Value} (T : Top w K mg) : Binds K T.d_check_bodies ["bodies"] [] := T.F_check_bodies.binds (ps := ["bodies"]) fun _ _ _ _ _ _ us hl => match us, hl with | [_], _ => rfl
theorem b_Book___init__ {w : World} {K : PySem.W.Frag} {mg : Str → Option Value} (T : Top w K mg) : Binds K T.d_Book___init__ ["self", "bodies"] [] := T.F_Book___init__.binds (ps := ["self", "bodies"]) fun _ _ _ _ _ _ us hl => match us, hl with | [_, _], _ => rfl
theorem b_Book___len__ {w : World} {K : PySem.W.Frag} {mg : Str → Option Value} (T : Top w K mg) : Binds K T.d_Book___len__ ["self"] [] := T.F_Book___len__.binds (ps := ["self"]) fun _ _ _ _ _ _ us hl => match us, hl with | [_], _ => rfl
theorem b_Book_bodies {w : World} {K : PySem.W.Frag} {mg : Str → Option Value} (T : Top w K mg) : Binds K T.d_Book_bodies ["self"] [] := T.F_Book_bodies.binds (ps := ["self"]) fun _ _ _ _ _ _ us hl => match us, hl with | [_], _ => rfl
theorem b_heads_of {w : World} {K : PySem.W.Frag} {mg : Str → Option Value} (T : Top w K mg) : Binds K T.d_heads_of ["statement"] [] := T.F_heads_of.binds (ps := ["statement"]) fun _ _ _ _ _ _ us hl => match us, hl with | [_], _ => rfl
theorem b_lines_of {w : World} {K : PySem.W.Frag} {mg : Str → Option Value} (T : Top w K mg) : Binds K T.d_lines_of ["block", "level"] [] := T.F_lines_of.binds (ps := ["block", "level"]) fun _ _ _ _ _ _ us hl => match us, hl with | [_, _], _ => rfl
theorem b_book_text {w : World} {K : PySem.W.Frag} {mg : Str → Option Value} (T : Top w K mg) : Binds K T.d_book_text ["book"] [] := T.F_book_text.binds (ps := ["book"]) fun _ _ _ _ _ _ us hl => match us, hl with | [_], _ => rfl
theorem b__law_pool {w : World} {K : PySem.W.Frag} {mg : Str → Option Value} (T : Top w K mg) : Binds K T.d__law_pool ["_law_script"] [] := T.F__law_pool.binds (ps := ["_law_script"]) fun _ _ _ _ _ _ us hl => match us, hl with | [_], _ => rfl
theorem b__law_draw {w : World} {K : PySem.W.Frag} {mg : Str → Option Value} (T : Top w K mg) : Binds K T.d__law_draw ["_law_pool_here", "_law_many"] [] := T.F__law_draw.binds (ps := ["_law_pool_here", "_law_many"]) fun _ _ _ _ _ _ us hl => match us, hl with | [_, _], _ => rfl
theorem b__law_command {w : World} {K : PySem.W.Frag} {mg : Str → Option Value} (T : Top w K mg) : Binds K T.d__law_command ["_law_pool_here", "_law_mood"] [] := T.F__law_command.binds (ps := ["_law_pool_here", "_law_mood"]) fun _ _ _ _ _ _ us hl => match us, hl with | [_, _], _ => rfl
theorem b__law_pair {w : World} {K : PySem.W.Frag} {mg : Str → Option Value} (T : Top w K mg) : Binds K T.d__law_pair ["_law_pool_here", "_law_mood"] [] := T.F__law_pair.binds (ps := ["_law_pool_here", "_law_mood"]) fun _ _ _ _ _ _ us hl => match us, hl with | [_, _], _ => rfl
theorem b__law_block {w : World} {K : PySem.W.Frag} {mg : Str → Option Value} (T : Top w K mg) : Binds K T.d__law_block ["_law_pool_here", "_law_mood", "_law_level", "_law_room", "_law_calls", "_law_low"] [] := T.F__law_block.binds (ps := ["_law_pool_here", "_law_mood", "_law_level", "_law_room", "_law_calls", "_law_low"]) fun _ _ _ _ _ _ us hl => match us, hl with | [_, _, _, _, _, _], _ => rfl
theorem b__law_piece {w : World} {K : PySem.W.Frag} {mg : Str → Option Value} (T : Top w K mg) : Binds K T.d__law_piece ["_law_pool_here", "_law_mood", "_law_level", "_law_room", "_law_calls", "_law_low"] [] := T.F__law_piece.binds (ps := ["_law_pool_here", "_law_mood", "_law_level", "_law_room", "_law_calls", "_law_low"]) fun _ _ _ _ _ _ us hl => match us, hl with | [_, _, _, _, _, _], _ => rfl
theorem b__law_around {w : World} {K : PySem.W.Frag} {mg : Str → Option Value} (T : Top w K mg) : Binds K T.d__law_around ["_law_pool_here", "_law_mood", "_law_room", "_law_calls"] [] := T.F__law_around.binds (ps := ["_law_pool_here", "_law_mood", "_law_room", "_law_calls"]) fun _ _ _ _ _ _ us hl => match us, hl with | [_, _, _, _], _ => rfl
theorem b__law_body {w : World} {K : PySem.W.Frag} {mg : Str → Option Value} (T : Top w K mg) : Binds K T.d__law_body ["_law_pool_here", "_law_mood", "_law_room", "_law_calls", "_law_low"] [] := T.F__law_body.binds (ps := ["_law_pool_here", "_law_mood", "_law_room", "_law_calls", "_law_low"]) fun _ _ _ _ _ _ us hl => match us, hl with | [_, _, _, _, _], _ => rfl
theorem b__law_book {w : World} {K : PySem.W.Frag} {mg : Str → Option Value} (T : Top w K mg) : Binds K T.d__law_book ["_law_pool_here", "_law_most", "_law_size"] [] := T.F__law_book.binds (ps := ["_law_pool_here", "_law_most", "_law_size"]) fun _ _ _ _ _ _ us hl => match us, hl with | [_, _, _], _ => rfl
theorem b__law_any_command {w : World} {K : PySem.W.Frag} {mg : Str → Option Value} (T : Top w K mg) : Binds K T.d__law_any_command ["_law_pool_here"] [] := T.F__law_any_command.binds (ps := ["_law_pool_here"]) fun _ _ _ _ _ _ us hl => match us, hl with | [_], _ => rfl
theorem b__law_blocks {w : World} {K : PySem.W.Frag} {mg : Str → Option Value} (T : Top w K mg) : Binds K T.d__law_blocks ["_law_statement"] [] := T.F__law_blocks.binds (ps := ["_law_statement"]) fun _ _ _ _ _ _ us hl => match us, hl with | [_], _ => rfl
theorem b__law_with {w : World} {K : PySem.W.Frag} {mg : Str → Option Value} (T : Top w K mg) : Binds K T.d__law_with ["_law_statement", "_law_blocks_here"] [] := T.F__law_with.binds (ps := ["_law_statement", "_law_blocks_here"]) fun _ _ _ _ _ _ us hl => match us, hl with | [_, _], _ => rfl
theorem b__law_copy {w : World} {K : PySem.W.Frag} {mg : Str → Option Value} (T : Top w K mg) : Binds K T.d__law_copy ["_law_block_here"] [] := T.F__law_copy.binds (ps := ["_law_block_here"]) fun _ _ _ _ _ _ us hl => match us, hl with | [_], _ => rfl
theorem b__law_copies {w : World} {K : PySem.W.Frag} {mg : Str → Option Value} (T : Top w K mg) : Binds K T.d__law_copies ["_law_bodies"] [] := T.F__law_copies.binds (ps := ["_law_bodies"]) fun _ _ _ _ _ _ us hl => match us, hl with | [_], _ => rfl
theorem b__law_same {w : World} {K : PySem.W.Frag} {mg : Str → Option Value} (T : Top w K mg) : Binds K T.d__law_same ["_law_one", "_law_other"] [] := T.F__law_same.binds (ps := ["_law_one", "_law_other"]) fun _ _ _ _ _ _ us hl => match us, hl with | [_, _], _ => rfl
theorem b__law_words {w : World} {K : PySem.W.Frag} {mg : Str → Option Value} (T : Top w K mg) : Binds K T.d__law_words ["_law_statement"] [] := T.F__law_words.binds (ps := ["_law_statement"]) fun _ _ _ _ _ _ us hl => match us, hl with | [_], _ => rfl
theorem b__law_lines {w : World} {K : PySem.W.Frag} {mg : Str → Option Value} (T : Top w K mg) : Binds K T.d__law_lines ["_law_block_here", "_law_indent"] [] := T.F__law_lines.binds (ps := ["_law_block_here", "_law_indent"]) fun _ _ _ _ _ _ us hl => match us, hl with | [_, _], _ => rfl
theorem b__law_text_lines {w : World} {K : PySem.W.Frag} {mg : Str → Option Value} (T : Top w K mg) : Binds K T.d__law_text_lines ["_law_bodies"] [] := T.F__law_text_lines.binds (ps := ["_law_bodies"]) fun _ _ _ _ _ _ us hl => match us, hl with | [_], _ => rfl
theorem b_law {w : World} {K : PySem.W.Frag} {mg : Str → Option Value} (T : Top w K mg) : Binds K T.d_law ["_law_script"] [] := T.F_law.binds (ps := ["_law_script"]) fun _ _ _ _ _ _ us hl => match us, hl with | [_], _ => rfl
--SPLIT
/-! ### the lines of a text -/
abbrev iS (i : Int) : Str := toString i
theorem log_small {i : Int} (h : i.natAbs < 1000) : i.natAbs.log2 < 1920 := by
  have := Nat.log2_le_self i.natAbs
  omega
theorem iS_len {i : Int} (h0 : -9 ≤ i) (h9 : i ≤ 9) : (iS i).length ≤ 8 := by
  have key : ∀ n : Fin 19, (iS ((n.val : Int) - 9)).length ≤ 8 := by decide +kernel
  have := key ⟨(i + 9).toNat, by omega⟩
  rw [show (((⟨(i + 9).toNat, by omega⟩ : Fin 19).val : Int) - 9) = i by show (((i + 9).toNat : Nat) : Int) - 9 = i; omega] at this
  exact this
theorem cm_nums {c : Cm} (h : c.ok) : c.nums.length ≤ 2 ∧ ∀ n ∈ c.nums, -9 ≤ n ∧ n ≤ 9 := by
  have one : ∀ (i : Nat) (z : Int) (l : Int × Int), c.nums[i]? = some z → c.lims[i]? = some l → l.1 ≤ z ∧ z ≤ l.2 := h
  cases c with
  | go k => exact ⟨by simp [Cm.nums], fun n hn => by rw [List.mem_singleton.mp hn]; exact one 0 k (-9, 9) rfl rfl⟩
  | turn k => exact ⟨by simp [Cm.nums], fun n hn => by rw [List.mem_singleton.mp hn]; have h : 1 ≤ k ∧ k ≤ 3 := one 0 k (1, 3) rfl rfl; omega⟩
  | scale k => exact ⟨by simp [Cm.nums], fun n hn => by rw [List.mem_singleton.mp hn]; have h : -3 ≤ k ∧ k ≤ 3 := one 0 k (-3, 3) rfl rfl; omega⟩
  | aim a b => exact ⟨by simp [Cm.nums], fun n hn => (List.mem_cons.mp hn).elim (fun e => by rw [e]; exact one 0 a (-9, 9) rfl rfl) fun hn => by rw [List.mem_singleton.mp hn]; exact one 1 b (-9, 9) rfl rfl⟩
  | place a b => exact ⟨by simp [Cm.nums], fun n hn => (List.mem_cons.mp hn).elim (fun e => by rw [e]; exact one 0 a (-9, 9) rfl rfl) fun hn => by rw [List.mem_singleton.mp hn]; exact one 1 b (-9, 9) rfl rfl⟩
  | _ => exact ⟨by decide, fun n hn => nomatch hn⟩
theorem cm_len (c : Cm) : c.word.length ≤ 8 := by cases c <;> (simp only [Cm.word]; decide +kernel)
/-- the words of a statement without blocks -/
def wordL : Stm → List Str
  | .cmd c => c.word :: c.nums.map iS
  | .fin w => ["end", iS (if w then 1 else 0)]
  | _ => []
theorem wordL_ok {many l : Nat} {z : Stm} (h : z.ok many l) : (wordL z).length ≤ 3 ∧ ∀ s ∈ wordL z, s.length ≤ 8 := by
  cases z with
  | cmd c =>
    obtain ⟨h1, h2⟩ := cm_nums h
    refine ⟨by simp [wordL]; omega, fun s hs => (List.mem_cons.mp hs).elim (fun e => by rw [e]; exact cm_len c) fun hs => ?_⟩
    obtain ⟨n, hn, rfl⟩ := List.mem_map.mp hs
    exact iS_len (h2 n hn).1 (h2 n hn).2
  | fin w =>
    refine ⟨by simp [wordL], fun s hs => (List.mem_cons.mp hs).elim (fun e => by rw [e]; decide +kernel) fun hs => ?_⟩
    rw [List.mem_singleton.mp hs]
    cases w
    · exact iS_len (by decide) (by decide)
    · exact iS_len (by decide) (by decide)
  | _ => exact ⟨by simp [wordL], fun s hs => nomatch hs⟩
theorem sum_le {n : Nat} : ∀ {ss : List Str}, (∀ s ∈ ss, s.length ≤ n) → (ss.map (·.length)).sum ≤ n * ss.length
  | [], _ => by simp
  | s :: r, h => by
    have h1 := h s List.mem_cons_self
    have h2 := sum_le (ss := r) fun x hx => h x (List.mem_cons_of_mem _ hx)
    rw [List.map_cons, List.sum_cons, List.length_cons, Nat.mul_add]
    omega
def callT (p : Nat) (s : Bool) : Str := if s then ((Str.empty ++ "call ") ++ iS p) ++ " saved" else (Str.empty ++ "call ") ++ iS p
def headsD : Stm → List PyData
  | .either a b => [.tuple [.str "either", bD a], .tuple [.str "or", bD b]]
  | .keep b => [.tuple [.str "keep", bD b]]
  | .again b => [.tuple [.str "again", bD b]]
  | .call p s a b => [.tuple [.str (callT p s), .none], .tuple [.str "way 0", bD a], .tuple [.str "way 1", bD b]]
  | z => [.tuple [.str (Txt.join " " (wordL z)), .none]]
def mrg (l : Nat) : Str := Txt.mul " " (2 * (l : Int) + 2)
mutual
def lnS : Nat → Stm → List Str
  | l, .keep b => (mrg l ++ "keep") :: lnB (l + 1) b
  | l, .again b => (mrg l ++ "again") :: lnB (l + 1) b
  | l, .either a b => ((mrg l ++ "either") :: lnB (l + 1) a) ++ ((mrg l ++ "or") :: lnB (l + 1) b)
  | l, .call p s a b => (mrg l ++ callT p s) :: (((mrg l ++ "way 0") :: lnB (l + 1) a) ++ ((mrg l ++ "way 1") :: lnB (l + 1) b))
  | l, .cmd c => [mrg l ++ Txt.join " " (wordL (.cmd c))]
  | l, .fin w => [mrg l ++ Txt.join " " (wordL (.fin w))]
def lnB : Nat → List Stm → List Str
  | _, [] => []
  | l, z :: r => lnS l z ++ lnB l r
end
mutual
theorem lnS_len : ∀ (l : Nat) (z : Stm), (lnS l z).length ≤ 3 * z.cnt
  | l, .keep b => by have := lnB_len (l + 1) b; simp [lnS, Stm.cnt]; omega
  | l, .again b => by have := lnB_len (l + 1) b; simp [lnS, Stm.cnt]; omega
  | l, .either a b => by have := lnB_len (l + 1) a; have := lnB_len (l + 1) b; simp [lnS, Stm.cnt]; omega
  | l, .call _ _ a b => by have := lnB_len (l + 1) a; have := lnB_len (l + 1) b; simp [lnS, Stm.cnt]; omega
  | l, .cmd _ => by simp [lnS, Stm.cnt]
  | l, .fin _ => by simp [lnS, Stm.cnt]
theorem lnB_len : ∀ (l : Nat) (b : List Stm), (lnB l b).length ≤ 3 * cntB b
  | _, [] => by simp [lnB]
  | l, z :: r => by have := lnS_len l z; have := lnB_len l r; simp [lnB, cntB]; omega
end
theorem join_len {s : Str} {ss : List Str} : (Txt.join s ss).length ≤ (ss.map (·.length)).sum + ss.length * s.length := by
  unfold Txt.join
  rw [StrLaws.glued_eq_join]
  exact StrLaws.join_length_le s ss
theorem mrg_len {l : Nat} (h : l ≤ 4) : (mrg l).length ≤ 10 := by
  have key : ∀ n : Fin 5, (mrg n.val).length ≤ 10 := by decide +kernel
  exact key ⟨l, by omega⟩
theorem mrg_ok {l : Nat} (h : l ≤ 4) : MulOk " " (2 * (l : Int) + 2) := by
  have key : ∀ n : Fin 5, (decide ((2 * (n.val : Int) + 2) < -(2 ^ 63 : Int)) || decide ((2 * (n.val : Int) + 2) ≥ 2 ^ 63)) = false ∧ ¬ (((" " : Str).length : Int) > (2 ^ 63 - 1) / (2 * (n.val : Int) + 2)) ∧ PySem.Builtin.Str.tooLong ((" " : Str).length * (2 * (n.val : Int) + 2).toNat) = false := by decide +kernel
  obtain ⟨h1, h2, h3⟩ := key ⟨l, by omega⟩
  exact ⟨h1, fun _ _ => h2, fun _ _ => h3⟩
theorem call_len {p : Nat} (h : p ≤ 9) (s : Bool) : (callT p s).length ≤ 30 := by
  have e : (iS p).length ≤ 8 := iS_len (by omega) (by omega)
  have e1 : ("call " : Str).length = 5 := by decide +kernel
  have e2 : (" saved" : Str).length = 6 := by decide +kernel
  unfold callT
  cases s
  · rw [if_neg Bool.false_ne_true, Str.length_append, Str.length_append]
    have : (Str.empty : Str).length = 0 := rfl
    omega
  · rw [if_pos rfl, Str.length_append, Str.length_append, Str.length_append]
    have : (Str.empty : Str).length = 0 := rfl
    omega

--SPLIT
def sp_is_integer : Sp := fun vs H Q _ => ∃ (S : Addr → Prop) (d : PyData) (v : V), vs = [v] ∧ Tr S H d v ∧ Q (.bl (isI d)) H
theorem ok_is_integer (T : Top w K mg) : FnOk P w K mg base CX0 1 T.a_is_integer T.d_is_integer ["thing"] sp_is_integer := by
  refine T.F_is_integer.ok sc_is_integer (fun vs H Q E h => ?_) (fun cdv A outer s H vs Q E hr h => ?_)
  · obtain ⟨S, d, v, rfl, _⟩ := h
    rfl
  · obtain ⟨S, d, v, rfl, hv, q⟩ := h
    refine ⟨_, (pss_one (ps_ret (pe_and (pe_callB (k_isi K) (by rfl) T.z_isinstance bt_isinstance (pa_cons (pv 0) (pa_cons (pe_bltn (v := .ty "int") (by rfl) T.z_int bt_int rfl) pa_nil))) (pe_one (pe_not (pe_callB (k_isi K) (by rfl) T.z_isinstance bt_isinstance (pa_cons (pv 0) (pa_cons (pe_bltn (v := .ty "bool") (by rfl) T.z_bool bt_bool rfl) pa_nil)))))))), ?_⟩
    refine ⟨_, rfl, _, _, _, _, isNum d, rfl, .ty _, tr_ty K hv, ki_int K d, _, rfl, ?_⟩
    cases d with
    | int z => exact iteT ⟨_, rfl, _, _, _, _, _, rfl, .ty _, tr_ty K hv, ki_bool K _, _, rfl, q⟩
    | bool b => exact iteT ⟨_, rfl, _, _, _, _, _, rfl, .ty _, tr_ty K hv, ki_bool K _, _, rfl, q⟩
    | _ => exact q
def sp_is_within (K : PySem.W.Frag) : Sp := fun vs H Q _ => ∃ (S : Addr → Prop) (t : Addr) (d : PyData) (v : V) (l : Int × Int), vs = [v, .ref t] ∧ Tr S H d v ∧ SqT K H t [.int l.1, .int l.2] ∧ Q (.bl (inD d l)) H
theorem ok_is_within (T : Top w K mg) : FnOk P w K mg base CX0 2 T.a_is_within T.d_is_within ["thing", "bounds"] (sp_is_within K) := by
  refine T.F_is_within.ok sc_is_within (fun vs H Q E h => ?_) (fun cdv A outer s H vs Q E hr h => ?_)
  · obtain ⟨S, t, d, v, l, rfl, _⟩ := h
    rfl
  · obtain ⟨S, t, d, v, l, rfl, hv, ht, q⟩ := h
    refine ⟨_, (pss_cons (ps_asg (pv 1) (pg_tup rfl (pgs_cons (pg_name (i := 2) sc_is_within.nd rfl (Or.inl rfl)) (pgs_cons (pg_name (i := 3) sc_is_within.nd rfl (Or.inl rfl)) pgs_nil))))
      (pss_one (ps_ret (pe_and (pe_call (ok_is_integer T) hr (by rfl) T.g_is_integer T.F_is_integer.kp (b_is_integer T) .nil pass0 (pa_cons (pv 0) pa_nil)) (pe_one (pe_chain op_le op_le (pv 2) (pv 0) (pv 3))))))), ?_⟩
    refine ⟨_, rfl, t, _, rfl, ht, rfl, _, _, rfl, _, _, rfl, rfl, ?_⟩
    refine ⟨_, rfl, S, d, v, rfl, hv, ⟨isI d, rfl, ?_⟩⟩
    cases d with
    | int z =>
      cases hv
      refine iteT ⟨_, rfl, _, rfl, _, _, rfl, rfl, _, rfl, ?_⟩
      by_cases h1 : l.1 ≤ z
      · refine iteP h1 ⟨_, rfl, _, _, rfl, rfl, ?_⟩
        have e : inD (.int z) l = decide (z ≤ l.2) := by
          show (decide (l.1 ≤ z) && decide (z ≤ l.2)) = _
          rw [decide_eq_true h1, Bool.true_and]
        rw [e] at q
        exact q
      · refine iteN h1 ?_
        have e : inD (.int z) l = false := by
          show (decide (l.1 ≤ z) && decide (z ≤ l.2)) = _
          rw [decide_eq_false h1, Bool.false_and]
        rw [e] at q
        exact q
    | _ => exact q
def sp_is_bit (K : PySem.W.Frag) : Sp := fun vs H Q _ => ∃ (S : Addr → Prop) (d : PyData) (v : V), vs = [v] ∧ Tr S H d v ∧ ∀ H', Same H H' → Q (.bl (inD d (0, 1))) H'
theorem ok_is_bit (T : Top w K mg) : FnOk P w K mg base CX0 3 T.a_is_bit T.d_is_bit ["thing"] (sp_is_bit K) := by
  refine T.F_is_bit.ok sc_is_bit (fun vs H Q E h => ?_) (fun cdv A outer s H vs Q E hr h => ?_)
  · obtain ⟨S, d, v, rfl, _⟩ := h
    rfl
  · obtain ⟨S, d, v, rfl, hv, q⟩ := h
    refine ⟨_, (pss_one (ps_ret (pe_call (ok_is_within T) hr (by rfl) T.g_is_within T.F_is_within.kp (b_is_within T) .nil pass0 (pa_cons (pv 0) (pa_cons (pe_tup (pa_cons pe_int (pa_cons pe_int pa_nil))) pa_nil))))), ?_⟩
    refine ⟨_, rfl, small100 (n := 2) (by decide), fun t nt => ?_⟩
    have s1 := same_upd (o := .tup [V.int 0, V.int 1]) nt
    exact ⟨S, t, d, v, (0, 1), rfl, hv.same s1, SqT.of upd_same, q _ s1⟩
def sp_is_index (K : PySem.W.Frag) : Sp := fun vs H Q _ => ∃ (S : Addr → Prop) (d : PyData) (v : V) (n : Int), vs = [v, .int n] ∧ Tr S H d v ∧ ∀ H', Same H H' → Q (.bl (inD d (0, n - 1))) H'
theorem ok_is_index (T : Top w K mg) : FnOk P w K mg base CX0 3 T.a_is_index T.d_is_index ["thing", "many"] (sp_is_index K) := by
  refine T.F_is_index.ok sc_is_index (fun vs H Q E h => ?_) (fun cdv A outer s H vs Q E hr h => ?_)
  · obtain ⟨S, d, v, n, rfl, _⟩ := h
    rfl
  · obtain ⟨S, d, v, n, rfl, hv, q⟩ := h
    refine ⟨_, (pss_one (ps_ret (pe_call (ok_is_within T) hr (by rfl) T.g_is_within T.F_is_within.kp (b_is_within T) .nil pass0 (pa_cons (pv 0) (pa_cons (pe_tup (pa_cons pe_int (pa_cons (pe_op op_sub (pv 1) pe_int) pa_nil))) pa_nil))))), ?_⟩
    refine ⟨_, rfl, _, rfl, _, _, rfl, rfl, small100 (n := 2) (by decide), fun t nt => ?_⟩
    have s1 := same_upd (o := .tup [V.int 0, V.int (n - 1)]) nt
    exact ⟨S, t, d, v, (0, n - 1), rfl, hv.same s1, SqT.of upd_same, q _ s1⟩

def sp_is_command : Sp := fun vs H Q _ => ∃ (S : Addr → Prop) (d : PyData) (v : V), vs = [v] ∧ Tr S H d v ∧ WordOk d ∧ ∀ H', Same H H' → Q (.bl (cmdOk d)) H'
theorem zipTake (ns : List PyData) (ls : List (Int × Int)) (i : Nat) {d : PyData} {l : Int × Int} (h1 : ns[i]? = some d) (h2 : ls[i]? = some l) : ((List.zipWith inD ns ls).take (i + 1)).map V.bl = ((List.zipWith inD ns ls).take i).map V.bl ++ [.bl (inD d l)] := by
  rw [List.take_add_one, List.getElem?_zipWith, h1, h2, List.map_append]
  rfl
theorem ok_is_command (T : Top w K mg) : FnOk P w K mg base CX0 3 T.a_is_command T.d_is_command ["thing"] sp_is_command := by
  refine T.F_is_command.ok sc_is_command (fun vs H Q E h => ?_) (fun cdv A outer s H vs Q E hr h => ?_)
  · obtain ⟨S, d, v, rfl, _⟩ := h
    rfl
  · obtain ⟨S, d, v, rfl, hv, hw, q⟩ := h
    refine ⟨_, (pss_cons (ps_if (PW.pt (pw_or (pt_not (pt_val (pe_callB (k_isi K) (by rfl) T.z_isinstance bt_isinstance (pa_cons (pv 0) (pa_cons (pe_bltn (v := .ty "tuple") (by rfl) T.z_tuple bt_tuple rfl) pa_nil))))) (pw_or1 (pt_cmpR op_eq (pe_callB (k_len K) (by rfl) T.z_len bt_len (pa_cons (pv 0) pa_nil)) pe_int (nomark _))))) (pss_one (ps_ret pe_bl)) pss_nil)
      (pss_cons (ps_asg (pv 0) (pg_star K rfl (pg_name (i := 1) sc_is_command.nd rfl (Or.inl rfl)) (pg_name (i := 2) sc_is_command.nd rfl (Or.inl rfl))))
      (pss_cons (ps_if (PW.pt (pw_or (pt_not (pt_val (pe_callB (k_isi K) (by rfl) T.z_isinstance bt_isinstance (pa_cons (pv 1) (pa_cons (pe_bltn (v := .ty "str") (by rfl) T.z_str bt_str rfl) pa_nil))))) (pw_or1 (pt_cmpR (op_notIn_kd T.D_B) (pv 1) (C8.pe_gc rfl T.c_BOUNDS) rfl)))) (pss_one (ps_ret pe_bl)) pss_nil)
      (pss_cons (ps_set (i := 3) sc_is_command.nd rfl (Or.inl rfl) (pe_ix ix_kdict (C8.pe_gc rfl T.c_BOUNDS) (pv 1) (fun _ _ => rfl)))
      (pss_cons (ps_if (pt_cmpR op_ne (pe_callB (k_len K) (by rfl) T.z_len bt_len (pa_cons (pv 2) pa_nil)) (pe_callB (k_len K) (by rfl) T.z_len bt_len (pa_cons (pv 3) pa_nil)) (nomark _)) (pss_one (ps_ret pe_bl)) pss_nil)
      (pss_one (ps_ret (pe_callB (k_all K) (by rfl) T.z_all bt_all (pa_cons (pe_lc (own := [("number", 4), ("pair", 5)]) (g := (gTup K 2 (gCons (gName 4) (gCons (gName 5) gNil)))) (tt := tYes) rfl sc_is_command.nd (pi_zipLT K (by rfl) T.z_zip (pa_cons (pv 2) (pa_cons (pv 3) pa_nil))) (blkOk_by (N := N_is_command) (sc := defScope s_is_command) (by decide +kernel)) (fun _ _ _ _ _ => (pg_tup rfl (pgs_cons (pg_name (i := 4) sc_is_command.nd rfl (Or.inl rfl)) (pgs_cons (pg_name (i := 5) sc_is_command.nd rfl (Or.inl rfl)) pgs_nil)))) (fun _ _ _ _ _ => pts_nil) (fun _ _ _ _ _ => (pe_call (ok_is_within T) hr (by rfl) T.g_is_within T.F_is_within.kp (b_is_within T) .nil pass0 (pa_cons (pv 4) (pa_cons (pv 5) pa_nil))))) pa_nil))))))))), ?_⟩
    cases d with
    | tuple ds =>
      refine ⟨_, rfl, _, _, _, _, _, rfl, .ty _, tr_ty K hv, ki_tuple K _, _, rfl, ?_⟩
      obtain ⟨a, xs, rfl, ha, hs⟩ := hv
      cases ds with
      | nil =>
        cases hs
        exact ⟨_, rfl, _, _, rfl, .inr (SqT.of ha), rfl, _, rfl, iteP rfl (q H (Same.refl _))⟩
      | cons x ns =>
        obtain ⟨y, r, rfl, hx, hr2⟩ := hs
        refine ⟨_, rfl, a, _, rfl, .inr (SqT.of ha), rfl, _, rfl, iteN (fun e => ?_) ?_⟩
        · have := V.int.inj e
          rw [List.length_cons] at this
          omega
        refine ⟨_, rfl, a, _, _, rfl, SqT.of ha, fun b nb => ?_⟩
        have s1 := same_upd (o := .lst r) nb
        have hb : (upd H b (.lst r)) b = some (.lst r) := upd_same
        generalize upd H b (.lst r) = H1 at *
        have hx := hx.same s1
        have hr2 := hr2.same s1
        refine ⟨_, rfl, _, _, _, _, _, rfl, .ty _, tr_ty K hx, ki_str K _, _, rfl, ?_⟩
        cases x with
        | str sw =>
          cases hx
          rcases hw with hw | ⟨c, rfl⟩
          · refine ⟨_, rfl, _, none, rfl, rfl, T.W_B _ hw, _, rfl, ?_⟩
            have e : cmdOk (.tuple (.str sw :: ns)) = false := by
              unfold cmdOk
              dsimp only
              rw [bounds_odd hw]
            rw [← e]
            exact q _ s1
          · obtain ⟨ab, ps, hd, hab, hpl, hll, hps⟩ := T.L_B.row c
            obtain ⟨es, n, u, hl, hk, hn, hu⟩ := id hd
            have hlen : c.nums.length ≤ 2 := by cases c <;> simp [Cm.nums]
            have lr := hr2.len
            refine ⟨_, rfl, _, some u, rfl, rfl, hn, _, rfl, ?_⟩
            refine ⟨_, rfl, _, _, _, rfl, rfl, hd, ?_⟩
            have e : cmdOk (.tuple (.str c.word :: ns)) = (decide (ns.length = c.lims.length) && (List.zipWith inD ns c.lims).all id) := by
              unfold cmdOk
              dsimp only
              rw [bounds_cm]
            by_cases l : ns.length = c.nums.length
            · refine ⟨_, rfl, b, _, rfl, .inl (SqL.of hb), _, rfl, ab, _, rfl, .inr (hab _), rfl, _, rfl, iteNS (by rw [List.length_map, hpl, lr, l]) ?_⟩
              have lz : (List.zipWith inD ns c.lims).length = c.nums.length := by rw [List.length_zipWith, hll, l]; omega
              refine ⟨_, rfl, _, rfl, b, ab, _, _, rfl, SqL.of hb, hab _, fun D nD => ?_⟩
              refine lc_it (walk_zipLT (xs := r) (ys := ps.map V.ref) (n := c.nums.length) (by rw [lr, l]) (by rw [List.length_map, hpl])) (fun i H' => Same H1 H' ∧ H' D = some (.lst (((List.zipWith inD ns c.lims).take i).map V.bl))) ⟨same_upd nD, upd_same⟩ (fun i H' _ h => ⟨SqL.of (h.1 _ _ hb), hab _⟩) (fun i x H' H2 hi h y => ?_) (fun H' h => ?_)
              · obtain ⟨sm, hD⟩ := h
                obtain ⟨t, x, y, rfl, nt, rfl, hx, hy⟩ := y
                have hx : r[i]? = some x := hx
                have hy : (ps.map V.ref)[i]? = some y := hy
                have gy : ps[i]? = some ps[i] := List.getElem?_eq_getElem (by omega)
                rw [List.getElem?_map, gy] at hy
                cases hy
                obtain ⟨lm, hl1, hl2⟩ := hps i _ gy
                obtain ⟨dx, hdx, tx⟩ := hr2.get hx
                have sm2 := sm.trans (same_upd (o := .tup [x, V.ref ps[i]]) nt)
                have hD2 := same_upd (o := .tup [x, V.ref ps[i]]) nt _ _ hD
                refine ⟨t, [x, V.ref ps[i]], rfl, SqT.of upd_same, rfl, _, _, rfl, _, _, rfl, rfl, rfl, _, rfl, _, rfl, S, ps[i], dx, x, lm, rfl, tx.same sm2, hl2 _, _, hD2, ?_, same_new sm2 nD, ?_⟩
                · rw [List.length_map, List.length_take]
                  exact small1000 (by omega)
                · rw [upd_same, zipTake ns c.lims i hdx hl1]
              · rw [← lz, List.take_length] at h
                refine ⟨D, _, rfl, SqL.of h.2, ?_⟩
                have e2 : cmdOk (.tuple (.str c.word :: ns)) = (List.zipWith inD ns c.lims).all id := by rw [e, decide_eq_true (by rw [l, hll]), Bool.true_and]
                rw [← e2]
                exact q _ (s1.trans h.1)
            · refine ⟨_, rfl, b, _, rfl, .inl (SqL.of hb), _, rfl, ab, _, rfl, .inr (hab _), rfl, _, rfl, iteNN (fun e => l (by have := V.int.inj e; rw [List.length_map, hpl, lr] at this; omega)) ?_⟩
              have e2 : cmdOk (.tuple (.str c.word :: ns)) = false := by rw [e, decide_eq_false (by rw [hll]; exact l), Bool.false_and]
              rw [← e2]
              exact q _ s1
        | _ => exact q _ s1
    | _ => exact ⟨_, rfl, _, _, _, _, _, rfl, .ty _, tr_ty K hv, ki_tuple K _, _, rfl, q H (Same.refl _)⟩

--SPLIT
def sp_are_blocks : Sp := fun vs H Q _ => ∃ (S : Addr → Prop) (d : PyData) (v : V) (n : Nat), vs = [v, .int n] ∧ n ≤ 100 ∧ Tr S H d v ∧ ∀ H', Same H H' → Q (.bl (areBl n d)) H'
theorem ok_are_blocks (T : Top w K mg) : FnOk P w K mg base CX0 1 T.a_are_blocks T.d_are_blocks ["thing", "many"] sp_are_blocks := by
  refine T.F_are_blocks.ok sc_are_blocks (fun vs H Q E h => ?_) (fun cdv A outer s H vs Q E hr h => ?_)
  · obtain ⟨S, d, v, n, rfl, _⟩ := h
    rfl
  · obtain ⟨S, d, v, n, rfl, hn, hv, q⟩ := h
    refine ⟨_, (pss_one (ps_ret (pe_and (pe_callB (k_isi K) (by rfl) T.z_isinstance bt_isinstance (pa_cons (pv 0) (pa_cons (pe_bltn (v := .ty "list") (by rfl) T.z_list bt_list rfl) pa_nil))) (pe_and (pe_cmpR op_eq (pe_callB (k_len K) (by rfl) T.z_len bt_len (pa_cons (pv 0) pa_nil)) (pv 1) (nomark _)) (pe_one (pe_callB (k_all K) (by rfl) T.z_all bt_all (pa_cons (pe_lc (own := [("block", 2)]) (g := (gName 2)) (tt := tYes) rfl sc_are_blocks.nd (k_piL K (pv 0)) (blkOk_by (N := N_are_blocks) (sc := defScope s_are_blocks) (by decide +kernel)) (fun _ _ _ _ _ => (pg_name (i := 2) sc_are_blocks.nd rfl (Or.inl rfl))) (fun _ _ _ _ _ => pts_nil) (fun _ _ _ _ _ => (pe_callB (k_isi K) (by rfl) T.z_isinstance bt_isinstance (pa_cons (pv 2) (pa_cons (pe_bltn (v := .ty "list") (by rfl) T.z_list bt_list rfl) pa_nil))))) pa_nil))))))), ?_⟩
    refine ⟨_, rfl, _, _, _, _, _, rfl, .ty _, tr_ty K hv, ki_list K _, _, rfl, ?_⟩
    cases d with
    | list ds =>
      obtain ⟨a, xs, rfl, sa, ha, hs⟩ := hv
      have hl := hs.len
      refine iteT ⟨_, rfl, a, _, rfl, .inl (SqL.of ha), _, rfl, rfl, _, rfl, ?_⟩
      by_cases e : ds.length = n
      · refine iteP (by rw [hl, e]) ?_
        refine ⟨_, rfl, a, rfl, ⟨_, SqL.of ha⟩, fun D nD => ?_⟩
        refine lc_list (xs := xs) (fun i H' => Same H H' ∧ H' D = some (.lst (((ds.map isLs).take i).map V.bl))) ⟨same_upd nD, upd_same⟩ (fun i H' _ h => h.1.seq (SqL.of ha)) (fun i x H' hx h => ?_) (fun H' h => ?_)
        · obtain ⟨dx, hdx, tx⟩ := hs.get hx
          have hi := (List.getElem?_eq_some_iff.mp hx).1
          refine ⟨rfl, _, rfl, _, _, _, _, _, rfl, .ty _, tr_ty K (tx.same h.1), ki_list K _, _, h.2, ?_, same_new h.1 nD, ?_⟩
          · rw [List.length_map, List.length_take]
            exact small1000 (by omega)
          · rw [upd_same, List.take_add_one, List.getElem?_map, hdx, List.map_append]
            rfl
        · rw [hl, ← List.length_map (f := isLs), List.take_length] at h
          refine ⟨D, _, rfl, SqL.of h.2, ?_⟩
          have e2 : areBl n (.list ds) = (ds.map isLs).all id := by
            show (decide (ds.length = n) && ds.all isLs) = _
            rw [decide_eq_true e, Bool.true_and, List.all_map]
            rfl
          rw [← e2]
          exact q _ h.1
      · refine iteN (fun z => e (by have := V.int.inj z; omega)) ?_
        have e2 : areBl n (.list ds) = false := by
          show (decide (ds.length = n) && ds.all isLs) = _
          rw [decide_eq_false e, Bool.false_and]
        rw [← e2]
        exact q _ (Same.refl _)
    | _ => exact q _ (Same.refl _)
def sp_is_call : Sp := fun vs H Q _ => ∃ (S : Addr → Prop) (ds : List PyData) (v : V) (n : Int), vs = [v, .int n] ∧ Tr S H (.tuple ds) v ∧ ∀ H', Same H H' → Q (.bl (callOk n ds)) H'
theorem ok_is_call (T : Top w K mg) : FnOk P w K mg base CX0 4 T.a_is_call T.d_is_call ["thing", "procedures"] sp_is_call := by
  refine T.F_is_call.ok sc_is_call (fun vs H Q E h => ?_) (fun cdv A outer s H vs Q E hr h => ?_)
  · obtain ⟨S, ds, v, n, rfl, _⟩ := h
    rfl
  · obtain ⟨S, ds, v, n, rfl, hv, q⟩ := h
    refine ⟨_, (pss_cons (ps_if (pt_cmpR op_ne (pe_callB (k_len K) (by rfl) T.z_len bt_len (pa_cons (pv 0) pa_nil)) pe_int (nomark _)) (pss_one (ps_ret pe_bl)) pss_nil)
      (pss_cons (ps_asg (pv 0) (pg_tup rfl (pgs_cons (pg_name (i := 2) sc_is_call.nd rfl (Or.inl rfl)) (pgs_cons (pg_name (i := 3) sc_is_call.nd rfl (Or.inl rfl)) (pgs_cons (pg_name (i := 4) sc_is_call.nd rfl (Or.inl rfl)) (pgs_cons (pg_name (i := 5) sc_is_call.nd rfl (Or.inl rfl)) pgs_nil))))))
      (pss_one (ps_ret (pe_and (pe_call (ok_is_index T) hr (by rfl) T.g_is_index T.F_is_index.kp (b_is_index T) .nil pass0 (pa_cons (pv 3) (pa_cons (pv 1) pa_nil))) (pe_and (pe_callB (k_isi K) (by rfl) T.z_isinstance bt_isinstance (pa_cons (pv 4) (pa_cons (pe_bltn (v := .ty "bool") (by rfl) T.z_bool bt_bool rfl) pa_nil))) (pe_one (pe_call (ok_are_blocks T) (hr.mono (by decide)) (by rfl) T.g_are_blocks T.F_are_blocks.kp (b_are_blocks T) .nil pass0 (pa_cons (pv 5) (pa_cons pe_int pa_nil)))))))))), ?_⟩
    obtain ⟨a, xs, rfl, ha, hs⟩ := hv
    have hl := hs.len
    refine ⟨_, rfl, a, _, rfl, .inr (SqT.of ha), rfl, _, rfl, ?_⟩
    by_cases e : ds.length = 4
    · refine iteNS (by rw [hl, e]; rfl) ?_
      match ds, e, hs with
      | [d0, d1, d2, d3], _, ⟨x0, _, e0, t0, x1, _, e1, t1, x2, _, e2, t2, x3, _, e3, t3, e4⟩ =>
        subst e4 e3 e2 e1 e0
        refine ⟨_, rfl, a, _, rfl, SqT.of ha, rfl, _, _, rfl, _, _, rfl, _, _, rfl, _, _, rfl, rfl, ?_⟩
        refine ⟨_, rfl, _, rfl, S, d1, x1, n, rfl, t1, fun H1 s1 => ⟨_, rfl, ?_⟩⟩
        cases c1 : inD d1 (0, n - 1)
        · have e : callOk n [d0, d1, d2, d3] = false := by simp [callOk, c1]
          have q := q _ s1
          rw [e] at q
          exact q
        · refine iteT ⟨_, rfl, _, _, _, _, _, rfl, .ty _, tr_ty K (t2.same s1), ki_bool K _, _, rfl, ?_⟩
          cases c2 : isBl d2
          · have e : callOk n [d0, d1, d2, d3] = false := by simp [callOk, c2]
            have q := q _ s1
            rw [e] at q
            exact q
          · refine iteT ⟨_, rfl, S, d3, x3, 2, rfl, by decide, t3.same s1, fun H2 s2 => ?_⟩
            have e : callOk n [d0, d1, d2, d3] = areBl 2 d3 := by simp [callOk, c1, c2]
            rw [← e]
            exact q _ (s1.trans s2)
    · refine iteNN (fun z => e (by have := V.int.inj z; omega)) ?_
      have e2 : callOk n ds = false := by
        unfold callOk
        split
        · exact absurd rfl e
        · rfl
      rw [← e2]
      exact q _ (Same.refl _)
def sp_is_statement : Sp := fun vs H Q _ => ∃ (S : Addr → Prop) (d : PyData) (v : V) (level n : Int), vs = [v, .int level, .int n] ∧ Tr S H d v ∧ WordOk d ∧ (∀ x r, d = .tuple (x :: r) → SeqAt.shaped x = true) ∧ ∀ H', Same H H' → Q (.bl (stOk level n d)) H'
set_option maxHeartbeats 1000000 in
theorem ok_is_statement (T : Top w K mg) : FnOk P w K mg base CX0 5 T.a_is_statement T.d_is_statement ["thing", "level", "procedures"] sp_is_statement := by
  refine T.F_is_statement.ok sc_is_statement (fun vs H Q E h => ?_) (fun cdv A outer s H vs Q E hr h => ?_)
  · obtain ⟨S, d, v, l, n, rfl, _⟩ := h
    rfl
  · obtain ⟨S, d, v, l, n, rfl, hv, hw, hx, q⟩ := h
    refine ⟨_, (pss_cons (ps_if (pt_val (pe_call (ok_is_command T) (hr.mono (by decide)) (by rfl) T.g_is_command T.F_is_command.kp (b_is_command T) .nil pass0 (pa_cons (pv 0) pa_nil))) (pss_one (ps_ret pe_bl)) pss_nil)
      (pss_cons (ps_if (PW.pt (pw_or (pt_not (pt_val (pe_callB (k_isi K) (by rfl) T.z_isinstance bt_isinstance (pa_cons (pv 0) (pa_cons (pe_bltn (v := .ty "tuple") (by rfl) T.z_tuple bt_tuple rfl) pa_nil))))) (pw_or1 (pt_cmpR op_eq (pe_callB (k_len K) (by rfl) T.z_len bt_len (pa_cons (pv 0) pa_nil)) pe_int (nomark _))))) (pss_one (ps_ret pe_bl)) pss_nil)
      (pss_cons (ps_set (i := 3) sc_is_statement.nd rfl (Or.inl rfl) (pe_ix (k_ixT K) (pv 0) pe_int (fun _ _ => rfl)))
      (pss_cons (ps_if (pt_cmpR (op_eqD (hu64 hr)) (pv 3) pe_str (nomark _)) (pss_one (ps_ret (pe_and (pe_cmpR op_eq (pe_callB (k_len K) (by rfl) T.z_len bt_len (pa_cons (pv 0) pa_nil)) pe_int (nomark _)) (pe_one (pe_call (ok_is_bit T) (hr.mono (by decide)) (by rfl) T.g_is_bit T.F_is_bit.kp (b_is_bit T) .nil pass0 (pa_cons (pe_ix (k_ixT K) (pv 0) pe_int (fun _ _ => rfl)) pa_nil)))))) pss_nil)
      (pss_cons (ps_if (pt_cmpR op_eq (pv 1) (C8.pe_gc rfl T.c_DEEPEST_LEVEL) (nomark _)) (pss_one (ps_ret pe_bl)) pss_nil)
      (pss_cons (ps_if (pt_cmpR (op_eqD (hu64 hr)) (pv 3) pe_str (nomark _)) (pss_one (ps_ret (pe_call (ok_is_call T) hr (by rfl) T.g_is_call T.F_is_call.kp (b_is_call T) .nil pass0 (pa_cons (pv 0) (pa_cons (pv 2) pa_nil))))) pss_nil)
      (pss_cons (ps_if (pt_cmpR (op_eqD (hu64 hr)) (pv 3) pe_str (nomark _)) (pss_one (ps_ret (pe_call (ok_are_blocks T) (hr.mono (by decide)) (by rfl) T.g_are_blocks T.F_are_blocks.kp (b_are_blocks T) .nil pass0 (pa_cons (pe_callTy (k_list K) (by rfl) T.z_list bt_list (pa_cons (pe_slice (k_slT K) (pv 0) (po_some pe_int) po_none) pa_nil)) (pa_cons pe_int pa_nil))))) pss_nil)
      (pss_one (ps_ret (pe_and (pe_cmpR (k_inDT K (hu65 hr)) (pv 3) (pe_tup (pa_cons pe_str (pa_cons pe_str pa_nil))) rfl) (pe_one (pe_call (ok_are_blocks T) (hr.mono (by decide)) (by rfl) T.g_are_blocks T.F_are_blocks.kp (b_are_blocks T) .nil pass0 (pa_cons (pe_callTy (k_list K) (by rfl) T.z_list bt_list (pa_cons (pe_slice (k_slT K) (pv 0) (po_some pe_int) po_none) pa_nil)) (pa_cons pe_int pa_nil)))))))))))))), ?_⟩
    refine ⟨_, rfl, S, d, v, rfl, hv, hw, fun H1 s1 => ⟨_, rfl, ?_⟩⟩
    cases c : cmdOk d
    · refine iteF ?_
      have hv1 := hv.same s1
      have e0 : stOk l n d = stRest l n d := by
        unfold stOk
        rw [c, Bool.false_or]
      refine ⟨_, rfl, _, _, _, _, _, rfl, .ty _, tr_ty K hv1, ki_tuple K _, _, rfl, ?_⟩
      rw [e0] at q
      cases d with
      | tuple ds =>
        obtain ⟨a, xs, rfl, ha, hs⟩ := hv1
        refine iteF ?_
        cases ds with
        | nil =>
          cases hs
          exact ⟨_, rfl, _, _, rfl, .inr (SqT.of ha), rfl, _, rfl, iteP rfl (q _ s1)⟩
        | cons x ns =>
          obtain ⟨y, r, rfl, hy, hr2⟩ := hs
          have hsx := hx x ns rfl
          have e1 : stRest l n (.tuple (x :: ns)) = (if PyData.eqv x (.str "end") then endOk ns
            else if l = 3 then false
            else if PyData.eqv x (.str "call") then callOk n (x :: ns)
            else if PyData.eqv x (.str "either") then areBlT 2 ns
            else (PyData.eqv x (.str "keep") || PyData.eqv x (.str "again")) && areBlT 1 ns) := rfl
          rw [e1] at q
          clear hx hv e0 e1 hw
          refine ⟨_, rfl, a, _, rfl, .inr (SqT.of ha), rfl, _, rfl, iteN (fun e => ?_) ?_⟩
          · have := V.int.inj e
            rw [List.length_cons] at this
            omega
          refine ⟨_, rfl, a, _, 0, y, rfl, rfl, SqT.of ha, at_of (j := 0) (by decide) rfl, ?_⟩
          refine ⟨_, rfl, x, .str "end", Tr.dp x y (canOf hsx) hy, .str _, hsx, sh_str (by decide +kernel), _, rfl, ?_⟩
          have lr := hr2.len
          refine ifB (fun c1 => ?_) (fun c1 => ?_)
          · rw [if_pos c1] at q
            refine ⟨_, rfl, a, _, rfl, .inr (SqT.of ha), rfl, _, rfl, ?_⟩
            match ns, r, hr2, lr with
            | [z], [u], ⟨_, _, e1, tz, e2⟩, _ =>
              cases e1
              refine iteP rfl ⟨_, rfl, a, _, 1, u, rfl, rfl, SqT.of ha, at_of (j := 1) (by decide) rfl, S, z, u, rfl, tz, fun H2 s2 => q _ (s1.trans s2)⟩
            | [], r, _, lr =>
              refine iteN (fun e => ?_) (q _ s1)
              have := V.int.inj e
              rw [List.length_cons, lr] at this
              cases this
            | _ :: _ :: ns', r, _, lr =>
              refine iteN (fun e => ?_) (q _ s1)
              have := V.int.inj e
              rw [List.length_cons, lr, List.length_cons, List.length_cons] at this
              omega
          · rw [if_neg (by rw [c1]; exact Bool.false_ne_true)] at q
            refine ⟨_, rfl, rfl, _, rfl, ite2 (fun c2 => ?_) (fun c2 => ?_)⟩
            · rw [if_pos (dec_int' c2)] at q
              exact q _ s1
            · rw [if_neg (dec_int c2)] at q
              refine ⟨_, rfl, x, .str "call", Tr.dp x y (canOf hsx) hy, .str _, hsx, sh_str (by decide +kernel), _, rfl, ?_⟩
              refine ifB (fun c3 => ?_) (fun c3 => ?_)
              · rw [if_pos c3] at q
                exact ⟨_, rfl, _, rfl, S, x :: ns, .ref a, n, rfl, ⟨a, _, rfl, ha, y, r, rfl, hy, hr2⟩, fun H2 s2 => q _ (s1.trans s2)⟩
              · rw [if_neg (by rw [c3]; exact Bool.false_ne_true)] at q
                refine ⟨_, rfl, x, .str "either", Tr.dp x y (canOf hsx) hy, .str _, hsx, sh_str (by decide +kernel), _, rfl, ?_⟩
                have slice : ∀ (k : Nat) {p2 : V → Hp → Prop}, k ≤ 100 → (∀ H', Same H1 H' → p2 (.bl (areBlT k ns)) H') → ∀ t, H1 t = none → ∀ l, (upd H1 t (.tup (cutV (y :: r) (some 1) none))) l = none → ∃ (S : Addr → Prop) (d : PyData) (v : V) (n : Nat), [V.ref l, V.int (k : Int)] = [v, .int n] ∧ n ≤ 100 ∧ Tr S (upd (upd H1 t (.tup (cutV (y :: r) (some 1) none))) l (.lst (cutV (y :: r) (some 1) none))) d v ∧ ∀ H', Same (upd (upd H1 t (.tup (cutV (y :: r) (some 1) none))) l (.lst (cutV (y :: r) (some 1) none))) H' → p2 (.bl (areBl n d)) H' := by
                  intro k p2 hk hp t nt l nl
                  have s2 := same_upd (o := .tup (cutV (y :: r) (some 1) none)) nt
                  have s3 := s2.trans (same_upd (o := .lst (cutV (y :: r) (some 1) none)) nl)
                  refine ⟨fun _ => True, .list ns, .ref l, k, rfl, hk, ⟨l, r, rfl, True.intro, by rw [upd_same, cut_from1], (TrAll.mono (S' := fun _ => True) (fun _ _ => True.intro) _ _ hr2).same s3⟩, fun H' s4 => hp _ (s3.trans s4)⟩
                refine ifB (fun c4 => ?_) (fun c4 => ?_)
                · rw [if_pos c4] at q
                  refine ⟨_, rfl, _, rfl, a, _, rfl, SqT.of ha, cut_ne1, fun t nt => ⟨t, _, rfl, .inr (SqT.of upd_same), fun l nl => ?_⟩⟩
                  exact slice 2 (by decide) (fun H' s => q _ (s1.trans s)) t nt l nl
                · rw [if_neg (by rw [c4]; exact Bool.false_ne_true)] at q
                  refine ⟨_, rfl, small100 (n := 2) (by decide), fun t0 nt0 => ?_⟩
                  have s0 := same_upd (o := .tup [V.str "keep", V.str "again"]) nt0
                  have ht0 : (upd H1 t0 (.tup [V.str "keep", V.str "again"])) t0 = some (.tup [V.str "keep", V.str "again"]) := upd_same
                  generalize upd H1 t0 (.tup [V.str "keep", V.str "again"]) = H2 at *
                  refine ⟨x, [.str "keep", .str "again"], Tr.dp x y (canOf hsx) (hy.same s0), .tup (SqT.of ht0) (dp_strs ["keep", "again"]), hsx, sh_strs (ss := ["keep", "again"]) (by decide +kernel), _, rfl, ?_⟩
                  have ea : ([PyData.str "keep", PyData.str "again"].any fun z => PyData.eqv z x) = (PyData.eqv x (.str "keep") || PyData.eqv x (.str "again")) := by
                    show (PyData.eqv (.str "keep") x || (PyData.eqv (.str "again") x || false)) = _
                    rw [Bool.or_false, eqv_strC, eqv_strC]
                  rw [ea]
                  refine ifB (fun c5 => ?_) (fun c5 => ?_)
                  · rw [c5, Bool.true_and] at q
                    have ha2 := s0 _ _ ha
                    have hr3 := hr2.same s0
                    refine ⟨_, rfl, _, rfl, a, _, rfl, SqT.of ha2, cut_ne1, fun t nt => ⟨t, _, rfl, .inr (SqT.of upd_same), fun l nl => ?_⟩⟩
                    have s2 := same_upd (o := .tup (cutV (y :: r) (some 1) none)) nt
                    have s3 := s2.trans (same_upd (o := .lst (cutV (y :: r) (some 1) none)) nl)
                    exact ⟨fun _ => True, .list ns, .ref l, 1, rfl, by decide, ⟨l, r, rfl, True.intro, by rw [upd_same, cut_from1], (TrAll.mono (S' := fun _ => True) (fun _ _ => True.intro) _ _ hr3).same s3⟩, fun H' s4 => q _ ((s1.trans s0).trans (s3.trans s4))⟩
                  · rw [c5, Bool.false_and] at q
                    exact q _ (s1.trans s0)
      | _ => exact q _ s1
    · refine iteT ?_
      have e : stOk l n d = true := by
        unfold stOk
        rw [c, Bool.true_or]
      rw [← e]
      exact q _ s1

--SPLIT
section
variable (K : PySem.W.Frag) {X : Cx}
theorem k_inS (hK : X.K = K := by rfl) : OpR X (compareOp .In) (rIn K false) := hK ▸ op_in_seq
theorem k_notInS (hK : X.K = K := by rfl) : OpR X (compareOp .NotIn) (rIn K true) := hK ▸ op_notIn_seq
end
def sp_blocks_of : Sp := fun vs H Q _ => ∃ (S : Addr → Prop) (sw : Str) (r : List PyData) (v : V), vs = [v] ∧ Tr S H (.tuple (.str sw :: r)) v ∧ (sw = "call" → ∃ p q bs, r = [p, q, .list bs]) ∧
  ∀ (q : Addr) (ys : List V) (H' : Hp), Same H H' → (S q ∨ H q = none) → H' q = some (.lst ys) → TrAll S H' (blocksR sw r) ys → Q (.ref q) H'
theorem ok_blocks_of (T : Top w K mg) : FnOk P w K mg base CX0 1 T.a_blocks_of T.d_blocks_of ["statement"] sp_blocks_of := by
  refine T.F_blocks_of.ok sc_blocks_of (fun vs H Q E h => ?_) (fun cdv A outer s H vs Q E hr h => ?_)
  · obtain ⟨S, sw, r, v, rfl, _⟩ := h
    rfl
  · obtain ⟨S, sw, r, v, rfl, hv, hc, q⟩ := h
    obtain ⟨a, xs, rfl, ha, y, us, rfl, hy, hs⟩ := hv
    cases hy
    refine ⟨_, (pss_cons (ps_set (i := 1) sc_blocks_of.nd rfl (Or.inl rfl) (pe_ix (k_ixT K) (pv 0) pe_int (fun _ _ => rfl)))
      (pss_cons (ps_if (pt_cmpR op_eq (pv 1) pe_str (nomark _)) (pss_one (ps_ret (pe_ix (k_ixT K) (pv 0) pe_int (fun _ _ => rfl)))) pss_nil)
      (pss_cons (ps_if (pt_cmpR (k_inS K) (pv 1) (pe_tup (pa_cons pe_str (pa_cons pe_str (pa_cons pe_str pa_nil)))) rfl) (pss_one (ps_ret (pe_callTy (k_list K) (by rfl) T.z_list bt_list (pa_cons (pe_slice (k_slT K) (pv 0) (po_some pe_int) po_none) pa_nil)))) pss_nil)
      (pss_one (ps_ret (pe_lst pa_nil)))))), ?_⟩
    refine ⟨_, rfl, a, _, 0, _, rfl, rfl, SqT.of ha, at_of (j := 0) (by decide) rfl, ?_⟩
    refine ⟨_, rfl, rfl, _, rfl, ite2 (fun c => ?_) (fun c => ?_)⟩
    · have c : sw = "call" := V.str.inj (of_decide_eq_true c)
      obtain ⟨p, z, bs, rfl⟩ := hc c
      obtain ⟨x1, _, rfl, t1, x2, _, rfl, t2, x3, _, rfl, ⟨b, ys, rfl, sb, hb, tb⟩, rfl⟩ := hs
      refine ⟨_, rfl, a, _, 3, _, rfl, rfl, SqT.of ha, at_of (j := 3) (by decide) rfl, ?_⟩
      refine q b ys H (Same.refl _) (.inl sb) hb ?_
      rw [blocksR, if_pos c]
      exact tb
    · have c : ¬ sw = "call" := fun e => c (by rw [e]; exact decide_eq_true rfl)
      refine ⟨_, rfl, small100 (n := 3) (by decide), fun t nt => ?_⟩
      have s1 := same_upd (o := .tup [V.str "keep", V.str "either", V.str "again"]) nt
      have ht : (upd H t (.tup [V.str "keep", V.str "either", V.str "again"])) t = some (.tup [V.str "keep", V.str "either", V.str "again"]) := upd_same
      generalize upd H t (.tup [V.str "keep", V.str "either", V.str "again"]) = H1 at *
      refine ⟨t, _, rfl, .inr (SqT.of ht), rfl, rfl, _, rfl, ifB (fun c2 => ?_) (fun c2 => ?_)⟩
      · have hb : blocksR sw r = r := by
          rw [blocksR, if_neg c, if_pos (show isBlk sw = true from c2)]
        refine ⟨_, rfl, _, rfl, a, _, rfl, SqT.of (s1 _ _ ha), cut_ne1, fun u nu => ⟨u, _, rfl, .inr (SqT.of upd_same), fun l nl => ?_⟩⟩
        have s2 := same_upd (o := .tup (cutV (V.str sw :: us) (some 1) none)) nu
        have s3 := s2.trans (same_upd (o := .lst (cutV (V.str sw :: us) (some 1) none)) nl)
        exact q l us _ (s1.trans s3) (.inr ((s1.trans s2).free nl)) (by rw [upd_same, cut_from1]) (by rw [hb]; exact hs.same (s1.trans s3))
      · have hb : blocksR sw r = [] := by
          rw [blocksR, if_neg c, if_neg (by rw [show isBlk sw = false from c2]; exact Bool.false_ne_true)]
        refine ⟨small100 (n := 0) (by decide), fun l nl => ?_⟩
        exact q l [] _ (s1.trans (same_upd nl)) (.inr (s1.free nl)) upd_same (by rw [hb]; exact TrAll.nil)
def sp_with_blocks : Sp := fun vs H Q _ => ∃ (S S' : Addr → Prop) (z : Stm) (v : V) (b : Addr) (ys : List V), vs = [v, .ref b] ∧ Tr S H z.d v ∧ S' b ∧ H b = some (.lst ys) ∧ TrAll S' H (z.blocks.map bD) ys ∧
  ∀ (r : V) (H' : Hp), Same H H' → Tr S' H' z.d r → Q r H'
theorem ok_with_blocks (T : Top w K mg) : FnOk P w K mg base CX0 1 T.a_with_blocks T.d_with_blocks ["statement", "blocks"] sp_with_blocks := by
  refine T.F_with_blocks.ok sc_with_blocks (fun vs H Q E h => ?_) (fun cdv A outer s H vs Q E hr h => ?_)
  · obtain ⟨S, S', z, v, b, ys, rfl, _⟩ := h
    rfl
  · obtain ⟨S, S', z, v, b, ys, rfl, hv, sb, hb, tb, q⟩ := h
    rw [Stm.d_eq] at hv
    obtain ⟨a, xs, rfl, ha, y, us, rfl, hy, hs⟩ := hv
    cases hy
    refine ⟨_, (pss_cons (ps_set (i := 2) sc_with_blocks.nd rfl (Or.inl rfl) (pe_ix (k_ixT K) (pv 0) pe_int (fun _ _ => rfl)))
      (pss_cons (ps_if (pt_cmpR op_eq (pv 2) pe_str (nomark _)) (pss_one (ps_ret (pe_tup (k_star K (pe_slice (k_slT K) (pv 0) po_none (po_some pe_int)) (pa_cons (pv 1) pa_nil))))) pss_nil)
      (pss_cons (ps_if (pt_cmpR (k_inS K) (pv 2) (pe_tup (pa_cons pe_str (pa_cons pe_str (pa_cons pe_str pa_nil)))) rfl) (pss_one (ps_ret (pe_tup (pa_cons (pv 2) (k_star K (pv 1) pa_nil))))) pss_nil)
      (pss_one (ps_ret (pv 0)))))), ?_⟩
    refine ⟨_, rfl, a, _, 0, _, rfl, rfl, SqT.of ha, at_of (j := 0) (by decide) rfl, ?_⟩
    refine ⟨_, rfl, rfl, _, rfl, ite2 (fun c => ?_) (fun c => ?_)⟩
    · have c : z.word = "call" := V.str.inj (of_decide_eq_true c)
      cases z with
      | call p sv b0 b1 =>
        obtain ⟨x1, _, rfl, t1, x2, _, rfl, t2, x3, _, rfl, t3, rfl⟩ := hs
        cases t1
        cases t2
        refine ⟨_, rfl, _, rfl, a, _, rfl, SqT.of ha, cut_ne (n := 3) (xs := [V.str (Stm.call p sv b0 b1).word, V.int p, V.bl sv, x3]) (by show 3 < 4; decide), fun u nu => ⟨u, _, rfl, .inl (SqT.of upd_same), ?_⟩⟩
        have s1 := same_upd (o := .tup (cutV [V.str (Stm.call p sv b0 b1).word, V.int p, V.bl sv, x3] none (some 3))) nu
        refine ⟨_, rfl, ?_⟩
        rw [show cutV [V.str (Stm.call p sv b0 b1).word, V.int p, V.bl sv, x3] none (some 3) = [V.str "call", V.int p, V.bl sv] from cut_to (n := 3)] at *
        refine ⟨small100 (n := 4) (by decide), fun t nt => ?_⟩
        have s2 := s1.trans (same_upd (o := .tup [V.str "call", V.int p, V.bl sv, V.ref b]) nt)
        refine q _ _ s2 ?_
        refine ⟨t, _, rfl, upd_same, .cons rfl (.cons rfl (.cons rfl (.cons ?_ .nil)))⟩
        exact ⟨b, ys, rfl, sb, s2 _ _ hb, tb.same s2⟩
      | cmd c' => exact absurd c (cm_call c')
      | fin w => exact absurd c (show ¬ ("end" : Str) = "call" by decide +kernel)
      | keep w => exact absurd c (show ¬ ("keep" : Str) = "call" by decide +kernel)
      | again w => exact absurd c (show ¬ ("again" : Str) = "call" by decide +kernel)
      | either w z => exact absurd c (show ¬ ("either" : Str) = "call" by decide +kernel)
    · have c : ¬ z.word = "call" := fun e => c (by rw [e]; exact decide_eq_true rfl)
      refine ⟨_, rfl, small100 (n := 3) (by decide), fun t nt => ?_⟩
      have s1 := same_upd (o := .tup [V.str "keep", V.str "either", V.str "again"]) nt
      have ht : (upd H t (.tup [V.str "keep", V.str "either", V.str "again"])) t = some (.tup [V.str "keep", V.str "either", V.str "again"]) := upd_same
      generalize upd H t (.tup [V.str "keep", V.str "either", V.str "again"]) = H1 at *
      refine ⟨t, _, rfl, .inr (SqT.of ht), rfl, rfl, _, rfl, ifB (fun c2 => ?_) (fun c2 => ?_)⟩
      · have hz : z.rest = z.blocks.map bD := by
          have := blocksR_d z
          rw [blocksR, if_neg c, if_pos (show isBlk z.word = true from c2)] at this
          exact this
        have hl := tb.len
        have hl2 := z.rest_len
        rw [← hz] at hl tb
        refine ⟨_, rfl, _, rfl, b, _, rfl, .inr (SqL.of (s1 _ _ hb)), ?_⟩
        refine ⟨small100 (n := (V.str z.word :: (ys ++ [])).length) (by rw [List.append_nil, List.length_cons]; omega), fun u nu => ?_⟩
        rw [List.append_nil] at *
        have s2 := s1.trans (same_upd (o := .tup (V.str z.word :: ys)) nu)
        refine q _ _ s2 ?_
        rw [Stm.d_eq]
        exact ⟨u, _, rfl, upd_same, .cons rfl (tb.same s2)⟩
      · refine ⟨_, rfl, q _ _ s1 ?_⟩
        rw [Stm.d_eq]
        have flat : ∀ {us : List V}, TrAll S H z.rest us → TrAll S' H1 z.rest us := by
          intro us hs
          cases z with
          | cmd c' =>
            have hs : TrAll S H (c'.nums.map PyData.int) us := hs
            rw [hs.ints]
            exact TrAll.ofInts c'.nums
          | fin w' =>
            obtain ⟨x, r', rfl, t, rfl⟩ := hs
            exact ⟨x, [], rfl, t, rfl⟩
          | call p sv b0 b1 => exact absurd rfl c
          | keep b0 => exact absurd (show isBlk "keep" = true by decide +kernel) (by rw [show isBlk "keep" = false from c2]; exact Bool.false_ne_true)
          | again b0 => exact absurd (show isBlk "again" = true by decide +kernel) (by rw [show isBlk "again" = false from c2]; exact Bool.false_ne_true)
          | either b0 b1 => exact absurd (show isBlk "either" = true by decide +kernel) (by rw [show isBlk "either" = false from c2]; exact Bool.false_ne_true)
        exact ⟨a, _, rfl, s1 _ _ ha, .cons rfl (flat hs)⟩

/-! ### copies -/
def sp_copied (n : Nat) : Sp := fun vs H Q _ => ∃ (S : Addr → Prop) (b : List Stm) (v : V) (many l : Nat), vs = [v] ∧ Tr S H (bD b) v ∧ b.length ≤ 8 ∧ okB many b l ∧ l ≤ 3 ∧ 4 ≤ l + n ∧
  ∀ (r : V) (H' : Hp), Same H H' → Tr (New H) H' (bD b) r → Q r H'
def sp_copied_statement (n : Nat) : Sp := fun vs H Q _ => ∃ (S : Addr → Prop) (z : Stm) (v : V) (many l : Nat), vs = [v] ∧ Tr S H z.d v ∧ z.ok many l ∧ 3 ≤ l + n ∧
  ∀ (r : V) (H' : Hp), Same H H' → Tr (New H) H' z.d r → Q r H'
/-- what a statement's blocks are -/
theorem ok_block {many : Nat} {z : Stm} {l : Nat} (h : z.ok many l) {b : List Stm} (hb : b ∈ z.blocks) : l < 3 ∧ b.length ≤ 8 ∧ okB many b (l + 1) := by
  cases z with
  | cmd c => cases hb
  | fin w => cases hb
  | keep c => cases List.mem_singleton.mp hb; exact h
  | again c => cases List.mem_singleton.mp hb; exact h
  | either c d =>
    rcases List.mem_cons.mp hb with rfl | hb
    · exact ⟨h.1, h.2.1⟩
    · cases List.mem_singleton.mp hb
      exact ⟨h.1, h.2.2⟩
  | call p s c d =>
    rcases List.mem_cons.mp hb with rfl | hb
    · exact ⟨h.1, h.2.2.1⟩
    · cases List.mem_singleton.mp hb
      exact ⟨h.1, h.2.2.2⟩
theorem blocks_len (z : Stm) : z.blocks.length ≤ 2 := by cases z <;> simp [Stm.blocks]
theorem get_blocks {z : Stm} {i : Nat} {d : PyData} (h : (z.blocks.map bD)[i]? = some d) : ∃ b, z.blocks[i]? = some b ∧ b ∈ z.blocks ∧ d = bD b := by
  rw [List.getElem?_map] at h
  cases e : z.blocks[i]? with
  | none => rw [e] at h; cases h
  | some b => rw [e] at h; cases h; exact ⟨b, rfl, List.mem_of_getElem? e, rfl⟩
theorem ok_cs (T : Top w K mg) (n : Nat) (G_copied : FnOk P w K mg base CX0 (2 * n + 2) T.a_copied T.d_copied ["block"] (sp_copied n)) :
    FnOk P w K mg base CX0 (2 * n + 3) T.a_copied_statement T.d_copied_statement ["statement"] (sp_copied_statement n) := by
  refine T.F_copied_statement.ok sc_copied_statement (fun vs H Q E h => ?_) (fun cdv A outer s H vs Q E hr h => ?_)
  · obtain ⟨S, z, v, many, l, rfl, _⟩ := h
    rfl
  · obtain ⟨S, z, v, many, l, rfl, hv, ho, hl, q⟩ := h
    refine ⟨_, (pss_one (ps_ret (pe_call (ok_with_blocks T) (hr.mono (by omega)) (by rfl) T.g_with_blocks T.F_with_blocks.kp (b_with_blocks T) .nil pass0 (pa_cons (pv 0) (pa_cons (pe_lc (own := [("block", 1)]) (g := (gName 1)) (tt := tYes) rfl sc_copied_statement.nd (k_piL K (pe_call (ok_blocks_of T) (hr.mono (by omega)) (by rfl) T.g_blocks_of T.F_blocks_of.kp (b_blocks_of T) .nil pass0 (pa_cons (pv 0) pa_nil))) (blkOk_by (N := N_copied_statement) (sc := defScope s_copied_statement) (by decide +kernel)) (fun _ _ _ _ _ => (pg_name (i := 1) sc_copied_statement.nd rfl (Or.inl rfl))) (fun _ _ _ _ _ => pts_nil) (fun _ _ _ _ _ => (pe_call G_copied (hr.mono (by omega)) (by rfl) T.g_copied T.F_copied.kp (b_copied T) .nil pass0 (pa_cons (pv 1) pa_nil)))) pa_nil))))), ?_⟩
    refine ⟨_, rfl, _, rfl, S, z.word, z.rest, v, rfl, by rw [← Stm.d_eq]; exact hv, fun e => Stm.rest_call e, fun a ys H1 s1 _ ha hs => ?_⟩
    rw [blocksR_d] at hs
    have hl2 := hs.len
    have hl3 := blocks_len z
    rw [List.length_map] at hl2
    refine ⟨a, rfl, ⟨_, SqL.of ha⟩, fun D nD => ?_⟩
    refine lc_list (xs := ys) (fun i H' => Bld H1 D ((z.blocks.map bD).take i) H') (Bld.nil nD) (fun i H' _ h => h.1.seq (SqL.of ha)) (fun i x H' hx h => ?_) (fun H' h => ?_)
    · obtain ⟨d, hd, tx⟩ := hs.get hx
      obtain ⟨b, hb, mb, rfl⟩ := get_blocks hd
      obtain ⟨o1, o2, o3⟩ := ok_block ho mb
      refine ⟨rfl, _, rfl, S, b, x, many, l + 1, rfl, tx.same h.1, o2, o3, by omega, by omega, fun r H2 s2 tr => ?_⟩
      obtain ⟨zs, hD, lz, m⟩ := h.push nD s2 tr
      have hi := (List.getElem?_eq_some_iff.mp hx).1
      refine ⟨zs, hD, ?_, ?_⟩
      · rw [lz, List.length_take]
        exact small1000 (by omega)
      · rw [List.take_add_one, hd]
        exact m
    · rw [hl2, ← List.length_map (f := bD), List.take_length] at h
      obtain ⟨zs, hD, lz⟩ := h.len
      have st := s1.trans h.1
      obtain ⟨_, zs', e', sD, hD', tz⟩ := h.done nD
      cases e'
      refine ⟨S, New H, z, v, D, zs', rfl, hv.same st, s1.free nD, hD', tz.newer s1, fun r H2 s2 tr => ?_⟩
      exact q r H2 (st.trans s2) tr
theorem ok_cp (T : Top w K mg) (n : Nat) (G_copied_statement : FnOk P w K mg base CX0 (2 * n + 3) T.a_copied_statement T.d_copied_statement ["statement"] (sp_copied_statement n)) :
    FnOk P w K mg base CX0 (2 * n + 4) T.a_copied T.d_copied ["block"] (sp_copied (n + 1)) := by
  refine T.F_copied.ok sc_copied (fun vs H Q E h => ?_) (fun cdv A outer s H vs Q E hr h => ?_)
  · obtain ⟨S, z, v, many, l, rfl, _⟩ := h
    rfl
  · obtain ⟨S, b, v, many, l, rfl, hv, h8, ho, hl3, hl, q⟩ := h
    refine ⟨_, (pss_one (ps_ret (pe_lc (own := [("statement", 1)]) (g := (gName 1)) (tt := tYes) rfl sc_copied.nd (k_piL K (pv 0)) (blkOk_by (N := N_copied) (sc := defScope s_copied) (by decide +kernel)) (fun _ _ _ _ _ => (pg_name (i := 1) sc_copied.nd rfl (Or.inl rfl))) (fun _ _ _ _ _ => pts_nil) (fun _ _ _ _ _ => (pe_call G_copied_statement (hr.mono (by omega)) (by rfl) T.g_copied_statement T.F_copied_statement.kp (b_copied_statement T) .nil pass0 (pa_cons (pv 1) pa_nil)))))), ?_⟩
    obtain ⟨a, ys, rfl, sa, ha, hs⟩ := hv
    have hl2 := hs.len
    rw [blkD_len] at hl2
    refine ⟨_, rfl, a, rfl, ⟨_, SqL.of ha⟩, fun D nD => ?_⟩
    refine lc_list (xs := ys) (fun i H' => Bld H D ((blkD b).take i) H') (Bld.nil nD) (fun i H' _ h => h.1.seq (SqL.of ha)) (fun i x H' hx h => ?_) (fun H' h => ?_)
    · obtain ⟨d, hd, tx⟩ := hs.get hx
      obtain ⟨z, hz, rfl⟩ := blkD_get hd
      refine ⟨rfl, _, rfl, S, z, x, many, l, rfl, tx.same h.1, okB_get ho hz, by omega, fun r H2 s2 tr => ?_⟩
      obtain ⟨zs, hD, lz, m⟩ := h.push nD s2 tr
      have hi := (List.getElem?_eq_some_iff.mp hx).1
      refine ⟨zs, hD, ?_, ?_⟩
      · rw [lz, List.length_take]
        exact small1000 (by omega)
      · rw [List.take_add_one, hd]
        exact m
    · rw [hl2, ← blkD_len, List.take_length] at h
      exact q _ _ h.1 (h.done nD)
theorem none_copied (T : Top w K mg) : FnOk P w K mg base CX0 2 T.a_copied T.d_copied ["block"] (sp_copied 0) := by
  have no : ∀ vs H Q E, ¬ sp_copied 0 vs H Q E := fun vs H Q E ⟨_, _, _, _, l, _, _, _, _, h1, h2, _⟩ => by omega
  exact ⟨fun vs H Q E h => absurd h (no vs H Q E), fun A outer s H args us vs Q E _ _ _ _ h => absurd h (no vs H Q E)⟩
theorem all_copied (T : Top w K mg) : ∀ n : Nat, FnOk P w K mg base CX0 (2 * n + 2) T.a_copied T.d_copied ["block"] (sp_copied n)
  | 0 => none_copied T
  | n + 1 => ok_cp T n (ok_cs T n (all_copied T n))
theorem ok_copied (T : Top w K mg) : FnOk P w K mg base CX0 10 T.a_copied T.d_copied ["block"] (sp_copied 4) := all_copied T 4

--SPLIT
/-! ### a good book is accepted -/
def sp_check_block (K : PySem.W.Frag) (n : Nat) : Sp := fun vs H Q _ => ∃ (S : Addr → Prop) (b : List Stm) (v : V) (many l rd : Nat) (pr : Int) (t : Addr) (ps : List V), vs = [v, .int pr, .ref t, .int rd, .int many] ∧ Tr S H (bD b) v ∧ b.length ≤ 8 ∧ okB many b l ∧ l ≤ 3 ∧ 4 ≤ l + n ∧
  H t = some (.tup ps) ∧ ps.length = 2 * l ∧ rd + cntB b ≤ 12 ∧ ∀ H', Same H H' → Q (.int ((rd + cntB b : Nat) : Int)) H'
theorem ok_check_step (T : Top w K mg) (n : Nat) (G_check_block : FnOk P w K mg base CX0 (n + 6) T.a_check_block T.d_check_block ["block", "procedure", "ahead", "read", "procedures"] (sp_check_block K n)) :
    FnOk P w K mg base CX0 (n + 7) T.a_check_block T.d_check_block ["block", "procedure", "ahead", "read", "procedures"] (sp_check_block K (n + 1)) := by
  refine T.F_check_block.ok sc_check_block (fun vs H Q E h => ?_) (fun cdv A outer s H vs Q E hr h => ?_)
  · obtain ⟨S, b, v, many, l, rd, pr, t, ps, rfl, _⟩ := h
    rfl
  · obtain ⟨S, b, v, many, l, rd, pr, t, ps, rfl, hv, h8, ho, hl3, hln, ht, hps, hc, q⟩ := h
    refine ⟨_, (pss_cons (ps_for PassesOwn.never rfl (pi_enum (by rfl) T.z_enumerate (pa_cons (pv 0) pa_nil)) (pg_tup rfl (pgs_cons (pg_name (i := 5) sc_check_block.nd rfl (Or.inl rfl)) (pgs_cons (pg_name (i := 6) sc_check_block.nd rfl (Or.inl rfl)) pgs_nil))) (pss_cons (ps_set (i := 7) sc_check_block.nd rfl (Or.inl rfl) (pe_tup (k_star K (pv 2) (pa_cons (pv 5) pa_nil))))
        (pss_cons (ps_set (i := 3) sc_check_block.nd rfl (Or.inl rfl) (pe_op op_add (pv 3) pe_int))
        (pss_cons (ps_if (PW.pt (pw_or (pt_cmpR op_eq (pv 5) (C8.pe_gc rfl T.c_MOST_IN_A_LIST) (nomark _)) (pw_or1 (pt_cmpR op_gt (pv 3) (C8.pe_gc rfl T.c_MOST_IN_A_PROCEDURE) (nomark _))))) (pss_one ps_never) pss_nil)
        (pss_cons (ps_if (pt_not (pt_val (pe_call (ok_is_statement T) (hr.mono (by omega)) (by rfl) T.g_is_statement T.F_is_statement.kp (b_is_statement T) .nil pass0 (pa_cons (pv 6) (pa_cons (pe_op op_fdiv (pe_callB (k_len K) (by rfl) T.z_len bt_len (pa_cons (pv 7) pa_nil)) pe_int) (pa_cons (pv 4) pa_nil)))))) (pss_one ps_never) pss_nil)
        (pss_one (ps_for PassesOwn.never rfl (pi_enum (by rfl) T.z_enumerate (pa_cons (pe_call (ok_blocks_of T) (hr.mono (by omega)) (by rfl) T.g_blocks_of T.F_blocks_of.kp (b_blocks_of T) .nil pass0 (pa_cons (pv 6) pa_nil)) pa_nil)) (pg_tup rfl (pgs_cons (pg_name (i := 8) sc_check_block.nd rfl (Or.inl rfl)) (pgs_cons (pg_name (i := 9) sc_check_block.nd rfl (Or.inl rfl)) pgs_nil))) (pss_one (ps_set (i := 3) sc_check_block.nd rfl (Or.inl rfl) (pe_call G_check_block (hr.mono (by omega)) (by rfl) T.g_check_block T.F_check_block.kp (b_check_block T) .nil pass0 (pa_cons (pv 9) (pa_cons (pv 1) (pa_cons (pe_tup (k_star K (pv 7) (pa_cons (pv 8) pa_nil))) (pa_cons (pv 3) (pa_cons (pv 4) pa_nil)))))))))))))))
      (pss_one (ps_ret (pv 3)))), ?_⟩
    obtain ⟨a, ys, rfl, sa, ha, hs⟩ := hv
    have hl2 := hs.len
    rw [blkD_len] at hl2
    refine ⟨_, rfl, a, ys, rfl, SqL.of ha, ?_⟩
    refine for_it (walk_enum (xs := ys)) (fun i σ H' => ∃ y5 y6 y7 y8 y9, σ = [some (.ref a), some (.int pr), some (.ref t), some (.int ((rd + cntB (b.take i) : Nat) : Int)), some (.int many), y5, y6, y7, y8, y9] ∧ Same H H') ⟨none, none, none, none, none, rfl, Same.refl _⟩ (fun i σ H' _ h => ?_) (fun i x σ H' H2 hi h y => ?_) (fun σ H' h => ?_)
    · obtain ⟨_, _, _, _, _, _, sm⟩ := h
      exact SqL.of (sm _ _ ha)
    · obtain ⟨y5, y6, y7, y8, y9, rfl, sm⟩ := h
      obtain ⟨u, x, y, rfl, nu, rfl, hx, hy⟩ := y
      cases hx
      have hy : ys[i]? = some y := hy
      obtain ⟨d, hd, tx⟩ := hs.get hy
      obtain ⟨z, hz, rfl⟩ := blkD_get hd
      have oz := okB_get ho hz
      have c1 := cntB_le hz
      have c0 := z.cnt_pos
      have cb := cnt_blocks z
      have s1 := sm.trans (same_upd (o := .tup [V.int (i : Int), y]) nu)
      have hu : (upd H' u (.tup [V.int (i : Int), y])) u = some (.tup [V.int (i : Int), y]) := upd_same
      generalize upd H' u (.tup [V.int (i : Int), y]) = H1 at *
      refine ⟨u, _, rfl, SqT.of hu, rfl, _, _, rfl, _, _, rfl, rfl, ?_⟩
      refine ⟨_, rfl, t, ps, rfl, .inl (SqT.of (s1 _ _ ht)), _, rfl, ?_⟩
      have lp : (ps ++ [V.int (i : Int)]).length = 2 * l + 1 := by rw [List.length_append, hps]; rfl
      refine ⟨small100 (by rw [lp]; omega), fun p np => ?_⟩
      have s2 := s1.trans (same_upd (o := .tup (ps ++ [V.int (i : Int)])) np)
      have hp : (upd H1 p (.tup (ps ++ [V.int (i : Int)]))) p = some (.tup (ps ++ [V.int (i : Int)])) := upd_same
      generalize upd H1 p (.tup (ps ++ [V.int (i : Int)])) = H2 at *
      refine ⟨_, rfl, _, _, rfl, rfl, ?_⟩
      refine ⟨_, rfl, rfl, _, rfl, iteN (fun e => ?_) ?_⟩
      · have := V.int.inj e
        omega
      refine ⟨_, rfl, _, _, rfl, rfl, _, rfl, iteN (fun e => ?_) ?_⟩
      · omega
      refine ⟨_, rfl, _, rfl, p, _, rfl, .inr (SqT.of hp), _, _, rfl, rfl, ⟨by decide, by decide⟩, _, rfl, ?_⟩
      have el : (((ps ++ [V.int (i : Int)]).length : Nat) : Int) / 2 = (l : Int) := by rw [lp]; omega
      dsimp only
      rw [el]
      refine ⟨S, z.d, y, (l : Int), (many : Int), rfl, tx.same s2, wordOk_d z, fun x r e => ?_, fun H3 s3 => ?_⟩
      · rw [Stm.d_eq] at e
        cases e
        exact sh_str (word_ok z)
      refine ⟨_, rfl, ?_⟩
      rw [stOk_ok oz]
      refine ⟨_, rfl, S, z.word, z.rest, y, rfl, by rw [← Stm.d_eq]; exact tx.same (s2.trans s3), fun e => Stm.rest_call e, fun qa zs H4 s4 _ hqa hzs => ?_⟩
      rw [blocksR_d] at hzs
      have s24 := s2.trans (s3.trans s4)
      have hl5 := hzs.len
      rw [List.length_map] at hl5
      refine ⟨qa, zs, rfl, SqL.of hqa, ?_⟩
      refine for_it (walk_enum (xs := zs)) (fun j σ H' => ∃ y8 y9, σ = [some (.ref a), some (.int pr), some (.ref t), some (.int ((rd + cntB (b.take i) + 1 + cntBs (z.blocks.take j) : Nat) : Int)), some (.int many), some (.int i), some y, some (.ref p), y8, y9] ∧ Same H4 H') ⟨y8, y9, rfl, Same.refl _⟩ (fun j σ H' _ h => ?_) (fun j x σ H' H6 hj h y => ?_) (fun σ H' h => ?_)
      · obtain ⟨_, _, _, sj⟩ := h
        exact SqL.of (sj _ _ hqa)
      · obtain ⟨y8, y9, rfl, sj⟩ := h
        obtain ⟨u2, x2, y2, rfl, nu2, rfl, hx2, hy2⟩ := y
        cases hx2
        have hy2 : zs[j]? = some y2 := hy2
        obtain ⟨d2, hd2, tx2⟩ := hzs.get hy2
        obtain ⟨zb, hzb, mzb, rfl⟩ := get_blocks hd2
        obtain ⟨o1, o2, o3⟩ := ok_block oz mzb
        have c2 := cntBs_le hzb
        have s5 := sj.trans (same_upd (o := .tup [V.int (j : Int), y2]) nu2)
        have hu2 : (upd H' u2 (.tup [V.int (j : Int), y2])) u2 = some (.tup [V.int (j : Int), y2]) := upd_same
        generalize upd H' u2 (.tup [V.int (j : Int), y2]) = H5 at *
        refine ⟨u2, _, rfl, SqT.of hu2, rfl, _, _, rfl, _, _, rfl, rfl, ?_⟩
        refine ⟨_, rfl, _, rfl, _, rfl, p, _, rfl, .inl (SqT.of (s5 _ _ ((s3.trans s4) _ _ hp))), _, rfl, small100 (by rw [List.length_append, lp]; show 2 * l + 1 + 1 ≤ 1000; omega), fun p2 np2 => ?_⟩
        have s6 := s5.trans (same_upd (o := .tup (ps ++ [V.int (i : Int)] ++ [V.int (j : Int)])) np2)
        refine ⟨_, rfl, _, rfl, S, zb, y2, many, l + 1, rd + cntB (b.take i) + 1 + cntBs (z.blocks.take j), pr, p2, _, rfl, tx2.same s6, o2, o3, by omega, by omega, upd_same, by rw [List.length_append, lp]; show 2 * l + 1 + 1 = _; omega, by omega, fun H7 s7 => ?_⟩
        refine ⟨some (.int (j : Int)), some y2, ?_, s6.trans s7⟩
        rw [cntBs_take hzb, ← Nat.add_assoc]
        rfl
      · obtain ⟨y8, y9, rfl, sj⟩ := h
        refine ⟨some (.int (i : Int)), some y, some (.ref p), y8, y9, ?_, s24.trans sj⟩
        rw [hl5, List.take_length, cntB_take hz, cb, ← Nat.add_assoc, ← Nat.add_assoc]
    · obtain ⟨y5, y6, y7, y8, y9, rfl, sm⟩ := h
      refine ⟨_, rfl, ?_⟩
      have q := q H' sm
      rw [hl2, List.take_length]
      exact q
theorem none_check (T : Top w K mg) : FnOk P w K mg base CX0 6 T.a_check_block T.d_check_block ["block", "procedure", "ahead", "read", "procedures"] (sp_check_block K 0) := by
  have no : ∀ vs H Q E, ¬ sp_check_block K 0 vs H Q E := fun vs H Q E ⟨_, _, _, _, l, _, _, _, _, _, _, _, _, h1, h2, _⟩ => by omega
  exact ⟨fun vs H Q E h => absurd h (no vs H Q E), fun A outer s H args us vs Q E _ _ _ _ h => absurd h (no vs H Q E)⟩
theorem all_check (T : Top w K mg) : ∀ n : Nat, FnOk P w K mg base CX0 (n + 6) T.a_check_block T.d_check_block ["block", "procedure", "ahead", "read", "procedures"] (sp_check_block K n)
  | 0 => none_check T
  | n + 1 => ok_check_step T n (all_check T n)
theorem ok_check_block (T : Top w K mg) : FnOk P w K mg base CX0 10 T.a_check_block T.d_check_block ["block", "procedure", "ahead", "read", "procedures"] (sp_check_block K 4) := all_check T 4

--SPLIT
/-! ### a book -/
def sp_check_bodies : Sp := fun vs H Q _ => ∃ (S : Addr → Prop) (bs : List (List Stm)) (v : V), vs = [v] ∧ Tr S H (bookD bs) v ∧ OkBook bs ∧ ∀ H', Same H H' → Q .non H'
theorem ok_check_bodies (T : Top w K mg) : FnOk P w K mg base CX0 11 T.a_check_bodies T.d_check_bodies ["bodies"] sp_check_bodies := by
  refine T.F_check_bodies.ok sc_check_bodies (fun vs H Q E h => ?_) (fun cdv A outer s H vs Q E hr h => ?_)
  · obtain ⟨S, bs, v, rfl, _⟩ := h
    rfl
  · obtain ⟨S, bs, v, rfl, hv, ho, q⟩ := h
    refine ⟨_, (pss_cons (ps_if (PW.pt (pw_or (pt_not (pt_val (pe_callB (k_isi K) (by rfl) T.z_isinstance bt_isinstance (pa_cons (pv 0) (pa_cons (pe_bltn (v := .ty "list") (by rfl) T.z_list bt_list rfl) pa_nil))))) (pw_or1 (pt_not (pt_chain op_le op_le pe_int (pe_callB (k_len K) (by rfl) T.z_len bt_len (pa_cons (pv 0) pa_nil)) (C8.pe_gc rfl T.c_MOST_PROCEDURES)))))) (pss_one ps_never) pss_nil)
      (pss_one (ps_for PassesOwn.never rfl (pi_enum (by rfl) T.z_enumerate (pa_cons (pv 0) pa_nil)) (pg_tup rfl (pgs_cons (pg_name (i := 1) sc_check_bodies.nd rfl (Or.inl rfl)) (pgs_cons (pg_name (i := 2) sc_check_bodies.nd rfl (Or.inl rfl)) pgs_nil))) (pss_cons (ps_if (pt_not (pt_val (pe_callB (k_isi K) (by rfl) T.z_isinstance bt_isinstance (pa_cons (pv 2) (pa_cons (pe_bltn (v := .ty "list") (by rfl) T.z_list bt_list rfl) pa_nil))))) (pss_one ps_never) pss_nil)
        (pss_one (ps_expr (pe_call (ok_check_block T) hr (by rfl) T.g_check_block T.F_check_block.kp (b_check_block T) .nil pass0 (pa_cons (pv 2) (pa_cons (pv 1) (pa_cons (pe_tup pa_nil) (pa_cons pe_int (pa_cons (pe_callB (k_len K) (by rfl) T.z_len bt_len (pa_cons (pv 0) pa_nil)) pa_nil)))))))))))), ?_⟩
    refine ⟨_, rfl, _, _, _, _, _, rfl, .ty _, tr_ty K hv, ki_list K _, _, rfl, ?_⟩
    obtain ⟨a, ys, rfl, sa, ha, hs⟩ := hv
    have hl2 := hs.len
    rw [List.length_map] at hl2
    have lo := ho.lo
    have hi := ho.hi
    refine iteF ⟨_, rfl, a, _, rfl, .inl (SqL.of ha), _, _, rfl, rfl, _, rfl, iteP (by rw [hl2]; omega) ⟨_, _, rfl, rfl, _, rfl, ?_⟩⟩
    rw [decide_eq_true (by rw [hl2]; omega)]
    refine ⟨_, rfl, a, ys, rfl, SqL.of ha, ?_⟩
    refine for_it (walk_enum (xs := ys)) (fun i σ H' => ∃ y1 y2, σ = [some (.ref a), y1, y2] ∧ Same H H') ⟨_, _, rfl, Same.refl _⟩ (fun i σ H' _ h => ?_) (fun i x σ H' H2 hi h y => ?_) (fun σ H' h => ?_)
    · obtain ⟨_, _, _, sm⟩ := h
      exact SqL.of (sm _ _ ha)
    · obtain ⟨y1, y2, rfl, sm⟩ := h
      obtain ⟨u, x, y, rfl, nu, rfl, hx, hy⟩ := y
      cases hx
      have hy : ys[i]? = some y := hy
      obtain ⟨d, hd, tx⟩ := hs.get hy
      obtain ⟨b, hb, mb, rfl⟩ := get_bodies hd
      obtain ⟨o1, o2, o3⟩ := ho.each b mb
      have s1 := sm.trans (same_upd (o := .tup [V.int (i : Int), y]) nu)
      have hu : (upd H' u (.tup [V.int (i : Int), y])) u = some (.tup [V.int (i : Int), y]) := upd_same
      generalize upd H' u (.tup [V.int (i : Int), y]) = H1 at *
      refine ⟨u, _, rfl, SqT.of hu, rfl, _, _, rfl, _, _, rfl, rfl, ?_⟩
      refine ⟨_, rfl, _, _, _, _, _, rfl, .ty _, tr_ty K (tx.same s1), ki_list K _, _, rfl, ?_⟩
      refine iteF ⟨_, rfl, _, rfl, small100 (n := 0) (by decide), fun t nt => ?_⟩
      have s2 := s1.trans (same_upd (o := .tup []) nt)
      refine ⟨_, rfl, a, _, rfl, .inl (SqL.of (s2 _ _ ha)), ?_⟩
      refine ⟨S, b, y, bs.length, 0, 0, (i : Int), t, [], by rw [hl2]; rfl, tx.same s2, o1, o3, by decide, by decide, upd_same, rfl, by omega, fun H3 s3 => ?_⟩
      exact ⟨_, _, rfl, s2.trans s3⟩
    · obtain ⟨y1, y2, rfl, sm⟩ := h
      exact q _ sm
section
variable (K : PySem.W.Frag) {X : Cx}
end
def bf (q : Addr) : List (Str × V) := putF "_bodies" (.ref q) []
theorem bf_get (q : Addr) : (bf q).lookup ("_bodies" : Str) = some (.ref q) := by
  unfold bf
  rw [lookup_putF, if_pos rfl]
theorem bf_no (q : Addr) {m : Str} (h : ¬ m = "_bodies") : (bf q).lookup m = none := by
  unfold bf
  rw [lookup_putF, if_neg h]
  rfl
/-- a Book of the bodies bs stands at p, its lists at S -/
def BookV (S : Addr → Prop) (C : Addr) (H : Hp) (p : Addr) (bs : List (List Stm)) : Prop := ∃ dx q, H p = some (.ins C dx (bf q)) ∧ Tr S H (bookD bs) (.ref q)
theorem BookV.kpl {S M : Addr → Prop} {C : Addr} {H H' : Hp} {p : Addr} {bs : List (List Stm)} (k : KpL M H H') (h : ∀ a, S a → ¬ M a) (b : BookV S C H p bs) : BookV S C H' p bs := by
  obtain ⟨dx, q, hp, t⟩ := b
  exact ⟨dx, q, k.ins hp, Tr.kpl k h _ _ t⟩
theorem BookV.same {S : Addr → Prop} {C : Addr} {H H' : Hp} {p : Addr} {bs : List (List Stm)} (k : Same H H') (b : BookV S C H p bs) : BookV S C H' p bs := b.kpl (M := fun _ => False) (KpL.of k) fun _ _ h => h
theorem BookV.mono {S S' : Addr → Prop} {C : Addr} {H : Hp} {p : Addr} {bs : List (List Stm)} (h : ∀ a, S a → S' a) (b : BookV S C H p bs) : BookV S' C H p bs := by
  obtain ⟨dx, q, hp, t⟩ := b
  exact ⟨dx, q, hp, Tr.mono h _ _ t⟩
def sp_Book_init (C : Addr) : Sp := fun vs H Q _ => ∃ (S : Addr → Prop) (p dx : Addr) (v : V) (bs : List (List Stm)), vs = [.ref p, v] ∧ H p = some (.ins C dx []) ∧ Tr S H (bookD bs) v ∧ OkBook bs ∧
  ∀ H', (∀ b o, H b = some o → b ≠ p → H' b = some o) → BookV (New H) C H' p bs → Q .non H'
theorem ok_Book___init__ (T : Top w K mg) : FnOk P w K mg base CX0 12 T.a_Book___init__ T.d_Book___init__ ["self", "bodies"] (sp_Book_init T.C_Book) := by
  refine T.F_Book___init__.ok sc_Book___init__ (fun vs H Q E h => ?_) (fun cdv A outer s H vs Q E hr h => ?_)
  · obtain ⟨S, p, dx, v, bs, rfl, _⟩ := h
    rfl
  · obtain ⟨S, p, dx, v, bs, rfl, hp, hv, ho, q⟩ := h
    refine ⟨_, (pss_cons (ps_expr (pe_call (ok_check_bodies T) hr (by rfl) T.g_check_bodies T.F_check_bodies.kp (b_check_bodies T) .nil pass0 (pa_cons (pv 1) pa_nil)))
      (pss_one (ps_fld (pv 0) (pe_lc (own := [("body", 2)]) (g := (gName 2)) (tt := tYes) rfl sc_Book___init__.nd (k_piL K (pv 1)) (blkOk_by (N := N_Book___init__) (sc := defScope s_Book___init__) (by decide +kernel)) (fun _ _ _ _ _ => (pg_name (i := 2) sc_Book___init__.nd rfl (Or.inl rfl))) (fun _ _ _ _ _ => pts_nil) (fun _ _ _ _ _ => (pe_call (ok_copied T) (hr.mono (by decide)) (by rfl) T.g_copied T.F_copied.kp (b_copied T) .nil pass0 (pa_cons (pv 2) pa_nil)))) rfl))), ?_⟩
    refine ⟨_, rfl, S, bs, v, rfl, hv, ho, fun H1 s1 => ?_⟩
    have hv1 := hv.same s1
    obtain ⟨a, ys, rfl, sa, ha, hs⟩ := hv1
    have hl2 := hs.len
    rw [List.length_map] at hl2
    have hi3 := ho.hi
    refine ⟨_, rfl, a, rfl, ⟨_, SqL.of ha⟩, fun D nD => ?_⟩
    refine lc_list (xs := ys) (fun i H' => Bld H1 D ((bs.map bD).take i) H') (Bld.nil nD) (fun i H' _ h => h.1.seq (SqL.of ha)) (fun i x H' hx h => ?_) (fun H' h => ?_)
    · obtain ⟨d, hd, tx⟩ := hs.get hx
      obtain ⟨b, hb, mb, rfl⟩ := get_bodies hd
      obtain ⟨o1, o2, o3⟩ := ho.each b mb
      refine ⟨rfl, _, rfl, S, b, x, bs.length, 0, rfl, tx.same h.1, o1, o3, by decide, by decide, fun r H2 s2 tr => ?_⟩
      obtain ⟨zs, hD, lz, m⟩ := h.push nD s2 tr
      have hi := (List.getElem?_eq_some_iff.mp hx).1
      refine ⟨zs, hD, ?_, ?_⟩
      · rw [lz, List.length_take]
        exact small1000 (by omega)
      · rw [List.take_add_one, hd]
        exact m
    · rw [hl2, ← List.length_map (f := bD), List.take_length] at h
      have st := s1.trans h.1
      have hp' := st _ _ hp
      refine ⟨_, rfl, p, T.C_Book, dx, [], rfl, hp', T.cl_Book, T.na_Book__bodies, by decide, ?_⟩
      refine q _ (fun b o e nb => by rw [upd_ne nb]; exact st _ _ e) ⟨dx, D, upd_same, ?_⟩
      have t := (h.done nD).newer s1
      exact Tr.put hp' t
/-- Book(v) -/
theorem made {S : Addr → Prop} {C : Addr} {H : Hp} {p dx : Addr} {v : V} {bs : List (List Stm)} {R : Hp → Prop} {E : XK} (hv : Tr S H (bookD bs) v) (ho : OkBook bs) (np : H p = none) (nd : H dx = none) (ne : dx ≠ p)
    (q : ∀ H', Same H H' → BookV (New H) C H' p bs → R H') : sp_Book_init C [.ref p, v] (upd (upd H dx (.own p)) p (.ins C dx [])) (fun z H2 => z = .non ∧ R H2) E := by
  have s1 : Same H (upd (upd H dx (.own p)) p (.ins C dx [])) := fun b o e => by
    rw [upd_ne (ne_of_none e np), upd_ne (ne_of_none e nd)]
    exact e
  refine ⟨S, p, dx, v, bs, rfl, upd_same, hv.same s1, ho, fun H' k b => ⟨rfl, q H' (fun c o e => k c o (s1 _ _ e) (ne_of_none e np)) (b.mono fun a n => s1.free n)⟩⟩

def sp_Book_bodies (C : Addr) : Sp := fun vs H Q _ => ∃ (S : Addr → Prop) (p : Addr) (bs : List (List Stm)), vs = [.ref p] ∧ BookV S C H p bs ∧ OkBook bs ∧ ∀ r H', Same H H' → Tr (New H) H' (bookD bs) r → Q r H'
theorem ok_Book_bodies (T : Top w K mg) : FnOk P w K mg base CX0 11 T.a_Book_bodies T.d_Book_bodies ["self"] (sp_Book_bodies T.C_Book) := by
  refine T.F_Book_bodies.ok sc_Book_bodies (fun vs H Q E h => ?_) (fun cdv A outer s H vs Q E hr h => ?_)
  · obtain ⟨S, p, bs, rfl, _⟩ := h
    rfl
  · obtain ⟨S, p, bs, rfl, ⟨dx, qa, hp, hv⟩, ho, q⟩ := h
    refine ⟨_, (pss_one (ps_ret (pe_lc (own := [("body", 1)]) (g := (gName 1)) (tt := tYes) rfl sc_Book_bodies.nd (k_piL K (pe_fld (pv 0) rfl)) (blkOk_by (N := N_Book_bodies) (sc := defScope s_Book_bodies) (by decide +kernel)) (fun _ _ _ _ _ => (pg_name (i := 1) sc_Book_bodies.nd rfl (Or.inl rfl))) (fun _ _ _ _ _ => pts_nil) (fun _ _ _ _ _ => (pe_call (ok_copied T) hr (by rfl) T.g_copied T.F_copied.kp (b_copied T) .nil pass0 (pa_cons (pv 1) pa_nil)))))), ?_⟩
    obtain ⟨a, ys, ea, sa, ha, hs⟩ := hv
    cases ea
    have hl2 := hs.len
    rw [List.length_map] at hl2
    have hi3 := ho.hi
    refine ⟨_, rfl, p, T.C_Book, dx, _, _, rfl, hp, T.cl_Book, T.na_Book__bodies, bf_get _, qa, rfl, ⟨_, SqL.of ha⟩, fun D nD => ?_⟩
    refine lc_list (xs := ys) (fun i H' => Bld H D ((bs.map bD).take i) H') (Bld.nil nD) (fun i H' _ h => h.1.seq (SqL.of ha)) (fun i x H' hx h => ?_) (fun H' h => ?_)
    · obtain ⟨d, hd, tx⟩ := hs.get hx
      obtain ⟨b, hb, mb, rfl⟩ := get_bodies hd
      obtain ⟨o1, o2, o3⟩ := ho.each b mb
      refine ⟨rfl, _, rfl, S, b, x, bs.length, 0, rfl, tx.same h.1, o1, o3, by decide, by decide, fun r H2 s2 tr => ?_⟩
      obtain ⟨zs, hD, lz, m⟩ := h.push nD s2 tr
      have hi := (List.getElem?_eq_some_iff.mp hx).1
      refine ⟨zs, hD, ?_, ?_⟩
      · rw [lz, List.length_take]
        exact small1000 (by omega)
      · rw [List.take_add_one, hd]
        exact m
    · rw [hl2, ← List.length_map (f := bD), List.take_length] at h
      exact q _ _ h.1 (h.done nD)

--SPLIT
def sp__law_blocks : Sp := fun vs H Q _ => ∃ (S : Addr → Prop) (z : Stm) (v : V), vs = [v] ∧ Tr S H z.d v ∧
  ∀ (q : Addr) (ys : List V) (H' : Hp), Same H H' → H q = none → H' q = some (.lst ys) → TrAll S H' (z.blocks.map bD) ys → Q (.ref q) H'
theorem filt_rest (z : Stm) (h : ¬ z.word = "call") : z.rest.filter isLs = z.blocks.map bD := by
  cases z with
  | cmd c => show (c.nums.map PyData.int).filter isLs = []; generalize c.nums = ns; induction ns with
    | nil => rfl
    | cons n r ih => simpa [isLs] using ih
  | fin w => rfl
  | keep b => rfl
  | again b => rfl
  | either a b => rfl
  | call p s a b => exact absurd rfl h
theorem ok__law_blocks (T : Top w K mg) : FnOk P w K mg base CX0 1 T.a__law_blocks T.d__law_blocks ["_law_statement"] sp__law_blocks := by
  refine T.F__law_blocks.ok sc__law_blocks (fun vs H Q E h => ?_) (fun cdv A outer s H vs Q E hr h => ?_)
  · obtain ⟨S, z, v, rfl, _⟩ := h
    rfl
  · obtain ⟨S, z, v, rfl, hv, q⟩ := h
    rw [Stm.d_eq] at hv
    obtain ⟨a, xs, rfl, ha, y, us, rfl, hy, hs⟩ := hv
    cases hy
    refine ⟨_, (pss_cons (ps_if (pt_cmpR op_eq (pe_ix (k_ixT K) (pv 0) pe_int (fun _ _ => rfl)) pe_str (nomark _)) (pss_one (ps_ret (pe_callTy (k_list K) (by rfl) T.z_list bt_list (pa_cons (pe_ix (k_ixT K) (pv 0) pe_int (fun _ _ => rfl)) pa_nil)))) pss_nil)
      (pss_one (ps_ret (pe_lc (own := [("_law_item", 1)]) (g := (gName 1)) rfl sc__law_blocks.nd (k_piT K (pe_slice (k_slT K) (pv 0) (po_some pe_int) po_none)) (blkOk_by (N := N__law_blocks) (sc := defScope s__law_blocks) (by decide +kernel)) (fun _ _ _ _ _ => (pg_name (i := 1) sc__law_blocks.nd rfl (Or.inl rfl))) (fun _ _ _ _ _ => (pts_one (pt_val (pe_callB (k_isi K) (by rfl) T.z_isinstance bt_isinstance (pa_cons (pv 1) (pa_cons (pe_bltn (v := .ty "list") (by rfl) T.z_list bt_list rfl) pa_nil)))))) (fun _ _ _ _ _ => (pv 1)))))), ?_⟩
    refine ⟨_, rfl, a, _, 0, _, rfl, rfl, SqT.of ha, at_of (j := 0) (by decide) rfl, ?_⟩
    refine ⟨rfl, _, rfl, ite2 (fun c => ?_) (fun c => ?_)⟩
    · have c : z.word = "call" := V.str.inj (of_decide_eq_true c)
      have hb := blocksR_d z
      obtain ⟨p, z', bs, e⟩ := Stm.rest_call c
      rw [e] at hs hb
      rw [blocksR, if_pos c] at hb
      obtain ⟨x1, _, rfl, t1, x2, _, rfl, t2, x3, _, rfl, ⟨b, ys, rfl, sb, hb2, tb⟩, rfl⟩ := hs
      refine ⟨_, rfl, a, _, 3, _, rfl, rfl, SqT.of ha, at_of (j := 3) (by decide) rfl, b, _, rfl, .inl (SqL.of hb2), fun l nl => ?_⟩
      have s1 := same_upd (o := .lst ys) nl
      exact q l ys _ s1 nl upd_same (by rw [← hb]; exact tb.same s1)
    · have c : ¬ z.word = "call" := fun e => c (by rw [e]; exact decide_eq_true rfl)
      have hl := hs.len
      have hs := TrAll.tracked _ _ hs
      have hl3 := z.rest_len
      refine ⟨_, rfl, _, rfl, a, _, rfl, SqT.of ha, cut_ne1, fun u nu => ⟨u, rfl, ⟨_, SqT.of upd_same⟩, fun D nD => ?_⟩⟩
      have s1 := same_upd (o := .tup (cutV (V.str z.word :: us) (some 1) none)) nu
      have hu : (upd H u (.tup (cutV (V.str z.word :: us) (some 1) none))) u = some (.tup us) := by rw [upd_same, cut_from1]
      generalize upd H u _ = H1 at *
      refine lc_tup (xs := us) (fun i H' => Same H1 H' ∧ ∃ zs, H' D = some (.lst zs) ∧ zs.length ≤ i ∧ TrAll (fun a => S a ∧ H a ≠ none) H' ((z.rest.take i).filter isLs) zs) ⟨same_upd nD, [], upd_same, Nat.le_refl _, TrAll.nil⟩ (fun i H' _ h => SqT.of (h.1 _ _ hu)) (fun i x H' hx h => ?_) (fun H' h => ?_)
      · obtain ⟨sm, zs, hD, lz, tz⟩ := h
        obtain ⟨d, hd, tx⟩ := hs.get hx
        have tx := tx.same (s1.trans sm)
        have hi := (List.getElem?_eq_some_iff.mp hx).1
        refine ⟨rfl, _, rfl, _, _, _, _, _, rfl, .ty _, tr_ty K tx, ki_list K _, _, rfl, ?_⟩
        have et : (z.rest.take (i + 1)).filter isLs = (z.rest.take i).filter isLs ++ (if isLs d = true then [d] else []) := by
          rw [List.take_add_one, hd, List.filter_append]
          cases d <;> rfl
        refine ifB (fun g => ?_) (fun g => ?_)
        · refine ⟨_, rfl, zs, hD, small1000 (by omega), same_new sm nD, zs ++ [x], upd_same, by rw [List.length_append, List.length_singleton]; omega, ?_⟩
          have k2 : KpL (fun a => a = D) H' (upd H' D (.lst (zs ++ [x]))) := KpL.refl.put rfl ⟨_, hD⟩
          rw [et, if_pos g]
          have no : ∀ a, S a ∧ H a ≠ none → ¬ a = D := fun a n e => n.2 (by rw [e]; exact s1.free nD)
          exact TrAll.snoc (TrAll.kpl k2 no _ _ tz) (Tr.kpl k2 no _ _ tx)
        · refine ⟨sm, zs, hD, by omega, ?_⟩
          rw [et, if_neg (by rw [g]; exact Bool.false_ne_true), List.append_nil]
          exact tz
      · obtain ⟨sm, zs, hD, lz, tz⟩ := h
        rw [hl, List.take_length, filt_rest z c] at tz
        exact q D zs _ (s1.trans sm) (s1.free nD) hD (TrAll.mono (fun a n => n.1) _ _ tz)
def sp__law_with : Sp := fun vs H Q _ => ∃ (S S' : Addr → Prop) (z : Stm) (v : V) (b : Addr) (ys : List V), vs = [v, .ref b] ∧ Tr S H z.d v ∧ S' b ∧ H b = some (.lst ys) ∧ TrAll S' H (z.blocks.map bD) ys ∧
  ∀ (r : V) (H' : Hp), Same H H' → Tr S' H' z.d r → Q r H'
theorem flat_rest {S S' : Addr → Prop} {H H1 : Hp} {z : Stm} (c : z.blocks = []) (s : Same H H1) {us : List V} (hs : TrAll S H z.rest us) : TrAll S' H1 z.rest us := by
  cases z with
  | cmd c' =>
    have hs : TrAll S H (c'.nums.map PyData.int) us := hs
    rw [hs.ints]
    exact TrAll.ofInts c'.nums
  | fin w' =>
    obtain ⟨x, r', rfl, t, rfl⟩ := hs
    exact ⟨x, [], rfl, t, rfl⟩
  | call p sv b0 b1 => cases c
  | keep b0 => cases c
  | again b0 => cases c
  | either b0 b1 => cases c
theorem rest_blocks {z : Stm} (h : ¬ z.word = "call") (h2 : z.blocks ≠ []) : z.rest = z.blocks.map bD := by
  cases z with
  | cmd c => exact absurd rfl h2
  | fin w => exact absurd rfl h2
  | call p s a b => exact absurd rfl h
  | _ => rfl
theorem ok__law_with (T : Top w K mg) : FnOk P w K mg base CX0 1 T.a__law_with T.d__law_with ["_law_statement", "_law_blocks_here"] sp__law_with := by
  refine T.F__law_with.ok sc__law_with (fun vs H Q E h => ?_) (fun cdv A outer s H vs Q E hr h => ?_)
  · obtain ⟨S, S', z, v, b, ys, rfl, _⟩ := h
    rfl
  · obtain ⟨S, S', z, v, b, ys, rfl, hv, sb, hb, tb, q⟩ := h
    rw [Stm.d_eq] at hv
    obtain ⟨a, xs, rfl, ha, y, us, rfl, hy, hs⟩ := hv
    cases hy
    have lb := tb.len
    rw [List.length_map] at lb
    refine ⟨_, (pss_cons (ps_if (pt_cmpR op_eq (pe_ix (k_ixT K) (pv 0) pe_int (fun _ _ => rfl)) pe_str (nomark _)) (pss_one (ps_ret (pe_op (k_catT K) (pe_slice (k_slT K) (pv 0) po_none (po_some pe_int)) (pe_tup (pa_cons (pv 1) pa_nil))))) pss_nil)
      (pss_cons (ps_if (pt_cmpR op_eq (pe_callB (k_len K) (by rfl) T.z_len bt_len (pa_cons (pv 1) pa_nil)) pe_int (nomark _)) (pss_one (ps_ret (pv 0))) pss_nil)
      (pss_one (ps_ret (pe_op (k_catT K) (pe_tup (pa_cons (pe_ix (k_ixT K) (pv 0) pe_int (fun _ _ => rfl)) pa_nil)) (pe_callTy (k_tuple K) (by rfl) T.z_tuple bt_tuple (pa_cons (pv 1) pa_nil))))))), ?_⟩
    refine ⟨_, rfl, a, _, 0, _, rfl, rfl, SqT.of ha, at_of (j := 0) (by decide) rfl, ?_⟩
    refine ⟨rfl, _, rfl, ite2 (fun c => ?_) (fun c => ?_)⟩
    · have c : z.word = "call" := V.str.inj (of_decide_eq_true c)
      cases z with
      | call p sv b0 b1 =>
        obtain ⟨x1, _, rfl, t1, x2, _, rfl, t2, x3, _, rfl, t3, rfl⟩ := hs
        cases t1
        cases t2
        refine ⟨_, rfl, _, rfl, a, _, rfl, SqT.of ha, cut_ne (n := 3) (xs := [V.str (Stm.call p sv b0 b1).word, V.int p, V.bl sv, x3]) (by show 3 < 4; decide), fun u nu => ?_⟩
        have s1 := same_upd (o := .tup (cutV [V.str (Stm.call p sv b0 b1).word, V.int p, V.bl sv, x3] none (some 3))) nu
        have hu : (upd H u (.tup (cutV [V.str (Stm.call p sv b0 b1).word, V.int p, V.bl sv, x3] none (some 3)))) u = some (.tup [V.str "call", V.int p, V.bl sv]) := by
          rw [upd_same, show cutV [V.str (Stm.call p sv b0 b1).word, V.int p, V.bl sv, x3] none (some 3) = [V.str "call", V.int p, V.bl sv] from cut_to (n := 3)]
        generalize upd H u _ = H1 at *
        refine ⟨_, rfl, small100 (n := 1) (by decide), fun t nt => ?_⟩
        have s2 := same_upd (o := .tup [V.ref b]) nt
        have ht : (upd H1 t (.tup [V.ref b])) t = some (.tup [V.ref b]) := upd_same
        have hu2 := s2 _ _ hu
        have s3 := s1.trans s2
        generalize upd H1 t _ = H2 at *
        refine ⟨u, t, _, _, rfl, rfl, SqT.of hu2, SqT.of ht, by simp, small100 (n := 4) (by decide), fun e => absurd e (List.cons_ne_nil _ _), fun _ r nr => ?_⟩
        have s4 := s3.trans (same_upd (o := .tup ([V.str "call", V.int p, V.bl sv] ++ [V.ref b])) nr)
        refine q _ _ s4 ⟨r, _, rfl, upd_same, .cons rfl (.cons rfl (.cons rfl (.cons ?_ .nil)))⟩
        exact ⟨b, ys, rfl, sb, s4 _ _ hb, tb.same s4⟩
      | cmd c' => exact absurd c (cm_call c')
      | fin w => exact absurd c (show ¬ ("end" : Str) = "call" by decide +kernel)
      | keep w => exact absurd c (show ¬ ("keep" : Str) = "call" by decide +kernel)
      | again w => exact absurd c (show ¬ ("again" : Str) = "call" by decide +kernel)
      | either w z => exact absurd c (show ¬ ("either" : Str) = "call" by decide +kernel)
    · have c : ¬ z.word = "call" := fun e => c (by rw [e]; exact decide_eq_true rfl)
      refine ⟨_, rfl, b, _, rfl, .inl (SqL.of hb), rfl, _, rfl, ite2 (fun g => ?_) (fun g => ?_)⟩
      · have g : ys.length = 0 := by have := dec_int' g; omega
        refine ⟨_, rfl, q _ _ (Same.refl _) ?_⟩
        rw [Stm.d_eq]
        exact ⟨a, _, rfl, ha, .cons rfl (flat_rest (List.length_eq_zero_iff.mp (by omega)) (Same.refl _) hs)⟩
      · have g : ys ≠ [] := fun e => g (by rw [e]; rfl)
        have g2 : z.blocks ≠ [] := fun e => g (List.length_eq_zero_iff.mp (by rw [lb, e]; rfl))
        have hl3 := blocks_len z
        refine ⟨_, rfl, a, _, 0, _, rfl, rfl, SqT.of ha, at_of (j := 0) (by decide) rfl, small100 (n := 1) (by decide), fun u nu => ?_⟩
        have s1 := same_upd (o := .tup [V.str z.word]) nu
        have hu : (upd H u (.tup [V.str z.word])) u = some (.tup [V.str z.word]) := upd_same
        generalize upd H u _ = H1 at *
        refine ⟨_, rfl, b, _, rfl, SqL.of (s1 _ _ hb), fun t nt => ?_⟩
        have s2 := same_upd (o := .tup ys) nt
        have ht : (upd H1 t (.tup ys)) t = some (.tup ys) := upd_same
        have hu2 := s2 _ _ hu
        have s3 := s1.trans s2
        generalize upd H1 t _ = H2 at *
        refine ⟨u, t, _, _, rfl, rfl, SqT.of hu2, SqT.of ht, by simp, small100 (by rw [List.length_singleton]; omega), fun e => absurd e g, fun _ r nr => ?_⟩
        have s4 := s3.trans (same_upd (o := .tup ([V.str z.word] ++ ys)) nr)
        refine q _ _ s4 ?_
        rw [Stm.d_eq, rest_blocks c g2]
        exact ⟨r, _, rfl, upd_same, .cons rfl (tb.same s4)⟩

--SPLIT
def sp__law_pool (K : PySem.W.Frag) : Sp := fun vs H Q _ => ∃ (a : Addr) (ns : List Int), vs = [.ref a] ∧ SqL K H a (ns.map V.int) ∧ ns.length ≤ 63 ∧
  ∀ (H' : Hp) (p : Addr) (L : Nat), Same H H' → H p = none → Pool H' p L → 2 ≤ L → L ≤ 64 → Q (.ref p) H'
theorem cut63 {ns : List Int} (h : ns.length ≤ 63) : cutV (ns.map V.int) none (some 63) = ns.map V.int := by
  unfold cutV
  rw [HT.sIx_none, show HT.sIx (ns.map V.int).length (ns.map V.int).length (some 63) = min 63 (ns.map V.int).length from HT.sIx_nat _ _ 63, List.drop_zero, Nat.sub_zero]
  refine List.take_of_length_le ?_
  rw [List.length_map]
  omega
theorem ok__law_pool (T : Top w K mg) : FnOk P w K mg base CX0 1 T.a__law_pool T.d__law_pool ["_law_script"] (sp__law_pool K) := by
  refine T.F__law_pool.ok sc__law_pool (fun vs H Q E h => ?_) (fun cdv A outer s H vs Q E hr h => ?_)
  · obtain ⟨a, ns, rfl, _⟩ := h
    rfl
  · obtain ⟨a, ns, rfl, hS, hlen, q⟩ := h
    refine ⟨_, (pss_one (ps_ret (pe_op op_cat (pe_lst (pa_cons pe_int pa_nil)) (pe_orT (pe_lc (own := [("_law_cell", 1)]) (g := (gName 1)) (tt := tYes) rfl sc__law_pool.nd (k_piL K (pe_slice (k_slL K) (pv 0) po_none (po_some pe_int))) (blkOk_by (N := N__law_pool) (sc := defScope s__law_pool) (by decide +kernel)) (fun _ _ _ _ _ => (pg_name (i := 1) sc__law_pool.nd rfl (Or.inl rfl))) (fun _ _ _ _ _ => pts_nil) (fun _ _ _ _ _ => (pe_callTy call_intI (by rfl) T.z_int bt_int (pa_cons (pv 1) pa_nil)))) (pe_one (pe_lst (pa_cons pe_int pa_nil))))))), ?_⟩
    refine ⟨small100 (n := 1) (by decide), fun l0 n0 => ?_⟩
    have s1 : Same H (upd H l0 (.lst [.int 0])) := same_upd n0
    refine ⟨_, rfl, 63, rfl, a, _, rfl, s1.seq hS, fun c nc => ?_⟩
    rw [cut63 hlen]
    have s2 := s1.trans (same_upd (o := .lst (ns.map V.int)) nc)
    have hl0 : (upd (upd H l0 (.lst [.int 0])) c (.lst (ns.map V.int))) l0 = some (.lst [.int 0]) := by
      rw [upd_ne (ne_of_none upd_same nc), upd_same]
    refine ⟨c, rfl, ⟨_, SqL.of upd_same⟩, fun D nD => ?_⟩
    refine lc_list (xs := ns.map V.int) (fun i H' => Same (upd (upd H l0 (.lst [.int 0])) c (.lst (ns.map V.int))) H' ∧ H' D = some (.lst ((ns.take i).map V.int))) ⟨same_upd nD, ?_⟩ (fun i H' _ h => h.1.seq (SqL.of upd_same)) (fun i x H' hx h => ?_) (fun H' h => ?_)
    · rw [upd_same]
      rfl
    · obtain ⟨hs, hD⟩ := h
      rw [List.getElem?_map] at hx
      cases e : ns[i]? with
      | none =>
        rw [e] at hx
        cases hx
      | some n =>
        rw [e] at hx
        cases hx
        refine ⟨rfl, _, rfl, n, rfl, _, hD, ?_, same_new hs nD, ?_⟩
        · rw [List.length_map, List.length_take]
          exact small1000 (by omega)
        · rw [upd_same, List.take_add_one, e, List.map_append]
          rfl
    · obtain ⟨hs, hD⟩ := h
      rw [len_map, List.take_length] at hD
      have hl0' := hs _ _ hl0
      have hD0 : H D = none := s2.free nD
      refine ⟨!(ns.map V.int).isEmpty, .inl ⟨_, SqL.of hD, rfl⟩, ?_⟩
      have hne : D ≠ l0 := (ne_of_none hl0 nD).symm
      cases ns with
      | nil =>
        refine ⟨small100 (n := 1) (by decide), fun l2 n2 => ?_⟩
        have hl2 : (upd H' l2 (.lst [.int 0])) l0 = some (.lst [.int 0]) := by
          rw [upd_ne (ne_of_none hl0' n2)]
          exact hl0'
        refine ⟨l0, l2, _, _, rfl, rfl, hl2, upd_same, small100 (n := 2) (by decide), fun p np => ?_⟩
        have s3 := same_new (s2.trans hs) (o := .lst [.int 0]) ((s2.trans hs).free n2)
        exact q _ p 2 (same_new s3 (s3.free np)) (s3.free np) ⟨[0, 0], upd_same, rfl⟩ (by decide) (by decide)
      | cons n r =>
        refine ⟨l0, D, _, _, rfl, rfl, hl0', hD, ?_, fun p np => ?_⟩
        · show 1 + ((n :: r).map V.int).length ≤ sizeLine
          rw [len_map]
          exact small100 (by omega)
        · have s3 := s2.trans hs
          refine q _ p (1 + (n :: r).length) (same_new s3 (s3.free np)) (s3.free np) ⟨0 :: n :: r, upd_same, ?_⟩ ?_ ?_
          · rw [List.length_cons]
            omega
          · rw [List.length_cons]
            omega
          · omega
def sp__law_draw (K : PySem.W.Frag) : Sp := fun vs H Q _ => ∃ (p : Addr) (L : Nat) (m : Int), vs = [.ref p, .int m] ∧ Pool H p L ∧ 2 ≤ L ∧ L ≤ 64 ∧ 0 < m ∧ m ≤ 1000 ∧
  ∀ (r : Int) (H' : Hp), 0 ≤ r → r < m → Kp p H H' → Pool H' p L → Q (.int r) H'
theorem ok__law_draw (T : Top w K mg) : FnOk P w K mg base CX0 1 T.a__law_draw T.d__law_draw ["_law_pool_here", "_law_many"] (sp__law_draw K) := by
  refine T.F__law_draw.ok sc__law_draw (fun vs H Q E h => ?_) (fun cdv A outer s H vs Q E hr h => ?_)
  · obtain ⟨p, L, m, rfl, _⟩ := h
    rfl
  · obtain ⟨p, L, m, rfl, ⟨ns, hp, hL⟩, h2, h64, hm0, hm1, q⟩ := h
    refine ⟨_, (pss_cons (ps_augS (pv 0) pe_int (k_getL K) pe_int ip_add set_list)
      (pss_cons (ps_set (i := 2) sc__law_draw.nd rfl (Or.inl rfl) (pe_op op_add pe_int (pe_op op_mod (pe_callTy call_intI (by rfl) T.z_int bt_int (pa_cons (pe_ix (k_ixL K) (pv 0) pe_int (fun _ _ => rfl)) pa_nil)) (pe_op op_sub (pe_callB (k_len K) (by rfl) T.z_len bt_len (pa_cons (pv 0) pa_nil)) pe_int))))
      (pss_cons (ps_set (i := 3) sc__law_draw.nd rfl (Or.inl rfl) (pe_callTy call_intI (by rfl) T.z_int bt_int (pa_cons (pe_ix (k_ixL K) (pv 0) (pv 2) (fun _ _ => rfl)) pa_nil)))
      (pss_cons (ps_if (pt_cmpR op_ge (pv 3) (pe_op op_pow pe_int pe_int) (nomark _)) (pss_cons (ps_asg (pe_op op_fdiv (pv 3) (pv 1)) (pg_sub (pv 0) (pv 2) set_list))
        (pss_one (ps_ret (pe_op op_mod (pv 3) (pv 1))))) pss_nil)
      (pss_cons (ps_set (i := 4) sc__law_draw.nd rfl (Or.inl rfl) (pe_op op_mod (pe_op op_mul (pe_callTy call_intI (by rfl) T.z_int bt_int (pa_cons (pe_op op_add (pe_op op_add (pv 3) (pe_op op_mul pe_int (pe_ix (k_ixL K) (pv 0) pe_int (fun _ _ => rfl)))) pe_int) pa_nil)) pe_int) pe_int))
      (pss_cons (ps_set (i := 4) sc__law_draw.nd rfl (Or.inl rfl) (pe_op op_mod (pe_op op_mul (pv 4) (pe_op op_add (pe_op op_fdiv (pv 4) pe_int) pe_int)) pe_int))
      (pss_cons (ps_set (i := 4) sc__law_draw.nd rfl (Or.inl rfl) (pe_op op_mod (pe_op op_mul (pv 4) (pe_op op_add (pe_op op_fdiv (pv 4) pe_int) pe_int)) pe_int))
      (pss_one (ps_ret (pe_op op_mod (pe_op op_fdiv (pv 4) pe_int) (pv 1))))))))))), ?_⟩
    obtain ⟨c0, g0, _⟩ := at_map (ns := ns) (i := 0) (by decide) (by omega)
    refine ⟨_, rfl, p, ns.map V.int, 0, .int c0, rfl, rfl, by decide, SqL.of hp, get_map g0, c0, 1, rfl, rfl, p, _, 0, 0, rfl, rfl, hp, ixN_in (by decide) (by rw [len_map]; omega), ?_⟩
    rw [set_map]
    generalize e1 : ns.set 0 (c0 + 1) = ms
    have hms : ms.length = L := by
      rw [← e1, List.length_set]
      exact hL
    clear e1
    have k1 : Kp p H (upd H p (.lst (ms.map V.int))) := Kp.upd
    have hp1 : (upd H p (.lst (ms.map V.int))) p = some (.lst (ms.map V.int)) := upd_same
    generalize upd H p (.lst (ms.map V.int)) = H1 at *
    obtain ⟨c1, _, g1⟩ := at_map (ns := ms) (i := 0) (by decide) (by omega)
    have hL1 : (0 : Int) < ((ms.map V.int).length : Int) - 1 := by
      rw [len_map]
      omega
    refine ⟨_, rfl, p, _, 0, _, rfl, rfl, SqL.of hp1, g1, c1, rfl, _, rfl, p, _, rfl, .inl (SqL.of hp1), _, _, rfl, rfl, _, _, rfl, rfl, hL1, _, _, rfl, rfl, ?_⟩
    have b0 : 0 ≤ 1 + c1 % (((ms.map V.int).length : Int) - 1) := by
      have := Int.emod_nonneg c1 (Int.ne_of_gt hL1)
      omega
    have b1 : 1 + c1 % (((ms.map V.int).length : Int) - 1) < ms.length := by
      have := Int.emod_lt_of_pos c1 hL1
      rw [len_map] at this ⊢
      omega
    dsimp only
    generalize 1 + c1 % (((ms.map V.int).length : Int) - 1) = j at *
    obtain ⟨c2, _, g2⟩ := at_map (ns := ms) (i := j) b0 b1
    refine ⟨_, rfl, _, rfl, p, _, j, _, rfl, rfl, SqL.of hp1, g2, c2, rfl, ?_⟩
    refine ⟨_, rfl, 10, 18, rfl, rfl, ⟨by decide, by decide, by decide⟩, _, _, rfl, rfl, _, rfl, ite2 (fun _ => ?_) (fun _ => ?_)⟩
    · refine ⟨_, rfl, _, rfl, _, _, rfl, rfl, ⟨hm0, by omega⟩, _, rfl, _, rfl, p, _, j, j.toNat, rfl, rfl, hp1, ixN_in b0 (by rw [len_map]; exact b1), ?_⟩
      rw [set_map]
      refine ⟨_, rfl, _, rfl, _, _, rfl, rfl, hm0, ?_⟩
      exact q _ _ (Int.emod_nonneg _ (Int.ne_of_gt hm0)) (Int.emod_lt_of_pos _ hm0) (k1.trans Kp.upd) ⟨_, upd_same, by rw [List.length_set]; exact hms⟩
    · obtain ⟨c3, _, g3⟩ := at_map (ns := ms) (i := 0) (by decide) (by omega)
      refine ⟨_, rfl, _, rfl, p, _, 0, _, rfl, rfl, SqL.of hp1, g3, _, c3, rfl, rfl, .inl ⟨by decide, by decide⟩, _, _, rfl, rfl, _, _, rfl, rfl, _, rfl, _, _, rfl, rfl, .inr ⟨by decide, by decide⟩, _, _, rfl, rfl, (show (0 : Int) < 2147483647 by decide), ?_⟩
      dsimp only
      generalize ez : (c2 + 7919 * c3 + 1) * 48271 % 2147483647 = z
      have z0 : 0 ≤ z := by rw [← ez]; exact Int.emod_nonneg _ (by decide)
      have z1 : z < 2147483647 := by rw [← ez]; exact Int.emod_lt_of_pos _ (by decide)
      refine ⟨_, rfl, _, rfl, _, _, rfl, rfl, ⟨by decide, by decide⟩, _, _, rfl, rfl, _, _, rfl, rfl, .inl ⟨by omega, by omega⟩, _, _, rfl, rfl, (show (0 : Int) < 2147483647 by decide), ?_⟩
      dsimp only
      generalize ey : z * (z / 1009 + 69621) % 2147483647 = y
      have y0 : 0 ≤ y := by rw [← ey]; exact Int.emod_nonneg _ (by decide)
      have y1 : y < 2147483647 := by rw [← ey]; exact Int.emod_lt_of_pos _ (by decide)
      refine ⟨_, rfl, _, rfl, _, _, rfl, rfl, ⟨by decide, by decide⟩, _, _, rfl, rfl, _, _, rfl, rfl, .inl ⟨by omega, by omega⟩, _, _, rfl, rfl, (show (0 : Int) < 2147483399 by decide), ?_⟩
      refine ⟨_, rfl, _, _, rfl, rfl, ⟨by decide, by decide⟩, _, rfl, _, _, rfl, rfl, hm0, ?_⟩
      exact q _ _ (Int.emod_nonneg _ (Int.ne_of_gt hm0)) (Int.emod_lt_of_pos _ hm0) k1 ⟨_, hp1, hms⟩

--SPLIT
theorem ok0 {c : Cm} (h : c.nums = []) : c.ok := fun i z l e => by
  rw [h] at e
  cases e
theorem ok1 {c : Cm} {z : Int} {l : Int × Int} (h : c.nums = [z]) (hl : c.lims = [l]) (h1 : l.1 ≤ z) (h2 : z ≤ l.2) : c.ok := fun i y k e f => by
  rw [h] at e
  rw [hl] at f
  match i, e, f with
  | 0, e, f =>
    cases e
    cases f
    exact ⟨h1, h2⟩
theorem ok2 {c : Cm} {z y : Int} {l : Int × Int} (h : c.nums = [z, y]) (hl : c.lims = [l, l]) (h1 : l.1 ≤ z) (h2 : z ≤ l.2) (h3 : l.1 ≤ y) (h4 : y ≤ l.2) : c.ok := fun i x k e f => by
  rw [h] at e
  rw [hl] at f
  match i, e, f with
  | 0, e, f =>
    cases e
    cases f
    exact ⟨h1, h2⟩
  | 1, e, f =>
    cases e
    cases f
    exact ⟨h3, h4⟩

def sp__law_command : Sp := fun vs H Q _ => ∃ (p : Addr) (L : Nat) (mood : Int), vs = [.ref p, .int mood] ∧ Pool H p L ∧ 2 ≤ L ∧ L ≤ 64 ∧ 0 ≤ mood ∧ mood < 8 ∧
  ∀ (q : Addr) (c : Cm) (H' : Hp), c.ok → Kp p H H' → Pool H' p L → H q = none → H' q = some (.tup c.vals) → Q (.ref q) H'
set_option maxHeartbeats 1000000 in
theorem ok__law_command (T : Top w K mg) : FnOk P w K mg base CX0 2 T.a__law_command T.d__law_command ["_law_pool_here", "_law_mood"] sp__law_command := by
  refine T.F__law_command.ok sc__law_command (fun vs H Q E h => ?_) (fun cdv A outer s H vs Q E hr h => ?_)
  · obtain ⟨p, L, mood, rfl, _⟩ := h
    rfl
  · obtain ⟨p, L, mood, rfl, pl, h2, h64, m0, m8, q⟩ := h
    refine ⟨_, (pss_cons (ps_set (i := 2) sc__law_command.nd rfl (Or.inl rfl) (pe_lst (pa_cons (pe_lst (pa_cons pe_int (pa_cons pe_int (pa_cons pe_int (pa_cons pe_int (pa_cons pe_int pa_nil)))))) (pa_cons (pe_lst (pa_cons pe_int (pa_cons pe_int (pa_cons pe_int (pa_cons pe_int (pa_cons pe_int pa_nil)))))) (pa_cons (pe_lst (pa_cons pe_int (pa_cons pe_int (pa_cons pe_int (pa_cons pe_int (pa_cons pe_int pa_nil)))))) (pa_cons (pe_lst (pa_cons pe_int (pa_cons pe_int (pa_cons pe_int (pa_cons pe_int (pa_cons pe_int pa_nil)))))) (pa_cons (pe_lst (pa_cons pe_int (pa_cons pe_int (pa_cons pe_int (pa_cons pe_int (pa_cons pe_int pa_nil)))))) pa_nil)))))))
      (pss_cons (ps_set (i := 2) sc__law_command.nd rfl (Or.inl rfl) (pe_op op_cat (pv 2) (pe_lst (pa_cons (pe_lst (pa_cons pe_int (pa_cons pe_int (pa_cons pe_int (pa_cons pe_int (pa_cons pe_int (pa_cons pe_int (pa_cons pe_int (pa_cons pe_int (pa_cons pe_int pa_nil)))))))))) (pa_cons (pe_lst (pa_cons pe_int (pa_cons pe_int (pa_cons pe_int (pa_cons pe_int (pa_cons pe_int pa_nil)))))) (pa_cons (pe_lst (pa_cons pe_int (pa_cons pe_int (pa_cons pe_int (pa_cons pe_int (pa_cons pe_int pa_nil)))))) pa_nil))))))
      (C8.pss_cut (ps_set (i := 3) sc__law_command.nd rfl (Or.inl rfl) (pe_ix (k_ixL K) (pv 2) (pv 1) (fun _ _ => rfl)))
      (pss_cons (ps_set (i := 4) sc__law_command.nd rfl (Or.inl rfl) (pe_ix (k_ixL K) (pv 3) (pe_call (ok__law_draw T) hr (by rfl) T.g__law_draw T.F__law_draw.kp (b__law_draw T) .nil pass0 (pa_cons (pv 0) (pa_cons (pe_callB (k_len K) (by rfl) T.z_len bt_len (pa_cons (pv 3) pa_nil)) pa_nil))) (fun _ _ => rfl)))
      (pss_cons (ps_if (pt_cmpR op_eq (pv 4) pe_int (nomark _)) (pss_cons (ps_set (i := 5) sc__law_command.nd rfl (Or.inl rfl) (pe_op op_sub (pe_call (ok__law_draw T) hr (by rfl) T.g__law_draw T.F__law_draw.kp (b__law_draw T) .nil pass0 (pa_cons (pv 0) (pa_cons pe_int pa_nil))) pe_int))
        (pss_one (ps_ret (pe_tup (pa_cons pe_str (pa_cons (pe_ix (k_ixL K) (pe_lst (pa_cons (pv 5) (pa_cons pe_int (pa_cons (pe_op op_sub (pe_op op_mod (pe_callTy call_intI (by rfl) T.z_int bt_int (pa_cons (pv 5) pa_nil)) pe_int) pe_int) (pa_cons pe_int pa_nil))))) (pe_call (ok__law_draw T) hr (by rfl) T.g__law_draw T.F__law_draw.kp (b__law_draw T) .nil pass0 (pa_cons (pv 0) (pa_cons pe_int pa_nil))) (fun _ _ => rfl)) pa_nil)))))) pss_nil)
      (pss_cons (ps_if (pt_cmpR op_eq (pv 4) pe_int (nomark _)) (pss_one (ps_ret (pe_tup (pa_cons pe_str (pa_cons (pe_op op_add pe_int (pe_call (ok__law_draw T) hr (by rfl) T.g__law_draw T.F__law_draw.kp (b__law_draw T) .nil pass0 (pa_cons (pv 0) (pa_cons pe_int pa_nil)))) pa_nil))))) pss_nil)
      (pss_cons (ps_if (pt_cmpR op_eq (pv 4) pe_int (nomark _)) (pss_one (ps_ret (pe_tup (pa_cons pe_str pa_nil)))) pss_nil)
      (pss_cons (ps_if (pt_cmpR op_eq (pv 4) pe_int (nomark _)) (pss_one (ps_ret (pe_tup (pa_cons pe_str (pa_cons (pe_ix (k_ixT K) (pe_tup (pa_cons (pe_un un_neg pe_int) (pa_cons (pe_un un_neg pe_int) (pa_cons (pe_un un_neg pe_int) (pa_cons pe_int (pa_cons pe_int (pa_cons pe_int (pa_cons pe_int (pa_cons (pe_un un_neg pe_int) pa_nil))))))))) (pe_call (ok__law_draw T) hr (by rfl) T.g__law_draw T.F__law_draw.kp (b__law_draw T) .nil pass0 (pa_cons (pv 0) (pa_cons pe_int pa_nil))) (fun _ _ => rfl)) pa_nil))))) pss_nil)
      (pss_cons (ps_if (pt_cmpR op_lt (pv 4) pe_int (nomark _)) (pss_one (ps_ret (pe_tup (pa_cons (pe_ix (k_ixT K) (pe_tup (pa_cons pe_str (pa_cons pe_str pa_nil))) (pe_op op_sub (pv 4) pe_int) (fun _ _ => rfl)) (pa_cons (pe_op op_sub (pe_call (ok__law_draw T) hr (by rfl) T.g__law_draw T.F__law_draw.kp (b__law_draw T) .nil pass0 (pa_cons (pv 0) (pa_cons pe_int pa_nil))) pe_int) (pa_cons (pe_op op_sub (pe_call (ok__law_draw T) hr (by rfl) T.g__law_draw T.F__law_draw.kp (b__law_draw T) .nil pass0 (pa_cons (pv 0) (pa_cons pe_int pa_nil))) pe_int) pa_nil)))))) pss_nil)
      (pss_one (ps_ret (pe_tup (pa_cons (pe_ix (k_ixT K) (pe_tup (pa_cons pe_str (pa_cons pe_str (pa_cons pe_str pa_nil)))) (pe_op op_sub (pv 4) pe_int) (fun _ _ => rfl)) pa_nil))))))))))))), ?_⟩
    refine ⟨small100 (n := 5) (by decide), fun a0 na0 => ?_⟩
    have sa0 : Same H (upd H a0 (.lst [V.int 0, V.int 0, V.int 0, V.int 1, V.int 1])) := same_upd na0
    have ha0 : (upd H a0 (.lst [V.int 0, V.int 0, V.int 0, V.int 1, V.int 1])) a0 = some (.lst [V.int 0, V.int 0, V.int 0, V.int 1, V.int 1]) := upd_same
    generalize upd H a0 (.lst [V.int 0, V.int 0, V.int 0, V.int 1, V.int 1]) = Ja0 at *
    have za0 : H a0 = none := na0
    have st := sa0
    refine ⟨small100 (n := 5) (by decide), fun a1 na1 => ?_⟩
    have sa1 : Same Ja0 (upd Ja0 a1 (.lst [V.int 0, V.int 0, V.int 2, V.int 3, V.int 1])) := same_upd na1
    have ha1 : (upd Ja0 a1 (.lst [V.int 0, V.int 0, V.int 2, V.int 3, V.int 1])) a1 = some (.lst [V.int 0, V.int 0, V.int 2, V.int 3, V.int 1]) := upd_same
    generalize upd Ja0 a1 (.lst [V.int 0, V.int 0, V.int 2, V.int 3, V.int 1]) = Ja1 at *
    have za1 : H a1 = none := st.free na1
    have ha0 := sa1 _ _ ha0
    have st := st.trans sa1
    refine ⟨small100 (n := 5) (by decide), fun a2 na2 => ?_⟩
    have sa2 : Same Ja1 (upd Ja1 a2 (.lst [V.int 0, V.int 6, V.int 7, V.int 8, V.int 8])) := same_upd na2
    have ha2 : (upd Ja1 a2 (.lst [V.int 0, V.int 6, V.int 7, V.int 8, V.int 8])) a2 = some (.lst [V.int 0, V.int 6, V.int 7, V.int 8, V.int 8]) := upd_same
    generalize upd Ja1 a2 (.lst [V.int 0, V.int 6, V.int 7, V.int 8, V.int 8]) = Ja2 at *
    have za2 : H a2 = none := st.free na2
    have ha0 := sa2 _ _ ha0
    have ha1 := sa2 _ _ ha1
    have st := st.trans sa2
    refine ⟨small100 (n := 5) (by decide), fun a3 na3 => ?_⟩
    have sa3 : Same Ja2 (upd Ja2 a3 (.lst [V.int 0, V.int 4, V.int 5, V.int 6, V.int 7])) := same_upd na3
    have ha3 : (upd Ja2 a3 (.lst [V.int 0, V.int 4, V.int 5, V.int 6, V.int 7])) a3 = some (.lst [V.int 0, V.int 4, V.int 5, V.int 6, V.int 7]) := upd_same
    generalize upd Ja2 a3 (.lst [V.int 0, V.int 4, V.int 5, V.int 6, V.int 7]) = Ja3 at *
    have za3 : H a3 = none := st.free na3
    have ha0 := sa3 _ _ ha0
    have ha1 := sa3 _ _ ha1
    have ha2 := sa3 _ _ ha2
    have st := st.trans sa3
    refine ⟨small100 (n := 5) (by decide), fun a4 na4 => ?_⟩
    have sa4 : Same Ja3 (upd Ja3 a4 (.lst [V.int 0, V.int 1, V.int 3, V.int 6, V.int 8])) := same_upd na4
    have ha4 : (upd Ja3 a4 (.lst [V.int 0, V.int 1, V.int 3, V.int 6, V.int 8])) a4 = some (.lst [V.int 0, V.int 1, V.int 3, V.int 6, V.int 8]) := upd_same
    generalize upd Ja3 a4 (.lst [V.int 0, V.int 1, V.int 3, V.int 6, V.int 8]) = Ja4 at *
    have za4 : H a4 = none := st.free na4
    have ha0 := sa4 _ _ ha0
    have ha1 := sa4 _ _ ha1
    have ha2 := sa4 _ _ ha2
    have ha3 := sa4 _ _ ha3
    have st := st.trans sa4
    refine ⟨small100 (n := 5) (by decide), fun b0 nb0 => ?_⟩
    have sb0 : Same Ja4 (upd Ja4 b0 (.lst [V.ref a0, V.ref a1, V.ref a2, V.ref a3, V.ref a4])) := same_upd nb0
    have hb0 : (upd Ja4 b0 (.lst [V.ref a0, V.ref a1, V.ref a2, V.ref a3, V.ref a4])) b0 = some (.lst [V.ref a0, V.ref a1, V.ref a2, V.ref a3, V.ref a4]) := upd_same
    generalize upd Ja4 b0 (.lst [V.ref a0, V.ref a1, V.ref a2, V.ref a3, V.ref a4]) = Jb0 at *
    have zb0 : H b0 = none := st.free nb0
    have ha0 := sb0 _ _ ha0
    have ha1 := sb0 _ _ ha1
    have ha2 := sb0 _ _ ha2
    have ha3 := sb0 _ _ ha3
    have ha4 := sb0 _ _ ha4
    have st := st.trans sb0
    refine ⟨_, rfl, ?_⟩
    refine ⟨small100 (n := 9) (by decide), fun a5 na5 => ?_⟩
    have sa5 : Same Jb0 (upd Jb0 a5 (.lst [V.int 0, V.int 1, V.int 2, V.int 3, V.int 4, V.int 5, V.int 6, V.int 7, V.int 8])) := same_upd na5
    have ha5 : (upd Jb0 a5 (.lst [V.int 0, V.int 1, V.int 2, V.int 3, V.int 4, V.int 5, V.int 6, V.int 7, V.int 8])) a5 = some (.lst [V.int 0, V.int 1, V.int 2, V.int 3, V.int 4, V.int 5, V.int 6, V.int 7, V.int 8]) := upd_same
    generalize upd Jb0 a5 (.lst [V.int 0, V.int 1, V.int 2, V.int 3, V.int 4, V.int 5, V.int 6, V.int 7, V.int 8]) = Ja5 at *
    have za5 : H a5 = none := st.free na5
    have ha0 := sa5 _ _ ha0
    have ha1 := sa5 _ _ ha1
    have ha2 := sa5 _ _ ha2
    have ha3 := sa5 _ _ ha3
    have ha4 := sa5 _ _ ha4
    have hb0 := sa5 _ _ hb0
    have st := st.trans sa5
    refine ⟨small100 (n := 5) (by decide), fun a6 na6 => ?_⟩
    have sa6 : Same Ja5 (upd Ja5 a6 (.lst [V.int 1, V.int 1, V.int 2, V.int 3, V.int 4])) := same_upd na6
    have ha6 : (upd Ja5 a6 (.lst [V.int 1, V.int 1, V.int 2, V.int 3, V.int 4])) a6 = some (.lst [V.int 1, V.int 1, V.int 2, V.int 3, V.int 4]) := upd_same
    generalize upd Ja5 a6 (.lst [V.int 1, V.int 1, V.int 2, V.int 3, V.int 4]) = Ja6 at *
    have za6 : H a6 = none := st.free na6
    have ha0 := sa6 _ _ ha0
    have ha1 := sa6 _ _ ha1
    have ha2 := sa6 _ _ ha2
    have ha3 := sa6 _ _ ha3
    have ha4 := sa6 _ _ ha4
    have hb0 := sa6 _ _ hb0
    have ha5 := sa6 _ _ ha5
    have st := st.trans sa6
    refine ⟨small100 (n := 5) (by decide), fun a7 na7 => ?_⟩
    have sa7 : Same Ja6 (upd Ja6 a7 (.lst [V.int 5, V.int 6, V.int 7, V.int 8, V.int 8])) := same_upd na7
    have ha7 : (upd Ja6 a7 (.lst [V.int 5, V.int 6, V.int 7, V.int 8, V.int 8])) a7 = some (.lst [V.int 5, V.int 6, V.int 7, V.int 8, V.int 8]) := upd_same
    generalize upd Ja6 a7 (.lst [V.int 5, V.int 6, V.int 7, V.int 8, V.int 8]) = Ja7 at *
    have za7 : H a7 = none := st.free na7
    have ha0 := sa7 _ _ ha0
    have ha1 := sa7 _ _ ha1
    have ha2 := sa7 _ _ ha2
    have ha3 := sa7 _ _ ha3
    have ha4 := sa7 _ _ ha4
    have hb0 := sa7 _ _ hb0
    have ha5 := sa7 _ _ ha5
    have ha6 := sa7 _ _ ha6
    have st := st.trans sa7
    refine ⟨small100 (n := 3) (by decide), fun b1 nb1 => ?_⟩
    have sb1 : Same Ja7 (upd Ja7 b1 (.lst [V.ref a5, V.ref a6, V.ref a7])) := same_upd nb1
    have hb1 : (upd Ja7 b1 (.lst [V.ref a5, V.ref a6, V.ref a7])) b1 = some (.lst [V.ref a5, V.ref a6, V.ref a7]) := upd_same
    generalize upd Ja7 b1 (.lst [V.ref a5, V.ref a6, V.ref a7]) = Jb1 at *
    have zb1 : H b1 = none := st.free nb1
    have ha0 := sb1 _ _ ha0
    have ha1 := sb1 _ _ ha1
    have ha2 := sb1 _ _ ha2
    have ha3 := sb1 _ _ ha3
    have ha4 := sb1 _ _ ha4
    have hb0 := sb1 _ _ hb0
    have ha5 := sb1 _ _ ha5
    have ha6 := sb1 _ _ ha6
    have ha7 := sb1 _ _ ha7
    have st := st.trans sb1
    refine ⟨b0, b1, _, _, rfl, rfl, hb0, hb1, small100 (n := 8) (by decide), fun d nd => ?_⟩
    have sd : Same Jb1 (upd Jb1 d (.lst [V.ref a0, V.ref a1, V.ref a2, V.ref a3, V.ref a4, V.ref a5, V.ref a6, V.ref a7])) := same_upd nd
    have hd : (upd Jb1 d (.lst [V.ref a0, V.ref a1, V.ref a2, V.ref a3, V.ref a4, V.ref a5, V.ref a6, V.ref a7])) d = some (.lst [V.ref a0, V.ref a1, V.ref a2, V.ref a3, V.ref a4, V.ref a5, V.ref a6, V.ref a7]) := upd_same
    refine ⟨fun σ J => ∃ (m : Addr) (ks : List Int), σ = [some (.ref p), some (.int mood), some (.ref d), some (.ref m), none, none] ∧ Same H J ∧ H m = none ∧ J m = some (.lst (ks.map V.int)) ∧ ks ≠ [] ∧ ks.length ≤ 9 ∧ ∀ k ∈ ks, 0 ≤ k ∧ k ≤ 8, ?_, fun σ J h => ?_⟩
    · rcases (show mood = 0 ∨ mood = 1 ∨ mood = 2 ∨ mood = 3 ∨ mood = 4 ∨ mood = 5 ∨ mood = 6 ∨ mood = 7 by omega) with rfl | rfl | rfl | rfl | rfl | rfl | rfl | rfl
      · exact ⟨_, rfl, _, rfl, d, _, _, _, rfl, rfl, SqL.of hd, at_of (j := 0) (by decide) rfl, a0, [0, 0, 0, 1, 1], rfl, st.trans sd, za0, sd _ _ ha0, by decide, by decide, by decide⟩
      · exact ⟨_, rfl, _, rfl, d, _, _, _, rfl, rfl, SqL.of hd, at_of (j := 1) (by decide) rfl, a1, [0, 0, 2, 3, 1], rfl, st.trans sd, za1, sd _ _ ha1, by decide, by decide, by decide⟩
      · exact ⟨_, rfl, _, rfl, d, _, _, _, rfl, rfl, SqL.of hd, at_of (j := 2) (by decide) rfl, a2, [0, 6, 7, 8, 8], rfl, st.trans sd, za2, sd _ _ ha2, by decide, by decide, by decide⟩
      · exact ⟨_, rfl, _, rfl, d, _, _, _, rfl, rfl, SqL.of hd, at_of (j := 3) (by decide) rfl, a3, [0, 4, 5, 6, 7], rfl, st.trans sd, za3, sd _ _ ha3, by decide, by decide, by decide⟩
      · exact ⟨_, rfl, _, rfl, d, _, _, _, rfl, rfl, SqL.of hd, at_of (j := 4) (by decide) rfl, a4, [0, 1, 3, 6, 8], rfl, st.trans sd, za4, sd _ _ ha4, by decide, by decide, by decide⟩
      · exact ⟨_, rfl, _, rfl, d, _, _, _, rfl, rfl, SqL.of hd, at_of (j := 5) (by decide) rfl, a5, [0, 1, 2, 3, 4, 5, 6, 7, 8], rfl, st.trans sd, za5, sd _ _ ha5, by decide, by decide, by decide⟩
      · exact ⟨_, rfl, _, rfl, d, _, _, _, rfl, rfl, SqL.of hd, at_of (j := 6) (by decide) rfl, a6, [1, 1, 2, 3, 4], rfl, st.trans sd, za6, sd _ _ ha6, by decide, by decide, by decide⟩
      · exact ⟨_, rfl, _, rfl, d, _, _, _, rfl, rfl, SqL.of hd, at_of (j := 7) (by decide) rfl, a7, [5, 6, 7, 8, 8], rfl, st.trans sd, za7, sd _ _ ha7, by decide, by decide, by decide⟩
    obtain ⟨m, ks, rfl, st, zm, hm, kn, kl, kb⟩ := h
    have plJ : Pool J p L := by
      obtain ⟨ns, hp, e⟩ := pl
      exact ⟨ns, st _ _ hp, e⟩
    have kl0 : 0 < ks.length := List.length_pos_iff.mpr kn
    refine ⟨_, rfl, _, rfl, _, rfl, m, _, rfl, .inl (SqL.of hm), p, L, _, rfl, plJ, h2, h64, by rw [len_map]; omega, by rw [len_map]; omega, fun i H1 i0 i1 e1 pl1 => ?_⟩
    rw [len_map] at i1
    have k1 : Kp p H H1 := fun b o nb e => e1 b o nb (st b o e)
    have hmp : m ≠ p := by
      intro e
      obtain ⟨ns, hp, e'⟩ := pl
      rw [e, hp] at zm
      cases zm
    have hm1 := e1 _ _ hmp hm
    obtain ⟨k, gk, ak⟩ := at_map (ns := ks) (i := i) i0 (by omega)
    have kb := kb k (List.mem_of_getElem? gk)
    have kk := k1
    refine ⟨m, _, i, _, rfl, rfl, SqL.of hm1, ak, ?_⟩
    have fin : ∀ {c : Cm} {t : Addr} {J : Hp}, c.ok → Kp p H J → Pool J p L → J t = none → Q (.ref t) (upd J t (.tup c.vals)) := fun ok kp pl nt =>
      q _ _ _ ok (kp.new (kp.none nt (pl.ne nt))) (pl.new nt) (kp.none nt (pl.ne nt)) upd_same
    clear hm1 hm zm
    generalize some (V.ref d) = sd
    generalize some (V.ref m) = sm
    refine ⟨_, rfl, rfl, _, rfl, ite2 (fun _ => ?_) (fun n0 => ?_)⟩
    · refine ⟨_, rfl, p, L, 19, rfl, pl1, h2, h64, by decide, by decide, fun r H2 r0 r1 e2 pl2 => ?_⟩
      refine ⟨_, _, rfl, rfl, _, rfl, _, rfl, _, rfl, _, _, rfl, rfl, (show (0 : Int) < 3 by decide), _, _, rfl, rfl, small100 (n := 4) (by decide), fun m' nm' => ?_⟩
      have nmp := pl2.ne nm'
      have em : Kp p H (upd H2 m' (.lst [.int (r - 9), .int 2, .int ((r - 9) % 3 - 1), .int 1])) := (k1.trans e2).new ((k1.trans e2).none nm' nmp)
      have plm : Pool (upd H2 m' (.lst [.int (r - 9), .int 2, .int ((r - 9) % 3 - 1), .int 1])) p L := pl2.new nm'
      have hm : (upd H2 m' (.lst [.int (r - 9), .int 2, .int ((r - 9) % 3 - 1), .int 1])) m' = some (.lst (([r - 9, 2, (r - 9) % 3 - 1, 1] : List Int).map V.int)) := upd_same
      generalize upd H2 m' (.lst [.int (r - 9), .int 2, .int ((r - 9) % 3 - 1), .int 1]) = J1 at *
      refine ⟨_, rfl, p, L, 4, rfl, plm, h2, h64, by decide, by decide, fun i' H3 i0' i1' e3 pl3 => ?_⟩
      obtain ⟨z, gz, az⟩ := at_map (ns := [r - 9, 2, (r - 9) % 3 - 1, 1]) (i := i') i0' i1'
      have zb : (-9 : Int) ≤ z ∧ z ≤ 9 := by
        have := List.mem_of_getElem? gz
        simp only [List.mem_cons, List.not_mem_nil, or_false] at this
        omega
      refine ⟨m', _, i', _, rfl, rfl, SqL.of (e3 _ _ nmp hm), az, small100 (n := 2) (by decide), fun t nt => ?_⟩
      exact fin (c := .go z) (ok1 rfl rfl zb.1 zb.2) (em.trans e3) pl3 nt
    refine ⟨_, rfl, rfl, _, rfl, ite2 (fun _ => ?_) (fun n1 => ?_)⟩
    · refine ⟨_, rfl, p, L, 3, rfl, pl1, h2, h64, by decide, by decide, fun r H2 r0 r1 e2 pl2 => ?_⟩
      refine ⟨_, _, rfl, rfl, small100 (n := 2) (by decide), fun t nt => ?_⟩
      exact fin (c := .turn (1 + r)) (ok1 rfl rfl (by show (1 : Int) ≤ 1 + r; omega) (by show 1 + r ≤ (3 : Int); omega)) (k1.trans e2) pl2 nt
    refine ⟨_, rfl, rfl, _, rfl, ite2 (fun _ => ?_) (fun n2 => ?_)⟩
    · exact ⟨small100 (n := 1) (by decide), fun t nt => fin (c := .mirror) (ok0 rfl) k1 pl1 nt⟩
    refine ⟨_, rfl, rfl, _, rfl, ite2 (fun _ => ?_) (fun n3 => ?_)⟩
    · refine ⟨_, rfl, _, rfl, _, rfl, _, rfl, small100 (n := 8) (by decide), fun m' nm' => ?_⟩
      have nmp := pl1.ne nm'
      have hm : (upd H1 m' (.tup (([-1, -1, -1, 1, 1, 0, 2, -3] : List Int).map V.int))) m' = some (.tup (([-1, -1, -1, 1, 1, 0, 2, -3] : List Int).map V.int)) := upd_same
      have em : Kp p H (upd H1 m' (.tup (([-1, -1, -1, 1, 1, 0, 2, -3] : List Int).map V.int))) := k1.new (k1.none nm' nmp)
      have plm : Pool (upd H1 m' (.tup (([-1, -1, -1, 1, 1, 0, 2, -3] : List Int).map V.int))) p L := pl1.new nm'
      refine ⟨_, rfl, p, L, 8, rfl, plm, h2, h64, by decide, by decide, fun i' H3 i0' i1' e3 pl3 => ?_⟩
      obtain ⟨z, gz, az⟩ := at_map (ns := [-1, -1, -1, 1, 1, 0, 2, -3]) (i := i') i0' i1'
      have zb : (-3 : Int) ≤ z ∧ z ≤ 3 := by
        have := List.mem_of_getElem? gz
        simp only [List.mem_cons, List.not_mem_nil, or_false] at this
        omega
      refine ⟨m', _, i', _, rfl, rfl, SqT.of (e3 _ _ nmp hm), az, small100 (n := 2) (by decide), fun t nt => ?_⟩
      exact fin (c := .scale z) (ok1 rfl rfl zb.1 zb.2) (em.trans e3) pl3 nt
    have n0 := dec_int n0
    have n1 := dec_int n1
    have n2 := dec_int n2
    have n3 := dec_int n3
    refine ⟨_, rfl, _, _, rfl, rfl, _, rfl, ite2 (fun h5 => ?_) (fun h5 => ?_)⟩
    · have h5 := of_decide_eq_true h5
      refine ⟨small100 (n := 2) (by decide), fun m' nm => ?_⟩
      have nmp := pl1.ne nm
      have em : Kp p H (upd H1 m' (.tup [.str "aim", .str "place"])) := k1.new (k1.none nm nmp)
      have plm : Pool (upd H1 m' (.tup [.str "aim", .str "place"])) p L := pl1.new nm
      have hm : (upd H1 m' (.tup [.str "aim", .str "place"])) m' = some (.tup [.str "aim", .str "place"]) := upd_same
      generalize upd H1 m' (.tup [.str "aim", .str "place"]) = J at *
      rcases (show k = 4 ∨ k = 5 by omega) with rfl | rfl
      · refine ⟨_, rfl, _, _, rfl, rfl, m', _, _, _, rfl, rfl, SqT.of hm, at_of (j := 0) (by decide) rfl, ?_⟩
        refine ⟨_, rfl, p, L, 19, rfl, plm, h2, h64, by decide, by decide, fun r H2 r0 r1 e2 pl2 => ?_⟩
        refine ⟨_, _, rfl, rfl, _, rfl, p, L, 19, rfl, pl2, h2, h64, by decide, by decide, fun r' H3 r0' r1' e3 pl3 => ?_⟩
        refine ⟨_, _, rfl, rfl, small100 (n := 3) (by decide), fun t nt => ?_⟩
        exact fin (c := .aim (r - 9) (r' - 9)) (ok2 (l := (-9, 9)) rfl rfl (by show (-9 : Int) ≤ r - 9; omega) (by show r - 9 ≤ (9 : Int); omega) (by show (-9 : Int) ≤ r' - 9; omega) (by show r' - 9 ≤ (9 : Int); omega)) (em.trans (e2.trans e3)) pl3 nt
      · refine ⟨_, rfl, _, _, rfl, rfl, m', _, _, _, rfl, rfl, SqT.of hm, at_of (j := 1) (by decide) rfl, ?_⟩
        refine ⟨_, rfl, p, L, 19, rfl, plm, h2, h64, by decide, by decide, fun r H2 r0 r1 e2 pl2 => ?_⟩
        refine ⟨_, _, rfl, rfl, _, rfl, p, L, 19, rfl, pl2, h2, h64, by decide, by decide, fun r' H3 r0' r1' e3 pl3 => ?_⟩
        refine ⟨_, _, rfl, rfl, small100 (n := 3) (by decide), fun t nt => ?_⟩
        exact fin (c := .place (r - 9) (r' - 9)) (ok2 (l := (-9, 9)) rfl rfl (by show (-9 : Int) ≤ r - 9; omega) (by show r - 9 ≤ (9 : Int); omega) (by show (-9 : Int) ≤ r' - 9; omega) (by show r' - 9 ≤ (9 : Int); omega)) (em.trans (e2.trans e3)) pl3 nt
    · have h5 : ¬ k < 6 := fun h => h5 (decide_eq_true h)
      refine ⟨small100 (n := 3) (by decide), fun m' nm => ?_⟩
      have nmp := pl1.ne nm
      have em : Kp p H (upd H1 m' (.tup [.str "mark", .str "return", .str "exchange"])) := k1.new (k1.none nm nmp)
      have plm : Pool (upd H1 m' (.tup [.str "mark", .str "return", .str "exchange"])) p L := pl1.new nm
      have hm : (upd H1 m' (.tup [.str "mark", .str "return", .str "exchange"])) m' = some (.tup [.str "mark", .str "return", .str "exchange"]) := upd_same
      generalize upd H1 m' (.tup [.str "mark", .str "return", .str "exchange"]) = J at *
      rcases (show k = 6 ∨ k = 7 ∨ k = 8 by omega) with rfl | rfl | rfl
      · refine ⟨_, rfl, _, _, rfl, rfl, m', _, _, _, rfl, rfl, SqT.of hm, at_of (j := 0) (by decide) rfl, small100 (n := 1) (by decide), fun t nt => ?_⟩
        exact fin (c := .mark) (ok0 rfl) em plm nt
      · refine ⟨_, rfl, _, _, rfl, rfl, m', _, _, _, rfl, rfl, SqT.of hm, at_of (j := 1) (by decide) rfl, small100 (n := 1) (by decide), fun t nt => ?_⟩
        exact fin (c := .ret) (ok0 rfl) em plm nt
      · refine ⟨_, rfl, _, _, rfl, rfl, m', _, _, _, rfl, rfl, SqT.of hm, at_of (j := 2) (by decide) rfl, small100 (n := 1) (by decide), fun t nt => ?_⟩
        exact fin (c := .exch) (ok0 rfl) em plm nt

def sp__law_pair : Sp := fun vs H Q _ => ∃ (p : Addr) (L : Nat) (mood : Int), vs = [.ref p, .int mood] ∧ Pool H p L ∧ 2 ≤ L ∧ L ≤ 64 ∧
  ∀ (q : Addr) (c e : Cm) (H' : Hp), c.ok → e.ok → Kp p H H' → Pool H' p L → Tr (New H) H' (.list [c.d, e.d]) (.ref q) → Q (.ref q) H'
theorem ok__law_pair (T : Top w K mg) : FnOk P w K mg base CX0 2 T.a__law_pair T.d__law_pair ["_law_pool_here", "_law_mood"] sp__law_pair := by
  refine T.F__law_pair.ok sc__law_pair (fun vs H Q E h => ?_) (fun cdv A outer s H vs Q E hr h => ?_)
  · obtain ⟨p, L, mood, rfl, _⟩ := h
    rfl
  · obtain ⟨p, L, mood, rfl, pl, h2, h64, q⟩ := h
    refine ⟨_, (pss_cons (ps_set (i := 2) sc__law_pair.nd rfl (Or.inl rfl) (pe_op op_add pe_int (pe_call (ok__law_draw T) hr (by rfl) T.g__law_draw T.F__law_draw.kp (b__law_draw T) .nil pass0 (pa_cons (pv 0) (pa_cons pe_int pa_nil)))))
      (pss_cons (ps_set (i := 3) sc__law_pair.nd rfl (Or.inl rfl) (pe_call (ok__law_draw T) hr (by rfl) T.g__law_draw T.F__law_draw.kp (b__law_draw T) .nil pass0 (pa_cons (pv 0) (pa_cons pe_int pa_nil))))
      (C8.pss_cut (ps_if (pt_cmpR op_eq (pv 1) pe_int (nomark _)) (pss_one (ps_set (i := 3) sc__law_pair.nd rfl (Or.inl rfl) (pe_op op_add pe_int (pe_op op_mod (pv 3) pe_int)))) pss_nil)
      (C8.pss_cut (ps_if (pt_cmpR op_eq (pv 1) pe_int (nomark _)) (pss_one (ps_set (i := 3) sc__law_pair.nd rfl (Or.inl rfl) pe_int)) pss_nil)
      (pss_cons (ps_set (i := 4) sc__law_pair.nd rfl (Or.inl rfl) (pe_lst (pa_cons (pe_lst (pa_cons (pe_tup (pa_cons pe_str (pa_cons (pv 2) pa_nil))) (pa_cons (pe_tup (pa_cons pe_str (pa_cons (pe_un un_neg (pv 2)) pa_nil))) pa_nil))) (pa_cons (pe_lst (pa_cons (pe_tup (pa_cons pe_str (pa_cons (pv 2) pa_nil))) (pa_cons (pe_tup (pa_cons pe_str (pa_cons (pe_op op_sub pe_int (pv 2)) pa_nil))) pa_nil))) (pa_cons (pe_lst (pa_cons (pe_tup (pa_cons pe_str pa_nil)) (pa_cons (pe_tup (pa_cons pe_str pa_nil)) pa_nil))) pa_nil)))))
      (pss_one (ps_ret (pe_ix (k_ixL K) (pe_op op_cat (pv 4) (pe_lst (pa_cons (pe_lst (pa_cons (pe_tup (pa_cons pe_str pa_nil)) (pa_cons (pe_tup (pa_cons pe_str pa_nil)) pa_nil))) pa_nil))) (pv 3) (fun _ _ => rfl))))))))), ?_⟩
    refine ⟨_, rfl, p, L, 3, rfl, pl, h2, h64, by decide, by decide, fun k' H1 k0 k1 e1 pl1 => ?_⟩
    refine ⟨_, _, rfl, rfl, ?_⟩
    have b0 : (1 : Int) ≤ 1 + k' := by omega
    have b1 : 1 + k' ≤ (3 : Int) := by omega
    dsimp only
    generalize 1 + k' = k at *
    refine ⟨_, rfl, p, L, 4, rfl, pl1, h2, h64, by decide, by decide, fun d H2 d0 d1 e2 pl2 => ?_⟩
    have e02 := e1.trans e2
    refine ⟨fun σ J => J = H2 ∧ ∃ z : Int, 0 ≤ z ∧ z < 4 ∧ σ = [some (.ref p), some (.int mood), some (.int k), some (.int z), none], ?_, fun σ J hm => ?_⟩
    · refine ⟨_, rfl, rfl, _, rfl, ite2 (fun _ => ?_) (fun _ => ⟨rfl, d, d0, d1, rfl⟩)⟩
      exact ⟨_, rfl, _, _, rfl, rfl, (show (0 : Int) < 2 by decide), _, _, rfl, rfl, rfl, _, by omega, by omega, rfl⟩
    obtain ⟨rfl, z, z0, z1, rfl⟩ := hm
    refine ⟨fun σ J' => J' = J ∧ ∃ z : Int, 0 ≤ z ∧ z < 4 ∧ σ = [some (.ref p), some (.int mood), some (.int k), some (.int z), none], ?_, fun σ J' hm => ?_⟩
    · exact ⟨_, rfl, rfl, _, rfl, ite2 (fun _ => ⟨rfl, _, by decide, by decide, rfl⟩) (fun _ => ⟨rfl, z, z0, z1, rfl⟩)⟩
    obtain ⟨rfl, z, z0, z1, rfl⟩ := hm
    have np : ∀ b, H b = none → b ≠ p := fun b hb e => by
      obtain ⟨ns, hp, _⟩ := pl
      rw [e, hp] at hb
      cases hb
    refine ⟨_, rfl, small100 (n := 2) (by decide), fun t1 nt1 => ?_⟩
    have st1 : Same J' (upd J' t1 (.tup [V.str "go", V.int k])) := same_upd nt1
    have ht1 : (upd J' t1 (.tup [V.str "go", V.int k])) t1 = some (.tup [V.str "go", V.int k]) := upd_same
    generalize upd J' t1 (.tup [V.str "go", V.int k]) = Jt1 at *
    have zt1 : H t1 = none := e02.none nt1 (pl2.ne nt1)
    have st := st1
    have plx : Pool Jt1 p L := by
      obtain ⟨ns, hp, e⟩ := pl2
      exact ⟨ns, st _ _ hp, e⟩
    refine ⟨_, rfl, _, rfl, small100 (n := 2) (by decide), fun t2 nt2 => ?_⟩
    have st2 : Same Jt1 (upd Jt1 t2 (.tup [V.str "go", V.int (-k)])) := same_upd nt2
    have ht2 : (upd Jt1 t2 (.tup [V.str "go", V.int (-k)])) t2 = some (.tup [V.str "go", V.int (-k)]) := upd_same
    generalize upd Jt1 t2 (.tup [V.str "go", V.int (-k)]) = Jt2 at *
    have zt2 : H t2 = none := (e02.trans (Kp.of st)).none nt2 (plx.ne nt2)
    have st := st.trans st2
    have plx : Pool Jt2 p L := by
      obtain ⟨ns, hp, e⟩ := pl2
      exact ⟨ns, st _ _ hp, e⟩
    have ht1 := st2 _ _ ht1
    refine ⟨small100 (n := 2) (by decide), fun l1 nl1 => ?_⟩
    have sl1 : Same Jt2 (upd Jt2 l1 (.lst [V.ref t1, V.ref t2])) := same_upd nl1
    have hl1 : (upd Jt2 l1 (.lst [V.ref t1, V.ref t2])) l1 = some (.lst [V.ref t1, V.ref t2]) := upd_same
    generalize upd Jt2 l1 (.lst [V.ref t1, V.ref t2]) = Jl1 at *
    have zl1 : H l1 = none := (e02.trans (Kp.of st)).none nl1 (plx.ne nl1)
    have st := st.trans sl1
    have plx : Pool Jl1 p L := by
      obtain ⟨ns, hp, e⟩ := pl2
      exact ⟨ns, st _ _ hp, e⟩
    have ht1 := sl1 _ _ ht1
    have ht2 := sl1 _ _ ht2
    refine ⟨_, rfl, small100 (n := 2) (by decide), fun t3 nt3 => ?_⟩
    have st3 : Same Jl1 (upd Jl1 t3 (.tup [V.str "turn", V.int k])) := same_upd nt3
    have ht3 : (upd Jl1 t3 (.tup [V.str "turn", V.int k])) t3 = some (.tup [V.str "turn", V.int k]) := upd_same
    generalize upd Jl1 t3 (.tup [V.str "turn", V.int k]) = Jt3 at *
    have zt3 : H t3 = none := (e02.trans (Kp.of st)).none nt3 (plx.ne nt3)
    have st := st.trans st3
    have plx : Pool Jt3 p L := by
      obtain ⟨ns, hp, e⟩ := pl2
      exact ⟨ns, st _ _ hp, e⟩
    have ht1 := st3 _ _ ht1
    have ht2 := st3 _ _ ht2
    have hl1 := st3 _ _ hl1
    refine ⟨_, rfl, _, _, rfl, rfl, small100 (n := 2) (by decide), fun t4 nt4 => ?_⟩
    have st4 : Same Jt3 (upd Jt3 t4 (.tup [V.str "turn", V.int (4 - k)])) := same_upd nt4
    have ht4 : (upd Jt3 t4 (.tup [V.str "turn", V.int (4 - k)])) t4 = some (.tup [V.str "turn", V.int (4 - k)]) := upd_same
    generalize upd Jt3 t4 (.tup [V.str "turn", V.int (4 - k)]) = Jt4 at *
    have zt4 : H t4 = none := (e02.trans (Kp.of st)).none nt4 (plx.ne nt4)
    have st := st.trans st4
    have plx : Pool Jt4 p L := by
      obtain ⟨ns, hp, e⟩ := pl2
      exact ⟨ns, st _ _ hp, e⟩
    have ht1 := st4 _ _ ht1
    have ht2 := st4 _ _ ht2
    have hl1 := st4 _ _ hl1
    have ht3 := st4 _ _ ht3
    refine ⟨small100 (n := 2) (by decide), fun l2 nl2 => ?_⟩
    have sl2 : Same Jt4 (upd Jt4 l2 (.lst [V.ref t3, V.ref t4])) := same_upd nl2
    have hl2 : (upd Jt4 l2 (.lst [V.ref t3, V.ref t4])) l2 = some (.lst [V.ref t3, V.ref t4]) := upd_same
    generalize upd Jt4 l2 (.lst [V.ref t3, V.ref t4]) = Jl2 at *
    have zl2 : H l2 = none := (e02.trans (Kp.of st)).none nl2 (plx.ne nl2)
    have st := st.trans sl2
    have plx : Pool Jl2 p L := by
      obtain ⟨ns, hp, e⟩ := pl2
      exact ⟨ns, st _ _ hp, e⟩
    have ht1 := sl2 _ _ ht1
    have ht2 := sl2 _ _ ht2
    have hl1 := sl2 _ _ hl1
    have ht3 := sl2 _ _ ht3
    have ht4 := sl2 _ _ ht4
    refine ⟨small100 (n := 1) (by decide), fun t5 nt5 => ?_⟩
    have st5 : Same Jl2 (upd Jl2 t5 (.tup [V.str "mirror"])) := same_upd nt5
    have ht5 : (upd Jl2 t5 (.tup [V.str "mirror"])) t5 = some (.tup [V.str "mirror"]) := upd_same
    generalize upd Jl2 t5 (.tup [V.str "mirror"]) = Jt5 at *
    have zt5 : H t5 = none := (e02.trans (Kp.of st)).none nt5 (plx.ne nt5)
    have st := st.trans st5
    have plx : Pool Jt5 p L := by
      obtain ⟨ns, hp, e⟩ := pl2
      exact ⟨ns, st _ _ hp, e⟩
    have ht1 := st5 _ _ ht1
    have ht2 := st5 _ _ ht2
    have hl1 := st5 _ _ hl1
    have ht3 := st5 _ _ ht3
    have ht4 := st5 _ _ ht4
    have hl2 := st5 _ _ hl2
    refine ⟨small100 (n := 1) (by decide), fun t6 nt6 => ?_⟩
    have st6 : Same Jt5 (upd Jt5 t6 (.tup [V.str "mirror"])) := same_upd nt6
    have ht6 : (upd Jt5 t6 (.tup [V.str "mirror"])) t6 = some (.tup [V.str "mirror"]) := upd_same
    generalize upd Jt5 t6 (.tup [V.str "mirror"]) = Jt6 at *
    have zt6 : H t6 = none := (e02.trans (Kp.of st)).none nt6 (plx.ne nt6)
    have st := st.trans st6
    have plx : Pool Jt6 p L := by
      obtain ⟨ns, hp, e⟩ := pl2
      exact ⟨ns, st _ _ hp, e⟩
    have ht1 := st6 _ _ ht1
    have ht2 := st6 _ _ ht2
    have hl1 := st6 _ _ hl1
    have ht3 := st6 _ _ ht3
    have ht4 := st6 _ _ ht4
    have hl2 := st6 _ _ hl2
    have ht5 := st6 _ _ ht5
    refine ⟨small100 (n := 2) (by decide), fun l3 nl3 => ?_⟩
    have sl3 : Same Jt6 (upd Jt6 l3 (.lst [V.ref t5, V.ref t6])) := same_upd nl3
    have hl3 : (upd Jt6 l3 (.lst [V.ref t5, V.ref t6])) l3 = some (.lst [V.ref t5, V.ref t6]) := upd_same
    generalize upd Jt6 l3 (.lst [V.ref t5, V.ref t6]) = Jl3 at *
    have zl3 : H l3 = none := (e02.trans (Kp.of st)).none nl3 (plx.ne nl3)
    have st := st.trans sl3
    have plx : Pool Jl3 p L := by
      obtain ⟨ns, hp, e⟩ := pl2
      exact ⟨ns, st _ _ hp, e⟩
    have ht1 := sl3 _ _ ht1
    have ht2 := sl3 _ _ ht2
    have hl1 := sl3 _ _ hl1
    have ht3 := sl3 _ _ ht3
    have ht4 := sl3 _ _ ht4
    have hl2 := sl3 _ _ hl2
    have ht5 := sl3 _ _ ht5
    have ht6 := sl3 _ _ ht6
    refine ⟨small100 (n := 3) (by decide), fun b0 nb0 => ?_⟩
    have sb0 : Same Jl3 (upd Jl3 b0 (.lst [V.ref l1, V.ref l2, V.ref l3])) := same_upd nb0
    have hb0 : (upd Jl3 b0 (.lst [V.ref l1, V.ref l2, V.ref l3])) b0 = some (.lst [V.ref l1, V.ref l2, V.ref l3]) := upd_same
    generalize upd Jl3 b0 (.lst [V.ref l1, V.ref l2, V.ref l3]) = Jb0 at *
    have zb0 : H b0 = none := (e02.trans (Kp.of st)).none nb0 (plx.ne nb0)
    have st := st.trans sb0
    have plx : Pool Jb0 p L := by
      obtain ⟨ns, hp, e⟩ := pl2
      exact ⟨ns, st _ _ hp, e⟩
    have ht1 := sb0 _ _ ht1
    have ht2 := sb0 _ _ ht2
    have hl1 := sb0 _ _ hl1
    have ht3 := sb0 _ _ ht3
    have ht4 := sb0 _ _ ht4
    have hl2 := sb0 _ _ hl2
    have ht5 := sb0 _ _ ht5
    have ht6 := sb0 _ _ ht6
    have hl3 := sb0 _ _ hl3
    refine ⟨_, rfl, ?_⟩
    refine ⟨small100 (n := 1) (by decide), fun t7 nt7 => ?_⟩
    have st7 : Same Jb0 (upd Jb0 t7 (.tup [V.str "exchange"])) := same_upd nt7
    have ht7 : (upd Jb0 t7 (.tup [V.str "exchange"])) t7 = some (.tup [V.str "exchange"]) := upd_same
    generalize upd Jb0 t7 (.tup [V.str "exchange"]) = Jt7 at *
    have zt7 : H t7 = none := (e02.trans (Kp.of st)).none nt7 (plx.ne nt7)
    have st := st.trans st7
    have plx : Pool Jt7 p L := by
      obtain ⟨ns, hp, e⟩ := pl2
      exact ⟨ns, st _ _ hp, e⟩
    have ht1 := st7 _ _ ht1
    have ht2 := st7 _ _ ht2
    have hl1 := st7 _ _ hl1
    have ht3 := st7 _ _ ht3
    have ht4 := st7 _ _ ht4
    have hl2 := st7 _ _ hl2
    have ht5 := st7 _ _ ht5
    have ht6 := st7 _ _ ht6
    have hl3 := st7 _ _ hl3
    have hb0 := st7 _ _ hb0
    refine ⟨small100 (n := 1) (by decide), fun t8 nt8 => ?_⟩
    have st8 : Same Jt7 (upd Jt7 t8 (.tup [V.str "exchange"])) := same_upd nt8
    have ht8 : (upd Jt7 t8 (.tup [V.str "exchange"])) t8 = some (.tup [V.str "exchange"]) := upd_same
    generalize upd Jt7 t8 (.tup [V.str "exchange"]) = Jt8 at *
    have zt8 : H t8 = none := (e02.trans (Kp.of st)).none nt8 (plx.ne nt8)
    have st := st.trans st8
    have plx : Pool Jt8 p L := by
      obtain ⟨ns, hp, e⟩ := pl2
      exact ⟨ns, st _ _ hp, e⟩
    have ht1 := st8 _ _ ht1
    have ht2 := st8 _ _ ht2
    have hl1 := st8 _ _ hl1
    have ht3 := st8 _ _ ht3
    have ht4 := st8 _ _ ht4
    have hl2 := st8 _ _ hl2
    have ht5 := st8 _ _ ht5
    have ht6 := st8 _ _ ht6
    have hl3 := st8 _ _ hl3
    have hb0 := st8 _ _ hb0
    have ht7 := st8 _ _ ht7
    refine ⟨small100 (n := 2) (by decide), fun l4 nl4 => ?_⟩
    have sl4 : Same Jt8 (upd Jt8 l4 (.lst [V.ref t7, V.ref t8])) := same_upd nl4
    have hl4 : (upd Jt8 l4 (.lst [V.ref t7, V.ref t8])) l4 = some (.lst [V.ref t7, V.ref t8]) := upd_same
    generalize upd Jt8 l4 (.lst [V.ref t7, V.ref t8]) = Jl4 at *
    have zl4 : H l4 = none := (e02.trans (Kp.of st)).none nl4 (plx.ne nl4)
    have st := st.trans sl4
    have plx : Pool Jl4 p L := by
      obtain ⟨ns, hp, e⟩ := pl2
      exact ⟨ns, st _ _ hp, e⟩
    have ht1 := sl4 _ _ ht1
    have ht2 := sl4 _ _ ht2
    have hl1 := sl4 _ _ hl1
    have ht3 := sl4 _ _ ht3
    have ht4 := sl4 _ _ ht4
    have hl2 := sl4 _ _ hl2
    have ht5 := sl4 _ _ ht5
    have ht6 := sl4 _ _ ht6
    have hl3 := sl4 _ _ hl3
    have hb0 := sl4 _ _ hb0
    have ht7 := sl4 _ _ ht7
    have ht8 := sl4 _ _ ht8
    refine ⟨small100 (n := 1) (by decide), fun b1 nb1 => ?_⟩
    have sb1 : Same Jl4 (upd Jl4 b1 (.lst [V.ref l4])) := same_upd nb1
    have hb1 : (upd Jl4 b1 (.lst [V.ref l4])) b1 = some (.lst [V.ref l4]) := upd_same
    generalize upd Jl4 b1 (.lst [V.ref l4]) = Jb1 at *
    have zb1 : H b1 = none := (e02.trans (Kp.of st)).none nb1 (plx.ne nb1)
    have st := st.trans sb1
    have plx : Pool Jb1 p L := by
      obtain ⟨ns, hp, e⟩ := pl2
      exact ⟨ns, st _ _ hp, e⟩
    have ht1 := sb1 _ _ ht1
    have ht2 := sb1 _ _ ht2
    have hl1 := sb1 _ _ hl1
    have ht3 := sb1 _ _ ht3
    have ht4 := sb1 _ _ ht4
    have hl2 := sb1 _ _ hl2
    have ht5 := sb1 _ _ ht5
    have ht6 := sb1 _ _ ht6
    have hl3 := sb1 _ _ hl3
    have hb0 := sb1 _ _ hb0
    have ht7 := sb1 _ _ ht7
    have ht8 := sb1 _ _ ht8
    have hl4 := sb1 _ _ hl4
    refine ⟨b0, b1, _, _, rfl, rfl, hb0, hb1, small100 (n := 4) (by decide), fun d nd => ?_⟩
    have sd : Same Jb1 (upd Jb1 d (.lst [V.ref l1, V.ref l2, V.ref l3, V.ref l4])) := same_upd nd
    have hd : (upd Jb1 d (.lst [V.ref l1, V.ref l2, V.ref l3, V.ref l4])) d = some (.lst [V.ref l1, V.ref l2, V.ref l3, V.ref l4]) := upd_same
    have sf := st.trans sd
    have kf : Kp p H (upd Jb1 d (.lst [V.ref l1, V.ref l2, V.ref l3, V.ref l4])) := e02.trans (Kp.of sf)
    have plf : Pool (upd Jb1 d (.lst [V.ref l1, V.ref l2, V.ref l3, V.ref l4])) p L := by
      obtain ⟨ns, hp, e⟩ := pl2
      exact ⟨ns, sf _ _ hp, e⟩
    rcases (show z = 0 ∨ z = 1 ∨ z = 2 ∨ z = 3 by omega) with rfl | rfl | rfl | rfl
    · refine ⟨_, rfl, d, _, _, _, rfl, rfl, SqL.of hd, at_of (j := 0) (by decide) rfl, ?_⟩
      exact q l1 (.go k) (.go (-k)) _ (ok1 rfl rfl (by show (-9 : Int) ≤ k; omega) (by show k ≤ (9 : Int); omega)) (ok1 rfl rfl (by show (-9 : Int) ≤ -k; omega) (by show -k ≤ (9 : Int); omega)) kf plf ⟨l1, _, rfl, zl1, sd _ _ hl1, .cons ⟨t1, _, rfl, sd _ _ ht1, .cons rfl (.cons rfl .nil)⟩ (.cons ⟨t2, _, rfl, sd _ _ ht2, .cons rfl (.cons rfl .nil)⟩ .nil)⟩
    · refine ⟨_, rfl, d, _, _, _, rfl, rfl, SqL.of hd, at_of (j := 1) (by decide) rfl, ?_⟩
      exact q l2 (.turn k) (.turn (4 - k)) _ (ok1 rfl rfl (by show (1 : Int) ≤ k; omega) (by show k ≤ (3 : Int); omega)) (ok1 rfl rfl (by show (1 : Int) ≤ 4 - k; omega) (by show 4 - k ≤ (3 : Int); omega)) kf plf ⟨l2, _, rfl, zl2, sd _ _ hl2, .cons ⟨t3, _, rfl, sd _ _ ht3, .cons rfl (.cons rfl .nil)⟩ (.cons ⟨t4, _, rfl, sd _ _ ht4, .cons rfl (.cons rfl .nil)⟩ .nil)⟩
    · refine ⟨_, rfl, d, _, _, _, rfl, rfl, SqL.of hd, at_of (j := 2) (by decide) rfl, ?_⟩
      exact q l3 (.mirror) (.mirror) _ (ok0 rfl) (ok0 rfl) kf plf ⟨l3, _, rfl, zl3, sd _ _ hl3, .cons ⟨t5, _, rfl, sd _ _ ht5, .cons rfl .nil⟩ (.cons ⟨t6, _, rfl, sd _ _ ht6, .cons rfl .nil⟩ .nil)⟩
    · refine ⟨_, rfl, d, _, _, _, rfl, rfl, SqL.of hd, at_of (j := 3) (by decide) rfl, ?_⟩
      exact q l4 (.exch) (.exch) _ (ok0 rfl) (ok0 rfl) kf plf ⟨l4, _, rfl, zl4, sd _ _ hl4, .cons ⟨t7, _, rfl, sd _ _ ht7, .cons rfl .nil⟩ (.cons ⟨t8, _, rfl, sd _ _ ht8, .cons rfl .nil⟩ .nil)⟩

theorem ok_block_step (T : Top w K mg) (n : Nat) (G__law_piece : FnOk P w K mg base CX0 (2 * n + 3) T.a__law_piece T.d__law_piece ["_law_pool_here", "_law_mood", "_law_level", "_law_room", "_law_calls", "_law_low"] (spD 1 n)) :
    FnOk P w K mg base CX0 (2 * n + 4) T.a__law_block T.d__law_block ["_law_pool_here", "_law_mood", "_law_level", "_law_room", "_law_calls", "_law_low"] (spD 0 n) := by
  refine T.F__law_block.ok sc__law_block (fun vs H Q E h => ?_) (fun cdv A outer s H vs Q E hr h => ?_)
  · obtain ⟨p, r, c, L, l, many, mood, m, k, low, rfl, _⟩ := h
    rfl
  · obtain ⟨p, r, c, L, l, many, mood, m, k, low, rfl, sep, d, ⟨h2, h64, md0, md8, hl, hlow, hm0, hm8, hmn, hmany⟩, q⟩ := h
    refine ⟨_, (pss_cons (ps_set (i := 6) sc__law_block.nd rfl (Or.inl rfl) (pe_lst pa_nil))
      (pss_cons (ps_for PassesOwn.never rfl (pi_range1 (by rfl) T.z_range (pa_cons (pe_call (ok__law_draw T) (hr.mono (by omega)) (by rfl) T.g__law_draw T.F__law_draw.kp (b__law_draw T) .nil pass0 (pa_cons (pv 0) (pa_cons pe_int pa_nil))) pa_nil)) (pg_name (i := 7) sc__law_block.nd rfl (Or.inl rfl)) (pss_one (ps_if (pt_cmpR op_gt (pe_ix (k_ixL K) (pv 3) pe_int (fun _ _ => rfl)) pe_int (nomark _)) (pss_one (ps_set (i := 6) sc__law_block.nd rfl (Or.inl rfl) (pe_op op_cat (pv 6) (pe_call G__law_piece (hr.mono (by omega)) (by rfl) T.g__law_piece T.F__law_piece.kp (b__law_piece T) .nil pass0 (pa_cons (pv 0) (pa_cons (pv 1) (pa_cons (pv 2) (pa_cons (pv 3) (pa_cons (pv 4) (pa_cons (pv 5) pa_nil)))))))))) pss_nil)))
      (pss_one (ps_ret (pv 6))))), ?_⟩
    refine ⟨small100 (n := 0) (by decide), fun b nb => ?_⟩
    have d1 := d.new (o := .lst []) nb
    have e1 : KpL (MM p r c) H (upd H b (.lst [])) := KpL.of (same_upd nb)
    have t1 : Tr (New H) (upd H b (.lst [])) (bD []) (.ref b) := ⟨b, [], rfl, nb, upd_same, TrAll.nil⟩
    generalize upd H b (.lst []) = H1 at *
    refine ⟨_, rfl, p, L, 3, rfl, d1.pl, h2, h64, by decide, by decide, fun i H2 i0 i1 e2 pl2 => ?_⟩
    have d2 := d1.kp sep e2 pl2
    have e2 := d1.gone sep e2
    have t2 := New.kpl d e2 t1
    have e2 := e1.trans e2
    refine ⟨i, rfl, by omega, by omega, for_range (n := i.toNat) (fun j σ H' => ∃ (y7 : Option V) (b : Addr) (ss : List Stm) (m' k' : Int), σ = [some (.ref p), some (.int mood), some (.int l), some (.ref r), some (.ref c), some (.int low), some (.ref b), y7] ∧ KpL (MM p r c) H H' ∧ Drw H' p r c L m' k' many ∧ 0 ≤ m' ∧ m' + cntB ss = m ∧ okB many ss l ∧ Tr (New H) H' (bD ss) (.ref b))
      ⟨none, b, [], m, k, rfl, e2, d2, hm0, by simp [cntB], True.intro, t2⟩ (fun j σ H' hj h => ?_) (fun σ H' h => ?_)⟩
    · obtain ⟨y7, b, ss, m', k', rfl, e, d', hm', hc, ho, t⟩ := h
      refine ⟨_, rfl, r, _, 0, _, rfl, rfl, SqL.of d'.r, at_of (j := 0) (by decide) rfl, _, _, rfl, rfl, _, rfl, ite2 (fun g => ?_) (fun g => ?_)⟩
      · have g : m' > 0 := of_decide_eq_true g
        refine ⟨_, rfl, _, rfl, _, rfl, _, rfl, _, rfl, _, rfl, _, rfl, ?_⟩
        refine ⟨p, r, c, L, l, many, mood, m', k', low, rfl, sep, d', ⟨h2, h64, md0, md8, hl, hlow, by omega, by omega, by omega, hmany⟩, fun q2 ss2 H3 m2 k2 e3 d3 g0 hc2 ho2 t3 => ?_⟩
        have t := New.kpl d e3 t
        have e4 := e.trans e3
        have t3 := New.old e d' t3
        obtain ⟨xs, nb', hb', tx⟩ := t.lst
        obtain ⟨ys, nq2, hq2, ty⟩ := t3.lst
        have lx := tx.len
        have ly := ty.len
        rw [blkD_len] at lx ly
        have c1 := len_cntB ss
        have c2 := len_cntB ss2
        refine ⟨_, q2, xs, ys, rfl, rfl, hb', hq2, small100 (by omega), fun z nz => ?_⟩
        have e5 := e4.trans (KpL.of (M := MM p r c) (same_upd (o := .lst (xs ++ ys)) nz))
        refine ⟨_, z, ss ++ ss2, m2, k2, rfl, e5, d3.new nz, g0, by rw [cntB_append]; omega, okB_append ho ho2, z, xs ++ ys, rfl, e4.free d3.lst nz, upd_same, ?_⟩
        rw [blkD_append]
        exact (tx.append ty).same (same_upd nz)
      · exact ⟨_, b, ss, m', k', rfl, e, d', hm', hc, ho, t⟩
    · obtain ⟨y7, b, ss, m', k', rfl, e, d', hm', hc, ho, t⟩ := h
      exact ⟨_, rfl, q b ss H' m' k' e d' hm' hc ho t⟩

--SPLIT
theorem Stm.okd {many l : Nat} {b : List Stm} {x : Nat} (h : cntB b ≤ 8) : b.length ≤ 8 := Nat.le_trans (len_cntB b) h
set_option maxHeartbeats 2000000 in
theorem ok_piece_step (T : Top w K mg) (n : Nat) (G__law_piece : FnOk P w K mg base CX0 (2 * n + 3) T.a__law_piece T.d__law_piece ["_law_pool_here", "_law_mood", "_law_level", "_law_room", "_law_calls", "_law_low"] (spD 1 n))
    (G__law_block : FnOk P w K mg base CX0 (2 * n + 4) T.a__law_block T.d__law_block ["_law_pool_here", "_law_mood", "_law_level", "_law_room", "_law_calls", "_law_low"] (spD 0 n)) :
    FnOk P w K mg base CX0 (2 * n + 5) T.a__law_piece T.d__law_piece ["_law_pool_here", "_law_mood", "_law_level", "_law_room", "_law_calls", "_law_low"] (spD 1 (n + 1)) := by
  refine T.F__law_piece.ok sc__law_piece (fun vs H Q E h => ?_) (fun cdv A outer s H vs Q E hr h => ?_)
  · obtain ⟨p, r, c, L, l, many, mood, m, k, low, rfl, _⟩ := h
    rfl
  · obtain ⟨p, r, c, L, l, many, mood, m, k, low, rfl, sep, d, ⟨h2, h64, md0, md8, hl, hlow, hm0, hm8, hmn, hmany⟩, q⟩ := h
    refine ⟨_, (pss_cons (ps_set (i := 6) sc__law_piece.nd rfl (Or.inl rfl) (pe_call (ok__law_draw T) (hr.mono (by omega)) (by rfl) T.g__law_draw T.F__law_draw.kp (b__law_draw T) .nil pass0 (pa_cons (pv 0) (pa_cons pe_int pa_nil))))
      (C8.pss_cut (ps_if (PW.pt (pw_and (pt_cmpR op_gt (pv 6) pe_int (nomark _)) (pw_and (pt_cmpR op_lt (pv 6) pe_int (nomark _)) (pw_and1 (pt_cmpR op_gt (pv 2) pe_int (nomark _)))))) (pss_one (ps_set (i := 6) sc__law_piece.nd rfl (Or.inl rfl) (pe_op op_mod (pv 6) pe_int))) pss_nil)
      (C8.pss_cut (ps_if (PW.pt (pw_and (pt_cmpR op_eq (pv 6) pe_int (nomark _)) (pw_and1 (pt_cmpR op_lt (pe_ix (k_ixL K) (pv 3) pe_int (fun _ _ => rfl)) pe_int (nomark _))))) (pss_one (ps_set (i := 6) sc__law_piece.nd rfl (Or.inl rfl) pe_int)) pss_nil)
      (C8.pss_cut (ps_if (PW.pt (pw_and (pt_cmpR op_gt (pv 6) pe_int (nomark _)) (pw_and (pt_cmpR op_lt (pv 6) pe_int (nomark _)) (pw_and1 (PW.pt (pw_or (pt_cmpR op_lt (pe_ix (k_ixL K) (pv 4) pe_int (fun _ _ => rfl)) pe_int (nomark _)) (pw_or1 (pt_cmpR op_ge (pv 5) (pe_ix (k_ixL K) (pv 4) pe_int (fun _ _ => rfl)) (nomark _))))))))) (pss_one (ps_set (i := 6) sc__law_piece.nd rfl (Or.inl rfl) pe_int)) pss_nil)
      (pss_cons (ps_augS (pv 3) pe_int (k_getL K) pe_int ip_sub set_list)
      (pss_cons (ps_if (pt_cmpR op_lt (pv 6) pe_int (nomark _)) (pss_one (ps_ret (pe_lst (pa_cons (pe_call (ok__law_command T) (hr.mono (by omega)) (by rfl) T.g__law_command T.F__law_command.kp (b__law_command T) .nil pass0 (pa_cons (pv 0) (pa_cons (pv 1) pa_nil))) pa_nil)))) pss_nil)
      (pss_cons (ps_if (pt_cmpR op_eq (pv 6) pe_int (nomark _)) (pss_cons (ps_augS (pv 3) pe_int (k_getL K) pe_int ip_sub set_list)
        (pss_cons (ps_set (i := 7) sc__law_piece.nd rfl (Or.inl rfl) (pe_call (ok__law_pair T) (hr.mono (by omega)) (by rfl) T.g__law_pair T.F__law_pair.kp (b__law_pair T) .nil pass0 (pa_cons (pv 0) (pa_cons (pv 1) pa_nil))))
        (pss_cons (ps_set (i := 8) sc__law_piece.nd rfl (Or.inl rfl) (pe_lst pa_nil))
        (C8.pss_cut (ps_if (pt_cmpR op_gt (pe_ix (k_ixL K) (pv 3) pe_int (fun _ _ => rfl)) pe_int (nomark _)) (pss_one (ps_set (i := 8) sc__law_piece.nd rfl (Or.inl rfl) (pe_call G__law_piece (hr.mono (by omega)) (by rfl) T.g__law_piece T.F__law_piece.kp (b__law_piece T) .nil pass0 (pa_cons (pv 0) (pa_cons (pv 1) (pa_cons (pv 2) (pa_cons (pv 3) (pa_cons (pv 4) (pa_cons (pv 5) pa_nil))))))))) pss_nil)
        (pss_one (ps_ret (pe_op op_cat (pe_op op_cat (pe_slice (k_slL K) (pv 7) po_none (po_some pe_int)) (pv 8)) (pe_slice (k_slL K) (pv 7) (po_some pe_int) po_none)))))))) pss_nil)
      (pss_cons (ps_if (pt_cmpR op_lt (pv 6) pe_int (nomark _)) (pss_cons (ps_set (i := 9) sc__law_piece.nd rfl (Or.inl rfl) (pe_call G__law_block (hr.mono (by omega)) (by rfl) T.g__law_block T.F__law_block.kp (b__law_block T) .nil pass0 (pa_cons (pv 0) (pa_cons (pv 1) (pa_cons (pe_op op_add (pv 2) pe_int) (pa_cons (pv 3) (pa_cons (pv 4) (pa_cons pe_int pa_nil))))))))
        (pss_one (ps_ret (pe_lst (pa_cons (pe_tup (pa_cons pe_str (pa_cons (pv 9) (pa_cons (pe_call G__law_block (hr.mono (by omega)) (by rfl) T.g__law_block T.F__law_block.kp (b__law_block T) .nil pass0 (pa_cons (pv 0) (pa_cons (pv 1) (pa_cons (pe_op op_add (pv 2) pe_int) (pa_cons (pv 3) (pa_cons (pv 4) (pa_cons (pv 5) pa_nil))))))) pa_nil)))) pa_nil))))) pss_nil)
      (pss_cons (ps_if (pt_cmpR op_eq (pv 6) pe_int (nomark _)) (pss_one (ps_ret (pe_lst (pa_cons (pe_tup (pa_cons pe_str (pa_cons (pe_call G__law_block (hr.mono (by omega)) (by rfl) T.g__law_block T.F__law_block.kp (b__law_block T) .nil pass0 (pa_cons (pv 0) (pa_cons (pv 1) (pa_cons (pe_op op_add (pv 2) pe_int) (pa_cons (pv 3) (pa_cons (pv 4) (pa_cons pe_int pa_nil))))))) pa_nil))) pa_nil)))) pss_nil)
      (pss_cons (ps_if (pt_cmpR op_eq (pv 6) pe_int (nomark _)) (pss_one (ps_ret (pe_lst (pa_cons (pe_tup (pa_cons pe_str (pa_cons (pe_call G__law_block (hr.mono (by omega)) (by rfl) T.g__law_block T.F__law_block.kp (b__law_block T) .nil pass0 (pa_cons (pv 0) (pa_cons (pv 1) (pa_cons (pe_op op_add (pv 2) pe_int) (pa_cons (pv 3) (pa_cons (pv 4) (pa_cons (pv 5) pa_nil))))))) pa_nil))) pa_nil)))) pss_nil)
      (pss_cons (ps_if (pt_cmpR op_gt (pv 6) pe_int (nomark _)) (pss_one (ps_ret (pe_lst (pa_cons (pe_tup (pa_cons pe_str (pa_cons (pe_call (ok__law_draw T) (hr.mono (by omega)) (by rfl) T.g__law_draw T.F__law_draw.kp (b__law_draw T) .nil pass0 (pa_cons (pv 0) (pa_cons pe_int pa_nil))) pa_nil))) pa_nil)))) pss_nil)
      (pss_cons (ps_augS (pv 4) pe_int (k_getL K) pe_int ip_sub set_list)
      (pss_cons (ps_set (i := 10) sc__law_piece.nd rfl (Or.inl rfl) (pe_op op_add (pv 5) (pe_call (ok__law_draw T) (hr.mono (by omega)) (by rfl) T.g__law_draw T.F__law_draw.kp (b__law_draw T) .nil pass0 (pa_cons (pv 0) (pa_cons (pe_op op_sub (pe_ix (k_ixL K) (pv 4) pe_int (fun _ _ => rfl)) (pv 5)) pa_nil)))))
      (pss_cons (ps_set (i := 11) sc__law_piece.nd rfl (Or.inl rfl) (pe_cmpR op_eq (pe_call (ok__law_draw T) (hr.mono (by omega)) (by rfl) T.g__law_draw T.F__law_draw.kp (b__law_draw T) .nil pass0 (pa_cons (pv 0) (pa_cons pe_int pa_nil))) pe_int (nomark _)))
      (pss_cons (ps_set (i := 9) sc__law_piece.nd rfl (Or.inl rfl) (pe_call G__law_block (hr.mono (by omega)) (by rfl) T.g__law_block T.F__law_block.kp (b__law_block T) .nil pass0 (pa_cons (pv 0) (pa_cons (pv 1) (pa_cons (pe_op op_add (pv 2) pe_int) (pa_cons (pv 3) (pa_cons (pv 4) (pa_cons (pv 5) pa_nil))))))))
      (pss_one (ps_ret (pe_lst (pa_cons (pe_tup (pa_cons pe_str (pa_cons (pv 10) (pa_cons (pv 11) (pa_cons (pe_lst (pa_cons (pv 9) (pa_cons (pe_call G__law_block (hr.mono (by omega)) (by rfl) T.g__law_block T.F__law_block.kp (b__law_block T) .nil pass0 (pa_cons (pv 0) (pa_cons (pv 1) (pa_cons (pe_op op_add (pv 2) pe_int) (pa_cons (pv 3) (pa_cons (pv 4) (pa_cons (pv 5) pa_nil))))))) pa_nil))) pa_nil))))) pa_nil))))))))))))))))))), ?_⟩
    refine ⟨_, rfl, p, L, 17, rfl, d.pl, h2, h64, by decide, by decide, fun kd H1 k0 k1 e1 pl1 => ?_⟩
    have d1 := d.kp sep e1 pl1
    have e1 := d.gone sep e1
    have hfin : ∀ (J : Hp) (x : V) (z : Stm) (m' k' : Int), KpL (MM p r c) H J → Drw J p r c L m' k' many → 0 ≤ m' → m' + z.cnt = m → z.ok many l → Tr (New H) J z.d x → ∀ a, J a = none → Q (.ref a) (upd J a (.lst [x])) := by
      intro J x z m' k' e dJ g0 gc go t a na
      refine q a [z] _ m' k' (e.trans (KpL.of (same_upd na))) (dJ.new na) g0 (by simp only [cntB]; omega) ⟨go, True.intro⟩ ⟨a, _, rfl, e.free dJ.lst na, upd_same, ?_⟩
      exact ⟨x, [], rfl, t.same (same_upd na), rfl⟩
    -- the kind, level by level
    refine ⟨fun σ J => J = H1 ∧ ∃ z : Int, 0 ≤ z ∧ z < 17 ∧ (6 < z → z < 15 → l ≤ 2) ∧ σ = [some (.ref p), some (.int mood), some (.int l), some (.ref r), some (.ref c), some (.int low), some (.int z), none, none, none, none, none], ?_, fun σ J hm => ?_⟩
    · refine ⟨_, rfl, _, _, rfl, rfl, _, rfl, ite2 (fun g1 => ?_) (fun g1 => ?_)⟩
      · refine ⟨_, rfl, _, _, rfl, rfl, _, rfl, ite2 (fun g2 => ?_) (fun g2 => ?_)⟩
        · refine ⟨_, rfl, _, _, rfl, rfl, _, rfl, ite2 (fun g3 => ?_) (fun g3 => ?_)⟩
          · refine ⟨_, rfl, _, _, rfl, rfl, (show (0 : Int) < 6 by decide), rfl, _, ?_, ?_, ?_, rfl⟩
            · exact Int.emod_nonneg _ (by decide)
            · have := Int.emod_lt_of_pos kd (show (0 : Int) < 6 by decide)
              omega
            · have := Int.emod_lt_of_pos kd (show (0 : Int) < 6 by decide)
              omega
          · have g3 : ¬ (l : Int) > 2 := fun e => g3 (decide_eq_true e)
            exact ⟨rfl, kd, k0, k1, fun _ _ => by omega, rfl⟩
        · have g2 : ¬ kd < 15 := fun e => g2 (decide_eq_true e)
          exact ⟨rfl, kd, k0, k1, fun _ _ => by omega, rfl⟩
      · have g1 : ¬ kd > 6 := fun e => g1 (decide_eq_true e)
        exact ⟨rfl, kd, k0, k1, fun _ _ => by omega, rfl⟩
    obtain ⟨rfl, z1, k0, k1, q1, rfl⟩ := hm
    refine ⟨fun σ J' => J' = J ∧ ∃ z : Int, 0 ≤ z ∧ z < 17 ∧ (6 < z → z < 15 → l ≤ 2) ∧ (z = 6 → 2 ≤ m) ∧ σ = [some (.ref p), some (.int mood), some (.int l), some (.ref r), some (.ref c), some (.int low), some (.int z), none, none, none, none, none], ?_, fun σ J' hm => ?_⟩
    · refine ⟨_, rfl, rfl, _, rfl, ite2 (fun g1 => ?_) (fun g1 => ?_)⟩
      · refine ⟨_, rfl, r, _, 0, _, rfl, rfl, SqL.of d1.r, at_of (j := 0) (by decide) rfl, _, _, rfl, rfl, _, rfl, ite2 (fun g2 => ?_) (fun g2 => ?_)⟩
        · exact ⟨rfl, 0, by decide, by decide, fun _ _ => by omega, fun _ => by omega, rfl⟩
        · have g2 : ¬ m < 2 := fun e => g2 (decide_eq_true e)
          exact ⟨rfl, z1, k0, k1, q1, fun _ => by omega, rfl⟩
      · have g1 := dec_int g1
        exact ⟨rfl, z1, k0, k1, q1, fun e => absurd e g1, rfl⟩
    obtain ⟨rfl, z2, k0, k1, q1, q2, rfl⟩ := hm
    refine ⟨fun σ J'' => J'' = J' ∧ ∃ z : Int, 0 ≤ z ∧ z < 17 ∧ (6 < z → z < 15 → l ≤ 2) ∧ (z = 6 → 2 ≤ m) ∧ (10 < z → z < 15 → low < many) ∧ σ = [some (.ref p), some (.int mood), some (.int l), some (.ref r), some (.ref c), some (.int low), some (.int z), none, none, none, none, none], ?_, fun σ J'' hm => ?_⟩
    · have zero : (fun (σ : List (Option V)) (J'' : Hp) => J'' = J' ∧ ∃ z : Int, 0 ≤ z ∧ z < 17 ∧ (6 < z → z < 15 → l ≤ 2) ∧ (z = 6 → 2 ≤ m) ∧ (10 < z → z < 15 → low < many) ∧ σ = [some (.ref p), some (.int mood), some (.int l), some (.ref r), some (.ref c), some (.int low), some (.int z), none, none, none, none, none]) [some (.ref p), some (.int mood), some (.int l), some (.ref r), some (.ref c), some (.int low), some (.int 0), none, none, none, none, none] J' := ⟨rfl, 0, by decide, by decide, fun _ _ => by omega, fun _ => by omega, fun _ _ => by omega, rfl⟩
      refine ⟨_, rfl, _, _, rfl, rfl, _, rfl, ite2 (fun g1 => ?_) (fun g1 => ?_)⟩
      · refine ⟨_, rfl, _, _, rfl, rfl, _, rfl, ite2 (fun g2 => ?_) (fun g2 => ?_)⟩
        · refine ⟨_, rfl, c, _, 0, _, rfl, rfl, SqL.of d1.c, at_of (j := 0) (by decide) rfl, _, _, rfl, rfl, _, rfl, ite2 (fun g3 => ?_) (fun g3 => ?_)⟩
          · exact zero
          · refine ⟨_, rfl, _, rfl, c, _, 1, _, rfl, rfl, SqL.of d1.c, at_of (j := 1) (by decide) rfl, _, _, rfl, rfl, _, rfl, ite2 (fun g4 => ?_) (fun g4 => ?_)⟩
            · exact zero
            · have g4 : ¬ low ≥ (many : Int) := fun e => g4 (decide_eq_true e)
              exact ⟨rfl, z2, k0, k1, q1, q2, fun _ _ => by omega, rfl⟩
        · have g2 : ¬ z2 < 15 := fun e => g2 (decide_eq_true e)
          exact ⟨rfl, z2, k0, k1, q1, q2, fun _ _ => by omega, rfl⟩
      · have g1 : ¬ z2 > 10 := fun e => g1 (decide_eq_true e)
        exact ⟨rfl, z2, k0, k1, q1, q2, fun _ _ => by omega, rfl⟩
    obtain ⟨rfl, z, k0, k1, q1, q2, q3, rfl⟩ := hm
    -- a room less
    refine ⟨_, rfl, r, _, 0, .int m, rfl, rfl, by decide, SqL.of d1.r, rfl, m, 1, rfl, rfl, r, _, 0, 0, rfl, rfl, d1.r, rfl, ?_⟩
    generalize hJ : upd J'' r _ = H2
    have e2 : KpL (MM p r c) H H2 := by
      rw [← hJ]
      exact e1.put (.inr (.inl rfl)) ⟨_, d.r⟩
    have d2 : Drw H2 p r c L (m - 1) k many := by
      rw [← hJ]
      exact d1.room sep (m - 1)
    clear hJ d1 e1 pl1
    have lvl : ((l : Nat) : Int) + 1 = ((l + 1 : Nat) : Int) := rfl
    refine ⟨_, rfl, _, _, rfl, rfl, _, rfl, ite2 (fun g => ?_) (fun g6 => ?_)⟩
    · refine ⟨_, rfl, _, rfl, p, L, mood, rfl, d2.pl, h2, h64, md0, md8, fun qc cm H3 ok e3 pl3 nq hq => ⟨small100 (n := 1) (by decide), fun a na => ?_⟩⟩
      exact hfin H3 (.ref qc) (.cmd cm) (m - 1) k (e2.trans (d2.gone sep e3)) (d2.kp sep e3 pl3) (by omega) (by simp only [Stm.cnt]; omega) ok ⟨qc, _, rfl, hq, .cons rfl (TrAll.ofInts _)⟩ a na
    have g6 : ¬ z < 6 := fun e => g6 (decide_eq_true e)
    refine ⟨_, rfl, rfl, _, rfl, ite2 (fun g => ?_) (fun g7 => ?_)⟩
    · have q2 := q2 (dec_int' g)
      refine ⟨_, rfl, r, _, 0, .int (m - 1), rfl, rfl, by decide, SqL.of d2.r, rfl, m - 1, 1, rfl, rfl, r, _, 0, 0, rfl, rfl, d2.r, rfl, ?_⟩
      generalize hJ : upd H2 r _ = H3
      have e3 : KpL (MM p r c) H H3 := by
        rw [← hJ]
        exact e2.put (.inr (.inl rfl)) ⟨_, d.r⟩
      have d3 : Drw H3 p r c L (m - 1 - 1) k many := by
        rw [← hJ]
        exact d2.room sep (m - 1 - 1)
      clear hJ
      refine ⟨_, rfl, _, rfl, p, L, mood, rfl, d3.pl, h2, h64, fun qa c1 c2 H4 ok1 ok2 e4 pl4 t4 => ?_⟩
      have d4 := d3.kp sep e4 pl4
      have t4 := New.old e3 d3 t4
      have e4 := e3.trans (d3.gone sep e4)
      refine ⟨small100 (n := 0) (by decide), fun b nb => ?_⟩
      have d5 := d4.new (o := .lst []) nb
      have e5 : KpL (MM p r c) H (upd H4 b (.lst [])) := e4.trans (KpL.of (same_upd nb))
      have tb : Tr (New H) (upd H4 b (.lst [])) (bD []) (.ref b) := ⟨b, [], rfl, e4.free d4.lst nb, upd_same, TrAll.nil⟩
      have t5 := t4.same (same_upd (o := .lst []) nb)
      generalize upd H4 b (.lst []) = H5 at *
      refine ⟨fun σ J => ∃ (b : Addr) (ss : List Stm) (m' k' : Int), σ = [some (.ref p), some (.int mood), some (.int l), some (.ref r), some (.ref c), some (.int low), some (.int z), some (.ref qa), some (.ref b), none, none, none] ∧ KpL (MM p r c) H J ∧ Drw J p r c L m' k' many ∧ 0 ≤ m' ∧ m' + cntB ss = m - 2 ∧ okB many ss l ∧ Tr (New H) J (bD ss) (.ref b) ∧ Tr (New H) J (.list [c1.d, c2.d]) (.ref qa), ?_, fun σ J hm => ?_⟩
      · refine ⟨_, rfl, r, _, 0, _, rfl, rfl, SqL.of d5.r, at_of (j := 0) (by decide) rfl, _, _, rfl, rfl, _, rfl, ite2 (fun g => ?_) (fun g => ?_)⟩
        · have g : m - 1 - 1 > 0 := of_decide_eq_true g
          refine ⟨_, rfl, _, rfl, _, rfl, _, rfl, _, rfl, _, rfl, p, r, c, L, l, many, mood, m - 1 - 1, k, low, rfl, sep, d5, ⟨h2, h64, md0, md8, hl, hlow, by omega, by omega, by omega, hmany⟩, fun q6 ss H6 m6 k6 e6 d6 g0 gc go t6 => ?_⟩
          exact ⟨q6, ss, m6, k6, rfl, e5.trans e6, d6, g0, by omega, go, New.old e5 d5 t6, New.kpl d e6 t5⟩
        · exact ⟨b, [], m - 1 - 1, k, rfl, e5, d5, by omega, by simp only [cntB]; omega, True.intro, tb, t5⟩
      · obtain ⟨b, ss, m6, k6, rfl, e6, d6, g0, gc, go, t6, t7⟩ := hm
        obtain ⟨xs, nb6, hb6, tx⟩ := t6.lst
        obtain ⟨ps, nq, hq, tp⟩ := t7.lst
        obtain ⟨x1, _, rfl, tx1, x2, _, rfl, tx2, rfl⟩ := tp
        have lx := tx.len
        rw [blkD_len] at lx
        have c3 := len_cntB ss
        refine ⟨_, rfl, _, rfl, qa, _, rfl, SqL.of hq, fun u nu => ?_⟩
        have s7 := same_upd (o := .lst (cutV [x1, x2] none (some 1))) nu
        have hu : (upd J u (.lst (cutV [x1, x2] none (some 1)))) u = some (.lst [x1]) := by rw [upd_same, show cutV [x1, x2] none (some 1) = [x1] from cut_to (n := 1)]
        generalize upd J u _ = J7 at *
        refine ⟨_, rfl, u, b, _, _, rfl, rfl, hu, s7 _ _ hb6, small100 (by rw [List.length_singleton]; omega), fun v nv => ?_⟩
        have s8 := s7.trans (same_upd (o := .lst ([x1] ++ xs)) nv)
        have hv : (upd J7 v (.lst ([x1] ++ xs))) v = some (.lst ([x1] ++ xs)) := upd_same
        generalize upd J7 v _ = J8 at *
        refine ⟨_, rfl, _, rfl, qa, _, rfl, SqL.of (s8 _ _ hq), fun y ny => ?_⟩
        have s9 := same_upd (o := .lst (cutV [x1, x2] (some 1) none)) ny
        have hy : (upd J8 y (.lst (cutV [x1, x2] (some 1) none))) y = some (.lst [x2]) := by rw [upd_same, cut_from1]
        generalize upd J8 y _ = J9 at *
        refine ⟨v, y, _, _, rfl, rfl, s9 _ _ hv, hy, small100 (by rw [List.length_append, List.length_singleton, List.length_singleton]; omega), fun a na => ?_⟩
        have s10 := s8.trans (s9.trans (same_upd (o := .lst ([x1] ++ xs ++ [x2])) na))
        refine q a ([.cmd c1] ++ ss ++ [.cmd c2]) _ m6 k6 (e6.trans (KpL.of s10)) (d6.same s10) g0 (by rw [cntB_append, cntB_append]; simp only [cntB, Stm.cnt]; omega) (okB_append (a := [.cmd c1] ++ ss) (b := [.cmd c2]) (okB_append (a := [.cmd c1]) ⟨ok1, True.intro⟩ go) ⟨ok2, True.intro⟩) ⟨a, _, rfl, (e6.trans (KpL.of (s8.trans s9))).free (d6.same (s8.trans s9)).lst na, upd_same, ?_⟩
        rw [blkD_append, blkD_append]
        exact ((TrAll.one tx1).append tx).append (TrAll.one tx2) |>.same s10
    have g7 : ¬ z = 6 := dec_int g7
    refine ⟨_, rfl, _, _, rfl, rfl, _, rfl, ite2 (fun g => ?_) (fun g9 => ?_)⟩
    · have g : z < 9 := of_decide_eq_true g
      have hl2 := q1 (by omega) (by omega)
      refine ⟨_, rfl, _, rfl, _, rfl, _, _, rfl, rfl, _, rfl, _, rfl, p, r, c, L, l + 1, many, mood, m - 1, k, 0, rfl, sep, d2, ⟨h2, h64, md0, md8, by omega, by omega, by omega, by omega, by omega, hmany⟩, fun b1 s1 H3 m3 k3 e3 d3 g03 gc3 go3 t3 => ?_⟩
      have t3 := New.old e2 d2 t3
      have e3 := e2.trans e3
      refine ⟨_, rfl, _, rfl, _, rfl, _, rfl, _, _, rfl, rfl, _, rfl, _, rfl, _, rfl, p, r, c, L, l + 1, many, mood, m3, k3, low, rfl, sep, d3, ⟨h2, h64, md0, md8, by omega, hlow, by omega, by omega, by omega, hmany⟩, fun b2 s2 H4 m4 k4 e4 d4 g04 gc4 go4 t4 => ?_⟩
      have t3 := New.kpl d e4 t3
      have t4 := New.old e3 d3 t4
      have e4 := e3.trans e4
      refine ⟨small100 (n := 3) (by decide), fun t nt => ⟨small100 (n := 1) (by decide), fun a na => ?_⟩⟩
      have st := same_upd (o := .tup [V.str "either", V.ref b1, V.ref b2]) nt
      exact hfin _ (.ref t) (.either s1 s2) m4 k4 (e4.trans (KpL.of st)) (d4.same st) g04 (by simp only [Stm.cnt]; omega) ⟨by omega, ⟨Stm.okd (l := 0) (many := 0) (x := 0) (by omega), go3⟩, Stm.okd (l := 0) (many := 0) (x := 0) (by omega), go4⟩ ⟨t, _, rfl, upd_same, .cons rfl (.cons (t3.same st) (.cons (t4.same st) .nil))⟩ a na
    have g9 : ¬ z < 9 := fun e => g9 (decide_eq_true e)
    refine ⟨_, rfl, rfl, _, rfl, ite2 (fun g => ?_) (fun g10 => ?_)⟩
    · have g : z = 9 := dec_int' g
      have hl2 := q1 (by omega) (by omega)
      refine ⟨_, rfl, _, rfl, _, rfl, _, _, rfl, rfl, _, rfl, _, rfl, p, r, c, L, l + 1, many, mood, m - 1, k, 0, rfl, sep, d2, ⟨h2, h64, md0, md8, by omega, by omega, by omega, by omega, by omega, hmany⟩, fun b1 s1 H3 m3 k3 e3 d3 g03 gc3 go3 t3 => ?_⟩
      have t3 := New.old e2 d2 t3
      have e3 := e2.trans e3
      refine ⟨small100 (n := 2) (by decide), fun t nt => ⟨small100 (n := 1) (by decide), fun a na => ?_⟩⟩
      have st := same_upd (o := .tup [V.str "again", V.ref b1]) nt
      exact hfin _ (.ref t) (.again s1) m3 k3 (e3.trans (KpL.of st)) (d3.same st) g03 (by simp only [Stm.cnt]; omega) ⟨by omega, Stm.okd (l := 0) (many := 0) (x := 0) (by omega), go3⟩ ⟨t, _, rfl, upd_same, .cons rfl (.cons (t3.same st) .nil)⟩ a na
    have g10 : ¬ z = 9 := dec_int g10
    refine ⟨_, rfl, rfl, _, rfl, ite2 (fun g => ?_) (fun g11 => ?_)⟩
    · have g : z = 10 := dec_int' g
      have hl2 := q1 (by omega) (by omega)
      refine ⟨_, rfl, _, rfl, _, rfl, _, _, rfl, rfl, _, rfl, _, rfl, _, rfl, p, r, c, L, l + 1, many, mood, m - 1, k, low, rfl, sep, d2, ⟨h2, h64, md0, md8, by omega, hlow, by omega, by omega, by omega, hmany⟩, fun b1 s1 H3 m3 k3 e3 d3 g03 gc3 go3 t3 => ?_⟩
      have t3 := New.old e2 d2 t3
      have e3 := e2.trans e3
      refine ⟨small100 (n := 2) (by decide), fun t nt => ⟨small100 (n := 1) (by decide), fun a na => ?_⟩⟩
      have st := same_upd (o := .tup [V.str "keep", V.ref b1]) nt
      exact hfin _ (.ref t) (.keep s1) m3 k3 (e3.trans (KpL.of st)) (d3.same st) g03 (by simp only [Stm.cnt]; omega) ⟨by omega, Stm.okd (l := 0) (many := 0) (x := 0) (by omega), go3⟩ ⟨t, _, rfl, upd_same, .cons rfl (.cons (t3.same st) .nil)⟩ a na
    have g11 : ¬ z = 10 := dec_int g11
    refine ⟨_, rfl, _, _, rfl, rfl, _, rfl, ite2 (fun g => ?_) (fun g15 => ?_)⟩
    · refine ⟨_, rfl, p, L, 2, rfl, d2.pl, h2, h64, by decide, by decide, fun w H3 w0 w1 e3 pl3 => ⟨small100 (n := 2) (by decide), fun t nt => ⟨small100 (n := 1) (by decide), fun a na => ?_⟩⟩⟩
      have st := same_upd (o := .tup [V.str "end", V.int w]) nt
      have d3 := d2.kp sep e3 pl3
      have e3 := e2.trans (d2.gone sep e3)
      refine hfin _ (.ref t) (.fin (decide (w = 1))) (m - 1) k (e3.trans (KpL.of st)) (d3.same st) (by omega) (by simp only [Stm.cnt]; omega) True.intro ⟨t, _, rfl, upd_same, .cons rfl (.cons ?_ .nil)⟩ a na
      rcases (show w = 0 ∨ w = 1 by omega) with rfl | rfl <;> rfl
    have g15 : ¬ z > 14 := fun e => g15 (decide_eq_true e)
    have hl2 := q1 (by omega) (by omega)
    have hlm := q3 (by omega) (by omega)
    refine ⟨_, rfl, c, _, 0, .int k, rfl, rfl, by decide, SqL.of d2.c, rfl, k, 1, rfl, rfl, c, _, 0, 0, rfl, rfl, d2.c, rfl, ?_⟩
    generalize hJ : upd H2 c _ = H3
    have e3 : KpL (MM p r c) H H3 := by
      rw [← hJ]
      exact e2.put (.inr (.inr rfl)) ⟨_, d.c⟩
    have d3 : Drw H3 p r c L (m - 1) (k - 1) many := by
      rw [← hJ]
      exact d2.calls sep (k - 1)
    clear hJ
    refine ⟨_, rfl, _, rfl, _, rfl, c, _, 1, _, rfl, rfl, SqL.of d3.c, at_of (j := 1) (by decide) rfl, _, rfl, _, _, rfl, rfl, p, L, _, rfl, d3.pl, h2, h64, by omega, by omega, fun gl H4 w0 w1 e4 pl4 => ?_⟩
    have d4 := d3.kp sep e4 pl4
    have e4 := e3.trans (d3.gone sep e4)
    refine ⟨_, _, rfl, rfl, ?_⟩
    refine ⟨_, rfl, p, L, 3, rfl, d4.pl, h2, h64, by decide, by decide, fun sv H5 v0 v1 e5 pl5 => ?_⟩
    have d5 := d4.kp sep e5 pl5
    have e5 := e4.trans (d4.gone sep e5)
    refine ⟨rfl, ?_⟩
    generalize decide (V.int sv = V.int 0) = sb
    obtain ⟨pn, hpn⟩ : ∃ pn : Nat, low + gl = (pn : Int) := ⟨(low + gl).toNat, by omega⟩
    dsimp only
    rw [hpn]
    refine ⟨_, rfl, _, rfl, _, rfl, _, _, rfl, rfl, _, rfl, _, rfl, _, rfl, p, r, c, L, l + 1, many, mood, m - 1, k - 1, low, rfl, sep, d5, ⟨h2, h64, md0, md8, by omega, hlow, by omega, by omega, by omega, hmany⟩, fun b1 s1 H6 m6 k6 e6 d6 g06 gc6 go6 t6 => ?_⟩
    have t6 := New.old e5 d5 t6
    have e6 := e5.trans e6
    refine ⟨_, rfl, _, rfl, _, rfl, _, rfl, _, rfl, _, rfl, _, _, rfl, rfl, _, rfl, _, rfl, _, rfl, p, r, c, L, l + 1, many, mood, m6, k6, low, rfl, sep, d6, ⟨h2, h64, md0, md8, by omega, hlow, by omega, by omega, by omega, hmany⟩, fun b2 s2 H7 m7 k7 e7 d7 g07 gc7 go7 t7 => ?_⟩
    have t6 := New.kpl d e7 t6
    have t7 := New.old e6 d6 t7
    have e7 := e6.trans e7
    refine ⟨small100 (n := 2) (by decide), fun u nu => ⟨small100 (n := 4) (by decide), fun t nt => ⟨small100 (n := 1) (by decide), fun a na => ?_⟩⟩⟩
    have s8 := same_upd (o := .lst [V.ref b1, V.ref b2]) nu
    have hu : (upd H7 u (.lst [V.ref b1, V.ref b2])) u = some (.lst [V.ref b1, V.ref b2]) := upd_same
    have nu' := e7.free d7.lst nu
    generalize upd H7 u (.lst [V.ref b1, V.ref b2]) = H8 at *
    have st := same_upd (o := .tup [V.str "call", V.int pn, V.bl sb, V.ref u]) nt
    have s9 := s8.trans st
    exact hfin _ (.ref t) (.call pn sb s1 s2) m7 k7 (e7.trans (KpL.of s9)) (d7.same s9) g07 (by simp only [Stm.cnt]; omega) ⟨by omega, by omega, ⟨Stm.okd (l := 0) (many := 0) (x := 0) (by omega), go6⟩, Stm.okd (l := 0) (many := 0) (x := 0) (by omega), go7⟩
      ⟨t, _, rfl, upd_same, .cons rfl (.cons rfl (.cons rfl (.cons ⟨u, _, rfl, nu', st _ _ hu, .cons (t6.same s9) (.cons (t7.same s9) .nil)⟩ .nil)))⟩ a na
theorem none_piece (T : Top w K mg) : FnOk P w K mg base CX0 3 T.a__law_piece T.d__law_piece ["_law_pool_here", "_law_mood", "_law_level", "_law_room", "_law_calls", "_law_low"] (spD 1 0) := by
  have no : ∀ vs H Q E, ¬ spD 1 0 vs H Q E := fun vs H Q E ⟨_, _, _, _, _, _, _, m, _, _, _, _, _, ⟨_, _, _, _, _, _, h1, _, h2, _⟩, _⟩ => by omega
  exact ⟨fun vs H Q E h => absurd h (no vs H Q E), fun A outer s H args us vs Q E _ _ _ _ h => absurd h (no vs H Q E)⟩
theorem all_piece (T : Top w K mg) : ∀ n : Nat, FnOk P w K mg base CX0 (2 * n + 3) T.a__law_piece T.d__law_piece ["_law_pool_here", "_law_mood", "_law_level", "_law_room", "_law_calls", "_law_low"] (spD 1 n)
  | 0 => none_piece T
  | n + 1 => ok_piece_step T n (all_piece T n) (ok_block_step T n (all_piece T n))
theorem ok__law_piece (T : Top w K mg) : FnOk P w K mg base CX0 19 T.a__law_piece T.d__law_piece ["_law_pool_here", "_law_mood", "_law_level", "_law_room", "_law_calls", "_law_low"] (spD 1 8) := all_piece T 8

--SPLIT
def sp__law_around : Sp := fun vs H Q _ => ∃ (p r c : Addr) (L many : Nat) (mood m k : Int), vs = [.ref p, .int mood, .ref r, .ref c] ∧ Sep p r c ∧ Drw H p r c L m k many ∧ (2 ≤ L ∧ L ≤ 64 ∧ 0 ≤ mood ∧ mood < 8 ∧ 4 ≤ m ∧ 1 ≤ many ∧ many ≤ 3) ∧
  ∀ (q : Addr) (ss : List Stm) (H' : Hp) (m' k' : Int), KpL (MM p r c) H H' → Drw H' p r c L m' k' many → 0 ≤ m' → m' + cntB ss = m → okB many ss 0 → Tr (New H) H' (bD ss) (.ref q) → Q (.ref q) H'
theorem ok__law_around (T : Top w K mg) : FnOk P w K mg base CX0 3 T.a__law_around T.d__law_around ["_law_pool_here", "_law_mood", "_law_room", "_law_calls"] sp__law_around := by
  refine T.F__law_around.ok sc__law_around (fun vs H Q E h => ?_) (fun cdv A outer s H vs Q E hr h => ?_)
  · obtain ⟨p, r, c, L, many, mood, m, k, rfl, _⟩ := h
    rfl
  · obtain ⟨p, r, c, L, many, mood, m, k, rfl, sep, d, ⟨h2, h64, md0, md8, hm4, hm1, hm3⟩, q⟩ := h
    refine ⟨_, (pss_cons (ps_augS (pv 2) pe_int (k_getL K) pe_int ip_sub set_list)
      (pss_cons (ps_augS (pv 3) pe_int (k_getL K) pe_int ip_sub set_list)
      (pss_cons (ps_set (i := 4) sc__law_around.nd rfl (Or.inl rfl) (pe_call (ok__law_draw T) (hr.mono (by decide)) (by rfl) T.g__law_draw T.F__law_draw.kp (b__law_draw T) .nil pass0 (pa_cons (pv 0) (pa_cons (pe_ix (k_ixL K) (pv 3) pe_int (fun _ _ => rfl)) pa_nil))))
      (pss_cons (ps_set (i := 5) sc__law_around.nd rfl (Or.inl rfl) (pe_cmpR op_eq (pe_call (ok__law_draw T) (hr.mono (by decide)) (by rfl) T.g__law_draw T.F__law_draw.kp (b__law_draw T) .nil pass0 (pa_cons (pv 0) (pa_cons pe_int pa_nil))) pe_int (nomark _)))
      (pss_cons (ps_set (i := 6) sc__law_around.nd rfl (Or.inl rfl) (pe_call (ok__law_draw T) (hr.mono (by decide)) (by rfl) T.g__law_draw T.F__law_draw.kp (b__law_draw T) .nil pass0 (pa_cons (pv 0) (pa_cons pe_int pa_nil))))
      (pss_cons (ps_set (i := 7) sc__law_around.nd rfl (Or.inl rfl) (pe_lst (pa_cons (pe_call (ok__law_command T) hr (by rfl) T.g__law_command T.F__law_command.kp (b__law_command T) .nil pass0 (pa_cons (pv 0) (pa_cons (pv 1) pa_nil))) (pa_cons (pe_call (ok__law_command T) hr (by rfl) T.g__law_command T.F__law_command.kp (b__law_command T) .nil pass0 (pa_cons (pv 0) (pa_cons (pv 1) pa_nil))) pa_nil))))
      (C8.pss_cut (ps_if (pt_cmpR op_eq (pe_call (ok__law_draw T) (hr.mono (by decide)) (by rfl) T.g__law_draw T.F__law_draw.kp (b__law_draw T) .nil pass0 (pa_cons (pv 0) (pa_cons pe_int pa_nil))) pe_int (nomark _)) (pss_one (ps_set (i := 7) sc__law_around.nd rfl (Or.inl rfl) (pe_call (ok__law_pair T) hr (by rfl) T.g__law_pair T.F__law_pair.kp (b__law_pair T) .nil pass0 (pa_cons (pv 0) (pa_cons (pv 1) pa_nil))))) pss_nil)
      (pss_cons (ps_set (i := 8) sc__law_around.nd rfl (Or.inl rfl) (pe_lst (pa_cons (pe_lst pa_nil) (pa_cons (pe_lst (pa_cons (pe_ix (k_ixL K) (pv 7) pe_int (fun _ _ => rfl)) (pa_cons (pe_tup (pa_cons pe_str (pa_cons (pv 4) (pa_cons (pv 5) (pa_cons (pe_lst (pa_cons (pe_lst pa_nil) (pa_cons (pe_lst pa_nil) pa_nil))) pa_nil))))) (pa_cons (pe_ix (k_ixL K) (pv 7) pe_int (fun _ _ => rfl)) pa_nil)))) pa_nil))))
      (pss_one (ps_ret (pe_lst (pa_cons (pe_tup (pa_cons pe_str (pa_cons (pe_ix (k_ixL K) (pv 8) (pv 6) (fun _ _ => rfl)) (pa_cons (pe_ix (k_ixL K) (pv 8) (pe_op op_sub pe_int (pv 6)) (fun _ _ => rfl)) pa_nil)))) pa_nil)))))))))))), ?_⟩
    refine ⟨_, rfl, r, _, 0, .int m, rfl, rfl, by decide, SqL.of d.r, rfl, m, 4, rfl, rfl, r, _, 0, 0, rfl, rfl, d.r, rfl, ?_⟩
    generalize hJ : upd H r _ = H1
    have e1 : KpL (MM p r c) H H1 := by
      rw [← hJ]
      exact KpL.refl.put (.inr (.inl rfl)) ⟨_, d.r⟩
    have d1 : Drw H1 p r c L (m - 4) k many := by
      rw [← hJ]
      exact d.room sep (m - 4)
    clear hJ
    refine ⟨_, rfl, c, _, 0, .int k, rfl, rfl, by decide, SqL.of d1.c, rfl, k, 1, rfl, rfl, c, _, 0, 0, rfl, rfl, d1.c, rfl, ?_⟩
    generalize hJ : upd H1 c _ = H2
    have e2 : KpL (MM p r c) H H2 := by
      rw [← hJ]
      exact e1.put (.inr (.inr rfl)) ⟨_, d.c⟩
    have d2 : Drw H2 p r c L (m - 4) (k - 1) many := by
      rw [← hJ]
      exact d1.calls sep (k - 1)
    clear hJ
    refine ⟨_, rfl, _, rfl, c, _, 1, _, rfl, rfl, SqL.of d2.c, at_of (j := 1) (by decide) rfl, p, L, _, rfl, d2.pl, h2, h64, by omega, by omega, fun gl H3 w0 w1 e3 pl3 => ?_⟩
    have d3 := d2.kp sep e3 pl3
    have e3 := e2.trans (d2.gone sep e3)
    refine ⟨_, rfl, p, L, 3, rfl, d3.pl, h2, h64, by decide, by decide, fun sv H4 v0 v1 e4 pl4 => ?_⟩
    have d4 := d3.kp sep e4 pl4
    have e4 := e3.trans (d3.gone sep e4)
    refine ⟨rfl, ?_⟩
    generalize decide (V.int sv = V.int 0) = sb
    obtain ⟨pn, hpn⟩ : ∃ pn : Nat, gl = (pn : Int) := ⟨gl.toNat, by omega⟩
    subst hpn
    refine ⟨_, rfl, p, L, 2, rfl, d4.pl, h2, h64, by decide, by decide, fun at_ H5 a0 a1 e5 pl5 => ?_⟩
    have d5 := d4.kp sep e5 pl5
    have e5 := e4.trans (d4.gone sep e5)
    refine ⟨_, rfl, _, rfl, p, L, mood, rfl, d5.pl, h2, h64, md0, md8, fun q1 c1 H6 ok1 e6 pl6 nq1 hq1 => ?_⟩
    have d6 := d5.kp sep e6 pl6
    have nq1 := e5.free d5.lst nq1
    have e6 := e5.trans (d5.gone sep e6)
    refine ⟨_, rfl, _, rfl, p, L, mood, rfl, d6.pl, h2, h64, md0, md8, fun q2 c2 H7 ok2 e7 pl7 nq2 hq2 => ?_⟩
    have d7 := d6.kp sep e7 pl7
    have e67 := d6.gone sep e7
    have e7 := e6.trans e67
    refine ⟨small100 (n := 2) (by decide), fun b nb => ?_⟩
    have t8 : Tr (New H) (upd H7 b (.lst [V.ref q1, V.ref q2])) (.list [c1.d, c2.d]) (.ref b) := ⟨b, _, rfl, e7.free d7.lst nb, upd_same, .cons ⟨q1, _, rfl, by rw [upd_ne (ne_of_none (e67.tup hq1) nb)]; exact e67.tup hq1, .cons rfl (TrAll.ofInts _)⟩ (.cons ⟨q2, _, rfl, by rw [upd_ne (ne_of_none hq2 nb)]; exact hq2, .cons rfl (TrAll.ofInts _)⟩ .nil)⟩
    have d8 := d7.new (o := .lst [V.ref q1, V.ref q2]) nb
    have e8 := e7.trans (KpL.of (same_upd (o := .lst [V.ref q1, V.ref q2]) nb))
    generalize upd H7 b _ = H8 at *
    refine ⟨fun σ J => ∃ (b : Addr) (c1 c2 : Cm), σ = [some (.ref p), some (.int mood), some (.ref r), some (.ref c), some (.int pn), some (.bl sb), some (.int at_), some (.ref b), none] ∧ KpL (MM p r c) H J ∧ Drw J p r c L (m - 4) (k - 1) many ∧ c1.ok ∧ c2.ok ∧ Tr (New H) J (.list [c1.d, c2.d]) (.ref b), ?_, fun σ J hm => ?_⟩
    · refine ⟨_, rfl, p, L, 2, rfl, d8.pl, h2, h64, by decide, by decide, fun z H9 z0 z1 e9 pl9 => ?_⟩
      have d9 := d8.kp sep e9 pl9
      have t9 := New.kpl d (d8.gone sep e9) t8
      have e9 := e8.trans (d8.gone sep e9)
      refine ⟨rfl, _, rfl, ite2 (fun g => ?_) (fun g => ⟨b, c1, c2, rfl, e9, d9, ok1, ok2, t9⟩)⟩
      refine ⟨_, rfl, _, rfl, p, L, mood, rfl, d9.pl, h2, h64, fun qa c1 c2 H4 ok1 ok2 e4 pl4 t4 => ?_⟩
      exact ⟨qa, c1, c2, rfl, e9.trans (d9.gone sep e4), d9.kp sep e4 pl4, ok1, ok2, New.old e9 d9 t4⟩
    obtain ⟨b, c1, c2, rfl, e9, d9, ok1, ok2, t9⟩ := hm
    obtain ⟨ps, nb9, hb9, tp⟩ := t9.lst
    obtain ⟨x1, _, rfl, tx1, x2, _, rfl, tx2, rfl⟩ := tp
    have free : ∀ {J' : Hp} {a : Addr}, Same J J' → J' a = none → H a = none := fun s n => (e9.trans (KpL.of s)).free (d9.same s).lst n
    refine ⟨small100 (n := 0) (by decide), fun y0 n0 => ?_⟩
    have s0 := same_upd (o := .lst []) n0
    have h0 : (upd J y0 (.lst [])) y0 = some (.lst []) := upd_same
    have z0 := free (Same.refl _) n0
    generalize upd J y0 _ = J0 at *
    refine ⟨_, rfl, b, _, 0, x1, rfl, rfl, SqL.of (s0 _ _ hb9), at_of (j := 0) (by decide) rfl, _, rfl, _, rfl, ?_⟩
    refine ⟨small100 (n := 0) (by decide), fun y1 n1 => ?_⟩
    have z1 := free s0 n1
    have s1 := s0.trans (same_upd (o := .lst []) n1)
    have h0 := same_upd (o := .lst []) n1 _ _ h0
    have h1 : (upd J0 y1 (.lst [])) y1 = some (.lst []) := upd_same
    generalize upd J0 y1 _ = J1 at *
    refine ⟨small100 (n := 0) (by decide), fun y2 n2 => ?_⟩
    have z2 := free s1 n2
    have s2 := s1.trans (same_upd (o := .lst []) n2)
    have h0 := same_upd (o := .lst []) n2 _ _ h0
    have h1 := same_upd (o := .lst []) n2 _ _ h1
    have h2' : (upd J1 y2 (.lst [])) y2 = some (.lst []) := upd_same
    generalize upd J1 y2 _ = J2 at *
    refine ⟨small100 (n := 2) (by decide), fun y3 n3 => ?_⟩
    have z3 := free s2 n3
    have w3 := same_upd (o := .lst [V.ref y1, V.ref y2]) n3
    have s3 := s2.trans w3
    have h0 := w3 _ _ h0
    have h1 := w3 _ _ h1
    have h2' := w3 _ _ h2'
    have h3 : (upd J2 y3 (.lst [V.ref y1, V.ref y2])) y3 = some (.lst [V.ref y1, V.ref y2]) := upd_same
    generalize upd J2 y3 _ = J3 at *
    refine ⟨small100 (n := 4) (by decide), fun y4 n4 => ?_⟩
    have w4 := same_upd (o := .tup [V.str "call", V.int pn, V.bl sb, V.ref y3]) n4
    have s4 := s3.trans w4
    have tc : Tr (New H) (upd J3 y4 (.tup [V.str "call", V.int pn, V.bl sb, V.ref y3])) (Stm.call pn sb [] []).d (.ref y4) :=
      ⟨y4, _, rfl, upd_same, .cons rfl (.cons rfl (.cons rfl (.cons ⟨y3, _, rfl, z3, w4 _ _ h3, .cons ⟨y1, _, rfl, z1, w4 _ _ h1, rfl⟩ (.cons ⟨y2, _, rfl, z2, w4 _ _ h2', rfl⟩ .nil)⟩ .nil)))⟩
    have h0 := w4 _ _ h0
    generalize upd J3 y4 _ = J4 at *
    refine ⟨_, rfl, b, _, 1, x2, rfl, rfl, SqL.of (s4 _ _ hb9), at_of (j := 1) (by decide) rfl, small100 (n := 3) (by decide), fun y5 n5 => ?_⟩
    have z5 := free s4 n5
    have w5 := same_upd (o := .lst [x1, V.ref y4, x2]) n5
    have s5 := s4.trans w5
    have h0 := w5 _ _ h0
    have h5 : (upd J4 y5 (.lst [x1, V.ref y4, x2])) y5 = some (.lst [x1, V.ref y4, x2]) := upd_same
    have tc := tc.same w5
    generalize upd J4 y5 _ = J5 at *
    refine ⟨small100 (n := 2) (by decide), fun y6 n6 => ?_⟩
    have w6 := same_upd (o := .lst [V.ref y0, V.ref y5]) n6
    have s6 := s5.trans w6
    have h0 := w6 _ _ h0
    have h5 := w6 _ _ h5
    have tc := tc.same w6
    have h6 : (upd J5 y6 (.lst [V.ref y0, V.ref y5])) y6 = some (.lst [V.ref y0, V.ref y5]) := upd_same
    generalize upd J5 y6 _ = J6 at *
    have t0 : Tr (New H) J6 (bD []) (.ref y0) := ⟨y0, _, rfl, z0, h0, rfl⟩
    have t5 : Tr (New H) J6 (bD [.cmd c1, .call pn sb [] [], .cmd c2]) (.ref y5) := ⟨y5, _, rfl, z5, h5, .cons (tx1.same s6) (.cons tc (.cons (tx2.same s6) .nil))⟩
    have okr : okB many [Stm.cmd c1, .call pn sb [] [], .cmd c2] 1 := ⟨ok1, ⟨by decide, by omega, ⟨by decide, True.intro⟩, by decide, True.intro⟩, ok2, True.intro⟩
    have fin : ∀ (t : Addr) (a1 a2 : V) (s1 s2 : List Stm), Tr (New H) J6 (bD s1) a1 → Tr (New H) J6 (bD s2) a2 → s1.length ≤ 8 → s2.length ≤ 8 → okB many s1 1 → okB many s2 1 → cntB s1 + cntB s2 = 3 → J6 t = none → ∀ a, (upd J6 t (.tup [V.str "either", a1, a2])) a = none → Q (.ref a) (upd (upd J6 t (.tup [V.str "either", a1, a2])) a (.lst [.ref t])) := by
      intro t a1 a2 s1 s2 ta1 ta2 l1 l2 o1 o2 hc nt a na
      have w7 := same_upd (o := .tup [V.str "either", a1, a2]) nt
      have w8 := w7.trans (same_upd (o := .lst [V.ref t]) na)
      have s8 := s6.trans w8
      refine q a [.either s1 s2] _ (m - 4) (k - 1) (e9.trans (KpL.of s8)) (d9.same s8) (by omega) (by simp only [cntB, Stm.cnt]; omega) ⟨⟨by decide, ⟨l1, o1⟩, l2, o2⟩, True.intro⟩ ⟨a, _, rfl, free (s6.trans w7) na, upd_same, .cons ⟨t, _, rfl, same_upd na _ _ upd_same, .cons rfl (.cons (ta1.same w8) (.cons (ta2.same w8) .nil))⟩ .nil⟩
    rcases (show at_ = 0 ∨ at_ = 1 by omega) with rfl | rfl
    · refine ⟨_, rfl, _, rfl, y6, _, _, _, rfl, rfl, SqL.of h6, at_of (j := 0) (by decide) rfl, _, rfl, _, rfl, _, _, rfl, rfl, y6, _, _, _, rfl, rfl, SqL.of h6, at_of (j := 1) (by decide) rfl, small100 (n := 3) (by decide), fun t nt => ⟨small100 (n := 1) (by decide), fun a na => ?_⟩⟩
      exact fin t _ _ _ _ t0 t5 (by decide) (by show 3 ≤ 8; decide) True.intro okr (by simp only [cntB, Stm.cnt]) nt a na
    · refine ⟨_, rfl, _, rfl, y6, _, _, _, rfl, rfl, SqL.of h6, at_of (j := 1) (by decide) rfl, _, rfl, _, rfl, _, _, rfl, rfl, y6, _, _, _, rfl, rfl, SqL.of h6, at_of (j := 0) (by decide) rfl, small100 (n := 3) (by decide), fun t nt => ⟨small100 (n := 1) (by decide), fun a na => ?_⟩⟩
      exact fin t _ _ _ _ t5 t0 (by show 3 ≤ 8; decide) (by decide) okr True.intro (by simp only [cntB, Stm.cnt]) nt a na

def sp__law_body : Sp := fun vs H Q _ => ∃ (p r c : Addr) (L many : Nat) (mood m k low : Int), vs = [.ref p, .int mood, .ref r, .ref c, .int low] ∧ Sep p r c ∧ Drw H p r c L m k many ∧ (2 ≤ L ∧ L ≤ 64 ∧ 0 ≤ mood ∧ mood < 8 ∧ 0 ≤ low ∧ 0 ≤ m ∧ m ≤ 6 ∧ 1 ≤ many ∧ many ≤ 3) ∧
  ∀ (q : Addr) (ss : List Stm) (H' : Hp) (m' k' : Int), KpL (MM p r c) H H' → Drw H' p r c L m' k' many → (cntB ss : Int) ≤ m + 2 → okB many ss 0 → Tr (New H) H' (bD ss) (.ref q) → Q (.ref q) H'
theorem ok__law_body (T : Top w K mg) : FnOk P w K mg base CX0 20 T.a__law_body T.d__law_body ["_law_pool_here", "_law_mood", "_law_room", "_law_calls", "_law_low"] sp__law_body := by
  refine T.F__law_body.ok sc__law_body (fun vs H Q E h => ?_) (fun cdv A outer s H vs Q E hr h => ?_)
  · obtain ⟨p, r, c, L, many, mood, m, k, low, rfl, _⟩ := h
    rfl
  · obtain ⟨p, r, c, L, many, mood, m, k, low, rfl, sep, d, ⟨h2, h64, md0, md8, hlow, hm0, hm6, hm1, hm3⟩, q⟩ := h
    refine ⟨_, (pss_cons (ps_set (i := 5) sc__law_body.nd rfl (Or.inl rfl) (pe_call (ok__law_draw T) (hr.mono (by decide)) (by rfl) T.g__law_draw T.F__law_draw.kp (b__law_draw T) .nil pass0 (pa_cons (pv 0) (pa_cons pe_int pa_nil))))
      (pss_cons (ps_set (i := 6) sc__law_body.nd rfl (Or.inl rfl) (pe_lst pa_nil))
      (C8.pss_cut (ps_if (PW.pt (pw_and (pt_cmpR op_eq (pe_call (ok__law_draw T) (hr.mono (by decide)) (by rfl) T.g__law_draw T.F__law_draw.kp (b__law_draw T) .nil pass0 (pa_cons (pv 0) (pa_cons pe_int pa_nil))) pe_int (nomark _)) (pw_and (pt_cmpR op_gt (pe_ix (k_ixL K) (pv 2) pe_int (fun _ _ => rfl)) pe_int (nomark _)) (pw_and1 (pt_cmpR op_gt (pe_ix (k_ixL K) (pv 3) pe_int (fun _ _ => rfl)) pe_int (nomark _)))))) (pss_one (ps_set (i := 6) sc__law_body.nd rfl (Or.inl rfl) (pe_call (ok__law_around T) (hr.mono (by decide)) (by rfl) T.g__law_around T.F__law_around.kp (b__law_around T) .nil pass0 (pa_cons (pv 0) (pa_cons (pv 1) (pa_cons (pv 2) (pa_cons (pv 3) pa_nil))))))) pss_nil)
      (pss_cons (ps_for PassesOwn.never rfl (pi_range1 (by rfl) T.z_range (pa_cons (pe_op op_add pe_int (pe_call (ok__law_draw T) (hr.mono (by decide)) (by rfl) T.g__law_draw T.F__law_draw.kp (b__law_draw T) .nil pass0 (pa_cons (pv 0) (pa_cons pe_int pa_nil)))) pa_nil)) (pg_name (i := 7) sc__law_body.nd rfl (Or.inl rfl)) (pss_one (ps_if (pt_cmpR op_gt (pe_ix (k_ixL K) (pv 2) pe_int (fun _ _ => rfl)) pe_int (nomark _)) (pss_one (ps_set (i := 6) sc__law_body.nd rfl (Or.inl rfl) (pe_op op_cat (pv 6) (pe_call (ok__law_piece T) hr (by rfl) T.g__law_piece T.F__law_piece.kp (b__law_piece T) .nil pass0 (pa_cons (pv 0) (pa_cons (pv 1) (pa_cons pe_int (pa_cons (pv 2) (pa_cons (pv 3) (pa_cons (pv 4) pa_nil)))))))))) pss_nil)))
      (pss_cons (ps_set (i := 8) sc__law_body.nd rfl (Or.inl rfl) (pe_lst (pa_cons (pe_lst (pa_cons (pe_tup (pa_cons pe_str (pa_cons (pe_lst (pa_cons (pe_tup (pa_cons pe_str (pa_cons pe_int pa_nil))) pa_nil)) (pa_cons (pe_lst pa_nil) pa_nil)))) pa_nil)) (pa_cons (pe_lst (pa_cons (pe_tup (pa_cons pe_str (pa_cons pe_int pa_nil))) pa_nil)) pa_nil))))
      (pss_cons (ps_if (PW.pt (pw_or (pt_cmpR op_eq (pv 5) pe_int (nomark _)) (pw_or1 (pt_cmpR op_eq (pv 5) pe_int (nomark _))))) (pss_one (ps_ret (pe_op op_cat (pv 6) (pe_ix (k_ixL K) (pv 8) (pe_op op_fdiv (pv 5) pe_int) (fun _ _ => rfl))))) pss_nil)
      (pss_cons (ps_if (pt_cmpR op_eq (pv 5) pe_int (nomark _)) (pss_one (ps_ret (pe_op op_cat (pe_ix (k_ixL K) (pv 8) pe_int (fun _ _ => rfl)) (pv 6)))) pss_nil)
      (pss_one (ps_ret (pv 6)))))))))), ?_⟩
    refine ⟨_, rfl, p, L, 6, rfl, d.pl, h2, h64, by decide, by decide, fun en H1 en0 en1 e1 pl1 => ?_⟩
    have d1 := d.kp sep e1 pl1
    have e1 := d.gone sep e1
    refine ⟨small100 (n := 0) (by decide), fun b nb => ?_⟩
    have d2 := d1.new (o := .lst []) nb
    have e2 : KpL (MM p r c) H (upd H1 b (.lst [])) := e1.trans (KpL.of (same_upd nb))
    have t2 : Tr (New H) (upd H1 b (.lst [])) (bD []) (.ref b) := ⟨b, [], rfl, e1.free d1.lst nb, upd_same, TrAll.nil⟩
    generalize upd H1 b _ = H2 at *
    refine ⟨fun σ J => ∃ (b : Addr) (ss : List Stm) (m' k' : Int), σ = [some (.ref p), some (.int mood), some (.ref r), some (.ref c), some (.int low), some (.int en), some (.ref b), none, none] ∧ KpL (MM p r c) H J ∧ Drw J p r c L m' k' many ∧ 0 ≤ m' ∧ m' + cntB ss = m ∧ okB many ss 0 ∧ Tr (New H) J (bD ss) (.ref b), ?_, fun σ J hm => ?_⟩
    · refine ⟨_, rfl, p, L, 2, rfl, d2.pl, h2, h64, by decide, by decide, fun z H3 z0 z1 e3 pl3 => ?_⟩
      have d3 := d2.kp sep e3 pl3
      have t3 := New.kpl d (d2.gone sep e3) t2
      have e3 := e2.trans (d2.gone sep e3)
      have no : (fun (σ : List (Option V)) (J : Hp) => ∃ (b : Addr) (ss : List Stm) (m' k' : Int), σ = [some (.ref p), some (.int mood), some (.ref r), some (.ref c), some (.int low), some (.int en), some (.ref b), none, none] ∧ KpL (MM p r c) H J ∧ Drw J p r c L m' k' many ∧ 0 ≤ m' ∧ m' + cntB ss = m ∧ okB many ss 0 ∧ Tr (New H) J (bD ss) (.ref b)) [some (.ref p), some (.int mood), some (.ref r), some (.ref c), some (.int low), some (.int en), some (.ref b), none, none] H3 :=
        ⟨b, [], m, k, rfl, e3, d3, hm0, by simp only [cntB]; omega, True.intro, t3⟩
      refine ⟨rfl, _, rfl, ite2 (fun g => ?_) (fun g => no)⟩
      refine ⟨_, rfl, r, _, 0, _, rfl, rfl, SqL.of d3.r, at_of (j := 0) (by decide) rfl, _, _, rfl, rfl, _, rfl, ite2 (fun g2 => ?_) (fun g2 => no)⟩
      refine ⟨_, rfl, c, _, 0, _, rfl, rfl, SqL.of d3.c, at_of (j := 0) (by decide) rfl, _, _, rfl, rfl, _, rfl, ite2 (fun g3 => ?_) (fun g3 => no)⟩
      have g2 : m > 3 := of_decide_eq_true g2
      refine ⟨_, rfl, _, rfl, _, rfl, _, rfl, p, r, c, L, many, mood, m, k, rfl, sep, d3, ⟨h2, h64, md0, md8, by omega, hm1, hm3⟩, fun q4 ss H4 m4 k4 e4 d4 g0 gc go t4 => ?_⟩
      exact ⟨q4, ss, m4, k4, rfl, e3.trans e4, d4, g0, gc, go, New.old e3 d3 t4⟩
    obtain ⟨b, ss, m3, k3, rfl, e3, d3, g30, gc3, go3, t3⟩ := hm
    refine ⟨_, rfl, p, L, 4, rfl, d3.pl, h2, h64, by decide, by decide, fun i H4 i0 i1 e4 pl4 => ?_⟩
    have d4 := d3.kp sep e4 pl4
    have t4 := New.kpl d (d3.gone sep e4) t3
    have e4 := e3.trans (d3.gone sep e4)
    refine ⟨_, _, rfl, rfl, 1 + i, rfl, by omega, by omega, for_range (n := (1 + i).toNat) (fun j σ H' => ∃ (y7 : Option V) (b : Addr) (ss : List Stm) (m' k' : Int), σ = [some (.ref p), some (.int mood), some (.ref r), some (.ref c), some (.int low), some (.int en), some (.ref b), y7, none] ∧ KpL (MM p r c) H H' ∧ Drw H' p r c L m' k' many ∧ 0 ≤ m' ∧ m' + cntB ss = m ∧ okB many ss 0 ∧ Tr (New H) H' (bD ss) (.ref b))
      ⟨none, b, ss, m3, k3, rfl, e4, d4, g30, gc3, go3, t4⟩ (fun j σ H' hj h => ?_) (fun σ H' h => ?_)⟩
    · obtain ⟨y7, b, ss, m', k', rfl, e, d', hm', hc, ho, t⟩ := h
      refine ⟨_, rfl, r, _, 0, _, rfl, rfl, SqL.of d'.r, at_of (j := 0) (by decide) rfl, _, _, rfl, rfl, _, rfl, ite2 (fun g => ?_) (fun g => ?_)⟩
      · have g : m' > 0 := of_decide_eq_true g
        refine ⟨_, rfl, _, rfl, _, rfl, _, rfl, _, rfl, _, rfl, ?_⟩
        refine ⟨p, r, c, L, 0, many, mood, m', k', low, rfl, sep, d', ⟨h2, h64, md0, md8, by decide, hlow, by omega, by omega, by omega, hm3⟩, fun q2 ss2 H3 m2 k2 e3 d3 g0 hc2 ho2 t3 => ?_⟩
        have t := New.kpl d e3 t
        have e4 := e.trans e3
        have t3 := New.old e d' t3
        obtain ⟨xs, nb', hb', tx⟩ := t.lst
        obtain ⟨ys, nq2, hq2, ty⟩ := t3.lst
        have lx := tx.len
        have ly := ty.len
        rw [blkD_len] at lx ly
        have c1 := len_cntB ss
        have c2 := len_cntB ss2
        refine ⟨_, q2, xs, ys, rfl, rfl, hb', hq2, small100 (by omega), fun z nz => ?_⟩
        have e5 := e4.trans (KpL.of (M := MM p r c) (same_upd (o := .lst (xs ++ ys)) nz))
        refine ⟨_, z, ss ++ ss2, m2, k2, rfl, e5, d3.new nz, g0, by rw [cntB_append]; omega, okB_append ho ho2, z, xs ++ ys, rfl, e4.free d3.lst nz, upd_same, ?_⟩
        rw [blkD_append]
        exact (tx.append ty).same (same_upd nz)
      · exact ⟨_, b, ss, m', k', rfl, e, d', hm', hc, ho, t⟩
    · obtain ⟨y7, b, ss, m5, k5, rfl, e5, d5, hm5, hc5, ho5, t5⟩ := h
      clear d1 d2 d3 d4 e1 e2 e3 e4 t2 t3 t4 pl1 pl4
      have free : ∀ {J' : Hp} {a : Addr}, Same H' J' → J' a = none → H a = none := fun s n => (e5.trans (KpL.of s)).free (d5.same s).lst n
      refine ⟨small100 (n := 2) (by decide), fun t1 n1 => ?_⟩
      have w1 := same_upd (o := .tup [V.str "end", V.int 1]) n1
      have x1 : Tr (New H) (upd H' t1 (.tup [V.str "end", V.int 1])) (Stm.fin true).d (.ref t1) := ⟨t1, _, rfl, upd_same, .cons rfl (.cons rfl .nil)⟩
      have s1 := w1
      generalize upd H' t1 _ = J1 at *
      refine ⟨small100 (n := 1) (by decide), fun l1 n2 => ?_⟩
      have w2 := same_upd (o := .lst [V.ref t1]) n2
      have x2 : Tr (New H) (upd J1 l1 (.lst [V.ref t1])) (bD [.fin true]) (.ref l1) := ⟨l1, _, rfl, free s1 n2, upd_same, .cons (x1.same w2) .nil⟩
      have s2 := s1.trans w2
      generalize upd J1 l1 _ = J2 at *
      refine ⟨small100 (n := 0) (by decide), fun l2 n3 => ?_⟩
      have w3 := same_upd (o := .lst []) n3
      have x3 : Tr (New H) (upd J2 l2 (.lst [])) (bD []) (.ref l2) := ⟨l2, _, rfl, free s2 n3, upd_same, .nil⟩
      have x2 := x2.same w3
      have s3 := s2.trans w3
      generalize upd J2 l2 _ = J3 at *
      refine ⟨small100 (n := 3) (by decide), fun t2 n4 => ?_⟩
      have w4 := same_upd (o := .tup [V.str "either", V.ref l1, V.ref l2]) n4
      have x4 : Tr (New H) (upd J3 t2 (.tup [V.str "either", V.ref l1, V.ref l2])) (Stm.either [.fin true] []).d (.ref t2) := ⟨t2, _, rfl, upd_same, .cons rfl (.cons (x2.same w4) (.cons (x3.same w4) .nil))⟩
      have s4 := s3.trans w4
      generalize upd J3 t2 _ = J4 at *
      refine ⟨small100 (n := 1) (by decide), fun l3 n5 => ?_⟩
      have w5 := same_upd (o := .lst [V.ref t2]) n5
      have x5 : Tr (New H) (upd J4 l3 (.lst [V.ref t2])) (bD [.either [.fin true] []]) (.ref l3) := ⟨l3, _, rfl, free s4 n5, upd_same, .cons (x4.same w5) .nil⟩
      have s5 := s4.trans w5
      generalize upd J4 l3 _ = J5 at *
      refine ⟨small100 (n := 2) (by decide), fun t4 n6 => ?_⟩
      have w6 := same_upd (o := .tup [V.str "end", V.int 1]) n6
      have x6 : Tr (New H) (upd J5 t4 (.tup [V.str "end", V.int 1])) (Stm.fin true).d (.ref t4) := ⟨t4, _, rfl, upd_same, .cons rfl (.cons rfl .nil)⟩
      have x5 := x5.same w6
      have s6 := s5.trans w6
      generalize upd J5 t4 _ = J6 at *
      refine ⟨small100 (n := 1) (by decide), fun l4 n7 => ?_⟩
      have w7 := same_upd (o := .lst [V.ref t4]) n7
      have x7 : Tr (New H) (upd J6 l4 (.lst [V.ref t4])) (bD [.fin true]) (.ref l4) := ⟨l4, _, rfl, free s6 n7, upd_same, .cons (x6.same w7) .nil⟩
      have x5 := x5.same w7
      have s7 := s6.trans w7
      generalize upd J6 l4 _ = J7 at *
      refine ⟨small100 (n := 2) (by decide), fun l5 n8 => ?_⟩
      have w8 := same_upd (o := .lst [V.ref l3, V.ref l4]) n8
      have x7 := x7.same w8
      have x5 := x5.same w8
      have s8 := s7.trans w8
      have h8 : (upd J7 l5 (.lst [V.ref l3, V.ref l4])) l5 = some (.lst [V.ref l3, V.ref l4]) := upd_same
      generalize upd J7 l5 _ = J8 at *
      have t5 := t5.same s8
      have oke : okB many [Stm.either [.fin true] []] 0 := ⟨⟨by decide, ⟨by decide, True.intro, True.intro⟩, by decide, True.intro⟩, True.intro⟩
      have okf : okB many [Stm.fin true] 0 := ⟨True.intro, True.intro⟩
      have fin : ∀ (a1 a2 : Addr) (ss1 ss2 : List Stm), Tr (New H) J8 (bD ss1) (.ref a1) → Tr (New H) J8 (bD ss2) (.ref a2) → okB many ss1 0 → okB many ss2 0 → ((cntB ss1 + cntB ss2 : Nat) : Int) ≤ m + 2 → ∃ a b xs ys, V.ref a1 = V.ref a ∧ V.ref a2 = V.ref b ∧ J8 a = some (.lst xs) ∧ J8 b = some (.lst ys) ∧ xs.length + ys.length ≤ sizeLine ∧ ∀ p, J8 p = none → Q (.ref p) (upd J8 p (.lst (xs ++ ys))) := by
        intro a1 a2 ss1 ss2 ta1 ta2 o1 o2 hc
        obtain ⟨xs, n1', hb1, tx⟩ := ta1.lst
        obtain ⟨ys, n2', hb2, ty⟩ := ta2.lst
        have lx := tx.len
        have ly := ty.len
        rw [blkD_len] at lx ly
        have c1 := len_cntB ss1
        have c2 := len_cntB ss2
        refine ⟨a1, a2, xs, ys, rfl, rfl, hb1, hb2, small100 (by omega), fun z nz => ?_⟩
        have w9 := s8.trans (same_upd (o := .lst (xs ++ ys)) nz)
        refine q z (ss1 ++ ss2) _ m5 k5 (e5.trans (KpL.of w9)) (d5.same w9) (by rw [cntB_append]; exact hc) (okB_append o1 o2) ⟨z, _, rfl, free s8 nz, upd_same, ?_⟩
        rw [blkD_append]
        exact (tx.append ty).same (same_upd nz)
      refine ⟨_, rfl, rfl, _, rfl, ite2 (fun g => ?_) (fun g => ?_)⟩
      · have g : en = 1 := dec_int' g
        subst g
        refine ⟨_, rfl, _, rfl, _, rfl, _, _, rfl, rfl, ⟨by decide, by decide⟩, l5, _, _, _, rfl, rfl, SqL.of h8, at_of (j := 0) (by decide) rfl, ?_⟩
        exact fin b l3 ss [.either [.fin true] []] t5 x5 ho5 oke (by simp only [cntB, Stm.cnt]; omega)
      refine ⟨_, rfl, rfl, _, rfl, ite2 (fun g => ?_) (fun g => ?_)⟩
      · have g : en = 3 := dec_int' g
        subst g
        refine ⟨_, rfl, _, rfl, _, rfl, _, _, rfl, rfl, ⟨by decide, by decide⟩, l5, _, _, _, rfl, rfl, SqL.of h8, at_of (j := 1) (by decide) rfl, ?_⟩
        exact fin b l4 ss [.fin true] t5 x7 ho5 okf (by simp only [cntB, Stm.cnt]; omega)
      refine ⟨_, rfl, rfl, _, rfl, ite2 (fun g => ?_) (fun g => ?_)⟩
      · refine ⟨_, rfl, l5, _, 0, _, rfl, rfl, SqL.of h8, at_of (j := 0) (by decide) rfl, _, rfl, ?_⟩
        exact fin l3 b [.either [.fin true] []] ss x5 t5 oke ho5 (by simp only [cntB, Stm.cnt]; omega)
      · exact ⟨_, rfl, q b ss _ m5 k5 (e5.trans (KpL.of s8)) (d5.same s8) (by omega) ho5 t5⟩

def sp__law_book : Sp := fun vs H Q _ => ∃ (p : Addr) (L : Nat) (most size : Int), vs = [.ref p, .int most, .int size] ∧ Pool H p L ∧ 2 ≤ L ∧ L ≤ 64 ∧ 1 ≤ most ∧ most ≤ 3 ∧ 3 ≤ size ∧ size ≤ 8 ∧
  ∀ (q : Addr) (bs : List (List Stm)) (H' : Hp), Kp p H H' → Pool H' p L → OkBook bs → (∀ b ∈ bs, (cntB b : Int) ≤ size) → Tr (New H) H' (bookD bs) (.ref q) → (∃ xs, H q = none ∧ H' q = some (.lst xs) ∧ TrAll (fun a => H a = none ∧ a ≠ q) H' (bs.map bD) xs) → Q (.ref q) H'
theorem ok__law_book (T : Top w K mg) : FnOk P w K mg base CX0 21 T.a__law_book T.d__law_book ["_law_pool_here", "_law_most", "_law_size"] sp__law_book := by
  refine T.F__law_book.ok sc__law_book (fun vs H Q E h => ?_) (fun cdv A outer s H vs Q E hr h => ?_)
  · obtain ⟨p, L, most, size, rfl, _⟩ := h
    rfl
  · obtain ⟨p, L, most, size, rfl, pl, h2, h64, mo1, mo3, sz3, sz8, q⟩ := h
    refine ⟨_, (pss_cons (ps_set (i := 3) sc__law_book.nd rfl (Or.inl rfl) (pe_call (ok__law_draw T) (hr.mono (by decide)) (by rfl) T.g__law_draw T.F__law_draw.kp (b__law_draw T) .nil pass0 (pa_cons (pv 0) (pa_cons pe_int pa_nil))))
      (pss_cons (ps_set (i := 4) sc__law_book.nd rfl (Or.inl rfl) (pe_cmpR op_eq (pe_call (ok__law_draw T) (hr.mono (by decide)) (by rfl) T.g__law_draw T.F__law_draw.kp (b__law_draw T) .nil pass0 (pa_cons (pv 0) (pa_cons pe_int pa_nil))) pe_int (nomark _)))
      (pss_cons (ps_set (i := 5) sc__law_book.nd rfl (Or.inl rfl) (pe_op op_add pe_int (pe_call (ok__law_draw T) (hr.mono (by decide)) (by rfl) T.g__law_draw T.F__law_draw.kp (b__law_draw T) .nil pass0 (pa_cons (pv 0) (pa_cons (pv 1) pa_nil)))))
      (pss_cons (ps_set (i := 6) sc__law_book.nd rfl (Or.inl rfl) (pe_lst (pa_cons pe_int (pa_cons (pv 5) pa_nil))))
      (pss_cons (ps_set (i := 7) sc__law_book.nd rfl (Or.inl rfl) (pe_lst pa_nil))
      (pss_cons (ps_for PassesOwn.never rfl (pi_range1 (by rfl) T.z_range (pa_cons (pv 5) pa_nil)) (pg_name (i := 8) sc__law_book.nd rfl (Or.inl rfl)) (pss_cons (ps_set (i := 9) sc__law_book.nd rfl (Or.inl rfl) (pe_lst (pa_cons (pe_op op_sub (pe_op op_sub (pv 2) pe_int) (pe_callTy call_intB (by rfl) T.z_int bt_int (pa_cons (pe_cmpR op_gt (pv 5) pe_int (nomark _)) pa_nil))) pa_nil)))
        (pss_cons (ps_set (i := 10) sc__law_book.nd rfl (Or.inl rfl) (pe_op op_add (pv 8) pe_int))
        (C8.pss_cut (ps_if (pt_val (pv 4)) (pss_one (ps_set (i := 10) sc__law_book.nd rfl (Or.inl rfl) pe_int)) pss_nil)
        (pss_one (ps_expr (pe_bm PySem.F.plainAttrs_list PySem.F.slot_list_append PySem.F.type_list_append mt_append (pv 7) (pa_cons (pe_call (ok__law_body T) hr (by rfl) T.g__law_body T.F__law_body.kp (b__law_body T) .nil pass0 (pa_cons (pv 0) (pa_cons (pv 3) (pa_cons (pv 9) (pa_cons (pv 6) (pa_cons (pv 10) pa_nil)))))) pa_nil))))))))
      (pss_one (ps_ret (pv 7))))))))), ?_⟩
    refine ⟨_, rfl, p, L, 6, rfl, pl, h2, h64, by decide, by decide, fun mood H1 md0 md1 e1 pl1 => ?_⟩
    refine ⟨_, rfl, p, L, 8, rfl, pl1, h2, h64, by decide, by decide, fun wl H2 w0 w1 e2 pl2 => ?_⟩
    refine ⟨rfl, ?_⟩
    generalize decide (V.int wl = V.int 0) = wild
    refine ⟨_, rfl, _, rfl, p, L, most, rfl, pl2, h2, h64, by omega, by omega, fun mn H3 n0 n1 e3 pl3 => ?_⟩
    have e3 := e1.trans (e2.trans e3)
    refine ⟨_, _, rfl, rfl, ?_⟩
    obtain ⟨many, hmany⟩ : ∃ many : Nat, 1 + mn = (many : Int) := ⟨(1 + mn).toNat, by omega⟩
    dsimp only
    rw [hmany]
    have hm1 : 1 ≤ many := by omega
    have hm3 : many ≤ 3 := by omega
    refine ⟨_, rfl, small100 (n := 2) (by decide), fun c nc => ?_⟩
    have ncp := pl3.ne nc
    have zc := e3.none nc ncp
    have e4 : Kp p H (upd H3 c (.lst [.int 4, .int many])) := e3.new zc
    have pl4 : Pool (upd H3 c (.lst [.int 4, .int many])) p L := pl3.new nc
    have hc4 : (upd H3 c (.lst [.int 4, .int many])) c = some (.lst [.int 4, .int many]) := upd_same
    generalize upd H3 c (.lst [.int 4, .int many]) = H4 at *
    refine ⟨small100 (n := 0) (by decide), fun D nD => ?_⟩
    have nDp := pl4.ne nD
    have zD := e4.none nD nDp
    have nDc : D ≠ c := (ne_of_none hc4 nD).symm
    have e5 : Kp p H (upd H4 D (.lst [])) := e4.new zD
    have pl5 : Pool (upd H4 D (.lst [])) p L := pl4.new nD
    have hc5 : (upd H4 D (.lst [])) c = some (.lst [.int 4, .int many]) := by rw [upd_ne nDc.symm]; exact hc4
    have hD5 : (upd H4 D (.lst [])) D = some (.lst []) := upd_same
    generalize upd H4 D (.lst []) = H5 at *
    have hmem : ∀ a, H a = none → a ≠ p := fun a n e => by
      obtain ⟨ns, hp, _⟩ := pl
      rw [e, hp] at n
      cases n
    refine ⟨_, rfl, many, rfl, by omega, by omega, for_range (n := ((many : Nat) : Int).toNat) (fun j σ H' => ∃ (bs : List (List Stm)) (zs : List V) (k' : Int) (y8 y9 y10 : Option V), σ = [some (.ref p), some (.int most), some (.int size), some (.int mood), some (.bl wild), some (.int many), some (.ref c), some (.ref D), y8, y9, y10] ∧ Kp p H H' ∧ Pool H' p L ∧ H' c = some (.lst [.int k', .int many]) ∧ H' D = some (.lst zs) ∧ bs.length = j ∧ (∀ b ∈ bs, (b.length ≤ 8 ∧ cntB b ≤ 12 ∧ okB many b 0) ∧ (cntB b : Int) ≤ size) ∧ TrAll (fun a => H a = none ∧ a ≠ D ∧ a ≠ c) H' (bs.map bD) zs)
      ⟨[], [], 4, none, none, none, rfl, e5, pl5, hc5, hD5, rfl, fun b hb => absurd hb (List.not_mem_nil), TrAll.nil⟩ (fun j σ H' hj h => ?_) (fun σ H' h => ?_)⟩
    · obtain ⟨bs, zs, k', y8, y9, y10, rfl, e, pl', hc', hD', hl, hb, tz⟩ := h
      have hj3 : j < many := by omega
      refine ⟨_, rfl, _, _, rfl, rfl, _, rfl, _, _, rfl, rfl, _, rfl, _, _, rfl, rfl, ?_⟩
      obtain ⟨m, hm, hm0, hm6, hms⟩ : ∃ m : Int, size - 2 - (if decide ((many : Int) > 2) = true then 1 else 0) = m ∧ 0 ≤ m ∧ m ≤ 6 ∧ m + 2 ≤ size := by
        refine ⟨_, rfl, ?_⟩
        split <;> omega
      dsimp only
      rw [hm]
      refine ⟨small100 (n := 1) (by decide), fun r nr => ?_⟩
      have zr := e.none nr (pl'.ne nr)
      have nrp := hmem r zr
      have nrc : r ≠ c := (ne_of_none hc' nr).symm
      have nrD : D ≠ r := ne_of_none hD' nr
      have tz := TrAll.tracked _ _ tz
      have sr := same_upd (o := .lst [V.int m]) nr
      have e6 : Kp p H (upd H' r (.lst [.int m])) := e.trans (Kp.of sr)
      have d6 : Drw (upd H' r (.lst [.int m])) p r c L m k' many := ⟨by obtain ⟨ns, hp, hl⟩ := pl'; exact ⟨ns, sr _ _ hp, hl⟩, upd_same, sr _ _ hc'⟩
      have tz6 := tz.same sr
      have hD6 := sr _ _ hD'
      generalize upd H' r (.lst [.int m]) = H6 at *
      have sep : Sep p r c := ⟨nrp.symm, (hmem c zc).symm, nrc⟩
      refine ⟨_, rfl, _, _, rfl, rfl, ?_⟩
      refine ⟨fun σ J => J = H6 ∧ ∃ low : Int, 0 ≤ low ∧ σ = [some (.ref p), some (.int most), some (.int size), some (.int mood), some (.bl wild), some (.int many), some (.ref c), some (.ref D), some (.int (0 + (j : Int))), some (.ref r), some (.int low)], ?_, fun σ J hmid => ?_⟩
      · refine ⟨_, rfl, _, rfl, ifB (fun g => ⟨rfl, 0, by decide, rfl⟩) (fun g => ⟨rfl, _, ?_, rfl⟩)⟩
        show (0 : Int) ≤ 0 + (j : Int) + 1
        omega
      obtain ⟨rfl, low, low0, rfl⟩ := hmid
      refine ⟨_, rfl, .inl ⟨rfl, _, .inl (.inl hD6)⟩, _, rfl, _, rfl, _, rfl, _, rfl, _, rfl, ?_⟩
      refine ⟨p, r, c, L, many, mood, m, k', low, rfl, sep, d6, ⟨h2, h64, by omega, by omega, low0, hm0, hm6, hm1, hm3⟩, fun q7 ss H7 m7 k7 e7 d7 hcs hok t7 => ?_⟩
      have nMD : ¬ MM p r c D := fun h => by
        rcases h with h | h | h
        · exact nDp h
        · exact nrD h
        · exact nDc h
      have hD7 := e7.at_ hD6 nMD
      have lz := tz.len
      rw [List.length_map, hl] at lz
      refine ⟨D, zs, _, rfl, rfl, hD7, small1000 (by omega), ?_⟩
      have e8 : Kp p H H7 := fun b o nb hb => e7 b o (fun h => by
        rcases h with h | h | h
        · exact absurd h nb
        · rw [h, zr] at hb; cases hb
        · rw [h, zc] at hb; cases hb) (e6 b o nb hb)
      have k9 : KpL (fun a => a = D) H7 (upd H7 D (.lst (zs ++ [.ref q7]))) := KpL.refl.put rfl ⟨_, hD7⟩
      have tz7 : TrAll (fun a => H a = none ∧ a ≠ D ∧ a ≠ c) H7 (bs.map bD) zs := TrAll.mono (fun a n => n.1) _ _ (TrAll.kpl e7 (fun a n h => by
        rcases h with h | h | h
        · exact hmem a n.1.1 h
        · rw [h] at n; exact n.2 nr
        · exact n.1.2.2 h) _ _ tz6)
      have t7 : Tr (fun a => H a = none ∧ a ≠ D ∧ a ≠ c) H7 (bD ss) (.ref q7) := Tr.mono (fun a n => by
        have n : J a = none := n
        refine ⟨?_, fun h => ?_, fun h => ?_⟩
        · refine e6.none n fun h => ?_
          obtain ⟨ns, hp, _⟩ := d6.pl
          rw [h, hp] at n
          cases n
        · rw [h, hD6] at n; cases n
        · rw [h, d6.c] at n; cases n) _ _ t7
      refine ⟨bs ++ [ss], zs ++ [.ref q7], k7, _, _, _, rfl, e8.new zD, d7.pl.keep nDp, by rw [upd_ne nDc.symm]; exact d7.c, upd_same, by rw [List.length_append, hl]; rfl, fun b mb => ?_, ?_⟩
      · rcases List.mem_append.mp mb with mb | mb
        · exact hb b mb
        · cases List.mem_singleton.mp mb
          have := len_cntB ss
          exact ⟨⟨by omega, by omega, hok⟩, by omega⟩
      · rw [List.map_append]
        exact TrAll.snoc (TrAll.kpl k9 (fun a n h => n.2.1 h) _ _ tz7) (Tr.kpl k9 (fun a n h => n.2.1 h) _ _ t7)
    · obtain ⟨bs, zs, k', y8, y9, y10, rfl, e, pl', hc', hD', hl, hb, tz⟩ := h
      have hl : bs.length = many := by omega
      refine ⟨_, rfl, q D bs H' e pl' ⟨by omega, by omega, fun b mb => by rw [hl]; exact (hb b mb).1⟩ (fun b mb => (hb b mb).2) ⟨D, zs, rfl, zD, hD', TrAll.mono (fun a n => n.1) _ _ tz⟩ ⟨zs, zD, hD', TrAll.mono (fun a n => ⟨n.1, n.2.1⟩) _ _ tz⟩⟩

def sp__law_any_command (K : PySem.W.Frag) : Sp := fun vs H Q _ => ∃ (p : Addr) (L : Nat), vs = [.ref p] ∧ Pool H p L ∧ 2 ≤ L ∧ L ≤ 64 ∧
  ∀ (q : Addr) (c : Cm) (H' : Hp), c.ok → Kp p H H' → Pool H' p L → H q = none → H' q = some (.tup c.vals) → Q (.ref q) H'
set_option maxHeartbeats 1000000 in
theorem ok__law_any_command (T : Top w K mg) : FnOk P w K mg base CX0 2 T.a__law_any_command T.d__law_any_command ["_law_pool_here"] (sp__law_any_command K) := by
  refine T.F__law_any_command.ok sc__law_any_command (fun vs H Q E h => ?_) (fun cdv A outer s H vs Q E hr h => ?_)
  · obtain ⟨p, L, rfl, _⟩ := h
    rfl
  · obtain ⟨p, L, rfl, pl, h2, h64, q⟩ := h
    refine ⟨_, (pss_cons (ps_set (i := 1) sc__law_any_command.nd rfl (Or.inl rfl) (pe_call (ok__law_draw T) hr (by rfl) T.g__law_draw T.F__law_draw.kp (b__law_draw T) .nil pass0 (pa_cons (pv 0) (pa_cons pe_int pa_nil))))
      (pss_cons (ps_if (pt_cmpR op_eq (pv 1) pe_int (nomark _)) (pss_one (ps_ret (pe_tup (pa_cons pe_str (pa_cons (pe_op op_sub (pe_call (ok__law_draw T) hr (by rfl) T.g__law_draw T.F__law_draw.kp (b__law_draw T) .nil pass0 (pa_cons (pv 0) (pa_cons pe_int pa_nil))) pe_int) pa_nil))))) pss_nil)
      (pss_cons (ps_if (pt_cmpR op_eq (pv 1) pe_int (nomark _)) (pss_one (ps_ret (pe_tup (pa_cons pe_str (pa_cons (pe_op op_add pe_int (pe_call (ok__law_draw T) hr (by rfl) T.g__law_draw T.F__law_draw.kp (b__law_draw T) .nil pass0 (pa_cons (pv 0) (pa_cons pe_int pa_nil)))) pa_nil))))) pss_nil)
      (pss_cons (ps_if (pt_cmpR op_eq (pv 1) pe_int (nomark _)) (pss_one (ps_ret (pe_tup (pa_cons pe_str (pa_cons (pe_op op_sub (pe_call (ok__law_draw T) hr (by rfl) T.g__law_draw T.F__law_draw.kp (b__law_draw T) .nil pass0 (pa_cons (pv 0) (pa_cons pe_int pa_nil))) pe_int) pa_nil))))) pss_nil)
      (pss_cons (ps_if (pt_cmpR op_lt (pv 1) pe_int (nomark _)) (pss_one (ps_ret (pe_tup (pa_cons (pe_ix (k_ixT K) (pe_tup (pa_cons pe_str (pa_cons pe_str pa_nil))) (pe_op op_sub (pv 1) pe_int) (fun _ _ => rfl)) (pa_cons (pe_op op_sub (pe_call (ok__law_draw T) hr (by rfl) T.g__law_draw T.F__law_draw.kp (b__law_draw T) .nil pass0 (pa_cons (pv 0) (pa_cons pe_int pa_nil))) pe_int) (pa_cons (pe_op op_sub (pe_call (ok__law_draw T) hr (by rfl) T.g__law_draw T.F__law_draw.kp (b__law_draw T) .nil pass0 (pa_cons (pv 0) (pa_cons pe_int pa_nil))) pe_int) pa_nil)))))) pss_nil)
      (pss_one (ps_ret (pe_tup (pa_cons (pe_ix (k_ixT K) (pe_tup (pa_cons pe_str (pa_cons pe_str (pa_cons pe_str (pa_cons pe_str pa_nil))))) (pe_op op_sub (pv 1) pe_int) (fun _ _ => rfl)) pa_nil))))))))), ?_⟩
    refine ⟨_, rfl, p, L, 9, rfl, pl, h2, h64, by decide, by decide, fun k H1 k0 k9 e1 pl1 => ?_⟩
    have fin : ∀ {c : Cm} {t : Addr} {J : Hp}, c.ok → Kp p H J → Pool J p L → J t = none → Q (.ref t) (upd J t (.tup c.vals)) := fun ok kp pl nt =>
      q _ _ _ ok (kp.new (kp.none nt (pl.ne nt))) (pl.new nt) (kp.none nt (pl.ne nt)) upd_same
    refine ⟨_, rfl, rfl, _, rfl, ite2 (fun _ => ?_) (fun n0 => ?_)⟩
    · refine ⟨_, rfl, p, L, 19, rfl, pl1, h2, h64, by decide, by decide, fun r H2 r0 r1 e2 pl2 => ?_⟩
      refine ⟨_, _, rfl, rfl, small100 (n := 2) (by decide), fun t nt => ?_⟩
      exact fin (c := .go (r - 9)) (ok1 rfl rfl (by show (-9 : Int) ≤ r - 9; omega) (by show r - 9 ≤ (9 : Int); omega)) (e1.trans e2) pl2 nt
    refine ⟨_, rfl, rfl, _, rfl, ite2 (fun _ => ?_) (fun n1 => ?_)⟩
    · refine ⟨_, rfl, p, L, 3, rfl, pl1, h2, h64, by decide, by decide, fun r H2 r0 r1 e2 pl2 => ?_⟩
      refine ⟨_, _, rfl, rfl, small100 (n := 2) (by decide), fun t nt => ?_⟩
      exact fin (c := .turn (1 + r)) (ok1 rfl rfl (by show (1 : Int) ≤ 1 + r; omega) (by show 1 + r ≤ (3 : Int); omega)) (e1.trans e2) pl2 nt
    refine ⟨_, rfl, rfl, _, rfl, ite2 (fun _ => ?_) (fun n2 => ?_)⟩
    · refine ⟨_, rfl, p, L, 7, rfl, pl1, h2, h64, by decide, by decide, fun r H2 r0 r1 e2 pl2 => ?_⟩
      refine ⟨_, _, rfl, rfl, small100 (n := 2) (by decide), fun t nt => ?_⟩
      exact fin (c := .scale (r - 3)) (ok1 rfl rfl (by show (-3 : Int) ≤ r - 3; omega) (by show r - 3 ≤ (3 : Int); omega)) (e1.trans e2) pl2 nt
    have n0 := dec_int n0
    have n1 := dec_int n1
    have n2 := dec_int n2
    refine ⟨_, rfl, _, _, rfl, rfl, _, rfl, ite2 (fun h5 => ?_) (fun h5 => ?_)⟩
    · have h5 := of_decide_eq_true h5
      refine ⟨small100 (n := 2) (by decide), fun m nm => ?_⟩
      have nmp := pl1.ne nm
      have em : Kp p H (upd H1 m (.tup [.str "aim", .str "place"])) := e1.new (e1.none nm nmp)
      have plm : Pool (upd H1 m (.tup [.str "aim", .str "place"])) p L := pl1.new nm
      have hm : (upd H1 m (.tup [.str "aim", .str "place"])) m = some (.tup [.str "aim", .str "place"]) := upd_same
      generalize upd H1 m (.tup [.str "aim", .str "place"]) = J at *
      rcases (show k = 3 ∨ k = 4 by omega) with rfl | rfl
      · refine ⟨_, rfl, _, _, rfl, rfl, m, _, _, _, rfl, rfl, SqT.of hm, at_of (j := 0) (by decide) rfl, ?_⟩
        refine ⟨_, rfl, p, L, 19, rfl, plm, h2, h64, by decide, by decide, fun r H2 r0 r1 e2 pl2 => ?_⟩
        refine ⟨_, _, rfl, rfl, _, rfl, p, L, 19, rfl, pl2, h2, h64, by decide, by decide, fun r' H3 r0' r1' e3 pl3 => ?_⟩
        refine ⟨_, _, rfl, rfl, small100 (n := 3) (by decide), fun t nt => ?_⟩
        exact fin (c := .aim (r - 9) (r' - 9)) (ok2 (l := (-9, 9)) rfl rfl (by show (-9 : Int) ≤ r - 9; omega) (by show r - 9 ≤ (9 : Int); omega) (by show (-9 : Int) ≤ r' - 9; omega) (by show r' - 9 ≤ (9 : Int); omega)) (em.trans (e2.trans e3)) pl3 nt
      · refine ⟨_, rfl, _, _, rfl, rfl, m, _, _, _, rfl, rfl, SqT.of hm, at_of (j := 1) (by decide) rfl, ?_⟩
        refine ⟨_, rfl, p, L, 19, rfl, plm, h2, h64, by decide, by decide, fun r H2 r0 r1 e2 pl2 => ?_⟩
        refine ⟨_, _, rfl, rfl, _, rfl, p, L, 19, rfl, pl2, h2, h64, by decide, by decide, fun r' H3 r0' r1' e3 pl3 => ?_⟩
        refine ⟨_, _, rfl, rfl, small100 (n := 3) (by decide), fun t nt => ?_⟩
        exact fin (c := .place (r - 9) (r' - 9)) (ok2 (l := (-9, 9)) rfl rfl (by show (-9 : Int) ≤ r - 9; omega) (by show r - 9 ≤ (9 : Int); omega) (by show (-9 : Int) ≤ r' - 9; omega) (by show r' - 9 ≤ (9 : Int); omega)) (em.trans (e2.trans e3)) pl3 nt
    · have h5 : ¬ k < 5 := fun h => h5 (decide_eq_true h)
      refine ⟨small100 (n := 4) (by decide), fun m nm => ?_⟩
      have nmp := pl1.ne nm
      have em : Kp p H (upd H1 m (.tup [.str "mirror", .str "mark", .str "return", .str "exchange"])) := e1.new (e1.none nm nmp)
      have plm : Pool (upd H1 m (.tup [.str "mirror", .str "mark", .str "return", .str "exchange"])) p L := pl1.new nm
      have hm : (upd H1 m (.tup [.str "mirror", .str "mark", .str "return", .str "exchange"])) m = some (.tup [.str "mirror", .str "mark", .str "return", .str "exchange"]) := upd_same
      generalize upd H1 m (.tup [.str "mirror", .str "mark", .str "return", .str "exchange"]) = J at *
      rcases (show k = 5 ∨ k = 6 ∨ k = 7 ∨ k = 8 by omega) with rfl | rfl | rfl | rfl
      · refine ⟨_, rfl, _, _, rfl, rfl, m, _, _, _, rfl, rfl, SqT.of hm, at_of (j := 0) (by decide) rfl, small100 (n := 1) (by decide), fun t nt => ?_⟩
        exact fin (c := .mirror) (ok0 rfl) em plm nt
      · refine ⟨_, rfl, _, _, rfl, rfl, m, _, _, _, rfl, rfl, SqT.of hm, at_of (j := 1) (by decide) rfl, small100 (n := 1) (by decide), fun t nt => ?_⟩
        exact fin (c := .mark) (ok0 rfl) em plm nt
      · refine ⟨_, rfl, _, _, rfl, rfl, m, _, _, _, rfl, rfl, SqT.of hm, at_of (j := 2) (by decide) rfl, small100 (n := 1) (by decide), fun t nt => ?_⟩
        exact fin (c := .ret) (ok0 rfl) em plm nt
      · refine ⟨_, rfl, _, _, rfl, rfl, m, _, _, _, rfl, rfl, SqT.of hm, at_of (j := 3) (by decide) rfl, small100 (n := 1) (by decide), fun t nt => ?_⟩
        exact fin (c := .exch) (ok0 rfl) em plm nt

--SPLIT
theorem ok_lcopy_step (T : Top w K mg) (n : Nat) (G__law_copy : FnOk P w K mg base CX0 (n + 1) T.a__law_copy T.d__law_copy ["_law_block_here"] (sp_copied n)) :
    FnOk P w K mg base CX0 (n + 2) T.a__law_copy T.d__law_copy ["_law_block_here"] (sp_copied (n + 1)) := by
  refine T.F__law_copy.ok sc__law_copy (fun vs H Q E h => ?_) (fun cdv A outer s H vs Q E hr h => ?_)
  · obtain ⟨S, z, v, many, l, rfl, _⟩ := h
    rfl
  · obtain ⟨S, b, v, many, l, rfl, hv, h8, ho, hl3, hl, q⟩ := h
    refine ⟨_, (pss_one (ps_ret (pe_lc (own := [("_law_row", 1)]) (g := (gName 1)) (tt := tYes) rfl sc__law_copy.nd (k_piL K (pv 0)) (blkOk_by (N := N__law_copy) (sc := defScope s__law_copy) (by decide +kernel)) (fun _ _ _ _ _ => (pg_name (i := 1) sc__law_copy.nd rfl (Or.inl rfl))) (fun _ _ _ _ _ => pts_nil) (fun _ _ _ _ _ => (pe_call (ok__law_with T) (hr.mono (by omega)) (by rfl) T.g__law_with T.F__law_with.kp (b__law_with T) .nil pass0 (pa_cons (pv 1) (pa_cons (pe_lc (own := [("_law_inner", 2)]) (g := (gName 2)) (tt := tYes) rfl sc__law_copy.nd (k_piL K (pe_call (ok__law_blocks T) (hr.mono (by omega)) (by rfl) T.g__law_blocks T.F__law_blocks.kp (b__law_blocks T) .nil pass0 (pa_cons (pv 1) pa_nil))) (blkOk_by (N := N__law_copy) (sc := (relS ({ kind := .function, names := [(".0", .local), ("_law_row", .local), ("_law_with", .globalImplicit), ("_law_blocks", .globalImplicit)], isGenerator := false, isCoroutine := false } : Scope) (defScope s__law_copy))) (by decide +kernel)) (fun _ _ _ _ _ => (pg_name (i := 2) sc__law_copy.nd rfl (Or.inl rfl))) (fun _ _ _ _ _ => pts_nil) (fun _ _ _ _ _ => (pe_call G__law_copy (hr.mono (by omega)) (by rfl) T.g__law_copy T.F__law_copy.kp (b__law_copy T) .nil pass0 (pa_cons (pv 2) pa_nil)))) pa_nil))))))), ?_⟩
    obtain ⟨a, ys, rfl, sa, ha, hs⟩ := hv
    have hl2 := hs.len
    rw [blkD_len] at hl2
    refine ⟨_, rfl, a, rfl, ⟨_, SqL.of ha⟩, fun D nD => ?_⟩
    refine lc_list (xs := ys) (fun i H' => Bld H D ((blkD b).take i) H') (Bld.nil nD) (fun i H' _ h => h.1.seq (SqL.of ha)) (fun i x H' hx h => ?_) (fun H' h => ?_)
    · obtain ⟨d, hd, tx⟩ := hs.get hx
      obtain ⟨z, hz, rfl⟩ := blkD_get hd
      have hi := (List.getElem?_eq_some_iff.mp hx).1
      have tx := tx.same h.1
      refine ⟨rfl, _, rfl, _, rfl, S, z, x, rfl, tx, fun qa zs H1 s1 nq hq tz => ?_⟩
      have lz := tz.len
      rw [List.length_map] at lz
      have l2 := blocks_len z
      refine ⟨qa, rfl, ⟨_, SqL.of hq⟩, fun D2 nD2 => ?_⟩
      refine lc_list (xs := zs) (fun j H2 => Bld H1 D2 ((z.blocks.map bD).take j) H2) (Bld.nil nD2) (fun j H2 _ g => g.1.seq (SqL.of hq)) (fun j x2 H2 hx2 g => ?_) (fun H2 g => ?_)
      · obtain ⟨d2, hd2, tx2⟩ := tz.get hx2
        obtain ⟨zb, hzb, mzb, rfl⟩ := get_blocks hd2
        obtain ⟨o1, o2, o3⟩ := ok_block (okB_get ho hz) mzb
        have hj := (List.getElem?_eq_some_iff.mp hx2).1
        refine ⟨rfl, _, rfl, S, zb, x2, many, l + 1, rfl, tx2.same g.1, o2, o3, by omega, by omega, fun r H3 s3 tr => ?_⟩
        obtain ⟨us, hD2, lu, m⟩ := g.push nD2 s3 tr
        refine ⟨us, hD2, ?_, ?_⟩
        · rw [lu, List.length_take]
          exact small1000 (by omega)
        · rw [List.take_add_one, hd2]
          exact m
      · rw [lz, ← List.length_map (f := bD), List.take_length] at g
        have st := s1.trans g.1
        obtain ⟨_, us, e', sD, hD', tu⟩ := g.done nD2
        cases e'
        refine ⟨S, New H', z, x, D2, us, rfl, tx.same st, s1.free nD2, hD', tu.newer s1, fun r H3 s3 tr => ?_⟩
        obtain ⟨ws, hD, lw, m⟩ := h.push nD (st.trans s3) tr
        refine ⟨ws, hD, ?_, ?_⟩
        · rw [lw, List.length_take]
          exact small1000 (by omega)
        · rw [List.take_add_one, hd]
          exact m
    · rw [hl2, ← blkD_len, List.take_length] at h
      exact q _ _ h.1 (h.done nD)
theorem none_lcopy (T : Top w K mg) : FnOk P w K mg base CX0 1 T.a__law_copy T.d__law_copy ["_law_block_here"] (sp_copied 0) := by
  have no : ∀ vs H Q E, ¬ sp_copied 0 vs H Q E := fun vs H Q E ⟨_, _, _, _, l, _, _, _, _, h1, h2, _⟩ => by omega
  exact ⟨fun vs H Q E h => absurd h (no vs H Q E), fun A outer s H args us vs Q E _ _ _ _ h => absurd h (no vs H Q E)⟩
theorem all_lcopy (T : Top w K mg) : ∀ n : Nat, FnOk P w K mg base CX0 (n + 1) T.a__law_copy T.d__law_copy ["_law_block_here"] (sp_copied n)
  | 0 => none_lcopy T
  | n + 1 => ok_lcopy_step T n (all_lcopy T n)
theorem ok__law_copy (T : Top w K mg) : FnOk P w K mg base CX0 5 T.a__law_copy T.d__law_copy ["_law_block_here"] (sp_copied 4) := all_lcopy T 4

def sp__law_copies : Sp := fun vs H Q _ => ∃ (S : Addr → Prop) (bs : List (List Stm)) (v : V), vs = [v] ∧ Tr S H (bookD bs) v ∧ OkBook bs ∧ ∀ r H', Same H H' → Tr (New H) H' (bookD bs) r → Q r H'
theorem ok__law_copies (T : Top w K mg) : FnOk P w K mg base CX0 6 T.a__law_copies T.d__law_copies ["_law_bodies"] sp__law_copies := by
  refine T.F__law_copies.ok sc__law_copies (fun vs H Q E h => ?_) (fun cdv A outer s H vs Q E hr h => ?_)
  · obtain ⟨S, bs, v, rfl, _⟩ := h
    rfl
  · obtain ⟨S, bs, v, rfl, hv, ho, q⟩ := h
    refine ⟨_, (pss_one (ps_ret (pe_lc (own := [("_law_body_here", 1)]) (g := (gName 1)) (tt := tYes) rfl sc__law_copies.nd (k_piL K (pv 0)) (blkOk_by (N := N__law_copies) (sc := defScope s__law_copies) (by decide +kernel)) (fun _ _ _ _ _ => (pg_name (i := 1) sc__law_copies.nd rfl (Or.inl rfl))) (fun _ _ _ _ _ => pts_nil) (fun _ _ _ _ _ => (pe_call (ok__law_copy T) hr (by rfl) T.g__law_copy T.F__law_copy.kp (b__law_copy T) .nil pass0 (pa_cons (pv 1) pa_nil)))))), ?_⟩
    obtain ⟨a, ys, rfl, sa, ha, hs⟩ := hv
    have hl2 := hs.len
    rw [List.length_map] at hl2
    have hi3 := ho.hi
    refine ⟨_, rfl, a, rfl, ⟨_, SqL.of ha⟩, fun D nD => ?_⟩
    refine lc_list (xs := ys) (fun i H' => Bld H D ((bs.map bD).take i) H') (Bld.nil nD) (fun i H' _ h => h.1.seq (SqL.of ha)) (fun i x H' hx h => ?_) (fun H' h => ?_)
    · obtain ⟨d, hd, tx⟩ := hs.get hx
      obtain ⟨b, hb, mb, rfl⟩ := get_bodies hd
      obtain ⟨o1, o2, o3⟩ := ho.each b mb
      refine ⟨rfl, _, rfl, S, b, x, bs.length, 0, rfl, tx.same h.1, o1, o3, by decide, by decide, fun r H2 s2 tr => ?_⟩
      obtain ⟨zs, hD, lz, m⟩ := h.push nD s2 tr
      have hi := (List.getElem?_eq_some_iff.mp hx).1
      refine ⟨zs, hD, ?_, ?_⟩
      · rw [lz, List.length_take]
        exact small1000 (by omega)
      · rw [List.take_add_one, hd]
        exact m
    · rw [hl2, ← List.length_map (f := bD), List.take_length] at h
      exact q _ _ h.1 (h.done nD)

section
variable (K : PySem.W.Frag) {X : Cx}
theorem ki_lt (d : PyData) : PySem.W.kitAny K (.type (clsN d)) [.type "list", .type "tuple"] = some (isLs d || isTp d) := by
  unfold PySem.W.kitAny
  rw [ki_list K d]
  cases h : isLs d
  · unfold PySem.W.kitAny
    rw [ki_tuple K d]
    cases h2 : isTp d
    · rfl
    · rfl
  · rfl
end
/-- a list's or a tuple's items -/
def itemsD : PyData → List PyData
  | .list ds => ds
  | .tuple ds => ds
  | _ => []
theorem seq_of {S : Addr → Prop} {H : Hp} {d : PyData} {v : V} (K : PySem.W.Frag) (t : Tr S H d v) (h : (isLs d || isTp d) = true) : ∃ a xs, v = .ref a ∧ ((isLs d = true ∧ H a = some (.lst xs)) ∨ (isLs d = false ∧ H a = some (.tup xs))) ∧ TrAll S H (itemsD d) xs := by
  cases d with
  | list ds =>
    obtain ⟨a, xs, e, s, l, q⟩ := t
    exact ⟨a, xs, e, .inl ⟨rfl, l⟩, q⟩
  | tuple ds =>
    obtain ⟨a, xs, e, l, q⟩ := t
    exact ⟨a, xs, e, .inr ⟨rfl, l⟩, q⟩
  | _ => cases h
theorem fit_items {d : PyData} {n : Nat} (h : Fit d (n + 1)) (g : (isLs d || isTp d) = true) : (itemsD d).length ≤ 100 ∧ FitAll (itemsD d) n := by
  cases d with
  | list ds => exact h
  | tuple ds => exact h
  | _ => cases g
theorem same_items {d e : PyData} (h : isLs d = isLs e) (h2 : isTp d = isTp e) (g : (isLs d || isTp d) = true) : sameD d e = sameAll (itemsD d) (itemsD e) := by
  cases d <;> cases e <;> simp_all [isLs, isTp, sameD, itemsD]
theorem same_kinds {d e : PyData} (h : isLs d ≠ isLs e ∨ isTp d ≠ isTp e) (g : (isLs d || isTp d) = true) : sameD d e = false := by
  cases d <;> cases e <;> simp_all [isLs, isTp, sameD]
theorem same_leafL {d e : PyData} (g : (isLs d || isTp d) = false) (h : (isLs e || isTp e) = true) : sameD d e = false := by
  cases d <;> cases e <;> simp_all [isLs, isTp, sameD]
theorem same_leafB {d e : PyData} (g : (isLs d || isTp d) = false) (h : (isLs e || isTp e) = false) (b : isBl d ≠ isBl e) : sameD d e = false := by
  cases d <;> cases e <;> simp_all [isLs, isTp, isBl, sameD]
theorem same_leaf {d e : PyData} (g : (isLs d || isTp d) = false) (h : (isLs e || isTp e) = false) (b : isBl d = isBl e) : sameD d e = (decide (isNum d = isNum e) && PyData.eqv d e) := by
  cases d <;> cases e <;> simp_all [isLs, isTp, isBl, isNum, sameD, PyData.eqv]
def sp__law_same (n : Nat) : Sp := fun vs H Q _ => ∃ (S S' : Addr → Prop) (d e : PyData) (v u : V), vs = [v, u] ∧ Tr S H d v ∧ Tr S' H e u ∧ Fit d n ∧ Fit e n ∧ n ≤ 60 ∧ ∀ H', Same H H' → Q (.bl (sameD d e)) H'
theorem ok_same_step (T : Top w K mg) (n : Nat) (G__law_same : FnOk P w K mg base CX0 (n + 1) T.a__law_same T.d__law_same ["_law_one", "_law_other"] (sp__law_same n)) :
    FnOk P w K mg base CX0 (n + 2) T.a__law_same T.d__law_same ["_law_one", "_law_other"] (sp__law_same (n + 1)) := by
  refine T.F__law_same.ok sc__law_same (fun vs H Q E h => ?_) (fun cdv A outer s H vs Q E hr h => ?_)
  · obtain ⟨S, S', d, e, v, u, rfl, _⟩ := h
    rfl
  · obtain ⟨S, S', d, e, v, u, rfl, hv, hu, fd, fe, hn, q⟩ := h
    refine ⟨_, (pss_cons (ps_if (pt_val (pe_callB (k_isiT K) (by rfl) T.z_isinstance bt_isinstance (pa_cons (pv 0) (pa_cons (pe_tup (pa_cons (pe_bltn (v := .ty "list") (by rfl) T.z_list bt_list rfl) (pa_cons (pe_bltn (v := .ty "tuple") (by rfl) T.z_tuple bt_tuple rfl) pa_nil))) pa_nil)))) (pss_cons (ps_if (PW.pt (pw_or (pt_cmpR op_ne (pe_callB (k_isi K) (by rfl) T.z_isinstance bt_isinstance (pa_cons (pv 0) (pa_cons (pe_bltn (v := .ty "list") (by rfl) T.z_list bt_list rfl) pa_nil))) (pe_callB (k_isi K) (by rfl) T.z_isinstance bt_isinstance (pa_cons (pv 1) (pa_cons (pe_bltn (v := .ty "list") (by rfl) T.z_list bt_list rfl) pa_nil))) (nomark _)) (pw_or1 (pt_cmpR op_ne (pe_callB (k_isi K) (by rfl) T.z_isinstance bt_isinstance (pa_cons (pv 0) (pa_cons (pe_bltn (v := .ty "tuple") (by rfl) T.z_tuple bt_tuple rfl) pa_nil))) (pe_callB (k_isi K) (by rfl) T.z_isinstance bt_isinstance (pa_cons (pv 1) (pa_cons (pe_bltn (v := .ty "tuple") (by rfl) T.z_tuple bt_tuple rfl) pa_nil))) (nomark _))))) (pss_one (ps_ret pe_bl)) pss_nil)
        (pss_one (ps_ret (pe_and (pe_cmpR op_eq (pe_callB (k_len K) (by rfl) T.z_len bt_len (pa_cons (pv 0) pa_nil)) (pe_callB (k_len K) (by rfl) T.z_len bt_len (pa_cons (pv 1) pa_nil)) (nomark _)) (pe_one (pe_callB (k_all K) (by rfl) T.z_all bt_all (pa_cons (pe_lc (own := [("_law_k", 2)]) (g := (gName 2)) (tt := tYes) rfl sc__law_same.nd (pi_range1 (by rfl) T.z_range (pa_cons (pe_callB (k_len K) (by rfl) T.z_len bt_len (pa_cons (pv 0) pa_nil)) pa_nil)) (blkOk_by (N := N__law_same) (sc := defScope s__law_same) (by decide +kernel)) (fun _ _ _ _ _ => (pg_name (i := 2) sc__law_same.nd rfl (Or.inl rfl))) (fun _ _ _ _ _ => pts_nil) (fun _ _ _ _ _ => (pe_call G__law_same (hr.mono (by omega)) (by rfl) T.g__law_same T.F__law_same.kp (b__law_same T) .nil pass0 (pa_cons (pe_ix (k_ixQ K) (pv 0) (pv 2) (fun _ _ => rfl)) (pa_cons (pe_ix (k_ixQ K) (pv 1) (pv 2) (fun _ _ => rfl)) pa_nil))))) pa_nil))))))) pss_nil)
      (pss_cons (ps_if (PW.pt (pw_or (pt_val (pe_callB (k_isiT K) (by rfl) T.z_isinstance bt_isinstance (pa_cons (pv 1) (pa_cons (pe_tup (pa_cons (pe_bltn (v := .ty "list") (by rfl) T.z_list bt_list rfl) (pa_cons (pe_bltn (v := .ty "tuple") (by rfl) T.z_tuple bt_tuple rfl) pa_nil))) pa_nil)))) (pw_or1 (pt_cmpR op_ne (pe_callB (k_isi K) (by rfl) T.z_isinstance bt_isinstance (pa_cons (pv 0) (pa_cons (pe_bltn (v := .ty "bool") (by rfl) T.z_bool bt_bool rfl) pa_nil))) (pe_callB (k_isi K) (by rfl) T.z_isinstance bt_isinstance (pa_cons (pv 1) (pa_cons (pe_bltn (v := .ty "bool") (by rfl) T.z_bool bt_bool rfl) pa_nil))) (nomark _))))) (pss_one (ps_ret pe_bl)) pss_nil)
      (pss_one (ps_ret (pe_and (pe_cmpR op_eq (pe_callB (k_isi K) (by rfl) T.z_isinstance bt_isinstance (pa_cons (pv 0) (pa_cons (pe_bltn (v := .ty "int") (by rfl) T.z_int bt_int rfl) pa_nil))) (pe_callB (k_isi K) (by rfl) T.z_isinstance bt_isinstance (pa_cons (pv 1) (pa_cons (pe_bltn (v := .ty "int") (by rfl) T.z_int bt_int rfl) pa_nil))) (nomark _)) (pe_one (pe_cmpR (op_eqD (hu64 hr)) (pv 0) (pv 1) (nomark _)))))))), ?_⟩
    refine ⟨_, rfl, small100 (n := 2) (by decide), fun t nt => ?_⟩
    have s1 := same_upd (o := .tup [V.ty "list", V.ty "tuple"]) nt
    have ht : (upd H t (.tup [V.ty "list", V.ty "tuple"])) t = some (.tup [V.ty "list", V.ty "tuple"]) := upd_same
    have hv := hv.same s1
    have hu := hu.same s1
    generalize upd H t _ = H1 at *
    refine ⟨_, t, _, _, _, _, rfl, ht, .cons (.ty _) (.cons (.ty _) .nil), tr_ty K hv, ki_lt K d, _, rfl, ifB (fun g => ?_) (fun g => ?_)⟩
    · obtain ⟨fl, fa⟩ := fit_items fd g
      have decB : ∀ {a b : Bool}, (!decide (V.bl a = V.bl b)) = true → a ≠ b := fun h e => by
        rw [e, decide_eq_true rfl] at h
        cases h
      have decB' : ∀ {a b : Bool}, (!decide (V.bl a = V.bl b)) = false → a = b := fun {a b} h => by
        by_cases e : V.bl a = V.bl b
        · exact V.bl.inj e
        · rw [decide_eq_false e] at h
          cases h
      refine ⟨_, rfl, _, _, _, _, _, rfl, .ty _, tr_ty K hv, ki_list K d, _, rfl, _, _, _, _, _, rfl, .ty _, tr_ty K hu, ki_list K e, rfl, _, rfl, ifB (fun c => ?_) (fun c => ?_)⟩
      · rw [same_kinds (.inl (decB c)) g] at q
        exact q _ s1
      have c1 := decB' c
      refine ⟨_, rfl, _, _, _, _, _, rfl, .ty _, tr_ty K hv, ki_tuple K d, _, rfl, _, _, _, _, _, rfl, .ty _, tr_ty K hu, ki_tuple K e, rfl, _, rfl, ifB (fun c => ?_) (fun c => ?_)⟩
      · rw [same_kinds (.inr (decB c)) g] at q
        exact q _ s1
      have c2 := decB' c
      have g2 : (isLs e || isTp e) = true := by rw [← c1, ← c2]; exact g
      obtain ⟨fl2, fa2⟩ := fit_items fe g2
      rw [same_items c1 c2 g] at q
      obtain ⟨a, xs, rfl, ha, hs⟩ := seq_of K hv g
      obtain ⟨b, ys, rfl, hb, hs2⟩ := seq_of K hu g2
      have lx := hs.len
      have ly := hs2.len
      have sqa : ∀ {J : Hp}, Same H1 J → SqL K J a xs ∨ SqT K J a xs := fun s => ha.elim (fun h => .inl (SqL.of (s _ _ h.2))) fun h => .inr (SqT.of (s _ _ h.2))
      have sqb : ∀ {J : Hp}, Same H1 J → SqL K J b ys ∨ SqT K J b ys := fun s => hb.elim (fun h => .inl (SqL.of (s _ _ h.2))) fun h => .inr (SqT.of (s _ _ h.2))
      refine ⟨_, rfl, a, _, rfl, sqa (Same.refl _), _, rfl, b, _, rfl, sqb (Same.refl _), rfl, _, rfl, ?_⟩
      by_cases el : (itemsD d).length = (itemsD e).length
      · refine iteP (by rw [lx, ly, el]) ?_
        rw [sameAll_zip _ _ el] at q
        refine ⟨_, rfl, a, _, rfl, sqa (Same.refl _), ((xs.length : Nat) : Int), rfl, by omega, by omega, fun D nD => ?_⟩
        have lz : (List.zipWith sameD (itemsD d) (itemsD e)).length = xs.length := by rw [List.length_zipWith, ← el, lx]; omega
        refine lc_range (n := ((xs.length : Nat) : Int).toNat) (fun i H' => Same H1 H' ∧ H' D = some (.lst (((List.zipWith sameD (itemsD d) (itemsD e)).take i).map V.bl))) ⟨same_upd nD, upd_same⟩ (fun i H' hi h => ?_) (fun H' h => ?_)
        · obtain ⟨sm, hD⟩ := h
          have hi1 : i < xs.length := by omega
          have hi2 : i < ys.length := by omega
          have gx : xs[i]? = some xs[i] := List.getElem?_eq_getElem hi1
          have gy : ys[i]? = some ys[i] := List.getElem?_eq_getElem hi2
          obtain ⟨dx, hdx, tx⟩ := hs.get gx
          obtain ⟨dy, hdy, ty⟩ := hs2.get gy
          have ax : atI xs (0 + (i : Int)) = some xs[i] := at_of (j := i) (by omega) gx
          have ay : atI ys (0 + (i : Int)) = some ys[i] := at_of (j := i) (by omega) gy
          have rix : ∀ {J : Hp} {p : Addr} {zs : List V} {z : V} {Q' : VK}, (SqL K J p zs ∨ SqT K J p zs) → atI zs (0 + (i : Int)) = some z → Q' z J → rIx K (.ref p) (.int (0 + (i : Int))) J Q' := fun h1 h2 h3 => h1.elim (fun h => .inl ⟨_, _, _, _, rfl, rfl, h, h2, h3⟩) fun h => .inr (.inl ⟨_, _, _, _, rfl, rfl, h, h2, h3⟩)
          refine ⟨rfl, _, rfl, _, rfl, rix (sqa sm) ax ⟨_, rfl, _, rfl, rix (sqb sm) ay ?_⟩⟩
          refine ⟨S, S', dx, dy, _, _, rfl, tx.same sm, ty.same sm, fa.get hdx, fa2.get hdy, by omega, fun J sJ => ⟨_, sJ _ _ hD, ?_, same_new (sm.trans sJ) nD, ?_⟩⟩
          · rw [List.length_map, List.length_take]
            exact small1000 (by omega)
          · rw [upd_same, List.take_add_one, List.getElem?_zipWith, hdx, hdy, List.map_append]
            rfl
        · rw [show ((xs.length : Nat) : Int).toNat = xs.length by omega, ← lz, List.take_length] at h
          exact ⟨D, _, rfl, SqL.of h.2, q _ (s1.trans h.1)⟩
      · refine iteN (fun z => el (by have := V.int.inj z; omega)) ?_
        rw [sameAll_len _ _ el] at q
        exact q _ s1
    · refine ⟨_, rfl, small100 (n := 2) (by decide), fun t2 nt2 => ?_⟩
      have s2 := s1.trans (same_upd (o := .tup [V.ty "list", V.ty "tuple"]) nt2)
      have ht2 : (upd H1 t2 (.tup [V.ty "list", V.ty "tuple"])) t2 = some (.tup [V.ty "list", V.ty "tuple"]) := upd_same
      have hv := hv.same (same_upd (o := .tup [V.ty "list", V.ty "tuple"]) nt2)
      have hu := hu.same (same_upd (o := .tup [V.ty "list", V.ty "tuple"]) nt2)
      generalize upd H1 t2 _ = H2 at *
      refine ⟨_, t2, _, _, _, _, rfl, ht2, .cons (.ty _) (.cons (.ty _) .nil), tr_ty K hu, ki_lt K e, _, rfl, ifB (fun g2 => ?_) (fun g2 => ?_)⟩
      · rw [same_leafL g g2] at q
        exact q _ s2
      refine ⟨_, rfl, _, _, _, _, _, rfl, .ty _, tr_ty K hv, ki_bool K d, _, rfl, _, _, _, _, _, rfl, .ty _, tr_ty K hu, ki_bool K e, rfl, _, rfl, ifB (fun c => ?_) (fun c => ?_)⟩
      · rw [same_leafB g g2 (fun e => by rw [e, decide_eq_true rfl] at c; cases c)] at q
        exact q _ s2
      have c1 : isBl d = isBl e := by
        by_cases h : V.bl (isBl d) = V.bl (isBl e)
        · exact V.bl.inj h
        · rw [decide_eq_false h] at c
          cases c
      rw [same_leaf g g2 c1] at q
      refine ⟨_, rfl, _, _, _, _, _, rfl, .ty _, tr_ty K hv, ki_int K d, _, rfl, _, _, _, _, _, rfl, .ty _, tr_ty K hu, ki_int K e, rfl, _, rfl, ?_⟩
      by_cases c3 : isNum d = isNum e
      · refine iteP (by rw [c3]) ?_
        rw [decide_eq_true c3, Bool.true_and] at q
        have sd := fd.shaped (by omega)
        have se := fe.shaped (by omega)
        exact ⟨_, rfl, _, rfl, d, e, Tr.dp _ _ (canOf sd) hv, Tr.dp _ _ (canOf se) hu, sd, se, q _ s2⟩
      · refine iteN (fun z => c3 (V.bl.inj z)) ?_
        rw [decide_eq_false c3, Bool.false_and] at q
        exact q _ s2
theorem none_same (T : Top w K mg) : FnOk P w K mg base CX0 1 T.a__law_same T.d__law_same ["_law_one", "_law_other"] (sp__law_same 0) := by
  have no : ∀ vs H Q E, ¬ sp__law_same 0 vs H Q E := fun vs H Q E ⟨_, _, d, _, _, _, _, _, _, h, _⟩ => by cases d <;> exact h.elim
  exact ⟨fun vs H Q E h => absurd h (no vs H Q E), fun A outer s H args us vs Q E _ _ _ _ h => absurd h (no vs H Q E)⟩
theorem all_same (T : Top w K mg) : ∀ n : Nat, FnOk P w K mg base CX0 (n + 1) T.a__law_same T.d__law_same ["_law_one", "_law_other"] (sp__law_same n)
  | 0 => none_same T
  | n + 1 => ok_same_step T n (all_same T n)

theorem ok__law_same (T : Top w K mg) : FnOk P w K mg base CX0 17 T.a__law_same T.d__law_same ["_law_one", "_law_other"] (sp__law_same 16) := all_same T 16

--SPLIT
def F_heads_of : FD := fun ds Q => ∃ (z : Stm) (many l : Nat), ds = [z.d] ∧ z.ok many l ∧ many ≤ 3 ∧ Q (.list (headsD z))
theorem FM_heads_of : FMono F_heads_of := ⟨fun m ⟨z, k, l, e, h, h3, q⟩ => ⟨z, k, l, e, h, h3, m _ q⟩⟩
theorem cm_ne (c : Cm) : (c.word == ("either" : Str)) = false ∧ (c.word == ("keep" : Str)) = false ∧ (c.word == ("again" : Str)) = false ∧ (c.word == ("call" : Str)) = false := by cases c <;> (simp only [Cm.word]; decide +kernel)
theorem sh_word (z : Stm) : SeqAt.shaped (.str z.word) = true := sh_str (word_ok z)
def strF : PyData → PyData
  | .int i => .str (iS i)
  | d => d
set_option maxHeartbeats 4000000 in
theorem ok_heads_of (T : Top w K mg) : FnOk P w K mg base CX0 1 T.a_heads_of T.d_heads_of ["statement"] (spF F_heads_of) := by
  refine fnF FM_heads_of T.F_heads_of sc_heads_of (fun ds Q ⟨z, _, _, e, _⟩ => by rw [e]; rfl) (fun c cdv A outer s H E hr => (pdss_cons (pds_set (i := 1) (fun h => ps_set (i := 1) sc_heads_of.nd rfl (Or.inl rfl) h) (pd_op (fun ha hb => pe_ix (k_ixQ K) ha hb (fun _ _ => rfl)) dk_ix (pd_name (pv 0)) pd_int))
      (pdss_cons (pds_if (pdt_op (fun ha hb => pt_cmpR (k_eqD K (hu64 hr)) ha hb (nomark _)) dk_eq (pd_name (pv 1)) pd_str) (pdss_one (pds_ret (pdn (pn_lst (pda_cons (pd_tup (pda_cons pd_str (pda_cons (pd_op (fun ha hb => pe_ix (k_ixQ K) ha hb (fun _ _ => rfl)) dk_ix (pd_name (pv 0)) pd_int) pda_nil))) (pda_cons (pd_tup (pda_cons pd_str (pda_cons (pd_op (fun ha hb => pe_ix (k_ixQ K) ha hb (fun _ _ => rfl)) dk_ix (pd_name (pv 0)) pd_int) pda_nil))) pda_nil)))))) pdss_nil)
      (pdss_cons (pds_if (pdt_op (fun ha hb => pt_cmpR (k_inA K (hu65 hr)) ha hb rfl) dk_in (pd_name (pv 1)) (pd_tup (pda_cons pd_str (pda_cons pd_str pda_nil)))) (pdss_one (pds_ret (pdn (pn_lst (pda_cons (pd_tup (pda_cons (pd_name (pv 1)) (pda_cons (pd_op (fun ha hb => pe_ix (k_ixQ K) ha hb (fun _ _ => rfl)) dk_ix (pd_name (pv 0)) pd_int) pda_nil))) pda_nil))))) pdss_nil)
      (pdss_cons (pds_if (pdt_op (fun ha hb => pt_cmpR (k_eqD K (hu64 hr)) ha hb (nomark _)) dk_eq (pd_name (pv 1)) pd_str) (pdss_cons (pds_asg (vs := [2, 3, 4, 5]) (fun h g => ps_asg h g) (pd_name (pv 0)) (pdg_tup (K := K) (n := 4) (fun h => pg_tup rfl h) (pdgs_cons (fun h1 h2 => pgs_cons h1 h2) (pdg_name (pg_name (i := 2) sc_heads_of.nd rfl (Or.inl rfl)) (by decide)) (pdgs_cons (fun h1 h2 => pgs_cons h1 h2) (pdg_name (pg_name (i := 3) sc_heads_of.nd rfl (Or.inl rfl)) (by decide)) (pdgs_cons (fun h1 h2 => pgs_cons h1 h2) (pdg_name (pg_name (i := 4) sc_heads_of.nd rfl (Or.inl rfl)) (by decide)) (pdgs_cons (fun h1 h2 => pgs_cons h1 h2) (pdg_name (pg_name (i := 5) sc_heads_of.nd rfl (Or.inl rfl)) (by decide)) pdgs_nil))))))
        (pdss_cons (pds_set (i := 6) (fun h => ps_set (i := 6) sc_heads_of.nd rfl (Or.inl rfl) h) (pd_if (pdt_val (fun h => pt_val h) (pd_name (pv 4))) (pd_joined (PDJ.cons pd_str (PDJ.cons (pd_fmt (fun h => pe_fmt h) (pd_name (pv 3))) (PDJ.cons pd_str PDJ.nil)))) (pd_joined (PDJ.cons pd_str (PDJ.cons (pd_fmt (fun h => pe_fmt h) (pd_name (pv 3))) PDJ.nil)))))
        (pdss_one (pds_ret (pdn (pn_lst (pda_cons (pd_tup (pda_cons (pd_name (pv 6)) (pda_cons pd_non pda_nil))) (pda_cons (pd_tup (pda_cons pd_str (pda_cons (pd_op (fun ha hb => pe_ix (k_ixQ K) ha hb (fun _ _ => rfl)) dk_ix (pd_name (pv 5)) pd_int) pda_nil))) (pda_cons (pd_tup (pda_cons pd_str (pda_cons (pd_op (fun ha hb => pe_ix (k_ixQ K) ha hb (fun _ _ => rfl)) dk_ix (pd_name (pv 5)) pd_int) pda_nil))) pda_nil))))))))) pdss_nil)
      (pdss_one (pds_ret (pdn (pn_lst (pda_cons (pd_tup (pda_cons (pd_join (fun h h2 => pe_join h h2) pd_str (pdn (pn_lc (vs := [7]) (fun hi hg ht he => pe_lc (own := [("item", 7)]) rfl sc_heads_of.nd hi (blkOk_by (N := N_heads_of) (sc := defScope s_heads_of) (by decide +kernel)) hg ht he) (pdi_tup (K := K) (fun h => k_piT K h) (pd_name (pv 0))) (fun _ _ _ _ _ => (pdg_name (pg_name (i := 7) sc_heads_of.nd rfl (Or.inl rfl)) (by decide))) (fun _ _ _ _ _ => pdts_nil) (fun _ _ _ _ _ => (pd_cl (fun h => pe_callTy call_strA (by rfl) T.z_str bt_str h) dk_str (pda_cons (pd_name (pv 7)) pda_nil)))))) (pda_cons pd_non pda_nil))) pda_nil)))))))))) (fun ds Q ⟨z, many, l, e, h, h3, q⟩ => ?_)
  subst e
  simp [dName, dC, dNil, dCons, dTup, nLst, dFrz, Av.dat, Av.seq, dOp, dUn, dCl, dTest, dTru, truD, dtNot, dtAnd, dtOr, deNot, deAnd, deOr, deIf, kI, kI0, kU, kEq, kNe, kIsN, kNotN, kLen, kInt, kListOf, kTupOf, kCat, kCatT, dSkip, dSeq, dSet, dOwn, dRet, dRetN, dIf, dIsi, dCallF, dstart, retD, fends, isI, isLs, isTp, isBl, isNum, isStr, isNo, shI, shB, eqvI2, eqvB, eqvS, sameD, avd1, avd0]
  rw [Stm.d_eq]
  have she : ∀ {s : Str}, PyData.strOk s = true → SeqAt.shaped (.str s) = true := sh_str
  have at0 : ∀ {x : PyData} {r : List PyData}, atI (x :: r) 0 = some x := fun {x r} => show atI (x :: r) ((0 : Nat) : Int) = _ from atI_nat rfl
  have at1 : ∀ {x y : PyData} {r : List PyData}, atI (x :: y :: r) 1 = some y := fun {x y r} => show atI (x :: y :: r) ((1 : Nat) : Int) = _ from atI_nat rfl
  have at2 : ∀ {x y w : PyData} {r : List PyData}, atI (x :: y :: w :: r) 2 = some w := fun {x y w r} => show atI (x :: y :: w :: r) ((2 : Nat) : Int) = _ from atI_nat rfl
  refine ⟨_, 0, .str z.word, rfl, rfl, at0, .str z.word, rfl, sh_word z, she (by decide +kernel), ?_⟩
  rw [eqvS]
  have shka : SeqAt.shaped (.list [.str "keep", .str "again"]) = true := by
    have h1 : PyData.strOk "keep" = true := by decide +kernel
    have h2 : PyData.strOk "again" = true := by decide +kernel
    simp [SeqAt.shaped, PyData.canLay0, PyData.depth, PyData.canLayAll0, PyData.depthAll, h1, h2]
  have anyka : ∀ w : Str, ([PyData.str "keep", .str "again"].any fun y => PyData.eqv y (.str w)) = ((("keep" : Str) == w) || (("again" : Str) == w)) := fun w => by simp [eqvS]
  -- without blocks
  have words : ∀ {P : Av → Prop} (w : Str) (ns : List Int), ns.length ≤ 2 → (∀ n ∈ ns, -9 ≤ n ∧ n ≤ 9) → w.length ≤ 8 → P (.d (.str (Txt.join " " (w :: ns.map iS)))) → dJoin (dC (PyData.str " ")) (dFrz (dLc [7] (xsT (dName 0)) (dgName 7) dtYes (dCl kStr (dCons (dName 7) dNil)))) [some (Av.d (PyData.tuple (PyData.str w :: ns.map PyData.int))), some (Av.d (PyData.str w)), none, none, none, none, none, none] P := fun {P} w ns l2 hb hw hP => by
    refine ⟨_, rfl, _, rfl, _, rfl, lc_map strF (by simp; omega) (fun d hd P' hp => ?_) ?_ mgN⟩
    · rcases List.mem_cons.mp hd with rfl | hd
      · exact ⟨_, rfl, .inr ⟨w, rfl, hp⟩⟩
      · obtain ⟨n, hn, rfl⟩ := List.mem_map.mp hd
        exact ⟨_, rfl, .inl ⟨n, rfl, log_small (by have := hb n hn; omega), hp⟩⟩
    · refine ⟨w :: ns.map iS, ?_, ?_, hP⟩
      · show some (PyData.list _) = _
        simp [strF, Function.comp_def]
      · have := sum_le (n := 8) (ss := w :: ns.map iS) fun s hs => (List.mem_cons.mp hs).elim (fun e => by rw [e]; exact hw) fun hs => by
          obtain ⟨n, hn, rfl⟩ := List.mem_map.mp hs
          exact iS_len (hb n hn).1 (hb n hn).2
        rw [List.length_cons, List.length_map] at this
        rw [List.length_cons, List.length_map, show (" " : Str).length = 1 by decide +kernel]
        omega
  cases z with
  | cmd c =>
    obtain ⟨c1, c2, c3, c4⟩ := cm_ne c
    obtain ⟨n2, n9⟩ := cm_nums h
    rw [show ((Stm.cmd c).word == ("either" : Str)) = false from c1, if_neg Bool.false_ne_true]
    refine ⟨_, _, rfl, rfl, sh_word (.cmd c), shka, .inl ⟨?_, sh_word (.cmd c), she (by decide +kernel), ?_⟩⟩
    · rw [anyka]
      have e2 : (("keep" : Str) == (Stm.cmd c).word) = false := by rw [BEq.comm]; exact c2
      have e3 : (("again" : Str) == (Stm.cmd c).word) = false := by rw [BEq.comm]; exact c3
      rw [e2, e3]
      rfl
    · rw [eqvS, show ((Stm.cmd c).word == ("call" : Str)) = false from c4, if_neg Bool.false_ne_true]
      exact words c.word c.nums n2 n9 (cm_len c) ⟨[_, _], rfl, by simp, q⟩
  | fin w =>
    rw [show ((Stm.fin w).word == ("either" : Str)) = false by show (("end" : Str) == "either") = false; decide +kernel, if_neg Bool.false_ne_true]
    refine ⟨_, _, rfl, rfl, sh_word (.fin w), shka, .inl ⟨?_, sh_word (.fin w), she (by decide +kernel), ?_⟩⟩
    · rw [anyka, show ((("keep" : Str) == (Stm.fin w).word) || (("again" : Str) == (Stm.fin w).word)) = false by show ((("keep" : Str) == "end") || (("again" : Str) == "end")) = false; decide +kernel]
    · rw [eqvS, show ((Stm.fin w).word == ("call" : Str)) = false by show (("end" : Str) == "call") = false; decide +kernel, if_neg Bool.false_ne_true]
      exact words "end" [if w then 1 else 0] (by simp) (fun n hn => by rw [List.mem_singleton.mp hn]; cases w <;> decide) (by decide +kernel) ⟨[_, _], rfl, by simp, q⟩
  | keep b =>
    rw [show ((Stm.keep b).word == ("either" : Str)) = false by show (("keep" : Str) == "either") = false; decide +kernel, if_neg Bool.false_ne_true]
    refine ⟨_, _, rfl, rfl, sh_word (.keep b), shka, .inr ⟨?_, _, 1, bD b, rfl, rfl, at1, _, ⟨[_], rfl, rfl⟩, by simp, q⟩⟩
    rw [anyka, show ((("keep" : Str) == (Stm.keep b).word) || (("again" : Str) == (Stm.keep b).word)) = true by show ((("keep" : Str) == "keep") || (("again" : Str) == "keep")) = true; decide +kernel]
  | again b =>
    rw [show ((Stm.again b).word == ("either" : Str)) = false by show (("again" : Str) == "either") = false; decide +kernel, if_neg Bool.false_ne_true]
    refine ⟨_, _, rfl, rfl, sh_word (.again b), shka, .inr ⟨?_, _, 1, bD b, rfl, rfl, at1, _, ⟨[_], rfl, rfl⟩, by simp, q⟩⟩
    rw [anyka, show ((("keep" : Str) == (Stm.again b).word) || (("again" : Str) == (Stm.again b).word)) = true by show ((("keep" : Str) == "again") || (("again" : Str) == "again")) = true; decide +kernel]
  | either a b =>
    rw [show ((Stm.either a b).word == ("either" : Str)) = true by show (("either" : Str) == "either") = true; decide +kernel, if_pos rfl]
    exact ⟨_, 1, bD a, rfl, rfl, at1, _, ⟨[_], rfl, rfl⟩, by simp, _, 2, bD b, rfl, rfl, at2, _, ⟨[_], rfl, rfl⟩, by simp, q⟩
  | call p s a b =>
    rw [show ((Stm.call p s a b).word == ("either" : Str)) = false by show (("call" : Str) == "either") = false; decide +kernel, if_neg Bool.false_ne_true]
    refine ⟨_, _, rfl, rfl, sh_word (.call p s a b), shka, .inl ⟨?_, sh_word (.call p s a b), she (by decide +kernel), ?_⟩⟩
    · rw [anyka, show ((("keep" : Str) == (Stm.call p s a b).word) || (("again" : Str) == (Stm.call p s a b).word)) = false by show ((("keep" : Str) == "call") || (("again" : Str) == "call")) = false; decide +kernel]
    · rw [eqvS, show ((Stm.call p s a b).word == ("call" : Str)) = true by show (("call" : Str) == "call") = true; decide +kernel, if_pos rfl]
      have p9 : p ≤ 9 := by have := h.2.1; omega
      have pl : (iS (p : Int)).length ≤ 8 := iS_len (by omega) (by omega)
      have l5 : (Str.empty ++ "call " : Str).length = 5 := by decide +kernel
      have l6 : (" saved" : Str).length = 6 := by decide +kernel
      refine ⟨_, rfl, _, rfl, _, rfl, rfl, _, _, rfl, _, _, rfl, _, _, rfl, _, _, rfl, rfl, _, rfl, ?_⟩
      have at3 : ∀ {x : PyData} {r : List PyData}, atI (x :: r) 0 = some x := at0
      cases s with
      | false =>
        have e1 : (Str.empty ++ "call " ++ iS (p : Int)).length ≤ 100 := by rw [Str.length_append, l5]; omega
        exact .inl ⟨rfl, _, rfl, (by decide +kernel), _, rfl, .inr ⟨(p : Int), rfl, log_small (by omega), _, rfl, Nat.le_trans e1 (by decide), _, rfl, [_, _], rfl, by simp, _, rfl, _, 0, bD a, rfl, rfl, at0, _, ⟨[_], rfl, rfl⟩, by simp, _, rfl, _, 1, bD b, rfl, rfl, at1, _, ⟨[_], rfl, rfl⟩, by simp, q⟩⟩
      | true =>
        have e1 : (Str.empty ++ "call " ++ iS (p : Int)).length ≤ 100 := by rw [Str.length_append, l5]; omega
        have e2 : (Str.empty ++ "call " ++ iS (p : Int) ++ " saved").length ≤ 100 := by rw [Str.length_append, Str.length_append, l5, l6]; omega
        exact .inr ⟨rfl, _, rfl, (by decide +kernel), _, rfl, .inr ⟨(p : Int), rfl, log_small (by omega), _, rfl, Nat.le_trans e1 (by decide), _, rfl, Nat.le_trans e2 (by decide), _, rfl, [_, _], rfl, by simp, _, rfl, _, 0, bD a, rfl, rfl, at0, _, ⟨[_], rfl, rfl⟩, by simp, _, rfl, _, 1, bD b, rfl, rfl, at1, _, ⟨[_], rfl, rfl⟩, by simp, q⟩⟩
/-! ### the lines of a block -/
def headsP : Stm → List (Str × Option (List Stm))
  | .either a b => [("either", some a), ("or", some b)]
  | .keep b => [("keep", some b)]
  | .again b => [("again", some b)]
  | .call p s a b => [(callT p s, none), ("way 0", some a), ("way 1", some b)]
  | z => [(Txt.join " " (wordL z), none)]
def headD (x : Str × Option (List Stm)) : PyData := .tuple [.str x.1, match x.2 with | none => .none | some b => bD b]
theorem heads_map (z : Stm) : headsD z = (headsP z).map headD := by cases z <;> rfl
def headLn (l : Nat) (x : Str × Option (List Stm)) : List Str := (mrg l ++ x.1) :: match x.2 with | none => [] | some b => lnB (l + 1) b
theorem lnS_heads (l : Nat) (z : Stm) : lnS l z = (headsP z).flatMap (headLn l) := by
  cases z <;> simp [lnS, headsP, headLn, List.flatMap_cons]
theorem heads_in {z : Stm} {x : Str × Option (List Stm)} {b : List Stm} (h : x ∈ headsP z) (e : x.2 = some b) : b ∈ z.blocks := by
  cases z with
  | cmd c => rw [List.mem_singleton.mp h] at e; cases e
  | fin w => rw [List.mem_singleton.mp h] at e; cases e
  | keep a => rw [List.mem_singleton.mp h] at e; cases e; exact List.mem_cons_self
  | again a => rw [List.mem_singleton.mp h] at e; cases e; exact List.mem_cons_self
  | either a a' =>
    simp only [headsP, List.mem_cons, List.not_mem_nil, or_false] at h
    rcases h with rfl | rfl <;> cases e
    · exact List.mem_cons_self
    · exact List.mem_cons_of_mem _ List.mem_cons_self
  | call p s a a' =>
    simp only [headsP, List.mem_cons, List.not_mem_nil, or_false] at h
    rcases h with rfl | rfl | rfl <;> cases e
    · exact List.mem_cons_self
    · exact List.mem_cons_of_mem _ List.mem_cons_self
theorem heads_len (z : Stm) : (headsP z).length ≤ 3 := by cases z <;> simp [headsP]
theorem head_len {many l : Nat} {z : Stm} (h : z.ok many l) (h3 : many ≤ 3) {x : Str × Option (List Stm)} (hx : x ∈ headsP z) : x.1.length ≤ 40 := by
  have k : ∀ s : Str, s ∈ (["either", "or", "keep", "again", "way 0", "way 1"] : List Str) → s.length ≤ 40 := by decide +kernel
  have pl : ∀ y : Stm, y.ok many l → (Txt.join " " (wordL y)).length ≤ 40 := fun y hy => by
    obtain ⟨w1, w2⟩ := wordL_ok hy
    have h1 := join_len (s := " ") (ss := wordL y)
    have h2 := sum_le w2
    rw [show (" " : Str).length = 1 by decide +kernel] at h1
    omega
  cases z with
  | cmd c => rw [List.mem_singleton.mp hx]; exact pl _ h
  | fin w => rw [List.mem_singleton.mp hx]; exact pl _ h
  | keep a => rw [List.mem_singleton.mp hx]; exact k _ (by simp)
  | again a => rw [List.mem_singleton.mp hx]; exact k _ (by simp)
  | either a a' =>
    simp only [headsP, List.mem_cons, List.not_mem_nil, or_false] at hx
    rcases hx with rfl | rfl <;> exact k _ (by simp)
  | call p s a a' =>
    simp only [headsP, List.mem_cons, List.not_mem_nil, or_false] at hx
    rcases hx with rfl | rfl | rfl
    · have := call_len (p := p) (by have := h.2.1; omega) s
      show (callT p s).length ≤ 40
      omega
    · exact k _ (by simp)
    · exact k _ (by simp)
theorem lnB_take {l : Nat} : ∀ {b : List Stm} {z : Stm} {i : Nat}, b[i]? = some z → lnB l (b.take (i + 1)) = lnB l (b.take i) ++ lnS l z
  | [], _, i, e => by simp at e
  | s :: r, _, 0, e => by cases e; simp [lnB]
  | s :: r, z, i + 1, e => by
    have := lnB_take (l := l) (b := r) (z := z) (i := i) (by simpa using e)
    rw [List.take_succ_cons, List.take_succ_cons, lnB, lnB, this, List.append_assoc]
def F_lines_of (n : Nat) : FD := fun ds Q => ∃ (b : List Stm) (many l : Nat), ds = [.list (blkD b), .int l] ∧ okB many b l ∧ b.length ≤ 8 ∧ many ≤ 3 ∧ l ≤ 3 ∧ 4 ≤ l + n ∧ cntB b ≤ 12 ∧ Q (.list ((lnB l b).map PyData.str))
theorem FM_lines_of {n : Nat} : FMono (F_lines_of n) := ⟨fun m ⟨b, k, l, e, h1, h2, h3, h4, h5, h6, q⟩ => ⟨b, k, l, e, h1, h2, h3, h4, h5, h6, m _ q⟩⟩
set_option maxHeartbeats 4000000 in
theorem ok_lines_step (T : Top w K mg) (n : Nat) (G_lines_of : FnOk P w K mg base CX0 (n + 2) T.a_lines_of T.d_lines_of ["block", "level"] (spF (F_lines_of n))) :
    FnOk P w K mg base CX0 (n + 3) T.a_lines_of T.d_lines_of ["block", "level"] (spF (F_lines_of (n + 1))) := by
  refine fnF FM_lines_of T.F_lines_of sc_lines_of (fun ds Q ⟨b, _, _, e, _⟩ => by rw [e]; rfl) (fun c cdv A outer s H E hr => (pdss_cons (pds_set (i := 2) (fun h => ps_set (i := 2) sc_lines_of.nd rfl (Or.inl rfl) h) (pd_op (fun ha hb => pe_op op_mulS ha hb) dk_mulS pd_str (pd_op (fun ha hb => pe_op op_add ha hb) dk_i0 (pd_op (fun ha hb => pe_op op_mul ha hb) dk_i pd_int (pd_name (pv 1))) pd_int)))
      (pdss_cons (pds_own (i := 3) (fun h => ps_set (i := 3) sc_lines_of.nd rfl (Or.inl rfl) h) (pn_lst pda_nil))
      (pdss_cons (pds_for (vs := [4]) (fun a b c => ps_for PassesOwn.never rfl a b c) (pdi_list (K := K) (fun h => k_piL K h) (pd_name (pv 0))) (pdg_name (pg_name (i := 4) sc_lines_of.nd rfl (Or.inl rfl)) (by decide)) (pdss_one (pds_for (vs := [5, 6]) (fun a b c => ps_for PassesOwn.never rfl a b c) (pdi_list (K := K) (fun h => k_piL K h) (pd_callF FM_heads_of (fun h => pe_call (ok_heads_of T) (hr.mono (by omega)) (by rfl) T.g_heads_of T.F_heads_of.kp (b_heads_of T) .nil pass0 h) (pda_cons (pd_name (pv 4)) pda_nil))) (pdg_tup (K := K) (n := 2) (fun h => pg_tup rfl h) (pdgs_cons (fun h1 h2 => pgs_cons h1 h2) (pdg_name (pg_name (i := 5) sc_lines_of.nd rfl (Or.inl rfl)) (by decide)) (pdgs_cons (fun h1 h2 => pgs_cons h1 h2) (pdg_name (pg_name (i := 6) sc_lines_of.nd rfl (Or.inl rfl)) (by decide)) pdgs_nil))) (pdss_cons (pds_app (K := K) (i := 3) (fun h => ps_expr (pe_bm PySem.F.plainAttrs_list PySem.F.slot_list_append PySem.F.type_list_append mt_append (pv 3) (pa_cons h pa_nil))) (pd_op (fun ha hb => pe_op op_add_str ha hb) dk_catS (pd_name (pv 2)) (pd_name (pv 5))))
          (pdss_one (pds_if (pdt_op (fun ha hb => pt_cmpR op_notN ha hb (nomark _)) dk_notN (pd_name (pv 6)) pd_non) (pdss_one (pds_ext (K := K) (i := 3) (fun h => ps_expr (pe_bm PySem.F.plainAttrs_list PySem.F.slot_list_extend PySem.F.type_list_extend mt_extend (pv 3) (pa_cons h pa_nil))) (pd_callF FM_lines_of (fun h => pe_call G_lines_of (hr.mono (by omega)) (by rfl) T.g_lines_of T.F_lines_of.kp (b_lines_of T) .nil pass0 h) (pda_cons (pd_name (pv 6)) (pda_cons (pd_op (fun ha hb => pe_op op_add ha hb) dk_i0 (pd_name (pv 1)) pd_int) pda_nil))))) pdss_nil))))))
      (pdss_one (pds_thaw (i := 3) (pds_ret (pd_name (pv 3))))))))) (fun ds Q ⟨b, many, l, e, ho, h8, hm3, hl3, hln, hc, q⟩ => ?_)
  subst e
  simp [dName, dC, dNil, dCons, dTup, nLst, dFrz, Av.dat, Av.seq, dOp, dUn, dCl, dTest, dTru, truD, dtNot, dtAnd, dtOr, deNot, deAnd, deOr, deIf, kI, kI0, kU, kEq, kNe, kIsN, kNotN, kLen, kInt, kListOf, kTupOf, kCat, kCatT, dSkip, dSeq, dSet, dOwn, dRet, dRetN, dIf, dIsi, dCallF, dstart, retD, fends, isI, isLs, isTp, isBl, isNum, isStr, isNo, shI, shB, eqvI2, eqvB, eqvS, sameD, avd1, avd0, kMulS]
  refine ⟨.inl ⟨by decide, by decide⟩, mrg_ok (by omega), ?_⟩
  have ml := mrg_len (l := l) (by omega)
  refine ⟨_, rfl, blkD b, rfl, fun i ρ' => ∃ y4 y5 y6, ρ' = [some (.d (.list (blkD b))), some (.d (.int l)), some (.d (.str (mrg l))), some (.o ((lnB l (b.take i)).map PyData.str)), y4, y5, y6], ⟨none, none, none, by simp [lnB, mrg]⟩, fun i d ρ' hd ⟨y4, y5, y6, e⟩ => ?_, fun ρ' ⟨y4, y5, y6, e⟩ => ?_⟩
  · subst e
    obtain ⟨z, hz, rfl⟩ := blkD_get hd
    have oz := okB_get ho hz
    have c1 := cntB_le hz
    refine ⟨_, rfl, [z.d], rfl, z, many, l, rfl, oz, hm3, headsD z, rfl, fun j ρ' => ∃ y5 y6, ρ' = [some (.d (.list (blkD b))), some (.d (.int l)), some (.d (.str (mrg l))), some (.o ((lnB l (b.take i) ++ ((headsP z).take j).flatMap (headLn l)).map PyData.str)), some (.d z.d), y5, y6], ⟨y5, y6, by simp⟩, fun j d ρ' hd ⟨y5, y6, e⟩ => ?_, fun ρ' ⟨y5, y6, e⟩ => ?_⟩
    · subst e
      rw [heads_map, List.getElem?_map] at hd
      obtain ⟨x, hx, rfl⟩ : ∃ x, (headsP z)[j]? = some x ∧ d = headD x := by
        cases e : (headsP z)[j]? with
        | none => rw [e] at hd; cases hd
        | some x => rw [e] at hd; cases hd; exact ⟨x, rfl, rfl⟩
      have mx := List.mem_of_getElem? hx
      have hl := head_len oz hm3 mx
      have sj : (List.take j (List.map (fun a => (headLn l a).length) (headsP z))).sum ≤ 36 := by
        have h1 := congrArg List.length (lnS_heads l z)
        rw [List.length_flatMap] at h1
        have h2 := lnS_len l z
        have h3 : (List.take j (List.map (fun a => (headLn l a).length) (headsP z))).sum + (List.drop j (List.map (fun a => (headLn l a).length) (headsP z))).sum = (List.map (fun a => (headLn l a).length) (headsP z)).sum := by rw [← List.sum_append, List.take_append_drop]
        omega
      have li : (lnB l (b.take i)).length ≤ 36 := by
        have := lnB_len l (b.take i)
        omega
      have tk : (headsP z).take (j + 1) = (headsP z).take j ++ [x] := by rw [List.take_add_one, hx]; rfl
      simp [dName, dC, dNil, dCons, dTup, nLst, dFrz, Av.dat, Av.seq, dOp, dUn, dCl, dTest, dTru, truD, dtNot, dtAnd, dtOr, deNot, deAnd, deOr, deIf, kI, kI0, kU, kEq, kNe, kIsN, kNotN, kLen, kInt, kListOf, kTupOf, kCat, kCatT, dSkip, dSeq, dSet, dOwn, dRet, dRetN, dIf, dIsi, dCallF, dstart, retD, fends, isI, isLs, isTp, isBl, isNum, isStr, isNo, shI, shB, eqvI2, eqvB, eqvS, sameD, avd1, avd0, dgTup, dgCons, dgName, dgNil, dApp, dExt, kCatS, headD]
      refine ⟨_, _, ⟨rfl, rfl⟩, _, _, rfl, rfl, x.1, rfl, Nat.le_trans (m := 100) (by omega) (by decide), by omega, ?_⟩
      rw [tk]
      obtain ⟨s, o⟩ := x
      cases o with
      | none => exact .inl ⟨rfl, by simp [headLn]⟩
      | some b' =>
        obtain ⟨o1, o2, o3⟩ := ok_block oz (List.mem_of_getElem? (List.getElem?_of_mem (heads_in mx rfl)).choose_spec)
        have cb : cntB b' ≤ 11 := by
          obtain ⟨k, hk⟩ := List.getElem?_of_mem (heads_in mx rfl)
          have := cntBs_le hk
          have := cnt_blocks z
          omega
        have l1 := lnB_len (l + 1) b'
        refine .inr ⟨rfl, b', many, l + 1, by simp, by first | exact o2 | exact o3, by first | exact o3 | exact o2, hm3, by omega, by omega, by omega, _, rfl, by rw [List.length_map]; omega, by simp [headLn]⟩
    · subst e
      refine ⟨some (.d z.d), y5, y6, ?_⟩
      rw [lnB_take hz, lnS_heads, heads_map, List.length_map, List.take_length]
  · subst e
    rw [blkD_len, List.take_length]
    exact ⟨_, rfl, _, rfl, _, rfl, q⟩
theorem none_lines (T : Top w K mg) : FnOk P w K mg base CX0 2 T.a_lines_of T.d_lines_of ["block", "level"] (spF (F_lines_of 0)) := by
  have no : ∀ vs H Q E, ¬ spF (F_lines_of 0) vs H Q E := fun vs H Q E ⟨_, _, _, _, _, l, _, _, _, _, h1, h2, _⟩ => by omega
  exact ⟨fun vs H Q E h => absurd h (no vs H Q E), fun A outer s H args us vs Q E _ _ _ _ h => absurd h (no vs H Q E)⟩
theorem all_lines (T : Top w K mg) : ∀ n : Nat, FnOk P w K mg base CX0 (n + 2) T.a_lines_of T.d_lines_of ["block", "level"] (spF (F_lines_of n))
  | 0 => none_lines T
  | n + 1 => ok_lines_step T n (all_lines T n)
theorem ok_lines_of (T : Top w K mg) : FnOk P w K mg base CX0 6 T.a_lines_of T.d_lines_of ["block", "level"] (spF (F_lines_of 4)) := all_lines T 4

--SPLIT
/-! ### the law's lines -/
def foldW (w : Str) (ss : List Str) : Str := ss.foldl (fun t s => t ++ " " ++ s) w
theorem foldW_join : ∀ (ss : List Str) (w : Str), foldW w ss = Txt.join " " (w :: ss) := by
  have key : ∀ (ss : List Str) (w : Str), (foldW w ss).cps = ss.foldl (fun acc p => acc ++ (" " : Str).cps ++ p.cps) w.cps := by
    intro ss
    induction ss with
    | nil => intro w; rfl
    | cons s r ih => intro w; exact ih (w ++ " " ++ s)
  intro ss w
  exact Str.ext' (key ss w)
theorem foldW_snoc {w : Str} {ss : List Str} {s : Str} : foldW w (ss ++ [s]) = foldW w ss ++ " " ++ s := by
  unfold foldW
  rw [List.foldl_append]
  rfl
theorem foldW_len : ∀ (ss : List Str) (w : Str), (∀ s ∈ ss, s.length ≤ 8) → (foldW w ss).length ≤ w.length + 9 * ss.length
  | [], w, _ => by simp [foldW]
  | s :: r, w, h => by
    have h1 := h s List.mem_cons_self
    have := foldW_len r (w ++ " " ++ s) fun x hx => h x (List.mem_cons_of_mem _ hx)
    rw [Str.length_append, Str.length_append, show (" " : Str).length = 1 by decide +kernel] at this
    show (foldW (w ++ " " ++ s) r).length ≤ _
    rw [List.length_cons]
    omega
def F__law_words : FD := fun ds Q => ∃ (w : Str) (ns : List Int), ds = [.tuple (.str w :: ns.map PyData.int)] ∧ w.length ≤ 8 ∧ ns.length ≤ 2 ∧ (∀ n ∈ ns, -9 ≤ n ∧ n ≤ 9) ∧ Q (.str (Txt.join " " (w :: ns.map iS)))
theorem FM__law_words : FMono F__law_words := ⟨fun m ⟨w, ns, e, h1, h2, h3, q⟩ => ⟨w, ns, e, h1, h2, h3, m _ q⟩⟩
set_option maxHeartbeats 4000000 in
theorem ok__law_words (T : Top w K mg) : FnOk P w K mg base CX0 1 T.a__law_words T.d__law_words ["_law_statement"] (spF F__law_words) := by
  refine fnF FM__law_words T.F__law_words sc__law_words (fun ds Q ⟨_, _, e, _⟩ => by rw [e]; rfl) (fun c cdv A outer s H E hr => (pdss_cons (pds_set (i := 1) (fun h => ps_set (i := 1) sc__law_words.nd rfl (Or.inl rfl) h) (pd_op (fun ha hb => pe_ix (k_ixQ K) ha hb (fun _ _ => rfl)) dk_ix (pd_name (pv 0)) pd_int))
      (pdss_cons (pds_for (vs := [2]) (fun a b c => ps_for PassesOwn.never rfl a b c) (pdi_tup (K := K) (fun h => k_piT K h) (pd_slT (fun h a b => pe_slice (k_slA K) h a b) (pd_name (pv 0)) (pdo_some pd_int) pdo_none)) (pdg_name (pg_name (i := 2) sc__law_words.nd rfl (Or.inl rfl)) (by decide)) (pdss_one (pds_set (i := 1) (fun h => ps_set (i := 1) sc__law_words.nd rfl (Or.inl rfl) h) (pd_op (fun ha hb => pe_op op_add_str ha hb) dk_catS (pd_op (fun ha hb => pe_op op_add_str ha hb) dk_catS (pd_name (pv 1)) pd_str) (pd_cl (fun h => pe_callTy call_strA (by rfl) T.z_str bt_str h) dk_str (pda_cons (pd_name (pv 2)) pda_nil))))))
      (pdss_one (pds_ret (pd_name (pv 1))))))) (fun ds Q ⟨w, ns, e, hw, hl, hb, q⟩ => ?_)
  subst e
  simp [dName, dC, dNil, dCons, dTup, nLst, dFrz, Av.dat, Av.seq, dOp, dUn, dCl, dTest, dTru, truD, dtNot, dtAnd, dtOr, deNot, deAnd, deOr, deIf, kI, kI0, kU, kEq, kNe, kIsN, kNotN, kLen, kInt, kListOf, kTupOf, kCat, kCatT, dSkip, dSeq, dSet, dOwn, dRet, dRetN, dIf, dIsi, dCallF, dstart, retD, fends, isI, isLs, isTp, isBl, isNum, isStr, isNo, shI, shB, eqvI2, eqvB, eqvS, sameD, avd1, avd0]
  have at0 : ∀ {x : PyData} {r : List PyData}, atI (x :: r) 0 = some x := fun {x r} => show atI (x :: r) ((0 : Nat) : Int) = _ from atI_nat rfl
  have c1 : cutL (PyData.str w :: ns.map PyData.int) (some 1) none = ns.map PyData.int := by
    unfold cutL
    rw [show HT.sIx (PyData.str w :: ns.map PyData.int).length 0 (some 1) = min 1 ((ns.map PyData.int).length + 1) from rfl, show HT.sIx (PyData.str w :: ns.map PyData.int).length (PyData.str w :: ns.map PyData.int).length none = (ns.map PyData.int).length + 1 from rfl, Nat.min_eq_left (by omega)]
    exact List.take_of_length_le (by show (ns.map PyData.int).length ≤ _; omega)
  refine ⟨_, 0, .str w, rfl, rfl, at0, _, rfl, ?_⟩
  refine ⟨_, rfl, 1, rfl, _, rfl, _, congrArg (fun z => Av.d (PyData.tuple z)) c1, fun i ρ' => ∃ y2, ρ' = [some (.d (.tuple (.str w :: ns.map PyData.int))), some (.d (.str (foldW w ((ns.take i).map iS)))), y2], ⟨_, rfl⟩, fun i d ρ' hd ⟨y2, e⟩ => ?_, fun ρ' ⟨y2, e⟩ => ?_⟩
  · subst e
    rw [List.getElem?_map] at hd
    obtain ⟨n, hn, rfl⟩ : ∃ n, ns[i]? = some n ∧ d = .int n := by
      cases e : ns[i]? with
      | none => rw [e] at hd; cases hd
      | some n => rw [e] at hd; cases hd; exact ⟨n, rfl, rfl⟩
    have nb := hb n (List.mem_of_getElem? hn)
    have hi := (List.getElem?_eq_some_iff.mp hn).1
    have fl := foldW_len ((ns.take i).map iS) w fun s hs => by
      obtain ⟨n, hn, rfl⟩ := List.mem_map.mp hs
      exact iS_len (hb n (List.mem_of_mem_take hn)).1 (hb n (List.mem_of_mem_take hn)).2
    rw [List.length_map, List.length_take] at fl
    have sl : (Str.ofString (toString n)).length ≤ 8 := iS_len nb.1 nb.2
    have l1 : (" " : Str).length = 1 := by decide +kernel
    refine ⟨_, rfl, _, _, rfl, rfl, Nat.le_trans (m := 100) (by rw [l1]; omega) (by decide), _, rfl, .inl ⟨n, rfl, log_small (by omega), _, _, rfl, rfl, Nat.le_trans (m := 100) (by rw [Str.length_append, l1]; omega) (by decide), _, rfl, some (.d (.int n)), ?_⟩⟩
    rw [List.take_add_one, hn, List.map_append]
    exact congrArg (fun z => [some (Av.d (.tuple (.str w :: ns.map PyData.int))), some (Av.d (PyData.str z)), some (Av.d (.int n))]) foldW_snoc.symm
  · subst e
    rw [List.length_map, List.take_length, foldW_join]
    exact ⟨_, rfl, _, rfl, q⟩
def F__law_lines (n : Nat) : FD := fun ds Q => ∃ (b : List Stm) (many l : Nat), ds = [.list (blkD b), .str (mrg l)] ∧ okB many b l ∧ b.length ≤ 8 ∧ many ≤ 3 ∧ l ≤ 3 ∧ 4 ≤ l + n ∧ cntB b ≤ 12 ∧ Q (.list ((lnB l b).map PyData.str))
theorem FM__law_lines {n : Nat} : FMono (F__law_lines n) := ⟨fun m ⟨b, k, l, e, h1, h2, h3, h4, h5, h6, q⟩ => ⟨b, k, l, e, h1, h2, h3, h4, h5, h6, m _ q⟩⟩
theorem mrg_next {l : Nat} (h : l ≤ 3) : mrg l ++ "  " = mrg (l + 1) := by
  have key : ∀ n : Fin 4, mrg n.val ++ "  " = mrg (n.val + 1) := by decide +kernel
  exact key ⟨l, by omega⟩
theorem words_ne : ¬ (("either" : Str) = "keep") ∧ ¬ (("either" : Str) = "again") ∧ ¬ (("call" : Str) = "keep") ∧ ¬ (("call" : Str) = "again") ∧ ¬ (("call" : Str) = "either") ∧ ¬ (("end" : Str) = "keep") ∧ ¬ (("end" : Str) = "again") ∧ ¬ (("end" : Str) = "either") ∧ ¬ (("end" : Str) = "call") ∧ ¬ (("again" : Str) = "keep") := by decide +kernel
theorem cm_ne' (c : Cm) : ¬ (c.word = ("either" : Str)) ∧ ¬ (c.word = ("keep" : Str)) ∧ ¬ (c.word = ("again" : Str)) ∧ ¬ (c.word = ("call" : Str)) := by cases c <;> (simp only [Cm.word]; decide +kernel)
theorem callT0 {m : Str} {p : Nat} : m ++ "call " ++ Str.ofString (toString (p : Int)) ++ Txt.mul " saved" 0 = m ++ callT p false := by
  rw [show Txt.mul " saved" 0 = Str.empty by decide +kernel, Str.append_empty, show callT p false = (Str.empty ++ "call ") ++ iS p from rfl, Str.empty_append, Str.append_assoc]
theorem callT1 {m : Str} {p : Nat} : m ++ "call " ++ Str.ofString (toString (p : Int)) ++ Txt.mul " saved" 1 = m ++ callT p true := by
  rw [show Txt.mul " saved" 1 = " saved" by decide +kernel, show callT p true = (Str.empty ++ "call ") ++ iS p ++ " saved" from rfl, Str.empty_append, Str.append_assoc, Str.append_assoc, Str.append_assoc]
set_option maxHeartbeats 4000000 in
theorem ok_llines_step (T : Top w K mg) (n : Nat) (G__law_lines : FnOk P w K mg base CX0 (n + 2) T.a__law_lines T.d__law_lines ["_law_block_here", "_law_indent"] (spF (F__law_lines n))) :
    FnOk P w K mg base CX0 (n + 3) T.a__law_lines T.d__law_lines ["_law_block_here", "_law_indent"] (spF (F__law_lines (n + 1))) := by
  refine fnF FM__law_lines T.F__law_lines sc__law_lines (fun ds Q ⟨b, _, _, e, _⟩ => by rw [e]; rfl) (fun c cdv A outer s H E hr => (pdss_cons (pds_own (i := 2) (fun h => ps_set (i := 2) sc__law_lines.nd rfl (Or.inl rfl) h) (pn_lst pda_nil))
      (pdss_cons (pds_for (vs := [3]) (fun a b c => ps_for PassesOwn.never rfl a b c) (pdi_list (K := K) (fun h => k_piL K h) (pd_name (pv 0))) (pdg_name (pg_name (i := 3) sc__law_lines.nd rfl (Or.inl rfl)) (by decide)) (pdss_cons (pds_set (i := 4) (fun h => ps_set (i := 4) sc__law_lines.nd rfl (Or.inl rfl) h) (pd_op (fun ha hb => pe_ix (k_ixQ K) ha hb (fun _ _ => rfl)) dk_ix (pd_name (pv 3)) pd_int))
        (pdss_one (pds_if (pdw_t (pdw_or (pdt_op (fun ha hb => pt_cmpR (k_eqD K (hu64 hr)) ha hb (nomark _)) dk_eq (pd_name (pv 4)) pd_str) (pdw_or1 (pdt_op (fun ha hb => pt_cmpR (k_eqD K (hu64 hr)) ha hb (nomark _)) dk_eq (pd_name (pv 4)) pd_str)))) (pdss_one (pds_own (i := 2) (fun h => ps_set (i := 2) sc__law_lines.nd rfl (Or.inl rfl) h) (pn_op (fun ha hb => pe_op op_cat ha hb) dk_cat (pdn (pn_op (fun ha hb => pe_op op_cat ha hb) dk_cat (pd_name (pv 2)) (pdn (pn_lst (pda_cons (pd_op (fun ha hb => pe_op op_add_str ha hb) dk_catS (pd_name (pv 1)) (pd_name (pv 4))) pda_nil))))) (pd_callF FM__law_lines (fun h => pe_call G__law_lines (hr.mono (by omega)) (by rfl) T.g__law_lines T.F__law_lines.kp (b__law_lines T) .nil pass0 h) (pda_cons (pd_op (fun ha hb => pe_ix (k_ixQ K) ha hb (fun _ _ => rfl)) dk_ix (pd_name (pv 3)) pd_int) (pda_cons (pd_op (fun ha hb => pe_op op_add_str ha hb) dk_catS (pd_name (pv 1)) pd_str) pda_nil)))))) (pdss_one (pds_if (pdt_op (fun ha hb => pt_cmpR (k_eqD K (hu64 hr)) ha hb (nomark _)) dk_eq (pd_name (pv 4)) pd_str) (pdss_cons (pds_own (i := 2) (fun h => ps_set (i := 2) sc__law_lines.nd rfl (Or.inl rfl) h) (pn_op (fun ha hb => pe_op op_cat ha hb) dk_cat (pdn (pn_op (fun ha hb => pe_op op_cat ha hb) dk_cat (pd_name (pv 2)) (pdn (pn_lst (pda_cons (pd_op (fun ha hb => pe_op op_add_str ha hb) dk_catS (pd_name (pv 1)) (pd_name (pv 4))) pda_nil))))) (pd_callF FM__law_lines (fun h => pe_call G__law_lines (hr.mono (by omega)) (by rfl) T.g__law_lines T.F__law_lines.kp (b__law_lines T) .nil pass0 h) (pda_cons (pd_op (fun ha hb => pe_ix (k_ixQ K) ha hb (fun _ _ => rfl)) dk_ix (pd_name (pv 3)) pd_int) (pda_cons (pd_op (fun ha hb => pe_op op_add_str ha hb) dk_catS (pd_name (pv 1)) pd_str) pda_nil)))))
            (pdss_one (pds_own (i := 2) (fun h => ps_set (i := 2) sc__law_lines.nd rfl (Or.inl rfl) h) (pn_op (fun ha hb => pe_op op_cat ha hb) dk_cat (pdn (pn_op (fun ha hb => pe_op op_cat ha hb) dk_cat (pd_name (pv 2)) (pdn (pn_lst (pda_cons (pd_op (fun ha hb => pe_op op_add_str ha hb) dk_catS (pd_name (pv 1)) pd_str) pda_nil))))) (pd_callF FM__law_lines (fun h => pe_call G__law_lines (hr.mono (by omega)) (by rfl) T.g__law_lines T.F__law_lines.kp (b__law_lines T) .nil pass0 h) (pda_cons (pd_op (fun ha hb => pe_ix (k_ixQ K) ha hb (fun _ _ => rfl)) dk_ix (pd_name (pv 3)) pd_int) (pda_cons (pd_op (fun ha hb => pe_op op_add_str ha hb) dk_catS (pd_name (pv 1)) pd_str) pda_nil))))))) (pdss_one (pds_if (pdt_op (fun ha hb => pt_cmpR (k_eqD K (hu64 hr)) ha hb (nomark _)) dk_eq (pd_name (pv 4)) pd_str) (pdss_cons (pds_app (K := K) (i := 2) (fun h => ps_expr (pe_bm PySem.F.plainAttrs_list PySem.F.slot_list_append PySem.F.type_list_append mt_append (pv 2) (pa_cons h pa_nil))) (pd_op (fun ha hb => pe_op op_add_str ha hb) dk_catS (pd_op (fun ha hb => pe_op op_add_str ha hb) dk_catS (pd_op (fun ha hb => pe_op op_add_str ha hb) dk_catS (pd_name (pv 1)) pd_str) (pd_cl (fun h => pe_callTy call_strA (by rfl) T.z_str bt_str h) dk_str (pda_cons (pd_op (fun ha hb => pe_ix (k_ixQ K) ha hb (fun _ _ => rfl)) dk_ix (pd_name (pv 3)) pd_int) pda_nil))) (pd_op (fun ha hb => pe_op op_mulS ha hb) dk_mulS pd_str (pd_cl (fun h => pe_callTy call_int1 (by rfl) T.z_int bt_int h) dk_int (pda_cons (pd_op (fun ha hb => pe_ix (k_ixQ K) ha hb (fun _ _ => rfl)) dk_ix (pd_name (pv 3)) pd_int) pda_nil)))))
              (pdss_cons (pds_own (i := 2) (fun h => ps_set (i := 2) sc__law_lines.nd rfl (Or.inl rfl) h) (pn_op (fun ha hb => pe_op op_cat ha hb) dk_cat (pdn (pn_op (fun ha hb => pe_op op_cat ha hb) dk_cat (pd_name (pv 2)) (pdn (pn_lst (pda_cons (pd_op (fun ha hb => pe_op op_add_str ha hb) dk_catS (pd_name (pv 1)) pd_str) pda_nil))))) (pd_callF FM__law_lines (fun h => pe_call G__law_lines (hr.mono (by omega)) (by rfl) T.g__law_lines T.F__law_lines.kp (b__law_lines T) .nil pass0 h) (pda_cons (pd_op (fun ha hb => pe_ix (k_ixQ K) ha hb (fun _ _ => rfl)) dk_ix (pd_op (fun ha hb => pe_ix (k_ixQ K) ha hb (fun _ _ => rfl)) dk_ix (pd_name (pv 3)) pd_int) pd_int) (pda_cons (pd_op (fun ha hb => pe_op op_add_str ha hb) dk_catS (pd_name (pv 1)) pd_str) pda_nil)))))
              (pdss_one (pds_own (i := 2) (fun h => ps_set (i := 2) sc__law_lines.nd rfl (Or.inl rfl) h) (pn_op (fun ha hb => pe_op op_cat ha hb) dk_cat (pdn (pn_op (fun ha hb => pe_op op_cat ha hb) dk_cat (pd_name (pv 2)) (pdn (pn_lst (pda_cons (pd_op (fun ha hb => pe_op op_add_str ha hb) dk_catS (pd_name (pv 1)) pd_str) pda_nil))))) (pd_callF FM__law_lines (fun h => pe_call G__law_lines (hr.mono (by omega)) (by rfl) T.g__law_lines T.F__law_lines.kp (b__law_lines T) .nil pass0 h) (pda_cons (pd_op (fun ha hb => pe_ix (k_ixQ K) ha hb (fun _ _ => rfl)) dk_ix (pd_op (fun ha hb => pe_ix (k_ixQ K) ha hb (fun _ _ => rfl)) dk_ix (pd_name (pv 3)) pd_int) pd_int) (pda_cons (pd_op (fun ha hb => pe_op op_add_str ha hb) dk_catS (pd_name (pv 1)) pd_str) pda_nil)))))))) (pdss_one (pds_app (K := K) (i := 2) (fun h => ps_expr (pe_bm PySem.F.plainAttrs_list PySem.F.slot_list_append PySem.F.type_list_append mt_append (pv 2) (pa_cons h pa_nil))) (pd_op (fun ha hb => pe_op op_add_str ha hb) dk_catS (pd_name (pv 1)) (pd_callF FM__law_words (fun h => pe_call (ok__law_words T) (hr.mono (by omega)) (by rfl) T.g__law_words T.F__law_words.kp (b__law_words T) .nil pass0 h) (pda_cons (pd_name (pv 3)) pda_nil)))))))))))))
      (pdss_one (pds_thaw (i := 2) (pds_ret (pd_name (pv 2)))))))) (fun ds Q ⟨b, many, l, e, ho, h8, hm3, hl3, hln, hc, q⟩ => ?_)
  subst e
  have ml := mrg_len (l := l) (by omega)
  have at0 : ∀ {x : PyData} {r : List PyData}, atI (x :: r) 0 = some x := fun {x r} => show atI (x :: r) ((0 : Nat) : Int) = _ from atI_nat rfl
  have at1 : ∀ {x y : PyData} {r : List PyData}, atI (x :: y :: r) 1 = some y := fun {x y r} => show atI (x :: y :: r) ((1 : Nat) : Int) = _ from atI_nat rfl
  have at2 : ∀ {x y w : PyData} {r : List PyData}, atI (x :: y :: w :: r) 2 = some w := fun {x y w r} => show atI (x :: y :: w :: r) ((2 : Nat) : Int) = _ from atI_nat rfl
  have at3 : ∀ {x y w u : PyData} {r : List PyData}, atI (x :: y :: w :: u :: r) 3 = some u := fun {x y w u r} => show atI (x :: y :: w :: u :: r) ((3 : Nat) : Int) = _ from atI_nat rfl
  refine ⟨[], rfl, by simp, _, rfl, blkD b, rfl, fun i ρ' => ∃ y3 y4, ρ' = [some (.d (.list (blkD b))), some (.d (.str (mrg l))), some (.o ((lnB l (b.take i)).map PyData.str)), y3, y4], ⟨none, none, by simp [lnB]; rfl⟩, fun i d ρ' hd ⟨y3, y4, e⟩ => ?_, fun ρ' ⟨y3, y4, e⟩ => ?_⟩
  · subst e
    obtain ⟨z, hz, rfl⟩ := blkD_get hd
    have oz := okB_get ho hz
    have c1 := cntB_le hz
    have li : (lnB l (b.take i)).length ≤ 36 := by
      have := lnB_len l (b.take i)
      omega
    rw [Stm.d_eq]
    obtain ⟨w1, w2, w3, w4, w5, w6, w7, w8, w9, w10⟩ := words_ne
    have shw := sh_word z
    have sh1 : SeqAt.shaped (.str "keep") = true := sh_str (by decide +kernel)
    have sh2 : SeqAt.shaped (.str "again") = true := sh_str (by decide +kernel)
    have sh3 : SeqAt.shaped (.str "either") = true := sh_str (by decide +kernel)
    have sh4 : SeqAt.shaped (.str "call") = true := sh_str (by decide +kernel)
    have inn : ∀ {P : PyData → Prop} (b' : List Stm), b' ∈ z.blocks → ((lnB (l + 1) b').length ≤ 36 → P (.list ((lnB (l + 1) b').map PyData.str))) → F__law_lines n [bD b', .str (mrg l ++ "  ")] P := fun {P} b' mb h => by
      obtain ⟨o1, o2, o3⟩ := ok_block oz mb
      have cb : cntB b' ≤ 11 := by
        obtain ⟨k, hk⟩ := List.getElem?_of_mem mb
        have := cntBs_le hk
        have := cnt_blocks z
        omega
      have l1 := lnB_len (l + 1) b'
      exact ⟨b', many, l + 1, by rw [mrg_next hl3], by first | exact o2 | exact o3, by first | exact o3 | exact o2, hm3, by omega, by omega, by omega, h (by omega)⟩
    have sz : ∀ {x : Nat}, x ≤ 1000 → x ≤ sizeLine := fun h => Nat.le_trans h (by decide)
    have y1 : ("keep" : Str).length = 4 := by decide +kernel
    have y2 : ("again" : Str).length = 5 := by decide +kernel
    have y3 : ("either" : Str).length = 6 := by decide +kernel
    have y4 : ("or" : Str).length = 2 := by decide +kernel
    have y5 : ("call " : Str).length = 5 := by decide +kernel
    have y6 : ("way 0" : Str).length = 5 := by decide +kernel
    have y7 : ("way 1" : Str).length = 5 := by decide +kernel
    have y8 : ("  " : Str).length = 2 := by decide +kernel
    refine ⟨_, rfl, _, 0, .str z.word, rfl, rfl, at0, _, rfl, ?_⟩
    cases z with
    | cmd c =>
      obtain ⟨e1, e2, e3, e4⟩ := cm_ne' c
      simp [dName, dC, dNil, dCons, dTup, nLst, dFrz, Av.dat, Av.seq, dOp, dUn, dCl, dTest, dTru, truD, dtNot, dtAnd, dtOr, deNot, deAnd, deOr, deIf, kI, kI0, kU, kEq, kNe, kIsN, kNotN, kLen, kInt, kListOf, kTupOf, kCat, kCatT, dSkip, dSeq, dSet, dOwn, dRet, dRetN, dIf, dIsi, dCallF, dstart, retD, fends, isI, isLs, isTp, isBl, isNum, isStr, isNo, shI, shB, eqvI2, eqvB, eqvS, sameD, avd1, avd0, dApp, kCatS, Stm.word, e1, e2, e3, e4, shw, sh1, sh2, sh3, sh4]
      obtain ⟨n2, n9⟩ := cm_nums oz
      have hl := head_len oz hm3 (x := (Txt.join " " (wordL (.cmd c)), none)) (List.mem_singleton.mpr rfl)
      have hl : (Txt.join " " (c.word :: c.nums.map iS)).length ≤ 40 := hl
      exact ⟨shw, c.word, c.nums, rfl, cm_len c, n2, n9, _, rfl, Nat.le_trans (m := 100) (by omega) (by decide), by omega, by rw [lnB_take hz]; simp [lnS, wordL]⟩
    | fin w =>
      have hl := head_len oz hm3 (x := (Txt.join " " (wordL (.fin w)), none)) (List.mem_singleton.mpr rfl)
      have hl : (Txt.join " " ("end" :: ([if w then 1 else 0] : List Int).map iS)).length ≤ 40 := hl
      simp [dName, dC, dNil, dCons, dTup, nLst, dFrz, Av.dat, Av.seq, dOp, dUn, dCl, dTest, dTru, truD, dtNot, dtAnd, dtOr, deNot, deAnd, deOr, deIf, kI, kI0, kU, kEq, kNe, kIsN, kNotN, kLen, kInt, kListOf, kTupOf, kCat, kCatT, dSkip, dSeq, dSet, dOwn, dRet, dRetN, dIf, dIsi, dCallF, dstart, retD, fends, isI, isLs, isTp, isBl, isNum, isStr, isNo, shI, shB, eqvI2, eqvB, eqvS, sameD, avd1, avd0, dApp, kCatS, kMulS, Stm.word, Stm.rest, shw, sh1, sh2, sh3, sh4, w6, w7, w8, w9]
      refine ⟨shw, "end", [if w then 1 else 0], rfl, by decide +kernel, by simp, fun n hn => ?_, _, rfl, Nat.le_trans (m := 100) (by omega) (by decide), by omega, by rw [lnB_take hz]; simp [lnS, wordL]⟩
      rw [List.mem_singleton.mp hn]
      cases w <;> decide
    | keep a =>
      simp [dName, dC, dNil, dCons, dTup, nLst, dFrz, Av.dat, Av.seq, dOp, dUn, dCl, dTest, dTru, truD, dtNot, dtAnd, dtOr, deNot, deAnd, deOr, deIf, kI, kI0, kU, kEq, kNe, kIsN, kNotN, kLen, kInt, kListOf, kTupOf, kCat, kCatT, dSkip, dSeq, dSet, dOwn, dRet, dRetN, dIf, dIsi, dCallF, dstart, retD, fends, isI, isLs, isTp, isBl, isNum, isStr, isNo, shI, shB, eqvI2, eqvB, eqvS, sameD, avd1, avd0, dApp, kCatS, kMulS, Stm.word, Stm.rest, shw, sh1, sh2, sh3, sh4]
      refine ⟨sz (by omega), by omega, _, 1, bD a, rfl, rfl, at1, sz (by omega), [_, _], rfl, inn a List.mem_cons_self fun hl => ⟨_, rfl, by simp; omega, by rw [lnB_take hz]; simp [lnS]⟩⟩
    | again a =>
      simp [dName, dC, dNil, dCons, dTup, nLst, dFrz, Av.dat, Av.seq, dOp, dUn, dCl, dTest, dTru, truD, dtNot, dtAnd, dtOr, deNot, deAnd, deOr, deIf, kI, kI0, kU, kEq, kNe, kIsN, kNotN, kLen, kInt, kListOf, kTupOf, kCat, kCatT, dSkip, dSeq, dSet, dOwn, dRet, dRetN, dIf, dIsi, dCallF, dstart, retD, fends, isI, isLs, isTp, isBl, isNum, isStr, isNo, shI, shB, eqvI2, eqvB, eqvS, sameD, avd1, avd0, dApp, kCatS, kMulS, Stm.word, Stm.rest, shw, sh1, sh2, sh3, sh4, w10]
      refine ⟨sz (by omega), by omega, _, 1, bD a, rfl, rfl, at1, sz (by omega), [_, _], rfl, inn a List.mem_cons_self fun hl => ⟨_, rfl, by simp; omega, by rw [lnB_take hz]; simp [lnS]⟩⟩
    | either a a' =>
      simp [dName, dC, dNil, dCons, dTup, nLst, dFrz, Av.dat, Av.seq, dOp, dUn, dCl, dTest, dTru, truD, dtNot, dtAnd, dtOr, deNot, deAnd, deOr, deIf, kI, kI0, kU, kEq, kNe, kIsN, kNotN, kLen, kInt, kListOf, kTupOf, kCat, kCatT, dSkip, dSeq, dSet, dOwn, dRet, dRetN, dIf, dIsi, dCallF, dstart, retD, fends, isI, isLs, isTp, isBl, isNum, isStr, isNo, shI, shB, eqvI2, eqvB, eqvS, sameD, avd1, avd0, dApp, kCatS, kMulS, Stm.word, Stm.rest, shw, sh1, sh2, sh3, sh4, w1, w2]
      refine ⟨sz (by omega), by omega, _, 1, bD a, rfl, rfl, at1, sz (by omega), [_, _], rfl, inn a List.mem_cons_self fun hl => ⟨_, rfl, by simp; omega, sz (by omega), by simp; omega, _, 2, bD a', rfl, rfl, at2, sz (by omega), [_, _], rfl, inn a' (List.mem_cons_of_mem _ List.mem_cons_self) fun hl2 => ⟨_, rfl, by simp; omega, by rw [lnB_take hz]; simp [lnS]⟩⟩⟩
    | call p s a a' =>
      simp [dName, dC, dNil, dCons, dTup, nLst, dFrz, Av.dat, Av.seq, dOp, dUn, dCl, dTest, dTru, truD, dtNot, dtAnd, dtOr, deNot, deAnd, deOr, deIf, kI, kI0, kU, kEq, kNe, kIsN, kNotN, kLen, kInt, kListOf, kTupOf, kCat, kCatT, dSkip, dSeq, dSet, dOwn, dRet, dRetN, dIf, dIsi, dCallF, dstart, retD, fends, isI, isLs, isTp, isBl, isNum, isStr, isNo, shI, shB, eqvI2, eqvB, eqvS, sameD, avd1, avd0, dApp, kCatS, kMulS, Stm.word, Stm.rest, shw, sh1, sh2, sh3, sh4, w3, w4, w5]
      have p9 : p ≤ 9 := by have := oz.2.1; omega
      have pl : (Str.ofString (toString (p : Int))).length ≤ 8 := iS_len (by omega) (by omega)
      have m0 : MulOk " saved" 0 := ⟨by decide, fun h => absurd (by decide) h, fun h => absurd (by decide) h⟩
      have m1 : MulOk " saved" 1 := ⟨by decide, fun _ h => (by cases h), fun _ h => (by cases h)⟩
      have z0 : (Txt.mul " saved" 0).length = 0 := by decide +kernel
      have z1 : (Txt.mul " saved" 1).length = 6 := by decide +kernel
      refine ⟨sz (by omega), _, 1, .int p, rfl, rfl, at1, .inl ⟨p, rfl, log_small (by omega), _, rfl, sz (by rw [Str.length_append]; omega), _, 2, .bool s, rfl, rfl, at2, ?_⟩⟩
      cases s with
      | false =>
        refine .inr (.inl ⟨rfl, m0, sz (by rw [Str.length_append, Str.length_append, z0]; omega), by omega, sz (by omega), by omega, _, 3, _, rfl, rfl, at3, _, 0, bD a, rfl, rfl, at0, sz (by omega), [_, _], rfl, inn a List.mem_cons_self fun hl => ⟨_, rfl, by simp; omega, sz (by omega), by simp; omega, _, 3, _, rfl, rfl, at3, _, 1, bD a', rfl, rfl, at1, sz (by omega), [_, _], rfl, inn a' (List.mem_cons_of_mem _ List.mem_cons_self) fun hl2 => ⟨_, rfl, by simp; omega, ?_⟩⟩⟩)
        rw [lnB_take hz, callT0]
        simp [lnS]
      | true =>
        refine .inr (.inr ⟨rfl, m1, sz (by rw [Str.length_append, Str.length_append, z1]; omega), by omega, sz (by omega), by omega, _, 3, _, rfl, rfl, at3, _, 0, bD a, rfl, rfl, at0, sz (by omega), [_, _], rfl, inn a List.mem_cons_self fun hl => ⟨_, rfl, by simp; omega, sz (by omega), by simp; omega, _, 3, _, rfl, rfl, at3, _, 1, bD a', rfl, rfl, at1, sz (by omega), [_, _], rfl, inn a' (List.mem_cons_of_mem _ List.mem_cons_self) fun hl2 => ⟨_, rfl, by simp; omega, ?_⟩⟩⟩)
        rw [lnB_take hz, callT1]
        simp [lnS]
  · subst e
    rw [blkD_len, List.take_length]
    exact ⟨_, rfl, _, rfl, _, rfl, q⟩
theorem none_llines (T : Top w K mg) : FnOk P w K mg base CX0 2 T.a__law_lines T.d__law_lines ["_law_block_here", "_law_indent"] (spF (F__law_lines 0)) := by
  have no : ∀ vs H Q E, ¬ spF (F__law_lines 0) vs H Q E := fun vs H Q E ⟨_, _, _, _, _, l, _, _, _, _, h1, h2, _⟩ => by omega
  exact ⟨fun vs H Q E h => absurd h (no vs H Q E), fun A outer s H args us vs Q E _ _ _ _ h => absurd h (no vs H Q E)⟩
theorem all_llines (T : Top w K mg) : ∀ n : Nat, FnOk P w K mg base CX0 (n + 2) T.a__law_lines T.d__law_lines ["_law_block_here", "_law_indent"] (spF (F__law_lines n))
  | 0 => none_llines T
  | n + 1 => ok_llines_step T n (all_llines T n)
theorem ok__law_lines (T : Top w K mg) : FnOk P w K mg base CX0 6 T.a__law_lines T.d__law_lines ["_law_block_here", "_law_indent"] (spF (F__law_lines 4)) := all_llines T 4
/-! ### all lines -/
def tx : List (List Stm) → Nat → List Str
  | [], _ => []
  | b :: r, k => ("to " ++ iS k) :: (lnB 0 b ++ tx r (k + 1))
theorem tx_take : ∀ {bs : List (List Stm)} {i : Nat} {b : List Stm} (k : Nat), bs[i]? = some b → tx (bs.take (i + 1)) k = tx (bs.take i) k ++ (("to " ++ iS (k + i : Nat)) :: lnB 0 b)
  | [], i, b, k, e => by simp at e
  | c :: r, 0, b, k, e => by cases e; simp [tx]
  | c :: r, i + 1, b, k, e => by
    have := tx_take (bs := r) (i := i) (b := b) (k + 1) (by simpa using e)
    rw [List.take_succ_cons, List.take_succ_cons, tx, tx, this, show k + 1 + i = k + (i + 1) by omega, List.cons_append, List.append_assoc]
theorem tx_len {bs : List (List Stm)} (h : OkBook bs) : ∀ i, (tx (bs.take i) 0).length ≤ 111 := by
  have key : ∀ (cs : List (List Stm)) (k : Nat), (∀ b ∈ cs, cntB b ≤ 12) → (tx cs k).length ≤ 37 * cs.length := by
    intro cs
    induction cs with
    | nil => intro k _; simp [tx]
    | cons b r ih =>
      intro k hb
      have h1 := ih (k + 1) fun b m => hb b (List.mem_cons_of_mem _ m)
      have h2 := lnB_len 0 b
      have h3 := hb b List.mem_cons_self
      simp [tx]
      omega
  intro i
  have h1 := key (bs.take i) 0 fun b m => (h.each b (List.mem_of_mem_take m)).2.1
  have h3 := h.hi
  rw [List.length_take] at h1
  omega
def F__law_text_lines : FD := fun ds Q => ∃ bs, ds = [bookD bs] ∧ OkBook bs ∧ Q (.list ((tx bs 0).map PyData.str))
theorem FM__law_text_lines : FMono F__law_text_lines := ⟨fun m ⟨b, e, h1, q⟩ => ⟨b, e, h1, m _ q⟩⟩
set_option maxHeartbeats 4000000 in
theorem ok__law_text_lines (T : Top w K mg) : FnOk P w K mg base CX0 7 T.a__law_text_lines T.d__law_text_lines ["_law_bodies"] (spF F__law_text_lines) := by
  refine fnF FM__law_text_lines T.F__law_text_lines sc__law_text_lines (fun ds Q ⟨_, e, _⟩ => by rw [e]; rfl) (fun c cdv A outer s H E hr => (pdss_cons (pds_own (i := 1) (fun h => ps_set (i := 1) sc__law_text_lines.nd rfl (Or.inl rfl) h) (pn_lst pda_nil))
      (pdss_cons (pds_for (vs := [2]) (fun a b c => ps_for PassesOwn.never rfl a b c) (pdi_range1 (fun h => pi_range1 (by rfl) T.z_range h) (pda_cons (pd_cl (fun h => pe_callB (k_len K) (by rfl) T.z_len bt_len h) dk_len (pda_cons (pd_name (pv 0)) pda_nil)) pda_nil)) (pdg_name (pg_name (i := 2) sc__law_text_lines.nd rfl (Or.inl rfl)) (by decide)) (pdss_one (pds_own (i := 1) (fun h => ps_set (i := 1) sc__law_text_lines.nd rfl (Or.inl rfl) h) (pn_op (fun ha hb => pe_op op_cat ha hb) dk_cat (pdn (pn_op (fun ha hb => pe_op op_cat ha hb) dk_cat (pd_name (pv 1)) (pdn (pn_lst (pda_cons (pd_op (fun ha hb => pe_op op_add_str ha hb) dk_catS pd_str (pd_cl (fun h => pe_callTy call_strA (by rfl) T.z_str bt_str h) dk_str (pda_cons (pd_name (pv 2)) pda_nil))) pda_nil))))) (pd_callF FM__law_lines (fun h => pe_call (ok__law_lines T) hr (by rfl) T.g__law_lines T.F__law_lines.kp (b__law_lines T) .nil pass0 h) (pda_cons (pd_op (fun ha hb => pe_ix (k_ixQ K) ha hb (fun _ _ => rfl)) dk_ix (pd_name (pv 0)) (pd_name (pv 2))) (pda_cons pd_str pda_nil)))))))
      (pdss_one (pds_thaw (i := 1) (pds_ret (pd_name (pv 1)))))))) (fun ds Q ⟨bs, e, ob, q⟩ => ?_)
  subst e
  have hi := ob.hi
  refine ⟨[], rfl, by simp, _, rfl, _, bs.map bD, rfl, rfl, _, rfl, ?_⟩
  have lm : (bs.map bD).length = bs.length := List.length_map ..
  have ty : ((bs.map bD).length : Int).toNat = bs.length := by omega
  refine ⟨by omega, by omega, ?_⟩
  show ∃ I : Nat → DEnv → Prop, _
  rw [ty]
  have m0 : mrg 0 = "  " := by decide +kernel
  have y3 : ("to " : Str).length = 3 := by decide +kernel
  refine ⟨fun i ρ' => ∃ y2, ρ' = [some (.d (bookD bs)), some (.o ((tx (bs.take i) 0).map PyData.str)), y2], ⟨none, by simp [tx]; rfl⟩, fun i d ρ' hd ⟨y2, e⟩ => ?_, fun ρ' ⟨y2, e⟩ => ?_⟩
  · subst e
    have hlt := (List.getElem?_eq_some_iff.mp hd).1
    unfold intsFrom at hd hlt
    rw [List.length_map, List.length_range] at hlt
    rw [List.getElem?_map, List.getElem?_range hlt] at hd
    cases hd
    have hb : bs[i]? = some bs[i] := List.getElem?_eq_getElem hlt
    generalize bs[i] = b at *
    obtain ⟨o1, o2, o3⟩ := ob.each b (List.mem_of_getElem? hb)
    have lt := tx_len ob i
    have l1 := lnB_len 0 b
    have gi : atI (bs.map bD) (i : Int) = some (bD b) := atI_nat (by rw [List.getElem?_map, hb]; rfl)
    have il : (Str.ofString (toString (i : Int))).length ≤ 8 := iS_len (by omega) (by omega)
    simp [dName, dC, dNil, dCons, dTup, nLst, dFrz, Av.dat, Av.seq, dOp, dUn, dCl, dTest, dTru, truD, dtNot, dtAnd, dtOr, deNot, deAnd, deOr, deIf, kI, kI0, kU, kEq, kNe, kIsN, kNotN, kLen, kInt, kListOf, kTupOf, kCat, kCatT, dSkip, dSeq, dSet, dOwn, dRet, dRetN, dIf, dIsi, dCallF, dstart, retD, fends, isI, isLs, isTp, isBl, isNum, isStr, isNo, shI, shB, eqvI2, eqvB, eqvS, sameD, avd1, avd0, kCatS, dgName]
    refine .inl ⟨(i : Int), rfl, log_small (by omega), _, rfl, Nat.le_trans (m := 100) (by omega) (by decide), by omega, _, (i : Int), bD b, rfl, rfl, gi, [_, _], rfl, b, bs.length, 0, by rw [m0], o3, o1, hi, by decide, by decide, o2, _, rfl, by rw [List.length_map]; omega, ?_⟩
    rw [tx_take 0 hb, Nat.zero_add, List.map_append, List.map_cons]
  · subst e
    unfold intsFrom
    rw [List.length_map, List.length_range, List.take_length]
    exact ⟨_, rfl, _, rfl, _, rfl, q⟩

--SPLIT
/-! ### the text of a book -/
theorem line_len {many : Nat} (h3 : many ≤ 3) : ∀ (n l : Nat) (b : List Stm), okB many b l → l ≤ 3 → 4 ≤ l + n → ∀ s ∈ lnB l b, s.length ≤ 60
  | 0, l, b, _, h, h', _, _ => by omega
  | n + 1, l, b, ho, hl, hn, s, hs => by
    have key : ∀ (b : List Stm), okB many b l → ∀ s ∈ lnB l b, s.length ≤ 60 := by
      intro b
      induction b with
      | nil => intro _ s hs; exact absurd hs List.not_mem_nil
      | cons z r ih =>
        intro ho s hs
        rcases List.mem_append.mp hs with hs | hs
        · rw [lnS_heads] at hs
          obtain ⟨x, hx, hs⟩ := List.mem_flatMap.mp hs
          have hl40 := head_len ho.1 h3 hx
          have ml := mrg_len (l := l) (by omega)
          rcases List.mem_cons.mp hs with rfl | hs
          · rw [Str.length_append]
            omega
          · obtain ⟨t, o⟩ := x
            cases o with
            | none => exact absurd hs List.not_mem_nil
            | some b' =>
              obtain ⟨o1, o2, o3⟩ := ok_block ho.1 (heads_in hx rfl)
              exact line_len h3 n (l + 1) b' (by first | exact o2 | exact o3) (by omega) (by omega) s hs
        · exact ih ho.2 s hs
    exact key b ho s hs
theorem tx_line {bs : List (List Stm)} (h : OkBook bs) : ∀ s ∈ tx bs 0, s.length ≤ 60 := by
  have key : ∀ (cs : List (List Stm)) (k : Nat), (∀ b ∈ cs, okB bs.length b 0) → k + cs.length ≤ 3 → ∀ s ∈ tx cs k, s.length ≤ 60 := by
    intro cs
    induction cs with
    | nil => intro k _ _ s hs; exact absurd hs List.not_mem_nil
    | cons b r ih =>
      intro k hb hk s hs
      rw [List.length_cons] at hk
      rcases List.mem_cons.mp hs with rfl | hs
      · have il : (iS (k : Int)).length ≤ 8 := iS_len (by omega) (by omega)
        rw [Str.length_append, show ("to " : Str).length = 3 by decide +kernel]
        omega
      · rcases List.mem_append.mp hs with hs | hs
        · exact line_len h.hi 4 0 b (hb b List.mem_cons_self) (by decide) (by decide) s hs
        · exact ih (k + 1) (fun b m => hb b (List.mem_cons_of_mem _ m)) (by omega) s hs
  exact key bs 0 (fun b m => (h.each b m).2.2) (by have := h.hi; omega)
theorem tx_sum {bs : List (List Stm)} (h : OkBook bs) : ((tx bs 0).map (fun x => x.length)).sum + (tx bs 0).length * ("\n" : Str).length ≤ 16777216 := by
  have h1 := sum_le (tx_line h)
  have h2 := tx_len h bs.length
  rw [List.take_length] at h2
  rw [show ("\n" : Str).length = 1 by decide +kernel]
  omega
def textOf (bs : List (List Stm)) : Str := Txt.join "\n" (tx bs 0)
def sp_book_text (C : Addr) : Sp := fun vs H Q _ => ∃ (S : Addr → Prop) (p : Addr) (bs : List (List Stm)), vs = [.ref p] ∧ BookV S C H p bs ∧ OkBook bs ∧ ∀ H', Same H H' → Q (.str (textOf bs)) H'
theorem ok_book_text (T : Top w K mg) : FnOk P w K mg base CX0 12 T.a_book_text T.d_book_text ["book"] (sp_book_text T.C_Book) := by
  refine T.F_book_text.ok sc_book_text (fun vs H Q E h => ?_) (fun cdv A outer s H vs Q E hr h => ?_)
  · obtain ⟨S, p, bs, rfl, _⟩ := h
    rfl
  · obtain ⟨S, p, bs, rfl, B, ob, q⟩ := h
    refine ⟨_, (pss_cons (ps_set (i := 1) sc_book_text.nd rfl (Or.inl rfl) (pe_lst pa_nil))
      (pss_cons (ps_for PassesOwn.never rfl (pi_enum (by rfl) T.z_enumerate (pa_cons (pe_meth0 (pv 0) T.cl_Book T.m_Book_bodies (ok_Book_bodies T) (hr.mono (by decide)) (b_Book_bodies T) .nil pass0) pa_nil)) (pg_tup rfl (pgs_cons (pg_name (i := 2) sc_book_text.nd rfl (Or.inl rfl)) (pgs_cons (pg_name (i := 3) sc_book_text.nd rfl (Or.inl rfl)) pgs_nil))) (pss_cons (ps_expr (pe_bm PySem.F.plainAttrs_list PySem.F.slot_list_append PySem.F.type_list_append mt_append (pv 1) (pa_cons (pe_joined (PJ.cons pe_str (PJ.cons (pe_fmt (pv 2)) PJ.nil))) pa_nil)))
        (pss_one (ps_expr (pe_bm PySem.F.plainAttrs_list PySem.F.slot_list_extend PySem.F.type_list_extend mt_extend (pv 1) (pa_cons (pe_call (ok_lines_of T) (hr.mono (by decide)) (by rfl) T.g_lines_of T.F_lines_of.kp (b_lines_of T) .nil pass0 (pa_cons (pv 3) (pa_cons pe_int pa_nil))) pa_nil))))))
      (pss_one (ps_ret (pe_join pe_str (pv 1)))))), ?_⟩
    refine ⟨small100 (n := 0) (by decide), fun D nD => ?_⟩
    have sD := same_upd (o := .lst []) nD
    have hD : upd H D (.lst []) D = some (.lst []) := upd_same
    have B1 := B.same sD
    generalize upd H D _ = H1 at *
    obtain ⟨dx, oy, hoy, hty⟩ := id B1
    refine ⟨_, rfl, p, dx, _, rfl, hoy, bf_no _ (by decide), _, p, bs, rfl, B1, ob, fun r H2 s2 tr => ?_⟩
    obtain ⟨qa, zs, rfl, nqa, hqa, tz⟩ := tr
    have lz := tz.len
    rw [List.length_map] at lz
    have hi := ob.hi
    have nDq : ∀ a, New H1 a → ¬ a = D := fun a n e => by
      have n : H1 a = none := n
      rw [e, hD] at n
      cases n
    refine ⟨qa, zs, rfl, SqL.of hqa, ?_⟩
    refine for_it (walk_enum (xs := zs)) (fun i σ H' => ∃ (y2 y3 : Option V), σ = [some (.ref p), some (.ref D), y2, y3] ∧ KpL (fun a => a = D) H2 H' ∧ H' D = some (.lst ((tx (bs.take i) 0).map V.str))) ⟨none, none, rfl, KpL.refl, by rw [s2 _ _ hD]; rfl⟩ (fun i σ H' _ h => ?_) (fun i x σ H' H3 hi' h y => ?_) (fun σ H' h => ?_)
    · obtain ⟨_, _, _, k, _⟩ := h
      exact SqL.of (k.at_ hqa (nDq _ nqa))
    · obtain ⟨y2, y3, rfl, k, hDi⟩ := h
      obtain ⟨u, x, y, rfl, nu, rfl, hx, hy⟩ := y
      cases hx
      have hy : zs[i]? = some y := hy
      have tz' := TrAll.kpl k nDq _ _ tz
      obtain ⟨d, hd, tx'⟩ := tz'.get hy
      obtain ⟨b, hb, mb, rfl⟩ := get_bodies hd
      obtain ⟨o1, o2, o3⟩ := ob.each b mb
      have su := same_upd (o := .tup [V.int (i : Int), y]) nu
      have hu : (upd H' u (.tup [V.int (i : Int), y])) u = some (.tup [V.int (i : Int), y]) := upd_same
      have hD3 := su _ _ hDi
      have tx' := tx'.same su
      have k3 : KpL (fun a => a = D) H2 (upd H' u (.tup [V.int (i : Int), y])) := k.trans (KpL.of su)
      generalize upd H' u _ = H3 at *
      have lt := tx_len ob i
      have l1 := lnB_len 0 b
      have hib := (List.getElem?_eq_some_iff.mp hb).1
      have il : (Str.ofString (toString (i : Int))).length ≤ 8 := iS_len (by omega) (by omega)
      have y3' : ("to " : Str).length = 3 := by decide +kernel
      refine ⟨u, _, rfl, SqT.of hu, rfl, _, _, rfl, _, _, rfl, rfl, ?_⟩
      refine ⟨_, rfl, .inl ⟨rfl, _, .inl (.inl hD3)⟩, _, rfl, by decide +kernel, _, rfl, .inr ⟨(i : Int), rfl, log_small (by omega), _, rfl, Nat.le_trans (m := 100) (by rw [Str.length_append, Str.empty_append]; omega) (by decide), D, _, _, rfl, rfl, hD3, small1000 (by rw [List.length_map]; omega), ?_⟩⟩
      have k4 : KpL (fun a => a = D) H3 (upd H3 D (.lst ((tx (bs.take i) 0).map V.str ++ [V.str (Str.empty ++ "to " ++ iS (i : Int))]))) := KpL.refl.put rfl ⟨_, hD3⟩
      have hD4 : upd H3 D (.lst ((tx (bs.take i) 0).map V.str ++ [V.str (Str.empty ++ "to " ++ iS (i : Int))])) D = some (.lst ((tx (bs.take i) 0).map V.str ++ [V.str (Str.empty ++ "to " ++ iS (i : Int))])) := upd_same
      have tx4 := Tr.kpl k4 nDq _ _ tx'
      generalize upd H3 D _ = H4 at *
      refine ⟨_, rfl, .inl ⟨rfl, _, .inl (.inl hD4)⟩, _, rfl, _, [bD b, .int 0], .cons tx4 (.one rfl), b, bs.length, 0, rfl, o3, o1, hi, by decide, by decide, o2, fun v H5 s5 tv => ?_⟩
      obtain ⟨bv, vs, rfl, _, hbv, tvs⟩ := tv
      have := strs_tr tvs
      subst this
      have hD5 := s5 _ _ hD4
      refine ⟨D, bv, _, _, rfl, rfl, hD5, hbv, Nat.le_trans (m := 1000) (by rw [List.length_append, List.length_map, List.length_map, List.length_singleton]; omega) (by decide), ?_⟩
      have k6 : KpL (fun a => a = D) H5 (upd H5 D (.lst (((tx (bs.take i) 0).map V.str ++ [V.str (Str.empty ++ "to " ++ iS (i : Int))]) ++ (lnB 0 b).map V.str))) := KpL.refl.put rfl ⟨_, hD5⟩
      refine ⟨_, _, rfl, k3.trans (k4.trans ((KpL.of s5).trans k6)), ?_⟩
      rw [upd_same, tx_take 0 hb, Nat.zero_add, Str.empty_append, List.map_append, List.map_cons, List.append_assoc]
      rfl
    · obtain ⟨y2, y3, rfl, k, hDi⟩ := h
      rw [lz, List.take_length] at hDi
      have sf : Same H H' := fun b o e => k.at_ (s2 _ _ (sD _ _ e)) (fun h => by rw [h, nD] at e; cases e)
      refine ⟨⟨_, rfl⟩, _, rfl, _, D, _, rfl, rfl, .inl (SqL.of hDi), tx_sum ob, q _ sf⟩

--SPLIT
def spLaw (K : PySem.W.Frag) : Sp := fun vs H Q _ => ∃ (a : Addr) (ns : List Int), vs = [.ref a] ∧ SqL K H a (ns.map V.int) ∧ ns.length ≤ 63 ∧ ∀ H', Q (.bl true) H'
/-- at none of the pool, and there -/
def Tk (p : Addr) (H : Hp) : Addr → Prop := fun a => a ≠ p ∧ H a ≠ none
section
variable {S : Addr → Prop} {p : Addr} {L : Nat} {H H' J : Hp} {d : PyData} {v : V}
theorem tk_new (h : Pool J p L) (n : ¬ S p) (t : Tr (fun a => S a ∨ J a = none) H d v) : Tr (Tk p H) H d v :=
  Tr.mono (fun a s => ⟨s.1.elim (fun x e => n (e ▸ x)) fun x => h.ne x, s.2⟩) _ _ (Tr.tracked _ _ t)
theorem tk_kp (k : Kp p H H') (h : Pool H p L) (t : Tr (Tk p H) H d v) : Tr (Tk p H') H' d v :=
  have h' : KpL (fun a => a = p) H H' := KpL.kp k rfl (by obtain ⟨ns, e, _⟩ := h; exact ⟨_, e⟩)
  Tr.mono (fun a s => ⟨s.1.1, s.2⟩) _ _ (Tr.tracked _ _ (Tr.kpl h' (fun a s => s.1) _ _ t))
theorem tk_same (s : Same H H') (t : Tr (Tk p H) H d v) : Tr (Tk p H') H' d v :=
  Tr.mono (fun a s => ⟨s.1.1, s.2⟩) _ _ (Tr.tracked _ _ (t.same s))
theorem pool_same (s : Same H H') (h : Pool H p L) : Pool H' p L := by
  obtain ⟨ns, e, l⟩ := h
  exact ⟨ns, s _ _ e, l⟩
end

theorem ok_law (T : Top w K mg) : FnOk P w K mg base CX0 22 T.a_law T.d_law ["_law_script"] (spLaw K) := by
  refine T.F_law.ok sc_law (fun vs H Q E h => ?_) (fun cdv A outer s H vs Q E hr h => ?_)
  · obtain ⟨a, ns, rfl, _⟩ := h
    rfl
  · obtain ⟨a, ns, rfl, hS, hlen, q⟩ := h
    refine ⟨_, (pss_cons (ps_set (i := 1) sc_law.nd rfl (Or.inl rfl) (pe_call (ok__law_pool T) (hr.mono (by decide)) (by rfl) T.g__law_pool T.F__law_pool.kp (b__law_pool T) .nil pass0 (pa_cons (pv 0) pa_nil)))
      (pss_cons (ps_set (i := 2) sc_law.nd rfl (Or.inl rfl) (pe_call (ok__law_draw T) (hr.mono (by decide)) (by rfl) T.g__law_draw T.F__law_draw.kp (b__law_draw T) .nil pass0 (pa_cons (pv 1) (pa_cons pe_int pa_nil))))
      (pss_cons (ps_set (i := 3) sc_law.nd rfl (Or.inl rfl) (pe_call (ok__law_any_command T) (hr.mono (by decide)) (by rfl) T.g__law_any_command T.F__law_any_command.kp (b__law_any_command T) .nil pass0 (pa_cons (pv 1) pa_nil)))
      (pss_cons (ps_set (i := 4) sc_law.nd rfl (Or.inl rfl) (pe_call (ok__law_book T) hr (by rfl) T.g__law_book T.F__law_book.kp (b__law_book T) .nil pass0 (pa_cons (pv 1) (pa_cons pe_int (pa_cons pe_int pa_nil)))))
      (C8.pss_cut (ps_if (PW.pt (pw_and (pt_cmpR op_eq (pv 2) pe_int (nomark _)) (pw_and1 (pt_cmpR op_lt (pe_callB (k_len K) (by rfl) T.z_len bt_len (pa_cons (pe_ix (k_ixL K) (pv 4) pe_int (fun _ _ => rfl)) pa_nil)) pe_int (nomark _))))) (pss_one (ps_asg (pe_op op_cat (pe_lst (pa_cons (pv 3) pa_nil)) (pe_ix (k_ixL K) (pv 4) pe_int (fun _ _ => rfl))) (pg_sub (pv 4) pe_int set_list))) pss_nil)
      (pss_cons (ps_set (i := 5) sc_law.nd rfl (Or.inl rfl) (pe_make T.mk_Book (ok_Book___init__ T) (hr.mono (by decide)) (by rfl) T.g_Book (b_Book___init__ T) .nil pass0 (pa_cons (pe_call (ok__law_copies T) (hr.mono (by decide)) (by rfl) T.g__law_copies T.F__law_copies.kp (b__law_copies T) .nil pass0 (pa_cons (pv 4) pa_nil)) pa_nil)))
      (pss_cons (ps_set (i := 6) sc_law.nd rfl (Or.inl rfl) (pe_join pe_str (pe_call (ok__law_text_lines T) (hr.mono (by decide)) (by rfl) T.g__law_text_lines T.F__law_text_lines.kp (b__law_text_lines T) .nil pass0 (pa_cons (pv 4) pa_nil))))
      (pss_cons (ps_set (i := 7) sc_law.nd rfl (Or.inl rfl) (pe_call (ok_book_text T) (hr.mono (by decide)) (by rfl) T.g_book_text T.F_book_text.kp (b_book_text T) .nil pass0 (pa_cons (pv 5) pa_nil)))
      (pss_one (ps_ret (pe_and (pe_callB (k_isi K) (by rfl) T.z_isinstance bt_isinstance (pa_cons (pv 7) (pa_cons (pe_bltn (v := .ty "str") (by rfl) T.z_str bt_str rfl) pa_nil))) (pe_and (pe_cmpR op_eq (pv 7) (pv 6) (nomark _)) (pe_and (pe_cmpR op_eq (pe_call (ok_book_text T) (hr.mono (by decide)) (by rfl) T.g_book_text T.F_book_text.kp (b_book_text T) .nil pass0 (pa_cons (pv 5) pa_nil)) (pv 6) (nomark _)) (pe_one (pe_call (ok__law_same T) (hr.mono (by decide)) (by rfl) T.g__law_same T.F__law_same.kp (b__law_same T) .nil pass0 (pa_cons (pe_meth0 (pv 5) T.cl_Book T.m_Book_bodies (ok_Book_bodies T) (hr.mono (by decide)) (b_Book_bodies T) .nil pass0) (pa_cons (pv 4) pa_nil))))))))))))))))), ?_⟩
    refine ⟨_, rfl, a, ns, rfl, hS, hlen, fun H1 p L s1 np pl h2 h64 => ?_⟩
    refine ⟨_, rfl, p, L, 2, rfl, pl, h2, h64, by decide, by decide, fun mo H2 m0 m2 k2 pl2 => ?_⟩
    refine ⟨_, rfl, p, L, rfl, pl2, h2, h64, fun cq c H3 hc k3 pl3 ncq hcq => ?_⟩
    refine ⟨_, rfl, p, L, 3, 7, rfl, pl3, h2, h64, by decide, by decide, by decide, by decide, fun f bs H4 k4 pl4 ob hcnt tb hx => ?_⟩
    obtain ⟨xs, nf, hf, txs⟩ := hx
    have ncp : cq ≠ p := pl2.ne ncq
    have hcq4 := k4 _ _ ncp hcq
    have nfp : f ≠ p := pl3.ne nf
    have lx := txs.len
    rw [List.length_map] at lx
    have lo := ob.lo
    refine ⟨fun σ J => ∃ bs' : List (List Stm), σ = [some (.ref a), some (.ref p), some (.int mo), some (.ref cq), some (.ref f), none, none, none] ∧ OkBook bs' ∧ Tr (fun _ => True) J (bookD bs') (.ref f), ?_, fun σ J hm => ?_⟩
    · obtain ⟨b, r, rfl⟩ : ∃ b r, bs = b :: r := by
        cases bs with
        | nil => exact absurd lo (by simp)
        | cons b r => exact ⟨b, r, rfl⟩
      obtain ⟨o1, o2, o3⟩ := ob.each b List.mem_cons_self
      have c7 := hcnt b List.mem_cons_self
      obtain ⟨x, xr, rfl, tx, tr⟩ := id txs
      obtain ⟨xa, ys, rfl, nxa, hxa, ty⟩ := tx
      have ly := ty.len
      rw [blkD_len] at ly
      refine ⟨_, rfl, rfl, _, rfl, ite2 (fun _ => ?_) (fun _ => ⟨b :: r, rfl, ob, Tr.mono (fun _ _ => True.intro) _ _ tb⟩)⟩
      refine ⟨_, rfl, f, _, 0, _, rfl, rfl, SqL.of hf, at_of (j := 0) (by decide) rfl, xa, _, rfl, .inl (SqL.of hxa), _, _, rfl, rfl, _, rfl, ite2 (fun g1 => ?_) (fun _ => ⟨b :: r, rfl, ob, Tr.mono (fun _ _ => True.intro) _ _ tb⟩)⟩
      have g1 : ((ys.length : Nat) : Int) < 8 := of_decide_eq_true g1
      refine ⟨_, rfl, small100 (n := 1) (by decide), fun l nl => ?_⟩
      have sl := same_upd (o := .lst [V.ref cq]) nl
      have hl : upd H4 l (.lst [V.ref cq]) l = some (.lst [V.ref cq]) := upd_same
      have hf5 := sl _ _ hf
      have hxa5 := sl _ _ hxa
      have hcq5 := sl _ _ hcq4
      have ty5 := ty.same sl
      have tr5 := tr.same sl
      generalize upd H4 l _ = H5 at *
      refine ⟨_, rfl, f, _, 0, _, rfl, rfl, SqL.of hf5, at_of (j := 0) (by decide) rfl, l, xa, _, _, rfl, rfl, hl, hxa5, Nat.le_trans (m := 1000) (by show 1 + ys.length ≤ 1000; omega) (by decide), fun g ng => ?_⟩
      have sg := same_upd (o := .lst ([V.ref cq] ++ ys)) ng
      have hg : upd H5 g (.lst ([V.ref cq] ++ ys)) g = some (.lst ([V.ref cq] ++ ys)) := upd_same
      have hf6 := sg _ _ hf5
      have hcq6 := sg _ _ hcq5
      have ngf : g ≠ f := (ne_of_none hf5 ng).symm
      have ty6 := ty5.same sg
      have tr6 := tr5.same sg
      generalize upd H5 g _ = H6 at *
      refine ⟨_, rfl, f, _, 0, 0, rfl, rfl, hf6, ixN_in (by decide) (by show (0 : Int) < ((xr.length + 1 : Nat) : Int); omega), ?_⟩
      have k7 : KpL (fun a => a = f) H6 (upd H6 f (.lst (.ref g :: xr))) := KpL.refl.put rfl ⟨_, hf6⟩
      have okk : OkBook ((.cmd c :: b) :: r) := by
        refine ⟨by simp, ob.hi, fun b' hb' => ?_⟩
        rcases List.mem_cons.mp hb' with rfl | hb'
        · exact ⟨by rw [List.length_cons]; omega, by rw [cntB]; show 1 + cntB b ≤ 12; omega, hc, o3⟩
        · exact ob.each b' (List.mem_cons_of_mem _ hb')
      refine ⟨_, rfl, okk, f, .ref g :: xr, rfl, True.intro, upd_same, .cons ⟨g, _, rfl, True.intro, k7.at_ hg ngf, .cons ⟨cq, _, rfl, k7.tup hcq6, .cons rfl (TrAll.ofInts _)⟩ ?_⟩ ?_⟩
      · exact TrAll.mono (fun _ _ => True.intro) _ _ (TrAll.kpl k7 (fun a n => n.2) _ _ ty6)
      · exact TrAll.mono (fun _ _ => True.intro) _ _ (TrAll.kpl k7 (fun a n => n.2) _ _ tr6)
    obtain ⟨bs', rfl, ob', tf⟩ := hm
    clear tb txs hcq4 hf hcnt lx lo ob
    refine ⟨_, rfl, _, bs', .ref f, rfl, tf, ob', fun r J1 s1 tr => fun b dx nb nd ne => made tr ob' nb nd ne fun J2 s2 B => ?_⟩
    have s12 := s1.trans s2
    refine ⟨⟨_, rfl⟩, _, rfl, _, [bookD bs'], .one (tf.same s12), bs', rfl, ob', fun v H7 s7 tv => ?_⟩
    obtain ⟨q7, vs, rfl, _, hq7, tvs⟩ := tv
    have := strs_tr tvs
    subst this
    refine ⟨"\n", q7, _, rfl, rfl, .inl (SqL.of hq7), tx_sum ob', ?_⟩
    refine ⟨_, rfl, _, b, bs', rfl, B.same s7, ob', fun H8 s8 => ?_⟩
    refine ⟨_, rfl, _, _, _, _, _, rfl, .ty _, tr_ty K (S := fun _ => True) (d := .str (textOf bs')) rfl, ki_str K _, ?_⟩
    refine ⟨_, rfl, _, rfl, _, rfl, rfl, _, rfl, iteP rfl ?_⟩
    refine ⟨_, rfl, _, b, bs', rfl, B.same (s7.trans s8), ob', fun H9 s9 => ⟨_, rfl, rfl, _, rfl, iteP rfl ?_⟩⟩
    have B9 := B.same (s7.trans (s8.trans s9))
    obtain ⟨dxb, qb, hb9, _⟩ := id B9
    refine ⟨_, rfl, b, dxb, _, rfl, hb9, bf_no _ (by decide), _, b, bs', rfl, B9, ob', fun r2 H10 s10 tr2 => ?_⟩
    refine ⟨_, rfl, _, _, bookD bs', bookD bs', r2, .ref f, rfl, tr2, tf.same (s12.trans (s7.trans (s8.trans (s9.trans s10)))), fit_book ob', fit_book ob', by decide, fun H11 s11 => ?_⟩
    rw [same_refl _ _ (fit_book ob')]
    exact q _
--SPLIT
end
theorem all_mk {l : PySem.W.OpenLaw} {w : World} {K : PySem.W.Frag} {h : Heap} {mg : Str → Option Value} {fa f0 f1 f2 f3 f4 f5 f6 f7 f8 f9 f10 f11 f12 f13 f14 f15 f16 f17 f18 f19 f20 f21 f22 f23 f24 f25 f26 f27 f28 f29 f30 f31 f32 f33 f34 f35 f36 f37 f38 : Addr} (X : K.In h) (G : h.Ns mainGlobals mg) (hfa : mg "law" = some (.ref fa))
    {od0 an0 od1 an1 od2 an2 od3 an3 od4 an4 od5 an5 od6 an6 od7 an7 od8 an8 od9 an9 od10 an10 od11 an11 od12 an12 od13 an13 od14 an14 od15 an15 od16 an16 od17 an17 od18 an18 od19 an19 od20 an20 od21 an21 od22 an22 od23 an23 od24 an24 od25 an25 od26 an26 od27 an27 od28 an28 od29 an29 od30 an30 od31 an31 od32 an32 od33 an33 od34 an34 od35 an35 od36 an36 od37 an37 od38 an38 : Option Addr} {sl0 sl1 sl2 sl3 sl4 sl5 sl6 sl7 sl8 sl9 sl10 sl11 sl12 sl13 sl14 sl15 sl16 sl17 sl18 sl19 sl20 sl21 sl22 sl23 sl24 sl25 sl26 sl27 sl28 sl29 sl30 sl31 sl32 sl33 sl34 sl35 sl36 sl37 sl38 : Array (Option Value)}
    {oc0 dc0 pm0 cd0 ct0 kV0 oc1 dc1 pm1 cd1 ct1 kV1 oc2 dc2 pm2 cd2 ct2 kV2 oc3 dc3 pm3 cd3 ct3 kV3 oc4 dc4 pm4 cd4 ct4 kV4 oc5 dc5 pm5 cd5 ct5 kV5 oc6 dc6 pm6 cd6 ct6 kV6 oc7 dc7 pm7 cd7 ct7 kV7 oc8 dc8 pm8 cd8 ct8 kV8 oc9 dc9 pm9 cd9 ct9 kV9 oc10 dc10 pm10 cd10 ct10 kV10 oc11 dc11 pm11 cd11 ct11 kV11 oc12 dc12 pm12 cd12 ct12 kV12 oc13 dc13 pm13 cd13 ct13 kV13 oc14 dc14 pm14 cd14 ct14 kV14 oc15 dc15 pm15 cd15 ct15 kV15 oc16 dc16 pm16 cd16 ct16 kV16 oc17 dc17 pm17 cd17 ct17 kV17 oc18 dc18 pm18 cd18 ct18 kV18 oc19 dc19 pm19 cd19 ct19 kV19 oc20 dc20 pm20 cd20 ct20 kV20 oc21 dc21 pm21 cd21 ct21 kV21 oc22 dc22 pm22 cd22 ct22 kV22 oc23 dc23 pm23 cd23 ct23 kV23 oc24 dc24 pm24 cd24 ct24 kV24 oc25 dc25 pm25 cd25 ct25 kV25 oc26 dc26 pm26 cd26 ct26 kV26 oc27 dc27 pm27 cd27 ct27 kV27 oc28 dc28 pm28 cd28 ct28 kV28 oc29 dc29 pm29 cd29 ct29 kV29 oc30 dc30 pm30 cd30 ct30 kV30 oc31 dc31 pm31 cd31 ct31 kV31 oc32 dc32 pm32 cd32 ct32 kV32 oc33 dc33 pm33 cd33 ct33 kV33 oc34 dc34 pm34 cd34 ct34 kV34 oc35 dc35 pm35 cd35 ct35 kV35 oc36 dc36 pm36 cd36 ct36 kV36 oc37 dc37 pm37 cd37 ct37 kV37 oc38 dc38 pm38 cd38 ct38 kV38 : Value}
    {CC0 : Addr}
    {ti0 ti1 ti2 ti3 : Tok}
    (qa0 : PySem.W.nsIn K mainGlobals "Book" = some (some (.ref CC0)))
    (qg0 : PySem.W.plainGet K CC0 Str.empty = true)
    (qh0 : PySem.W.hasDictIn K CC0 = true)
    (qp0 : PySem.W.plainOver K CC0 = true)
    (qs0 : PySem.W.findIn K (.ref CC0) "__setattr__" = some (some (.builtin "object.__setattr__")))
    (qm0 : PySem.W.makesIn K CC0 = true)
    (qk0 : PySem.W.keepIn K (.ref CC0) = true)
    (qn0_0 : PySem.W.findIn K (.ref CC0) "_bodies" = some none)
    (a0 : PySem.W.nsIn K mainGlobals "is_integer" = some (some (.ref f0)))
    (l0 : K.lookup f0 = some ⟨oc0, od0, .func (PySem.W.fnOf "is_integer" "is_integer" (defArgs s_is_integer) (defBody s_is_integer) (defScope s_is_integer) .none kV0 dc0 pm0 an0 cd0 ct0), sl0⟩)
    (c0 : PySem.W.codeIn K cd0 "is_integer" = true)
    (k0 : PySem.W.keepIn K (.ref f0) = true)
    (a1 : PySem.W.nsIn K mainGlobals "is_within" = some (some (.ref f1)))
    (l1 : K.lookup f1 = some ⟨oc1, od1, .func (PySem.W.fnOf "is_within" "is_within" (defArgs s_is_within) (defBody s_is_within) (defScope s_is_within) .none kV1 dc1 pm1 an1 cd1 ct1), sl1⟩)
    (c1 : PySem.W.codeIn K cd1 "is_within" = true)
    (k1 : PySem.W.keepIn K (.ref f1) = true)
    (a2 : PySem.W.nsIn K mainGlobals "is_bit" = some (some (.ref f2)))
    (l2 : K.lookup f2 = some ⟨oc2, od2, .func (PySem.W.fnOf "is_bit" "is_bit" (defArgs s_is_bit) (defBody s_is_bit) (defScope s_is_bit) .none kV2 dc2 pm2 an2 cd2 ct2), sl2⟩)
    (c2 : PySem.W.codeIn K cd2 "is_bit" = true)
    (k2 : PySem.W.keepIn K (.ref f2) = true)
    (a3 : PySem.W.nsIn K mainGlobals "is_command" = some (some (.ref f3)))
    (l3 : K.lookup f3 = some ⟨oc3, od3, .func (PySem.W.fnOf "is_command" "is_command" (defArgs s_is_command) (defBody s_is_command) (defScope s_is_command) .none kV3 dc3 pm3 an3 cd3 ct3), sl3⟩)
    (c3 : PySem.W.codeIn K cd3 "is_command" = true)
    (k3 : PySem.W.keepIn K (.ref f3) = true)
    (a4 : PySem.W.nsIn K mainGlobals "is_index" = some (some (.ref f4)))
    (l4 : K.lookup f4 = some ⟨oc4, od4, .func (PySem.W.fnOf "is_index" "is_index" (defArgs s_is_index) (defBody s_is_index) (defScope s_is_index) .none kV4 dc4 pm4 an4 cd4 ct4), sl4⟩)
    (c4 : PySem.W.codeIn K cd4 "is_index" = true)
    (k4 : PySem.W.keepIn K (.ref f4) = true)
    (a5 : PySem.W.nsIn K mainGlobals "are_blocks" = some (some (.ref f5)))
    (l5 : K.lookup f5 = some ⟨oc5, od5, .func (PySem.W.fnOf "are_blocks" "are_blocks" (defArgs s_are_blocks) (defBody s_are_blocks) (defScope s_are_blocks) .none kV5 dc5 pm5 an5 cd5 ct5), sl5⟩)
    (c5 : PySem.W.codeIn K cd5 "are_blocks" = true)
    (k5 : PySem.W.keepIn K (.ref f5) = true)
    (a6 : PySem.W.nsIn K mainGlobals "is_call" = some (some (.ref f6)))
    (l6 : K.lookup f6 = some ⟨oc6, od6, .func (PySem.W.fnOf "is_call" "is_call" (defArgs s_is_call) (defBody s_is_call) (defScope s_is_call) .none kV6 dc6 pm6 an6 cd6 ct6), sl6⟩)
    (c6 : PySem.W.codeIn K cd6 "is_call" = true)
    (k6 : PySem.W.keepIn K (.ref f6) = true)
    (a7 : PySem.W.nsIn K mainGlobals "is_statement" = some (some (.ref f7)))
    (l7 : K.lookup f7 = some ⟨oc7, od7, .func (PySem.W.fnOf "is_statement" "is_statement" (defArgs s_is_statement) (defBody s_is_statement) (defScope s_is_statement) .none kV7 dc7 pm7 an7 cd7 ct7), sl7⟩)
    (c7 : PySem.W.codeIn K cd7 "is_statement" = true)
    (k7 : PySem.W.keepIn K (.ref f7) = true)
    (a8 : PySem.W.nsIn K mainGlobals "blocks_of" = some (some (.ref f8)))
    (l8 : K.lookup f8 = some ⟨oc8, od8, .func (PySem.W.fnOf "blocks_of" "blocks_of" (defArgs s_blocks_of) (defBody s_blocks_of) (defScope s_blocks_of) .none kV8 dc8 pm8 an8 cd8 ct8), sl8⟩)
    (c8 : PySem.W.codeIn K cd8 "blocks_of" = true)
    (k8 : PySem.W.keepIn K (.ref f8) = true)
    (a9 : PySem.W.nsIn K mainGlobals "with_blocks" = some (some (.ref f9)))
    (l9 : K.lookup f9 = some ⟨oc9, od9, .func (PySem.W.fnOf "with_blocks" "with_blocks" (defArgs s_with_blocks) (defBody s_with_blocks) (defScope s_with_blocks) .none kV9 dc9 pm9 an9 cd9 ct9), sl9⟩)
    (c9 : PySem.W.codeIn K cd9 "with_blocks" = true)
    (k9 : PySem.W.keepIn K (.ref f9) = true)
    (a10 : PySem.W.nsIn K mainGlobals "copied_statement" = some (some (.ref f10)))
    (l10 : K.lookup f10 = some ⟨oc10, od10, .func (PySem.W.fnOf "copied_statement" "copied_statement" (defArgs s_copied_statement) (defBody s_copied_statement) (defScope s_copied_statement) .none kV10 dc10 pm10 an10 cd10 ct10), sl10⟩)
    (c10 : PySem.W.codeIn K cd10 "copied_statement" = true)
    (k10 : PySem.W.keepIn K (.ref f10) = true)
    (a11 : PySem.W.nsIn K mainGlobals "copied" = some (some (.ref f11)))
    (l11 : K.lookup f11 = some ⟨oc11, od11, .func (PySem.W.fnOf "copied" "copied" (defArgs s_copied) (defBody s_copied) (defScope s_copied) .none kV11 dc11 pm11 an11 cd11 ct11), sl11⟩)
    (c11 : PySem.W.codeIn K cd11 "copied" = true)
    (k11 : PySem.W.keepIn K (.ref f11) = true)
    (a12 : PySem.W.nsIn K mainGlobals "check_block" = some (some (.ref f12)))
    (l12 : K.lookup f12 = some ⟨oc12, od12, .func (PySem.W.fnOf "check_block" "check_block" (defArgs s_check_block) (defBody s_check_block) (defScope s_check_block) .none kV12 dc12 pm12 an12 cd12 ct12), sl12⟩)
    (c12 : PySem.W.codeIn K cd12 "check_block" = true)
    (k12 : PySem.W.keepIn K (.ref f12) = true)
    (a13 : PySem.W.nsIn K mainGlobals "check_bodies" = some (some (.ref f13)))
    (l13 : K.lookup f13 = some ⟨oc13, od13, .func (PySem.W.fnOf "check_bodies" "check_bodies" (defArgs s_check_bodies) (defBody s_check_bodies) (defScope s_check_bodies) .none kV13 dc13 pm13 an13 cd13 ct13), sl13⟩)
    (c13 : PySem.W.codeIn K cd13 "check_bodies" = true)
    (k13 : PySem.W.keepIn K (.ref f13) = true)
    (a14 : PySem.W.findIn K (.ref CC0) "__init__" = some (some (.ref f14)))
    (i14 : PySem.W.isFn K (.ref f14) = true)
    (l14 : K.lookup f14 = some ⟨oc14, od14, .func (PySem.W.fnOf "__init__" "Book.__init__" (defArgs s_Book___init__) (defBody s_Book___init__) (defScope s_Book___init__) .none kV14 dc14 pm14 an14 cd14 ct14), sl14⟩)
    (c14 : PySem.W.codeIn K cd14 "Book.__init__" = true)
    (k14 : PySem.W.keepIn K (.ref f14) = true)
    (a15 : PySem.W.findIn K (.ref CC0) "__len__" = some (some (.ref f15)))
    (i15 : PySem.W.isFn K (.ref f15) = true)
    (l15 : K.lookup f15 = some ⟨oc15, od15, .func (PySem.W.fnOf "__len__" "Book.__len__" (defArgs s_Book___len__) (defBody s_Book___len__) (defScope s_Book___len__) .none kV15 dc15 pm15 an15 cd15 ct15), sl15⟩)
    (c15 : PySem.W.codeIn K cd15 "Book.__len__" = true)
    (k15 : PySem.W.keepIn K (.ref f15) = true)
    (a16 : PySem.W.findIn K (.ref CC0) "bodies" = some (some (.ref f16)))
    (i16 : PySem.W.isFn K (.ref f16) = true)
    (l16 : K.lookup f16 = some ⟨oc16, od16, .func (PySem.W.fnOf "bodies" "Book.bodies" (defArgs s_Book_bodies) (defBody s_Book_bodies) (defScope s_Book_bodies) .none kV16 dc16 pm16 an16 cd16 ct16), sl16⟩)
    (c16 : PySem.W.codeIn K cd16 "Book.bodies" = true)
    (k16 : PySem.W.keepIn K (.ref f16) = true)
    (a17 : PySem.W.nsIn K mainGlobals "heads_of" = some (some (.ref f17)))
    (l17 : K.lookup f17 = some ⟨oc17, od17, .func (PySem.W.fnOf "heads_of" "heads_of" (defArgs s_heads_of) (defBody s_heads_of) (defScope s_heads_of) .none kV17 dc17 pm17 an17 cd17 ct17), sl17⟩)
    (c17 : PySem.W.codeIn K cd17 "heads_of" = true)
    (k17 : PySem.W.keepIn K (.ref f17) = true)
    (a18 : PySem.W.nsIn K mainGlobals "lines_of" = some (some (.ref f18)))
    (l18 : K.lookup f18 = some ⟨oc18, od18, .func (PySem.W.fnOf "lines_of" "lines_of" (defArgs s_lines_of) (defBody s_lines_of) (defScope s_lines_of) .none kV18 dc18 pm18 an18 cd18 ct18), sl18⟩)
    (c18 : PySem.W.codeIn K cd18 "lines_of" = true)
    (k18 : PySem.W.keepIn K (.ref f18) = true)
    (a19 : PySem.W.nsIn K mainGlobals "book_text" = some (some (.ref f19)))
    (l19 : K.lookup f19 = some ⟨oc19, od19, .func (PySem.W.fnOf "book_text" "book_text" (defArgs s_book_text) (defBody s_book_text) (defScope s_book_text) .none kV19 dc19 pm19 an19 cd19 ct19), sl19⟩)
    (c19 : PySem.W.codeIn K cd19 "book_text" = true)
    (k19 : PySem.W.keepIn K (.ref f19) = true)
    (a20 : PySem.W.nsIn K mainGlobals "_law_pool" = some (some (.ref f20)))
    (l20 : K.lookup f20 = some ⟨oc20, od20, .func (PySem.W.fnOf "_law_pool" "_law_pool" (defArgs s__law_pool) (defBody s__law_pool) (defScope s__law_pool) .none kV20 dc20 pm20 an20 cd20 ct20), sl20⟩)
    (c20 : PySem.W.codeIn K cd20 "_law_pool" = true)
    (k20 : PySem.W.keepIn K (.ref f20) = true)
    (a21 : PySem.W.nsIn K mainGlobals "_law_draw" = some (some (.ref f21)))
    (l21 : K.lookup f21 = some ⟨oc21, od21, .func (PySem.W.fnOf "_law_draw" "_law_draw" (defArgs s__law_draw) (defBody s__law_draw) (defScope s__law_draw) .none kV21 dc21 pm21 an21 cd21 ct21), sl21⟩)
    (c21 : PySem.W.codeIn K cd21 "_law_draw" = true)
    (k21 : PySem.W.keepIn K (.ref f21) = true)
    (a22 : PySem.W.nsIn K mainGlobals "_law_command" = some (some (.ref f22)))
    (l22 : K.lookup f22 = some ⟨oc22, od22, .func (PySem.W.fnOf "_law_command" "_law_command" (defArgs s__law_command) (defBody s__law_command) (defScope s__law_command) .none kV22 dc22 pm22 an22 cd22 ct22), sl22⟩)
    (c22 : PySem.W.codeIn K cd22 "_law_command" = true)
    (k22 : PySem.W.keepIn K (.ref f22) = true)
    (a23 : PySem.W.nsIn K mainGlobals "_law_pair" = some (some (.ref f23)))
    (l23 : K.lookup f23 = some ⟨oc23, od23, .func (PySem.W.fnOf "_law_pair" "_law_pair" (defArgs s__law_pair) (defBody s__law_pair) (defScope s__law_pair) .none kV23 dc23 pm23 an23 cd23 ct23), sl23⟩)
    (c23 : PySem.W.codeIn K cd23 "_law_pair" = true)
    (k23 : PySem.W.keepIn K (.ref f23) = true)
    (a24 : PySem.W.nsIn K mainGlobals "_law_block" = some (some (.ref f24)))
    (l24 : K.lookup f24 = some ⟨oc24, od24, .func (PySem.W.fnOf "_law_block" "_law_block" (defArgs s__law_block) (defBody s__law_block) (defScope s__law_block) .none kV24 dc24 pm24 an24 cd24 ct24), sl24⟩)
    (c24 : PySem.W.codeIn K cd24 "_law_block" = true)
    (k24 : PySem.W.keepIn K (.ref f24) = true)
    (a25 : PySem.W.nsIn K mainGlobals "_law_piece" = some (some (.ref f25)))
    (l25 : K.lookup f25 = some ⟨oc25, od25, .func (PySem.W.fnOf "_law_piece" "_law_piece" (defArgs s__law_piece) (defBody s__law_piece) (defScope s__law_piece) .none kV25 dc25 pm25 an25 cd25 ct25), sl25⟩)
    (c25 : PySem.W.codeIn K cd25 "_law_piece" = true)
    (k25 : PySem.W.keepIn K (.ref f25) = true)
    (a26 : PySem.W.nsIn K mainGlobals "_law_around" = some (some (.ref f26)))
    (l26 : K.lookup f26 = some ⟨oc26, od26, .func (PySem.W.fnOf "_law_around" "_law_around" (defArgs s__law_around) (defBody s__law_around) (defScope s__law_around) .none kV26 dc26 pm26 an26 cd26 ct26), sl26⟩)
    (c26 : PySem.W.codeIn K cd26 "_law_around" = true)
    (k26 : PySem.W.keepIn K (.ref f26) = true)
    (a27 : PySem.W.nsIn K mainGlobals "_law_body" = some (some (.ref f27)))
    (l27 : K.lookup f27 = some ⟨oc27, od27, .func (PySem.W.fnOf "_law_body" "_law_body" (defArgs s__law_body) (defBody s__law_body) (defScope s__law_body) .none kV27 dc27 pm27 an27 cd27 ct27), sl27⟩)
    (c27 : PySem.W.codeIn K cd27 "_law_body" = true)
    (k27 : PySem.W.keepIn K (.ref f27) = true)
    (a28 : PySem.W.nsIn K mainGlobals "_law_book" = some (some (.ref f28)))
    (l28 : K.lookup f28 = some ⟨oc28, od28, .func (PySem.W.fnOf "_law_book" "_law_book" (defArgs s__law_book) (defBody s__law_book) (defScope s__law_book) .none kV28 dc28 pm28 an28 cd28 ct28), sl28⟩)
    (c28 : PySem.W.codeIn K cd28 "_law_book" = true)
    (k28 : PySem.W.keepIn K (.ref f28) = true)
    (a29 : PySem.W.nsIn K mainGlobals "_law_any_command" = some (some (.ref f29)))
    (l29 : K.lookup f29 = some ⟨oc29, od29, .func (PySem.W.fnOf "_law_any_command" "_law_any_command" (defArgs s__law_any_command) (defBody s__law_any_command) (defScope s__law_any_command) .none kV29 dc29 pm29 an29 cd29 ct29), sl29⟩)
    (c29 : PySem.W.codeIn K cd29 "_law_any_command" = true)
    (k29 : PySem.W.keepIn K (.ref f29) = true)
    (a30 : PySem.W.nsIn K mainGlobals "_law_blocks" = some (some (.ref f30)))
    (l30 : K.lookup f30 = some ⟨oc30, od30, .func (PySem.W.fnOf "_law_blocks" "_law_blocks" (defArgs s__law_blocks) (defBody s__law_blocks) (defScope s__law_blocks) .none kV30 dc30 pm30 an30 cd30 ct30), sl30⟩)
    (c30 : PySem.W.codeIn K cd30 "_law_blocks" = true)
    (k30 : PySem.W.keepIn K (.ref f30) = true)
    (a31 : PySem.W.nsIn K mainGlobals "_law_with" = some (some (.ref f31)))
    (l31 : K.lookup f31 = some ⟨oc31, od31, .func (PySem.W.fnOf "_law_with" "_law_with" (defArgs s__law_with) (defBody s__law_with) (defScope s__law_with) .none kV31 dc31 pm31 an31 cd31 ct31), sl31⟩)
    (c31 : PySem.W.codeIn K cd31 "_law_with" = true)
    (k31 : PySem.W.keepIn K (.ref f31) = true)
    (a32 : PySem.W.nsIn K mainGlobals "_law_copy" = some (some (.ref f32)))
    (l32 : K.lookup f32 = some ⟨oc32, od32, .func (PySem.W.fnOf "_law_copy" "_law_copy" (defArgs s__law_copy) (defBody s__law_copy) (defScope s__law_copy) .none kV32 dc32 pm32 an32 cd32 ct32), sl32⟩)
    (c32 : PySem.W.codeIn K cd32 "_law_copy" = true)
    (k32 : PySem.W.keepIn K (.ref f32) = true)
    (a33 : PySem.W.nsIn K mainGlobals "_law_copies" = some (some (.ref f33)))
    (l33 : K.lookup f33 = some ⟨oc33, od33, .func (PySem.W.fnOf "_law_copies" "_law_copies" (defArgs s__law_copies) (defBody s__law_copies) (defScope s__law_copies) .none kV33 dc33 pm33 an33 cd33 ct33), sl33⟩)
    (c33 : PySem.W.codeIn K cd33 "_law_copies" = true)
    (k33 : PySem.W.keepIn K (.ref f33) = true)
    (a34 : PySem.W.nsIn K mainGlobals "_law_same" = some (some (.ref f34)))
    (l34 : K.lookup f34 = some ⟨oc34, od34, .func (PySem.W.fnOf "_law_same" "_law_same" (defArgs s__law_same) (defBody s__law_same) (defScope s__law_same) .none kV34 dc34 pm34 an34 cd34 ct34), sl34⟩)
    (c34 : PySem.W.codeIn K cd34 "_law_same" = true)
    (k34 : PySem.W.keepIn K (.ref f34) = true)
    (a35 : PySem.W.nsIn K mainGlobals "_law_words" = some (some (.ref f35)))
    (l35 : K.lookup f35 = some ⟨oc35, od35, .func (PySem.W.fnOf "_law_words" "_law_words" (defArgs s__law_words) (defBody s__law_words) (defScope s__law_words) .none kV35 dc35 pm35 an35 cd35 ct35), sl35⟩)
    (c35 : PySem.W.codeIn K cd35 "_law_words" = true)
    (k35 : PySem.W.keepIn K (.ref f35) = true)
    (a36 : PySem.W.nsIn K mainGlobals "_law_lines" = some (some (.ref f36)))
    (l36 : K.lookup f36 = some ⟨oc36, od36, .func (PySem.W.fnOf "_law_lines" "_law_lines" (defArgs s__law_lines) (defBody s__law_lines) (defScope s__law_lines) .none kV36 dc36 pm36 an36 cd36 ct36), sl36⟩)
    (c36 : PySem.W.codeIn K cd36 "_law_lines" = true)
    (k36 : PySem.W.keepIn K (.ref f36) = true)
    (a37 : PySem.W.nsIn K mainGlobals "_law_text_lines" = some (some (.ref f37)))
    (l37 : K.lookup f37 = some ⟨oc37, od37, .func (PySem.W.fnOf "_law_text_lines" "_law_text_lines" (defArgs s__law_text_lines) (defBody s__law_text_lines) (defScope s__law_text_lines) .none kV37 dc37 pm37 an37 cd37 ct37), sl37⟩)
    (c37 : PySem.W.codeIn K cd37 "_law_text_lines" = true)
    (k37 : PySem.W.keepIn K (.ref f37) = true)
    (a38 : PySem.W.nsIn K mainGlobals "law" = some (some (.ref f38)))
    (l38 : K.lookup f38 = some ⟨oc38, od38, .func (PySem.W.fnOf "law" "law" (defArgs s_law) (defBody s_law) (defScope s_law) .none kV38 dc38 pm38 an38 cd38 ct38), sl38⟩)
    (c38 : PySem.W.codeIn K cd38 "law" = true)
    (k38 : PySem.W.keepIn K (.ref f38) = true)
    (z0 : PySem.W.nsIn K mainGlobals "all" = some none)
    (z1 : PySem.W.nsIn K mainGlobals "bool" = some none)
    (z2 : PySem.W.nsIn K mainGlobals "enumerate" = some none)
    (z3 : PySem.W.nsIn K mainGlobals "int" = some none)
    (z4 : PySem.W.nsIn K mainGlobals "isinstance" = some none)
    (z5 : PySem.W.nsIn K mainGlobals "len" = some none)
    (z6 : PySem.W.nsIn K mainGlobals "list" = some none)
    (z7 : PySem.W.nsIn K mainGlobals "range" = some none)
    (z8 : PySem.W.nsIn K mainGlobals "str" = some none)
    (z9 : PySem.W.nsIn K mainGlobals "tuple" = some none)
    (z10 : PySem.W.nsIn K mainGlobals "zip" = some none)
    (gi0 : PySem.W.nsIn K mainGlobals "DEEPEST_LEVEL" = some (some (.int 3 ti0)))
    (gi1 : PySem.W.nsIn K mainGlobals "MOST_IN_A_LIST" = some (some (.int 8 ti1)))
    (gi2 : PySem.W.nsIn K mainGlobals "MOST_IN_A_PROCEDURE" = some (some (.int 12 ti2)))
    (gi3 : PySem.W.nsIn K mainGlobals "MOST_PROCEDURES" = some (some (.int 3 ti3)))
    {aB : Addr}
    (gB : PySem.W.nsIn K mainGlobals "BOUNDS" = some (some (.ref aB)))
    {eB : Array DictEntry}
    {nB : Nat}
    (lB : K.lookup aB = some ⟨.type "dict", none, .dict eB nB, #[]⟩) (iB : PySem.W.KeysLit w.params eB.toList) (wB : (aB == sysModules) = false)
    {b0 : Addr} {db0 : Option Addr} {nb0 : Nat} {sb0 : Array (Option Value)} {p0_0 : Addr} {dp0_0 : Option Addr} {np0_0 : Nat} {sp0_0 : Array (Option Value)} {t0_0 u0_0 : Tok} {b1 : Addr} {db1 : Option Addr} {nb1 : Nat} {sb1 : Array (Option Value)} {p1_0 : Addr} {dp1_0 : Option Addr} {np1_0 : Nat} {sp1_0 : Array (Option Value)} {t1_0 u1_0 : Tok} {b2 : Addr} {db2 : Option Addr} {nb2 : Nat} {sb2 : Array (Option Value)} {b3 : Addr} {db3 : Option Addr} {nb3 : Nat} {sb3 : Array (Option Value)} {p3_0 : Addr} {dp3_0 : Option Addr} {np3_0 : Nat} {sp3_0 : Array (Option Value)} {t3_0 u3_0 : Tok} {b4 : Addr} {db4 : Option Addr} {nb4 : Nat} {sb4 : Array (Option Value)} {p4_0 : Addr} {dp4_0 : Option Addr} {np4_0 : Nat} {sp4_0 : Array (Option Value)} {t4_0 u4_0 : Tok} {p4_1 : Addr} {dp4_1 : Option Addr} {np4_1 : Nat} {sp4_1 : Array (Option Value)} {t4_1 u4_1 : Tok} {b5 : Addr} {db5 : Option Addr} {nb5 : Nat} {sb5 : Array (Option Value)} {p5_0 : Addr} {dp5_0 : Option Addr} {np5_0 : Nat} {sp5_0 : Array (Option Value)} {t5_0 u5_0 : Tok} {p5_1 : Addr} {dp5_1 : Option Addr} {np5_1 : Nat} {sp5_1 : Array (Option Value)} {t5_1 u5_1 : Tok} {b6 : Addr} {db6 : Option Addr} {nb6 : Nat} {sb6 : Array (Option Value)} {b7 : Addr} {db7 : Option Addr} {nb7 : Nat} {sb7 : Array (Option Value)} {b8 : Addr} {db8 : Option Addr} {nb8 : Nat} {sb8 : Array (Option Value)} (rn0 : PySem.W.nsIn K aB "go" = some (some (.ref b0))) (rl0 : K.lookup b0 = some ⟨.type "tuple", db0, .seq ([.ref p0_0] : List Value).toArray nb0, sb0⟩) (rp0_0 : K.lookup p0_0 = some ⟨.type "tuple", dp0_0, .seq ([.int (-9) t0_0, .int 9 u0_0] : List Value).toArray np0_0, sp0_0⟩) (rn1 : PySem.W.nsIn K aB "turn" = some (some (.ref b1))) (rl1 : K.lookup b1 = some ⟨.type "tuple", db1, .seq ([.ref p1_0] : List Value).toArray nb1, sb1⟩) (rp1_0 : K.lookup p1_0 = some ⟨.type "tuple", dp1_0, .seq ([.int (1) t1_0, .int 3 u1_0] : List Value).toArray np1_0, sp1_0⟩) (rn2 : PySem.W.nsIn K aB "mirror" = some (some (.ref b2))) (rl2 : K.lookup b2 = some ⟨.type "tuple", db2, .seq ([] : List Value).toArray nb2, sb2⟩) (rn3 : PySem.W.nsIn K aB "scale" = some (some (.ref b3))) (rl3 : K.lookup b3 = some ⟨.type "tuple", db3, .seq ([.ref p3_0] : List Value).toArray nb3, sb3⟩) (rp3_0 : K.lookup p3_0 = some ⟨.type "tuple", dp3_0, .seq ([.int (-3) t3_0, .int 3 u3_0] : List Value).toArray np3_0, sp3_0⟩) (rn4 : PySem.W.nsIn K aB "aim" = some (some (.ref b4))) (rl4 : K.lookup b4 = some ⟨.type "tuple", db4, .seq ([.ref p4_0, .ref p4_1] : List Value).toArray nb4, sb4⟩) (rp4_0 : K.lookup p4_0 = some ⟨.type "tuple", dp4_0, .seq ([.int (-9) t4_0, .int 9 u4_0] : List Value).toArray np4_0, sp4_0⟩) (rp4_1 : K.lookup p4_1 = some ⟨.type "tuple", dp4_1, .seq ([.int (-9) t4_1, .int 9 u4_1] : List Value).toArray np4_1, sp4_1⟩) (rn5 : PySem.W.nsIn K aB "place" = some (some (.ref b5))) (rl5 : K.lookup b5 = some ⟨.type "tuple", db5, .seq ([.ref p5_0, .ref p5_1] : List Value).toArray nb5, sb5⟩) (rp5_0 : K.lookup p5_0 = some ⟨.type "tuple", dp5_0, .seq ([.int (-9) t5_0, .int 9 u5_0] : List Value).toArray np5_0, sp5_0⟩) (rp5_1 : K.lookup p5_1 = some ⟨.type "tuple", dp5_1, .seq ([.int (-9) t5_1, .int 9 u5_1] : List Value).toArray np5_1, sp5_1⟩) (rn6 : PySem.W.nsIn K aB "mark" = some (some (.ref b6))) (rl6 : K.lookup b6 = some ⟨.type "tuple", db6, .seq ([] : List Value).toArray nb6, sb6⟩) (rn7 : PySem.W.nsIn K aB "return" = some (some (.ref b7))) (rl7 : K.lookup b7 = some ⟨.type "tuple", db7, .seq ([] : List Value).toArray nb7, sb7⟩) (rn8 : PySem.W.nsIn K aB "exchange" = some (some (.ref b8))) (rl8 : K.lookup b8 = some ⟨.type "tuple", db8, .seq ([] : List Value).toArray nb8, sb8⟩)
    (ow0 : PySem.W.nsIn K aB "keep" = some none) (ow1 : PySem.W.nsIn K aB "again" = some none) (ow2 : PySem.W.nsIn K aB "either" = some none) (ow3 : PySem.W.nsIn K aB "call" = some none) (ow4 : PySem.W.nsIn K aB "end" = some none) (ow5 : PySem.W.nsIn K aB "Mark" = some none) (ow6 : PySem.W.nsIn K aB "bad" = some none)
    : ∃ fd : FuncData, (∀ (s : Shared) (v : Value), BindsTo s fd ⟨[v], []⟩ [("_law_script", v)]) ∧ ∀ base : Heap, K.In base → base.Ns mainGlobals mg → FnOk l.prog w K mg base CX0 22 fa fd ["_law_script"] (spLaw K) := by
  have e := hfa.symm.trans (PySem.W.mg_of X G a38)
  cases e
  have F0 := fun_mk (st := s_is_integer) l0 c0 k0
  have F1 := fun_mk (st := s_is_within) l1 c1 k1
  have F2 := fun_mk (st := s_is_bit) l2 c2 k2
  have F3 := fun_mk (st := s_is_command) l3 c3 k3
  have F4 := fun_mk (st := s_is_index) l4 c4 k4
  have F5 := fun_mk (st := s_are_blocks) l5 c5 k5
  have F6 := fun_mk (st := s_is_call) l6 c6 k6
  have F7 := fun_mk (st := s_is_statement) l7 c7 k7
  have F8 := fun_mk (st := s_blocks_of) l8 c8 k8
  have F9 := fun_mk (st := s_with_blocks) l9 c9 k9
  have F10 := fun_mk (st := s_copied_statement) l10 c10 k10
  have F11 := fun_mk (st := s_copied) l11 c11 k11
  have F12 := fun_mk (st := s_check_block) l12 c12 k12
  have F13 := fun_mk (st := s_check_bodies) l13 c13 k13
  have F14 := fun_mk (st := s_Book___init__) l14 c14 k14
  have F15 := fun_mk (st := s_Book___len__) l15 c15 k15
  have F16 := fun_mk (st := s_Book_bodies) l16 c16 k16
  have F17 := fun_mk (st := s_heads_of) l17 c17 k17
  have F18 := fun_mk (st := s_lines_of) l18 c18 k18
  have F19 := fun_mk (st := s_book_text) l19 c19 k19
  have F20 := fun_mk (st := s__law_pool) l20 c20 k20
  have F21 := fun_mk (st := s__law_draw) l21 c21 k21
  have F22 := fun_mk (st := s__law_command) l22 c22 k22
  have F23 := fun_mk (st := s__law_pair) l23 c23 k23
  have F24 := fun_mk (st := s__law_block) l24 c24 k24
  have F25 := fun_mk (st := s__law_piece) l25 c25 k25
  have F26 := fun_mk (st := s__law_around) l26 c26 k26
  have F27 := fun_mk (st := s__law_body) l27 c27 k27
  have F28 := fun_mk (st := s__law_book) l28 c28 k28
  have F29 := fun_mk (st := s__law_any_command) l29 c29 k29
  have F30 := fun_mk (st := s__law_blocks) l30 c30 k30
  have F31 := fun_mk (st := s__law_with) l31 c31 k31
  have F32 := fun_mk (st := s__law_copy) l32 c32 k32
  have F33 := fun_mk (st := s__law_copies) l33 c33 k33
  have F34 := fun_mk (st := s__law_same) l34 c34 k34
  have F35 := fun_mk (st := s__law_words) l35 c35 k35
  have F36 := fun_mk (st := s__law_lines) l36 c36 k36
  have F37 := fun_mk (st := s__law_text_lines) l37 c37 k37
  have F38 := fun_mk (st := s_law) l38 c38 k38
  have T : ∃ T : Top w K mg, T.a_law = fa ∧ T.d_law = PySem.W.fnOf "law" "law" (defArgs s_law) (defBody s_law) (defScope s_law) .none kV38 dc38 pm38 an38 cd38 ct38 := ⟨{ C_Book := CC0, g_Book := PySem.W.mg_of X G qa0, cl_Book := ⟨qg0, qh0, qp0, qs0⟩, na_Book__bodies := qn0_0, a_is_integer := f0, d_is_integer := PySem.W.fnOf "is_integer" "is_integer" (defArgs s_is_integer) (defBody s_is_integer) (defScope s_is_integer) .none kV0 dc0 pm0 an0 cd0 ct0, F_is_integer := F0, g_is_integer := PySem.W.mg_of X G a0, a_is_within := f1, d_is_within := PySem.W.fnOf "is_within" "is_within" (defArgs s_is_within) (defBody s_is_within) (defScope s_is_within) .none kV1 dc1 pm1 an1 cd1 ct1, F_is_within := F1, g_is_within := PySem.W.mg_of X G a1, a_is_bit := f2, d_is_bit := PySem.W.fnOf "is_bit" "is_bit" (defArgs s_is_bit) (defBody s_is_bit) (defScope s_is_bit) .none kV2 dc2 pm2 an2 cd2 ct2, F_is_bit := F2, g_is_bit := PySem.W.mg_of X G a2, a_is_command := f3, d_is_command := PySem.W.fnOf "is_command" "is_command" (defArgs s_is_command) (defBody s_is_command) (defScope s_is_command) .none kV3 dc3 pm3 an3 cd3 ct3, F_is_command := F3, g_is_command := PySem.W.mg_of X G a3, a_is_index := f4, d_is_index := PySem.W.fnOf "is_index" "is_index" (defArgs s_is_index) (defBody s_is_index) (defScope s_is_index) .none kV4 dc4 pm4 an4 cd4 ct4, F_is_index := F4, g_is_index := PySem.W.mg_of X G a4, a_are_blocks := f5, d_are_blocks := PySem.W.fnOf "are_blocks" "are_blocks" (defArgs s_are_blocks) (defBody s_are_blocks) (defScope s_are_blocks) .none kV5 dc5 pm5 an5 cd5 ct5, F_are_blocks := F5, g_are_blocks := PySem.W.mg_of X G a5, a_is_call := f6, d_is_call := PySem.W.fnOf "is_call" "is_call" (defArgs s_is_call) (defBody s_is_call) (defScope s_is_call) .none kV6 dc6 pm6 an6 cd6 ct6, F_is_call := F6, g_is_call := PySem.W.mg_of X G a6, a_is_statement := f7, d_is_statement := PySem.W.fnOf "is_statement" "is_statement" (defArgs s_is_statement) (defBody s_is_statement) (defScope s_is_statement) .none kV7 dc7 pm7 an7 cd7 ct7, F_is_statement := F7, g_is_statement := PySem.W.mg_of X G a7, a_blocks_of := f8, d_blocks_of := PySem.W.fnOf "blocks_of" "blocks_of" (defArgs s_blocks_of) (defBody s_blocks_of) (defScope s_blocks_of) .none kV8 dc8 pm8 an8 cd8 ct8, F_blocks_of := F8, g_blocks_of := PySem.W.mg_of X G a8, a_with_blocks := f9, d_with_blocks := PySem.W.fnOf "with_blocks" "with_blocks" (defArgs s_with_blocks) (defBody s_with_blocks) (defScope s_with_blocks) .none kV9 dc9 pm9 an9 cd9 ct9, F_with_blocks := F9, g_with_blocks := PySem.W.mg_of X G a9, a_copied_statement := f10, d_copied_statement := PySem.W.fnOf "copied_statement" "copied_statement" (defArgs s_copied_statement) (defBody s_copied_statement) (defScope s_copied_statement) .none kV10 dc10 pm10 an10 cd10 ct10, F_copied_statement := F10, g_copied_statement := PySem.W.mg_of X G a10, a_copied := f11, d_copied := PySem.W.fnOf "copied" "copied" (defArgs s_copied) (defBody s_copied) (defScope s_copied) .none kV11 dc11 pm11 an11 cd11 ct11, F_copied := F11, g_copied := PySem.W.mg_of X G a11, a_check_block := f12, d_check_block := PySem.W.fnOf "check_block" "check_block" (defArgs s_check_block) (defBody s_check_block) (defScope s_check_block) .none kV12 dc12 pm12 an12 cd12 ct12, F_check_block := F12, g_check_block := PySem.W.mg_of X G a12, a_check_bodies := f13, d_check_bodies := PySem.W.fnOf "check_bodies" "check_bodies" (defArgs s_check_bodies) (defBody s_check_bodies) (defScope s_check_bodies) .none kV13 dc13 pm13 an13 cd13 ct13, F_check_bodies := F13, g_check_bodies := PySem.W.mg_of X G a13, a_Book___init__ := f14, d_Book___init__ := PySem.W.fnOf "__init__" "Book.__init__" (defArgs s_Book___init__) (defBody s_Book___init__) (defScope s_Book___init__) .none kV14 dc14 pm14 an14 cd14 ct14, F_Book___init__ := F14, mk_Book := ⟨qm0, a14, i14, qk0⟩, a_Book___len__ := f15, d_Book___len__ := PySem.W.fnOf "__len__" "Book.__len__" (defArgs s_Book___len__) (defBody s_Book___len__) (defScope s_Book___len__) .none kV15 dc15 pm15 an15 cd15 ct15, F_Book___len__ := F15, m_Book___len__ := ⟨a15, i15, k15⟩, a_Book_bodies := f16, d_Book_bodies := PySem.W.fnOf "bodies" "Book.bodies" (defArgs s_Book_bodies) (defBody s_Book_bodies) (defScope s_Book_bodies) .none kV16 dc16 pm16 an16 cd16 ct16, F_Book_bodies := F16, m_Book_bodies := ⟨a16, i16, k16⟩, a_heads_of := f17, d_heads_of := PySem.W.fnOf "heads_of" "heads_of" (defArgs s_heads_of) (defBody s_heads_of) (defScope s_heads_of) .none kV17 dc17 pm17 an17 cd17 ct17, F_heads_of := F17, g_heads_of := PySem.W.mg_of X G a17, a_lines_of := f18, d_lines_of := PySem.W.fnOf "lines_of" "lines_of" (defArgs s_lines_of) (defBody s_lines_of) (defScope s_lines_of) .none kV18 dc18 pm18 an18 cd18 ct18, F_lines_of := F18, g_lines_of := PySem.W.mg_of X G a18, a_book_text := f19, d_book_text := PySem.W.fnOf "book_text" "book_text" (defArgs s_book_text) (defBody s_book_text) (defScope s_book_text) .none kV19 dc19 pm19 an19 cd19 ct19, F_book_text := F19, g_book_text := PySem.W.mg_of X G a19, a__law_pool := f20, d__law_pool := PySem.W.fnOf "_law_pool" "_law_pool" (defArgs s__law_pool) (defBody s__law_pool) (defScope s__law_pool) .none kV20 dc20 pm20 an20 cd20 ct20, F__law_pool := F20, g__law_pool := PySem.W.mg_of X G a20, a__law_draw := f21, d__law_draw := PySem.W.fnOf "_law_draw" "_law_draw" (defArgs s__law_draw) (defBody s__law_draw) (defScope s__law_draw) .none kV21 dc21 pm21 an21 cd21 ct21, F__law_draw := F21, g__law_draw := PySem.W.mg_of X G a21, a__law_command := f22, d__law_command := PySem.W.fnOf "_law_command" "_law_command" (defArgs s__law_command) (defBody s__law_command) (defScope s__law_command) .none kV22 dc22 pm22 an22 cd22 ct22, F__law_command := F22, g__law_command := PySem.W.mg_of X G a22, a__law_pair := f23, d__law_pair := PySem.W.fnOf "_law_pair" "_law_pair" (defArgs s__law_pair) (defBody s__law_pair) (defScope s__law_pair) .none kV23 dc23 pm23 an23 cd23 ct23, F__law_pair := F23, g__law_pair := PySem.W.mg_of X G a23, a__law_block := f24, d__law_block := PySem.W.fnOf "_law_block" "_law_block" (defArgs s__law_block) (defBody s__law_block) (defScope s__law_block) .none kV24 dc24 pm24 an24 cd24 ct24, F__law_block := F24, g__law_block := PySem.W.mg_of X G a24, a__law_piece := f25, d__law_piece := PySem.W.fnOf "_law_piece" "_law_piece" (defArgs s__law_piece) (defBody s__law_piece) (defScope s__law_piece) .none kV25 dc25 pm25 an25 cd25 ct25, F__law_piece := F25, g__law_piece := PySem.W.mg_of X G a25, a__law_around := f26, d__law_around := PySem.W.fnOf "_law_around" "_law_around" (defArgs s__law_around) (defBody s__law_around) (defScope s__law_around) .none kV26 dc26 pm26 an26 cd26 ct26, F__law_around := F26, g__law_around := PySem.W.mg_of X G a26, a__law_body := f27, d__law_body := PySem.W.fnOf "_law_body" "_law_body" (defArgs s__law_body) (defBody s__law_body) (defScope s__law_body) .none kV27 dc27 pm27 an27 cd27 ct27, F__law_body := F27, g__law_body := PySem.W.mg_of X G a27, a__law_book := f28, d__law_book := PySem.W.fnOf "_law_book" "_law_book" (defArgs s__law_book) (defBody s__law_book) (defScope s__law_book) .none kV28 dc28 pm28 an28 cd28 ct28, F__law_book := F28, g__law_book := PySem.W.mg_of X G a28, a__law_any_command := f29, d__law_any_command := PySem.W.fnOf "_law_any_command" "_law_any_command" (defArgs s__law_any_command) (defBody s__law_any_command) (defScope s__law_any_command) .none kV29 dc29 pm29 an29 cd29 ct29, F__law_any_command := F29, g__law_any_command := PySem.W.mg_of X G a29, a__law_blocks := f30, d__law_blocks := PySem.W.fnOf "_law_blocks" "_law_blocks" (defArgs s__law_blocks) (defBody s__law_blocks) (defScope s__law_blocks) .none kV30 dc30 pm30 an30 cd30 ct30, F__law_blocks := F30, g__law_blocks := PySem.W.mg_of X G a30, a__law_with := f31, d__law_with := PySem.W.fnOf "_law_with" "_law_with" (defArgs s__law_with) (defBody s__law_with) (defScope s__law_with) .none kV31 dc31 pm31 an31 cd31 ct31, F__law_with := F31, g__law_with := PySem.W.mg_of X G a31, a__law_copy := f32, d__law_copy := PySem.W.fnOf "_law_copy" "_law_copy" (defArgs s__law_copy) (defBody s__law_copy) (defScope s__law_copy) .none kV32 dc32 pm32 an32 cd32 ct32, F__law_copy := F32, g__law_copy := PySem.W.mg_of X G a32, a__law_copies := f33, d__law_copies := PySem.W.fnOf "_law_copies" "_law_copies" (defArgs s__law_copies) (defBody s__law_copies) (defScope s__law_copies) .none kV33 dc33 pm33 an33 cd33 ct33, F__law_copies := F33, g__law_copies := PySem.W.mg_of X G a33, a__law_same := f34, d__law_same := PySem.W.fnOf "_law_same" "_law_same" (defArgs s__law_same) (defBody s__law_same) (defScope s__law_same) .none kV34 dc34 pm34 an34 cd34 ct34, F__law_same := F34, g__law_same := PySem.W.mg_of X G a34, a__law_words := f35, d__law_words := PySem.W.fnOf "_law_words" "_law_words" (defArgs s__law_words) (defBody s__law_words) (defScope s__law_words) .none kV35 dc35 pm35 an35 cd35 ct35, F__law_words := F35, g__law_words := PySem.W.mg_of X G a35, a__law_lines := f36, d__law_lines := PySem.W.fnOf "_law_lines" "_law_lines" (defArgs s__law_lines) (defBody s__law_lines) (defScope s__law_lines) .none kV36 dc36 pm36 an36 cd36 ct36, F__law_lines := F36, g__law_lines := PySem.W.mg_of X G a36, a__law_text_lines := f37, d__law_text_lines := PySem.W.fnOf "_law_text_lines" "_law_text_lines" (defArgs s__law_text_lines) (defBody s__law_text_lines) (defScope s__law_text_lines) .none kV37 dc37 pm37 an37 cd37 ct37, F__law_text_lines := F37, g__law_text_lines := PySem.W.mg_of X G a37, a_law := fa, d_law := PySem.W.fnOf "law" "law" (defArgs s_law) (defBody s_law) (defScope s_law) .none kV38 dc38 pm38 an38 cd38 ct38, F_law := F38, g_law := PySem.W.mg_of X G a38, z_all := PySem.W.mg_none_of X G z0, z_bool := PySem.W.mg_none_of X G z1, z_enumerate := PySem.W.mg_none_of X G z2, z_int := PySem.W.mg_none_of X G z3, z_isinstance := PySem.W.mg_none_of X G z4, z_len := PySem.W.mg_none_of X G z5, z_list := PySem.W.mg_none_of X G z6, z_range := PySem.W.mg_none_of X G z7, z_str := PySem.W.mg_none_of X G z8, z_tuple := PySem.W.mg_none_of X G z9, z_zip := PySem.W.mg_none_of X G z10, c_DEEPEST_LEVEL := ⟨_, PySem.W.mg_of X G gi0, ⟨_, rfl⟩⟩, c_MOST_IN_A_LIST := ⟨_, PySem.W.mg_of X G gi1, ⟨_, rfl⟩⟩, c_MOST_IN_A_PROCEDURE := ⟨_, PySem.W.mg_of X G gi2, ⟨_, rfl⟩⟩, c_MOST_PROCEDURES := ⟨_, PySem.W.mg_of X G gi3, ⟨_, rfl⟩⟩, a_BOUNDS := aB, c_BOUNDS := ⟨_, PySem.W.mg_of X G gB, rfl⟩, e_B := eB, n_B := nB, D_B := ⟨lB, iB, wB⟩, L_B := lims_of (row1 lB iB rn0 rl0 rp0_0) (row1 lB iB rn1 rl1 rp1_0) (row0 lB iB rn2 rl2) (row1 lB iB rn3 rl3 rp3_0) (row2 lB iB rn4 rl4 rp4_0 rp4_1) (row2 lB iB rn5 rl5 rp5_0 rp5_1) (row0 lB iB rn6 rl6) (row0 lB iB rn7 rl7) (row0 lB iB rn8 rl8), W_B := oddw ow0 ow1 ow2 ow3 ow4 ow5 ow6 }, rfl, rfl⟩
  obtain ⟨T, e1, e2⟩ := T
  refine ⟨PySem.W.fnOf "law" "law" (defArgs s_law) (defBody s_law) (defScope s_law) .none kV38 dc38 pm38 an38 cd38 ct38, fun s v => .of_eq rfl, fun base _ _ => ?_⟩
  · rw [← e1, ← e2]; exact ok_law T
end My
open PySem PySem.W PyProof.Rows
set_option maxRecDepth 100000 in
set_option maxHeartbeats 0 in
theorem PySem.Challenge.cw_penhome_k48_text_of_a_book_holds : PySem.Challenge.rw_penhome_k48_text_of_a_book.Holds := by
  w_on; o_law; k_head; (case hw => w_witness2)
  k_fill
  refine L2.walk_of (l := PySem.Challenge.rw_penhome_k48_text_of_a_book) (n := 63) (k := 22) (x := "_law_script") (CX := fun _ => L2.CX0) (sp := fun w => My.spLaw _) rfl (by decide) rfl ⟨rfl, by decide, by decide⟩ (fun w h Y => PySem.W.kIn_of Y) ?F (fun _ _ a ns hl _ hS => ⟨a, ns, rfl, hS, hl, fun _ => rfl⟩) (fun _ _ _ _ _ h => h)
  case F =>
    intro w mg fa h KX G hmg
    refine' My.all_mk KX G hmg ?qa0 ?qg0 ?qh0 ?qp0 ?qs0 ?qm0 ?qk0 ?qn0_0 ?a0 ?l0 ?c0 ?k0 ?a1 ?l1 ?c1 ?k1 ?a2 ?l2 ?c2 ?k2 ?a3 ?l3 ?c3 ?k3 ?a4 ?l4 ?c4 ?k4 ?a5 ?l5 ?c5 ?k5 ?a6 ?l6 ?c6 ?k6 ?a7 ?l7 ?c7 ?k7 ?a8 ?l8 ?c8 ?k8 ?a9 ?l9 ?c9 ?k9 ?a10 ?l10 ?c10 ?k10 ?a11 ?l11 ?c11 ?k11 ?a12 ?l12 ?c12 ?k12 ?a13 ?l13 ?c13 ?k13 ?a14 ?i14 ?l14 ?c14 ?k14 ?a15 ?i15 ?l15 ?c15 ?k15 ?a16 ?i16 ?l16 ?c16 ?k16 ?a17 ?l17 ?c17 ?k17 ?a18 ?l18 ?c18 ?k18 ?a19 ?l19 ?c19 ?k19 ?a20 ?l20 ?c20 ?k20 ?a21 ?l21 ?c21 ?k21 ?a22 ?l22 ?c22 ?k22 ?a23 ?l23 ?c23 ?k23 ?a24 ?l24 ?c24 ?k24 ?a25 ?l25 ?c25 ?k25 ?a26 ?l26 ?c26 ?k26 ?a27 ?l27 ?c27 ?k27 ?a28 ?l28 ?c28 ?k28 ?a29 ?l29 ?c29 ?k29 ?a30 ?l30 ?c30 ?k30 ?a31 ?l31 ?c31 ?k31 ?a32 ?l32 ?c32 ?k32 ?a33 ?l33 ?c33 ?k33 ?a34 ?l34 ?c34 ?k34 ?a35 ?l35 ?c35 ?k35 ?a36 ?l36 ?c36 ?k36 ?a37 ?l37 ?c37 ?k37 ?a38 ?l38 ?c38 ?k38 ?z0 ?z1 ?z2 ?z3 ?z4 ?z5 ?z6 ?z7 ?z8 ?z9 ?z10 ?gi0 ?gi1 ?gi2 ?gi3 ?gB ?lB ?iB ?wB ?rn0 ?rl0 ?rp0_0 ?rn1 ?rl1 ?rp1_0 ?rn2 ?rl2 ?rn3 ?rl3 ?rp3_0 ?rn4 ?rl4 ?rp4_0 ?rp4_1 ?rn5 ?rl5 ?rp5_0 ?rp5_1 ?rn6 ?rl6 ?rn7 ?rl7 ?rn8 ?rl8 ?ow0 ?ow1 ?ow2 ?ow3 ?ow4 ?ow5 ?ow6
    (case qa0 => k_is); (case qg0 => k_is); (case qh0 => k_is); (case qp0 => k_is); (case qs0 => k_is); (case qm0 => k_is); (case qk0 => k_is); (case qn0_0 => k_is); (case a0 => k_is); (case l0 => k_is); (case c0 => k_is); (case k0 => k_is); (case a1 => k_is); (case l1 => k_is); (case c1 => k_is); (case k1 => k_is); (case a2 => k_is); (case l2 => k_is); (case c2 => k_is); (case k2 => k_is); (case a3 => k_is); (case l3 => k_is); (case c3 => k_is); (case k3 => k_is); (case a4 => k_is); (case l4 => k_is); (case c4 => k_is); (case k4 => k_is); (case a5 => k_is); (case l5 => k_is); (case c5 => k_is); (case k5 => k_is); (case a6 => k_is); (case l6 => k_is); (case c6 => k_is); (case k6 => k_is); (case a7 => k_is); (case l7 => k_is); (case c7 => k_is); (case k7 => k_is); (case a8 => k_is); (case l8 => k_is); (case c8 => k_is); (case k8 => k_is); (case a9 => k_is); (case l9 => k_is); (case c9 => k_is); (case k9 => k_is); (case a10 => k_is); (case l10 => k_is); (case c10 => k_is); (case k10 => k_is); (case a11 => k_is); (case l11 => k_is); (case c11 => k_is); (case k11 => k_is); (case a12 => k_is); (case l12 => k_is); (case c12 => k_is); (case k12 => k_is); (case a13 => k_is); (case l13 => k_is); (case c13 => k_is); (case k13 => k_is); (case a14 => k_is); (case i14 => k_is); (case l14 => k_is); (case c14 => k_is); (case k14 => k_is); (case a15 => k_is); (case i15 => k_is); (case l15 => k_is); (case c15 => k_is); (case k15 => k_is); (case a16 => k_is); (case i16 => k_is); (case l16 => k_is); (case c16 => k_is); (case k16 => k_is); (case a17 => k_is); (case l17 => k_is); (case c17 => k_is); (case k17 => k_is); (case a18 => k_is); (case l18 => k_is); (case c18 => k_is); (case k18 => k_is); (case a19 => k_is); (case l19 => k_is); (case c19 => k_is); (case k19 => k_is); (case a20 => k_is); (case l20 => k_is); (case c20 => k_is); (case k20 => k_is); (case a21 => k_is); (case l21 => k_is); (case c21 => k_is); (case k21 => k_is); (case a22 => k_is); (case l22 => k_is); (case c22 => k_is); (case k22 => k_is); (case a23 => k_is); (case l23 => k_is); (case c23 => k_is); (case k23 => k_is); (case a24 => k_is); (case l24 => k_is); (case c24 => k_is); (case k24 => k_is); (case a25 => k_is); (case l25 => k_is); (case c25 => k_is); (case k25 => k_is); (case a26 => k_is); (case l26 => k_is); (case c26 => k_is); (case k26 => k_is); (case a27 => k_is); (case l27 => k_is); (case c27 => k_is); (case k27 => k_is); (case a28 => k_is); (case l28 => k_is); (case c28 => k_is); (case k28 => k_is); (case a29 => k_is); (case l29 => k_is); (case c29 => k_is); (case k29 => k_is); (case a30 => k_is); (case l30 => k_is); (case c30 => k_is); (case k30 => k_is); (case a31 => k_is); (case l31 => k_is); (case c31 => k_is); (case k31 => k_is); (case a32 => k_is); (case l32 => k_is); (case c32 => k_is); (case k32 => k_is); (case a33 => k_is); (case l33 => k_is); (case c33 => k_is); (case k33 => k_is); (case a34 => k_is); (case l34 => k_is); (case c34 => k_is); (case k34 => k_is); (case a35 => k_is); (case l35 => k_is); (case c35 => k_is); (case k35 => k_is); (case a36 => k_is); (case l36 => k_is); (case c36 => k_is); (case k36 => k_is); (case a37 => k_is); (case l37 => k_is); (case c37 => k_is); (case k37 => k_is); (case a38 => k_is); (case l38 => k_is); (case c38 => k_is); (case k38 => k_is); (case z0 => k_is); (case z1 => k_is); (case z2 => k_is); (case z3 => k_is); (case z4 => k_is); (case z5 => k_is); (case z6 => k_is); (case z7 => k_is); (case z8 => k_is); (case z9 => k_is); (case z10 => k_is); (case gi0 => k_is); (case gi1 => k_is); (case gi2 => k_is); (case gi3 => k_is); (case gB => k_is); (case lB => k_is); (case iB => repeat (first | exact True.intro | refine ⟨⟨_, _, rfl, rfl⟩, ?_⟩)); (case wB => decide); (case rn0 => k_is); (case rl0 => k_is); (case rp0_0 => k_is); (case rn1 => k_is); (case rl1 => k_is); (case rp1_0 => k_is); (case rn2 => k_is); (case rl2 => k_is); (case rn3 => k_is); (case rl3 => k_is); (case rp3_0 => k_is); (case rn4 => k_is); (case rl4 => k_is); (case rp4_0 => k_is); (case rp4_1 => k_is); (case rn5 => k_is); (case rl5 => k_is); (case rp5_0 => k_is); (case rp5_1 => k_is); (case rn6 => k_is); (case rl6 => k_is); (case rn7 => k_is); (case rl7 => k_is); (case rn8 => k_is); (case rl8 => k_is); (case ow0 => k_is); (case ow1 => k_is); (case ow2 => k_is); (case ow3 => k_is); (case ow4 => k_is); (case ow5 => k_is); (case ow6 => k_is)

