import PyProof.Rows.All
import Wide.All
import OpenK.AllK
import Wide.FinOn
import HandS.ForMost
import HandS.Star
import HandS.Wide
import HandS.Flow
import HandS.IsInst
import HandS.Walk
import PySem.Challenge.RW_penhome_k04_vector_and_applied
set_option Elab.async false
set_option linter.all false
set_option maxRecDepth 100000
namespace My
open PySem PySem.Spec PyProof.Rows L2
theorem hu64 {A : Around} {k : Nat} (hr : Room k A) : A.units + 64 < cLine := by
  have := hr.un
  omega
section
variable {X : Cx}
theorem call_intI : CallR X (.type "int") (fun xs H Q => ∃ i, xs = [.int i] ∧ Q (.int i) H) := fun pins s σ H xs us Q I r ⟨i, e, q⟩ => call_int1 pins s σ H xs us Q I r (.inl ⟨i, e, q⟩)
theorem call_intB : CallR X (.type "int") (fun xs H Q => ∃ k, xs = [.bl k] ∧ Q (.int (if k then 1 else 0)) H) := fun pins s σ H xs us Q I r ⟨i, e, q⟩ => call_int1 pins s σ H xs us Q I r (.inr ⟨i, e, q⟩)
theorem call_lenA : CallR X (.builtin "len") (fun xs H Q => ∃ p ys, xs = [.ref p] ∧ (SqL X.K H p ys ∨ SqT X.K H p ys) ∧ Q (.int ys.length) H) := call_len_seq
theorem call_listL : CallR X (.type "list") (fun xs H Q => ∃ p ys, xs = [.ref p] ∧ (SqL X.K H p ys ∨ SqT X.K H p ys) ∧ ∀ l, H l = none → Q (.ref l) (upd H l (.lst ys))) := call_list_of
theorem call_tupL : CallR X (.type "tuple") (fun xs H Q => ∃ p ys, xs = [.ref p] ∧ SqL X.K H p ys ∧ ∀ l, H l = none → Q (.ref l) (upd H l (.tup ys))) := fun pins s σ H xs us Q I r ⟨p, ys, e, h, q⟩ => call_tuple_of pins s σ H xs us Q I r ⟨p, ys, e, .inl ⟨h, q⟩⟩
theorem get_lst : PGet X (fun o i H Q => ∃ p xs k v, o = .ref p ∧ i = .int k ∧ 0 ≤ k ∧ SqL X.K H p xs ∧ xs[k.toNat]? = some v ∧ Q v H) := by
  intro pins s σ H o i ov iv Q I r1 r2 h
  obtain ⟨p, xs, k, v, rfl, rfl, h0, hq, he, q⟩ := h
  cases r1
  obtain ⟨t, rfl⟩ := r2
  obtain ⟨its, r, pl, hz⟩ := I.list hq
  obtain ⟨w, ew, rw'⟩ := r.get he
  have hl := r.length
  have hn := line63
  have hlt : k.toNat < xs.length := (List.getElem?_eq_some_iff.mp he).1
  exact wpAny_getItem_list pl.isList h0 (by omega) (by simpa using ew) ⟨v, H, I, rw', q⟩
end
/-! ### lists and tuples of ints compared -/
theorem dpAllInts {K : PySem.W.Frag} {H : Hp} : ∀ ns : List Int, DpAll K H (ns.map V.int) (ns.map PyData.int)
  | [] => .nil
  | n :: r => .cons (.int n) (dpAllInts r)
theorem canAllInts : ∀ ns : List Int, PyData.canLayAll0 (ns.map PyData.int) = true
  | [] => by simp [PyData.canLayAll0]
  | n :: r => by simp [PyData.canLayAll0, PyData.canLay0, canAllInts r]
theorem depthAllInts : ∀ ns : List Int, PyData.depthAll (ns.map PyData.int) = 0
  | [] => by simp [PyData.depthAll]
  | n :: r => by simp [PyData.depthAll, PyData.depth, depthAllInts r]
theorem shList (ns : List Int) : SeqAt.shaped (.list (ns.map PyData.int)) = true := by
  simp [SeqAt.shaped, PyData.canLay0, PyData.depth, canAllInts, depthAllInts]
theorem shTup (ns : List Int) : SeqAt.shaped (.tuple (ns.map PyData.int)) = true := by
  simp [SeqAt.shaped, PyData.canLay0, PyData.depth, canAllInts, depthAllInts]
theorem eqvAllInts : ∀ ns ms : List Int, PyData.eqvAll (ns.map PyData.int) (ms.map PyData.int) = decide (ns = ms)
  | [], [] => by simp [PyData.eqvAll]
  | [], m :: r => by simp [PyData.eqvAll]
  | n :: r, [] => by simp [PyData.eqvAll]
  | n :: r, m :: q => by
    rw [List.map_cons, List.map_cons, PyData.eqvAll, eqvAllInts r q, PyData.eqv]
    by_cases e : n = m
    · subst e; simp
    · simp [e]
section
variable {X : Cx}
def rEqI (K : PySem.W.Frag) : R2 := fun x y H Q => ∃ (a b : Addr) (ns ms : List Int), x = .ref a ∧ y = .ref b ∧ SqL K H a (ns.map V.int) ∧ SqL K H b (ms.map V.int) ∧ Q (.bl (decide (ns = ms))) H
def rNeI (K : PySem.W.Frag) : R2 := fun x y H Q => ∃ (a b : Addr) (ns ms : List Int), x = .ref a ∧ y = .ref b ∧ SqL K H a (ns.map V.int) ∧ SqL K H b (ms.map V.int) ∧ Q (.bl (!decide (ns = ms))) H
def rEqTI (K : PySem.W.Frag) : R2 := fun x y H Q => ∃ (a b : Addr) (ns ms : List Int), x = .ref a ∧ y = .ref b ∧ SqT K H a (ns.map V.int) ∧ SqT K H b (ms.map V.int) ∧ Q (.bl (decide (ns = ms))) H
def rNeTI (K : PySem.W.Frag) : R2 := fun x y H Q => ∃ (a b : Addr) (ns ms : List Int), x = .ref a ∧ y = .ref b ∧ SqT K H a (ns.map V.int) ∧ SqT K H b (ms.map V.int) ∧ Q (.bl (!decide (ns = ms))) H
theorem op_eqI (hu : X.A.units + 64 < cLine) : OpR X (compareOp .Eq) (rEqI X.K) := fun pins s σ H x y v u Q I rx ry ⟨a, b, ns, ms, e1, e2, h1, h2, q⟩ =>
  op_eqD hu pins s σ H x y v u Q I rx ry ⟨_, _, e1 ▸ .lst h1 (dpAllInts ns), e2 ▸ .lst h2 (dpAllInts ms), shList ns, shList ms, by rw [PyData.eqv, eqvAllInts]; exact q⟩
theorem op_neI (hu : X.A.units + 64 < cLine) : OpR X (compareOp .NotEq) (rNeI X.K) := fun pins s σ H x y v u Q I rx ry ⟨a, b, ns, ms, e1, e2, h1, h2, q⟩ =>
  op_neD hu pins s σ H x y v u Q I rx ry ⟨_, _, e1 ▸ .lst h1 (dpAllInts ns), e2 ▸ .lst h2 (dpAllInts ms), shList ns, shList ms, by rw [PyData.eqv, eqvAllInts]; exact q⟩
theorem op_eqTI (hu : X.A.units + 64 < cLine) : OpR X (compareOp .Eq) (rEqTI X.K) := fun pins s σ H x y v u Q I rx ry ⟨a, b, ns, ms, e1, e2, h1, h2, q⟩ =>
  op_eqD hu pins s σ H x y v u Q I rx ry ⟨_, _, e1 ▸ .tup h1 (dpAllInts ns), e2 ▸ .tup h2 (dpAllInts ms), shTup ns, shTup ms, by rw [PyData.eqv, eqvAllInts]; exact q⟩
theorem op_neTI (hu : X.A.units + 64 < cLine) : OpR X (compareOp .NotEq) (rNeTI X.K) := fun pins s σ H x y v u Q I rx ry ⟨a, b, ns, ms, e1, e2, h1, h2, q⟩ =>
  op_neD hu pins s σ H x y v u Q I rx ry ⟨_, _, e1 ▸ .tup h1 (dpAllInts ns), e2 ▸ .tup h2 (dpAllInts ms), shTup ns, shTup ms, by rw [PyData.eqv, eqvAllInts]; exact q⟩
end
/-! ### heaps -/
theorem same_upd {H : Hp} {p : Addr} {o : HO} (h : H p = none) : Same H (upd H p o) := fun b x e => by
  rw [upd_ne (ne_of_none e h)]
  exact e
/-- all that was tracked is as it was, but for what is at p -/
def Kp (p : Addr) (H H' : Hp) : Prop := ∀ b o, b ≠ p → H b = some o → H' b = some o
theorem Kp.refl (p : Addr) (H : Hp) : Kp p H H := fun _ _ _ h => h
theorem Kp.trans {p : Addr} {H H1 H2 : Hp} (a : Kp p H H1) (b : Kp p H1 H2) : Kp p H H2 := fun c o n h => b c o n (a c o n h)
theorem Kp.upd {p : Addr} {H : Hp} {o : HO} : Kp p H (upd H p o) := fun b x n e => by rw [upd_ne n]; exact e
theorem Kp.of {p : Addr} {H H' : Hp} (s : Same H H') : Kp p H H' := fun b o _ e => s b o e
theorem Kp.new {p q : Addr} {H H1 : Hp} {o : HO} (k : Kp p H H1) (n : H q = none) : Kp p H (L2.upd H1 q o) := fun b x nb e => by
  rw [upd_ne (ne_of_none e n)]
  exact k b x nb e
theorem same_new {q : Addr} {H H1 : Hp} {o : HO} (k : Same H H1) (n : H q = none) : Same H (upd H1 q o) := fun b x e => by
  rw [upd_ne (ne_of_none e n)]
  exact k b x e
theorem Kp.none {p q : Addr} {H H' : Hp} (k : Kp p H H') (h : H' q = none) (n : q ≠ p) : H q = none := by
  cases e : H q with
  | none => rfl
  | some o =>
    rw [k q o n e] at h
    cases h
/-- the law's pool: a list of L ints -/
def Pool (H : Hp) (p : Addr) (L : Nat) : Prop := ∃ ns : List Int, H p = some (.lst (ns.map V.int)) ∧ ns.length = L
theorem Pool.ne {H : Hp} {p q : Addr} {L : Nat} (h : Pool H p L) (n : H q = none) : q ≠ p := fun e => by
  obtain ⟨ns, h, _⟩ := h
  rw [← e, n] at h
  cases h
theorem Pool.new {H : Hp} {p q : Addr} {o : HO} {L : Nat} (h : Pool H p L) (n : H q = none) : Pool (upd H q o) p L := by
  have hn := (h.ne n).symm
  obtain ⟨ns, h, e⟩ := h
  exact ⟨ns, by rw [upd_ne hn]; exact h, e⟩
theorem Pool.keep {H : Hp} {p q : Addr} {o : HO} {L : Nat} (h : Pool H p L) (n : q ≠ p) : Pool (upd H q o) p L := by
  obtain ⟨ns, h, e⟩ := h
  exact ⟨ns, by rw [upd_ne n.symm]; exact h, e⟩
theorem get_map {ns : List Int} {i : Nat} {n : Int} (h : ns[i]? = some n) : (ns.map V.int)[i]? = some (.int n) := by
  rw [List.getElem?_map, h]
  rfl
theorem at_map {ns : List Int} {i : Int} (h0 : 0 ≤ i) (h1 : i < ns.length) : ∃ n, ns[i.toNat]? = some n ∧ atI (ns.map V.int) i = some (.int n) := by
  have hi : i.toNat < ns.length := by omega
  refine ⟨ns[i.toNat], List.getElem?_eq_getElem hi, ?_⟩
  refine at_of (j := i.toNat) (by omega) ?_
  exact get_map (List.getElem?_eq_getElem hi)
theorem ixN_in {n : Nat} {i : Int} (h0 : 0 ≤ i) (h1 : i < n) : ixN n i = some i.toNat := by
  unfold ixN
  rw [if_pos h0, if_pos h1]
theorem set_map {ns : List Int} {j : Nat} {z : Int} : (ns.map V.int).set j (.int z) = (ns.set j z).map V.int := by
  rw [List.map_set]
theorem small100 {n : Nat} (h : n ≤ 1000) : n ≤ sizeLine := Nat.le_of_lt (small1000 h)
theorem len_map (ns : List Int) : (ns.map V.int).length = ns.length := List.length_map ..
/-! ### what a for walks: a list or a tuple -/
def iSeq (K : PySem.W.Frag) (tl : TE) : TI := fun σ H R => iList K tl σ H R ∨ iTup K tl σ H R
theorem pi_seq {X : Cx} {tg l : Expr} {tl : TE} (h1 : PI X tg l (iList X.K tl)) (h2 : PI X tg l (iTup X.K tl)) : PI X tg l (iSeq X.K tl) :=
  ⟨fun pins s σ H R I h => h.elim (fun h => h1.run pins s σ H R I h) fun h => h2.run pins s σ H R I h⟩
theorem pi_sq {X : Cx} {tg l : Expr} {tl : TE} (h : PE X l tl) : PI X tg l (iSeq X.K tl) := pi_seq (pi_list h) (pi_tup h)
/-! ### the same rules, the written part by name (within a comprehension's block) -/
section
variable (K : PySem.W.Frag) {X : Cx}
def rLenA (K : PySem.W.Frag) : List V → Hp → VK → Prop := fun xs H Q => ∃ p ys, xs = [V.ref p] ∧ (SqL K H p ys ∨ SqT K H p ys) ∧ Q (.int ys.length) H
def rListL (K : PySem.W.Frag) : List V → Hp → VK → Prop := fun xs H Q => ∃ p ys, xs = [V.ref p] ∧ (SqL K H p ys ∨ SqT K H p ys) ∧ ∀ l, H l = none → Q (.ref l) (upd H l (.lst ys))
def rTupL (K : PySem.W.Frag) : List V → Hp → VK → Prop := fun xs H Q => ∃ p ys, xs = [V.ref p] ∧ SqL K H p ys ∧ ∀ l, H l = none → Q (.ref l) (upd H l (.tup ys))
theorem k_len (hK : X.K = K := by rfl) : CallR X (.builtin "len") (rLenA K) := hK ▸ call_lenA
theorem k_list (hK : X.K = K := by rfl) : CallR X (.type "list") (rListL K) := hK ▸ call_listL
theorem k_tuple (hK : X.K = K := by rfl) : CallR X (.type "tuple") (rTupL K) := hK ▸ call_tupL
theorem k_isi (hK : X.K = K := by rfl) : CallR X (.builtin "isinstance") (rIsi K) := hK ▸ call_isi
theorem k_all (hK : X.K = K := by rfl) (hc : X.calm = true := by rfl) : CallR X (.builtin "all") (rAll K) := hK ▸ cr_all hc
theorem k_sum (hK : X.K = K := by rfl) (hc : X.calm = true := by rfl) : CallR X (.builtin "sum") (rSum K) := hK ▸ cr_sum hc
theorem k_ixL (hK : X.K = K := by rfl) : IxR X (rIxL K) := hK ▸ ix_list
theorem k_ixT (hK : X.K = K := by rfl) : IxR X (rIxT K) := hK ▸ ix_tup
theorem k_slL (hK : X.K = K := by rfl) : SlR X (rSlL K) := hK ▸ sl_list
theorem k_slT (hK : X.K = K := by rfl) : SlR X (rSlT K) := hK ▸ sl_tup
theorem k_piL {tg l : Expr} {tl : TE} (hl : PE X l tl) (hK : X.K = K := by rfl) : PI X tg l (iList K tl) := hK ▸ pi_list hl
theorem k_piT {tg l : Expr} {tl : TE} (hl : PE X l tl) (hK : X.K = K := by rfl) : PI X tg l (iTup K tl) := hK ▸ pi_tup hl
theorem k_piS {tg l : Expr} {tl : TE} (hl : PE X l tl) (hK : X.K = K := by rfl) : PI X tg l (iSeq K tl) := hK ▸ pi_sq hl
theorem k_eqI (hu : X.A.units + 64 < cLine) (hK : X.K = K := by rfl) : OpR X (compareOp .Eq) (rEqI K) := hK ▸ op_eqI hu
theorem k_neI (hu : X.A.units + 64 < cLine) (hK : X.K = K := by rfl) : OpR X (compareOp .NotEq) (rNeI K) := hK ▸ op_neI hu
theorem k_eqTI (hu : X.A.units + 64 < cLine) (hK : X.K = K := by rfl) : OpR X (compareOp .Eq) (rEqTI K) := hK ▸ op_eqTI hu
theorem k_neTI (hu : X.A.units + 64 < cLine) (hK : X.K = K := by rfl) : OpR X (compareOp .NotEq) (rNeTI K) := hK ▸ op_neTI hu
theorem k_getL (hK : X.K = K := by rfl) : PGet X (fun o i H Q => ∃ p xs k v, o = .ref p ∧ i = .int k ∧ 0 ≤ k ∧ SqL K H p xs ∧ xs[k.toNat]? = some v ∧ Q v H) := hK ▸ get_lst
theorem k_star {e : Expr} {es : List Expr} {te : TE} {t : TA} {p : Pos} (he : PE X e te) (hr : PA X es t) (hK : X.K = K := by rfl) (hs : starEach (.Starred e p :: es) X.env = (true, eval e X.env) :: starEach es X.env := by rfl) : PA X (.Starred e p :: es) (StX.tStar K te t) := hK ▸ StX.pa_star he hr hs
end
theorem iteP {c A B : Prop} [Decidable c] (hc : c) (h : A) : if decide c = true then A else B := by
  rw [if_pos (decide_eq_true hc)]
  exact h
section
variable (K : PySem.W.Frag) {X : Cx}
theorem k_listT (hK : X.K = K := by rfl) : CallR X (.type "list") (rListL K) := k_list K hK
end

def topS (i : Nat) : Stmt := PySem.Challenge.pw_penhome_k04_vector_and_applied.main.body.getD i (.Pass ⟨0, 0, 0, 0⟩)
theorem bt_all : bootBuiltins "all" = some (.builtin "all") := by decide +kernel
theorem bt_bool : bootBuiltins "bool" = some (.type "bool") := by decide +kernel
theorem bt_int : bootBuiltins "int" = some (.type "int") := by decide +kernel
theorem bt_isinstance : bootBuiltins "isinstance" = some (.builtin "isinstance") := by decide +kernel
theorem bt_len : bootBuiltins "len" = some (.builtin "len") := by decide +kernel
theorem bt_list : bootBuiltins "list" = some (.type "list") := by decide +kernel
theorem bt_range : bootBuiltins "range" = some (.type "range") := by decide +kernel
theorem bt_sum : bootBuiltins "sum" = some (.builtin "sum") := by decide +kernel
theorem bt_tuple : bootBuiltins "tuple" = some (.type "tuple") := by decide +kernel
theorem bt_zip : bootBuiltins "zip" = some (.type "zip") := by decide +kernel
abbrev s_is_integer : Stmt := topS 4
abbrev N_is_integer : List Str := ["thing"]
theorem sc_is_integer : FnScope N_is_integer ["thing"] (defScope s_is_integer) := ⟨rfl, rfl, rfl, by decide +kernel, rfl, by decide +kernel, by decide +kernel⟩
abbrev s_is_pen : Stmt := topS 5
abbrev N_is_pen : List Str := ["thing", "number"]
theorem sc_is_pen : FnScope N_is_pen ["thing"] (defScope s_is_pen) := ⟨rfl, rfl, rfl, by decide +kernel, rfl, by decide +kernel, by decide +kernel⟩
abbrev s_vector : Stmt := topS 7
abbrev N_vector : List Str := ["pen"]
theorem sc_vector : FnScope N_vector ["pen"] (defScope s_vector) := ⟨rfl, rfl, rfl, by decide +kernel, rfl, by decide +kernel, by decide +kernel⟩
abbrev s_row_of : Stmt := topS 8
abbrev N_row_of : List Str := ["matrix", "i"]
theorem sc_row_of : FnScope N_row_of ["matrix", "i"] (defScope s_row_of) := ⟨rfl, rfl, rfl, by decide +kernel, rfl, by decide +kernel, by decide +kernel⟩
abbrev s_dot : Stmt := topS 9
abbrev N_dot : List Str := ["row", "column", "a", "b"]
theorem sc_dot : FnScope N_dot ["row", "column"] (defScope s_dot) := ⟨rfl, rfl, rfl, by decide +kernel, rfl, by decide +kernel, by decide +kernel⟩
abbrev s_applied : Stmt := topS 10
abbrev N_applied : List Str := ["matrix", "pen", "ahead", "i"]
theorem sc_applied : FnScope N_applied ["matrix", "pen"] (defScope s_applied) := ⟨rfl, rfl, rfl, by decide +kernel, rfl, by decide +kernel, by decide +kernel⟩
abbrev s__law_pool : Stmt := topS 12
abbrev N__law_pool : List Str := ["_law_script", "_law_cell"]
theorem sc__law_pool : FnScope N__law_pool ["_law_script"] (defScope s__law_pool) := ⟨rfl, rfl, rfl, by decide +kernel, rfl, by decide +kernel, by decide +kernel⟩
abbrev s__law_draw : Stmt := topS 13
abbrev N__law_draw : List Str := ["_law_pool_here", "_law_many", "_law_at", "_law_cell", "_law_number_here"]
theorem sc__law_draw : FnScope N__law_draw ["_law_pool_here", "_law_many"] (defScope s__law_draw) := ⟨rfl, rfl, rfl, by decide +kernel, rfl, by decide +kernel, by decide +kernel⟩
abbrev s__law_is_integer : Stmt := topS 14
abbrev N__law_is_integer : List Str := ["_law_value"]
theorem sc__law_is_integer : FnScope N__law_is_integer ["_law_value"] (defScope s__law_is_integer) := ⟨rfl, rfl, rfl, by decide +kernel, rfl, by decide +kernel, by decide +kernel⟩
abbrev s__law_number : Stmt := topS 15
abbrev N__law_number : List Str := ["_law_pool_here", "_law_small", "_law_at", "_law_number_here"]
theorem sc__law_number : FnScope N__law_number ["_law_pool_here"] (defScope s__law_number) := ⟨rfl, rfl, rfl, by decide +kernel, rfl, by decide +kernel, by decide +kernel⟩
abbrev s__law_pen : Stmt := topS 16
abbrev N__law_pen : List Str := ["_law_pool_here", "_law_begin", "_law_k"]
theorem sc__law_pen : FnScope N__law_pen ["_law_pool_here"] (defScope s__law_pen) := ⟨rfl, rfl, rfl, by decide +kernel, rfl, by decide +kernel, by decide +kernel⟩
abbrev s__law_is_pen : Stmt := topS 17
abbrev N__law_is_pen : List Str := ["_law_value"]
theorem sc__law_is_pen : FnScope N__law_is_pen ["_law_value"] (defScope s__law_is_pen) := ⟨rfl, rfl, rfl, by decide +kernel, rfl, by decide +kernel, by decide +kernel⟩
abbrev s__law_image : Stmt := topS 18
abbrev N__law_image : List Str := ["_law_matrix", "_law_begin", "_law_ahead", "_law_behind", "_law_i", "_law_j"]
theorem sc__law_image : FnScope N__law_image ["_law_matrix", "_law_begin"] (defScope s__law_image) := ⟨rfl, rfl, rfl, by decide +kernel, rfl, by decide +kernel, by decide +kernel⟩
abbrev s__law_any_matrix : Stmt := topS 19
abbrev N__law_any_matrix : List Str := ["_law_pool_here", "_law_wide", "_law_matrix", "_law_k", "_law_number_here"]
theorem sc__law_any_matrix : FnScope N__law_any_matrix ["_law_pool_here"] (defScope s__law_any_matrix) := ⟨rfl, rfl, rfl, by decide +kernel, rfl, by decide +kernel, by decide +kernel⟩
abbrev s__law_is_row : Stmt := topS 20
abbrev N__law_is_row : List Str := ["_law_value", "_law_many", "_law_x"]
theorem sc__law_is_row : FnScope N__law_is_row ["_law_value", "_law_many"] (defScope s__law_is_row) := ⟨rfl, rfl, rfl, by decide +kernel, rfl, by decide +kernel, by decide +kernel⟩
abbrev s_law : Stmt := topS 21
abbrev N_law : List Str := ["_law_script", "_law_pool_here", "_law_step", "_law_matrix", "_law_begin", "_law_passed", "_law_answer", "_law_numbers", "_law_number_here"]
theorem sc_law : FnScope N_law ["_law_script"] (defScope s_law) := ⟨rfl, rfl, rfl, by decide +kernel, rfl, by decide +kernel, by decide +kernel⟩
structure Top (w : World) (K : PySem.W.Frag) (mg : Str → Option Value) where
  a_is_integer : Addr
  d_is_integer : FuncData
  F_is_integer : Fun K "is_integer" "is_integer" s_is_integer a_is_integer d_is_integer
  g_is_integer : mg "is_integer" = some (.ref a_is_integer)
  a_is_pen : Addr
  d_is_pen : FuncData
  F_is_pen : Fun K "is_pen" "is_pen" s_is_pen a_is_pen d_is_pen
  g_is_pen : mg "is_pen" = some (.ref a_is_pen)
  a_vector : Addr
  d_vector : FuncData
  F_vector : Fun K "vector" "vector" s_vector a_vector d_vector
  g_vector : mg "vector" = some (.ref a_vector)
  a_row_of : Addr
  d_row_of : FuncData
  F_row_of : Fun K "row_of" "row_of" s_row_of a_row_of d_row_of
  g_row_of : mg "row_of" = some (.ref a_row_of)
  a_dot : Addr
  d_dot : FuncData
  F_dot : Fun K "dot" "dot" s_dot a_dot d_dot
  g_dot : mg "dot" = some (.ref a_dot)
  a_applied : Addr
  d_applied : FuncData
  F_applied : Fun K "applied" "applied" s_applied a_applied d_applied
  g_applied : mg "applied" = some (.ref a_applied)
  a__law_pool : Addr
  d__law_pool : FuncData
  F__law_pool : Fun K "_law_pool" "_law_pool" s__law_pool a__law_pool d__law_pool
  g__law_pool : mg "_law_pool" = some (.ref a__law_pool)
  a__law_draw : Addr
  d__law_draw : FuncData
  F__law_draw : Fun K "_law_draw" "_law_draw" s__law_draw a__law_draw d__law_draw
  g__law_draw : mg "_law_draw" = some (.ref a__law_draw)
  a__law_is_integer : Addr
  d__law_is_integer : FuncData
  F__law_is_integer : Fun K "_law_is_integer" "_law_is_integer" s__law_is_integer a__law_is_integer d__law_is_integer
  g__law_is_integer : mg "_law_is_integer" = some (.ref a__law_is_integer)
  a__law_number : Addr
  d__law_number : FuncData
  F__law_number : Fun K "_law_number" "_law_number" s__law_number a__law_number d__law_number
  g__law_number : mg "_law_number" = some (.ref a__law_number)
  a__law_pen : Addr
  d__law_pen : FuncData
  F__law_pen : Fun K "_law_pen" "_law_pen" s__law_pen a__law_pen d__law_pen
  g__law_pen : mg "_law_pen" = some (.ref a__law_pen)
  a__law_is_pen : Addr
  d__law_is_pen : FuncData
  F__law_is_pen : Fun K "_law_is_pen" "_law_is_pen" s__law_is_pen a__law_is_pen d__law_is_pen
  g__law_is_pen : mg "_law_is_pen" = some (.ref a__law_is_pen)
  a__law_image : Addr
  d__law_image : FuncData
  F__law_image : Fun K "_law_image" "_law_image" s__law_image a__law_image d__law_image
  g__law_image : mg "_law_image" = some (.ref a__law_image)
  a__law_any_matrix : Addr
  d__law_any_matrix : FuncData
  F__law_any_matrix : Fun K "_law_any_matrix" "_law_any_matrix" s__law_any_matrix a__law_any_matrix d__law_any_matrix
  g__law_any_matrix : mg "_law_any_matrix" = some (.ref a__law_any_matrix)
  a__law_is_row : Addr
  d__law_is_row : FuncData
  F__law_is_row : Fun K "_law_is_row" "_law_is_row" s__law_is_row a__law_is_row d__law_is_row
  g__law_is_row : mg "_law_is_row" = some (.ref a__law_is_row)
  a_law : Addr
  d_law : FuncData
  F_law : Fun K "law" "law" s_law a_law d_law
  g_law : mg "law" = some (.ref a_law)
  z_all : mg "all" = none
  z_bool : mg "bool" = none
  z_int : mg "int" = none
  z_isinstance : mg "isinstance" = none
  z_len : mg "len" = none
  z_list : mg "list" = none
  z_range : mg "range" = none
  z_sum : mg "sum" = none
  z_tuple : mg "tuple" = none
  z_zip : mg "zip" = none
theorem b_is_integer {w : World} {K : PySem.W.Frag} {mg : Str → Option Value} (T : Top w K mg) : Binds K T.d_is_integer ["thing"] [] := T.F_is_integer.binds (ps := ["thing"]) fun _ _ _ _ _ _ us hl => match us, hl with | [_], _ => rfl
theorem b_is_pen {w : World} {K : PySem.W.Frag} {mg : Str → Option Value} (T : Top w K mg) : Binds K T.d_is_pen ["thing"] [] := T.F_is_pen.binds (ps := ["thing"]) fun _ _ _ _ _ _ us hl => match us, hl with | [_], _ => rfl
theorem b_vector {w : World} {K : PySem.W.Frag} {mg : Str → Option Value} (T : Top w K mg) : Binds K T.d_vector ["pen"] [] := T.F_vector.binds (ps := ["pen"]) fun _ _ _ _ _ _ us hl => match us, hl with | [_], _ => rfl
theorem b_row_of {w : World} {K : PySem.W.Frag} {mg : Str → Option Value} (T : Top w K mg) : Binds K T.d_row_of ["matrix", "i"] [] := T.F_row_of.binds (ps := ["matrix", "i"]) fun _ _ _ _ _ _ us hl => match us, hl with | [_, _], _ => rfl
theorem b_dot {w : World} {K : PySem.W.Frag} {mg : Str → Option Value} (T : Top w K mg) : Binds K T.d_dot ["row", "column"] [] := T.F_dot.binds (ps := ["row", "column"]) fun _ _ _ _ _ _ us hl => match us, hl with | [_, _], _ => rfl
theorem b_applied {w : World} {K : PySem.W.Frag} {mg : Str → Option Value} (T : Top w K mg) : Binds K T.d_applied ["matrix", "pen"] [] := T.F_applied.binds (ps := ["matrix", "pen"]) fun _ _ _ _ _ _ us hl => match us, hl with | [_, _], _ => rfl
theorem b__law_pool {w : World} {K : PySem.W.Frag} {mg : Str → Option Value} (T : Top w K mg) : Binds K T.d__law_pool ["_law_script"] [] := T.F__law_pool.binds (ps := ["_law_script"]) fun _ _ _ _ _ _ us hl => match us, hl with | [_], _ => rfl
theorem b__law_draw {w : World} {K : PySem.W.Frag} {mg : Str → Option Value} (T : Top w K mg) : Binds K T.d__law_draw ["_law_pool_here", "_law_many"] [] := T.F__law_draw.binds (ps := ["_law_pool_here", "_law_many"]) fun _ _ _ _ _ _ us hl => match us, hl with | [_, _], _ => rfl
theorem b__law_is_integer {w : World} {K : PySem.W.Frag} {mg : Str → Option Value} (T : Top w K mg) : Binds K T.d__law_is_integer ["_law_value"] [] := T.F__law_is_integer.binds (ps := ["_law_value"]) fun _ _ _ _ _ _ us hl => match us, hl with | [_], _ => rfl
theorem b__law_number {w : World} {K : PySem.W.Frag} {mg : Str → Option Value} (T : Top w K mg) : Binds K T.d__law_number ["_law_pool_here"] [] := T.F__law_number.binds (ps := ["_law_pool_here"]) fun _ _ _ _ _ _ us hl => match us, hl with | [_], _ => rfl
theorem b__law_pen {w : World} {K : PySem.W.Frag} {mg : Str → Option Value} (T : Top w K mg) : Binds K T.d__law_pen ["_law_pool_here"] [] := T.F__law_pen.binds (ps := ["_law_pool_here"]) fun _ _ _ _ _ _ us hl => match us, hl with | [_], _ => rfl
theorem b__law_is_pen {w : World} {K : PySem.W.Frag} {mg : Str → Option Value} (T : Top w K mg) : Binds K T.d__law_is_pen ["_law_value"] [] := T.F__law_is_pen.binds (ps := ["_law_value"]) fun _ _ _ _ _ _ us hl => match us, hl with | [_], _ => rfl
theorem b__law_image {w : World} {K : PySem.W.Frag} {mg : Str → Option Value} (T : Top w K mg) : Binds K T.d__law_image ["_law_matrix", "_law_begin"] [] := T.F__law_image.binds (ps := ["_law_matrix", "_law_begin"]) fun _ _ _ _ _ _ us hl => match us, hl with | [_, _], _ => rfl
theorem b__law_any_matrix {w : World} {K : PySem.W.Frag} {mg : Str → Option Value} (T : Top w K mg) : Binds K T.d__law_any_matrix ["_law_pool_here"] [] := T.F__law_any_matrix.binds (ps := ["_law_pool_here"]) fun _ _ _ _ _ _ us hl => match us, hl with | [_], _ => rfl
theorem b__law_is_row {w : World} {K : PySem.W.Frag} {mg : Str → Option Value} (T : Top w K mg) : Binds K T.d__law_is_row ["_law_value", "_law_many"] [] := T.F__law_is_row.binds (ps := ["_law_value", "_law_many"]) fun _ _ _ _ _ _ us hl => match us, hl with | [_, _], _ => rfl
theorem b_law {w : World} {K : PySem.W.Frag} {mg : Str → Option Value} (T : Top w K mg) : Binds K T.d_law ["_law_script"] [] := T.F_law.binds (ps := ["_law_script"]) fun _ _ _ _ _ _ us hl => match us, hl with | [_], _ => rfl
section
variable {P : Program} {w : World} {K : PySem.W.Frag} {mg : Str → Option Value} {base : Heap}
def sp__law_pool (K : PySem.W.Frag) : Sp := fun vs H Q _ => ∃ (a : Addr) (ns : List Int), vs = [.ref a] ∧ SqL K H a (ns.map V.int) ∧ ns.length ≤ 63 ∧
  ∀ (H' : Hp) (p : Addr) (L : Nat), Same H H' → H p = none → Pool H' p L → 2 ≤ L → L ≤ 64 → Q (.ref p) H'
theorem cut63 {ns : List Int} (h : ns.length ≤ 63) : cutV (ns.map V.int) none (some 63) = ns.map V.int := by
  unfold cutV
  rw [HT.sIx_none, show HT.sIx (ns.map V.int).length (ns.map V.int).length (some 63) = min 63 (ns.map V.int).length from HT.sIx_nat _ _ 63, List.drop_zero, Nat.sub_zero]
  refine List.take_of_length_le ?_
  rw [List.length_map]
  omega
theorem ok__law_pool (T : Top w K mg) : FnOk P w K mg base CX0 1 T.a__law_pool T.d__law_pool ["_law_script"] (sp__law_pool K) := by
  refine T.F__law_pool.ok sc__law_pool (fun vs H Q E h => ?_) (fun cdv A outer s H vs Q E hr h => ?_)
  · obtain ⟨a, ns, rfl, _⟩ := h
    rfl
  · obtain ⟨a, ns, rfl, hS, hlen, q⟩ := h
    refine ⟨_, (pss_one (ps_ret (pe_op op_cat (pe_lst (pa_cons pe_int pa_nil)) (pe_orT (pe_lc (own := [("_law_cell", 1)]) (g := (gName 1)) (tt := tYes) rfl sc__law_pool.nd (k_piL K (pe_slice (k_slL K) (pv 0) po_none (po_some pe_int))) (blkOk_by (N := N__law_pool) (sc := defScope s__law_pool) (by decide +kernel)) (fun _ _ _ _ _ => (pg_name (i := 1) sc__law_pool.nd rfl (Or.inl rfl))) (fun _ _ _ _ _ => pts_nil) (fun _ _ _ _ _ => (pe_callTy call_intI (by rfl) T.z_int bt_int (pa_cons (pv 1) pa_nil)))) (pe_one (pe_lst (pa_cons pe_int pa_nil))))))), ?_⟩
    refine ⟨small100 (n := 1) (by decide), fun l0 n0 => ?_⟩
    have s1 : Same H (upd H l0 (.lst [.int 0])) := same_upd n0
    refine ⟨_, rfl, 63, rfl, a, _, rfl, s1.seq hS, fun c nc => ?_⟩
    rw [cut63 hlen]
    have s2 := s1.trans (same_upd (o := .lst (ns.map V.int)) nc)
    have hl0 : (upd (upd H l0 (.lst [.int 0])) c (.lst (ns.map V.int))) l0 = some (.lst [.int 0]) := by
      rw [upd_ne (ne_of_none upd_same nc), upd_same]
    refine ⟨c, rfl, ⟨_, SqL.of upd_same⟩, fun D nD => ?_⟩
    refine lc_list (xs := ns.map V.int) (fun i H' => Same (upd (upd H l0 (.lst [.int 0])) c (.lst (ns.map V.int))) H' ∧ H' D = some (.lst ((ns.take i).map V.int))) ⟨same_upd nD, ?_⟩ (fun i H' _ h => h.1.seq (SqL.of upd_same)) (fun i x H' hx h => ?_) (fun H' h => ?_)
    · rw [upd_same]
      rfl
    · obtain ⟨hs, hD⟩ := h
      rw [List.getElem?_map] at hx
      cases e : ns[i]? with
      | none =>
        rw [e] at hx
        cases hx
      | some n =>
        rw [e] at hx
        cases hx
        refine ⟨rfl, _, rfl, n, rfl, _, hD, ?_, same_new hs nD, ?_⟩
        · rw [List.length_map, List.length_take]
          exact small1000 (by omega)
        · rw [upd_same, List.take_add_one, e, List.map_append]
          rfl
    · obtain ⟨hs, hD⟩ := h
      rw [len_map, List.take_length] at hD
      have hl0' := hs _ _ hl0
      have hD0 : H D = none := s2.free nD
      refine ⟨!(ns.map V.int).isEmpty, .inl ⟨_, SqL.of hD, rfl⟩, ?_⟩
      have hne : D ≠ l0 := (ne_of_none hl0 nD).symm
      cases ns with
      | nil =>
        refine ⟨small100 (n := 1) (by decide), fun l2 n2 => ?_⟩
        have hl2 : (upd H' l2 (.lst [.int 0])) l0 = some (.lst [.int 0]) := by
          rw [upd_ne (ne_of_none hl0' n2)]
          exact hl0'
        refine ⟨l0, l2, _, _, rfl, rfl, hl2, upd_same, small100 (n := 2) (by decide), fun p np => ?_⟩
        have s3 := same_new (s2.trans hs) (o := .lst [.int 0]) ((s2.trans hs).free n2)
        exact q _ p 2 (same_new s3 (s3.free np)) (s3.free np) ⟨[0, 0], upd_same, rfl⟩ (by decide) (by decide)
      | cons n r =>
        refine ⟨l0, D, _, _, rfl, rfl, hl0', hD, ?_, fun p np => ?_⟩
        · show 1 + ((n :: r).map V.int).length ≤ sizeLine
          rw [len_map]
          exact small100 (by omega)
        · have s3 := s2.trans hs
          refine q _ p (1 + (n :: r).length) (same_new s3 (s3.free np)) (s3.free np) ⟨0 :: n :: r, upd_same, ?_⟩ ?_ ?_
          · rw [List.length_cons]
            omega
          · rw [List.length_cons]
            omega
          · omega
def sp__law_draw (K : PySem.W.Frag) : Sp := fun vs H Q _ => ∃ (p : Addr) (L : Nat) (m : Int), vs = [.ref p, .int m] ∧ Pool H p L ∧ 2 ≤ L ∧ L ≤ 64 ∧ 0 < m ∧ m ≤ 1000 ∧
  ∀ (r : Int) (H' : Hp), 0 ≤ r → r < m → Kp p H H' → Pool H' p L → Q (.int r) H'
theorem ok__law_draw (T : Top w K mg) : FnOk P w K mg base CX0 1 T.a__law_draw T.d__law_draw ["_law_pool_here", "_law_many"] (sp__law_draw K) := by
  refine T.F__law_draw.ok sc__law_draw (fun vs H Q E h => ?_) (fun cdv A outer s H vs Q E hr h => ?_)
  · obtain ⟨p, L, m, rfl, _⟩ := h
    rfl
  · obtain ⟨p, L, m, rfl, ⟨ns, hp, hL⟩, h2, h64, hm0, hm1, q⟩ := h
    refine ⟨_, (pss_cons (ps_augS (pv 0) pe_int (k_getL K) pe_int ip_add set_list)
      (pss_cons (ps_set (i := 2) sc__law_draw.nd rfl (Or.inl rfl) (pe_op op_add pe_int (pe_op op_mod (pe_callTy call_intI (by rfl) T.z_int bt_int (pa_cons (pe_ix (k_ixL K) (pv 0) pe_int (fun _ _ => rfl)) pa_nil)) (pe_op op_sub (pe_callB (k_len K) (by rfl) T.z_len bt_len (pa_cons (pv 0) pa_nil)) pe_int))))
      (pss_cons (ps_set (i := 3) sc__law_draw.nd rfl (Or.inl rfl) (pe_callTy call_intI (by rfl) T.z_int bt_int (pa_cons (pe_ix (k_ixL K) (pv 0) (pv 2) (fun _ _ => rfl)) pa_nil)))
      (pss_cons (ps_if (pt_cmpR op_ge (pv 3) (pe_op op_pow pe_int pe_int) (nomark _)) (pss_cons (ps_asg (pe_op op_fdiv (pv 3) (pv 1)) (pg_sub (pv 0) (pv 2) set_list))
        (pss_one (ps_ret (pe_op op_mod (pv 3) (pv 1))))) pss_nil)
      (pss_cons (ps_set (i := 4) sc__law_draw.nd rfl (Or.inl rfl) (pe_op op_mod (pe_op op_mul (pe_callTy call_intI (by rfl) T.z_int bt_int (pa_cons (pe_op op_add (pe_op op_add (pv 3) (pe_op op_mul pe_int (pe_ix (k_ixL K) (pv 0) pe_int (fun _ _ => rfl)))) pe_int) pa_nil)) pe_int) pe_int))
      (pss_cons (ps_set (i := 4) sc__law_draw.nd rfl (Or.inl rfl) (pe_op op_mod (pe_op op_mul (pv 4) (pe_op op_add (pe_op op_fdiv (pv 4) pe_int) pe_int)) pe_int))
      (pss_cons (ps_set (i := 4) sc__law_draw.nd rfl (Or.inl rfl) (pe_op op_mod (pe_op op_mul (pv 4) (pe_op op_add (pe_op op_fdiv (pv 4) pe_int) pe_int)) pe_int))
      (pss_one (ps_ret (pe_op op_mod (pe_op op_fdiv (pv 4) pe_int) (pv 1))))))))))), ?_⟩
    obtain ⟨c0, g0, _⟩ := at_map (ns := ns) (i := 0) (by decide) (by omega)
    refine ⟨_, rfl, p, ns.map V.int, 0, .int c0, rfl, rfl, by decide, SqL.of hp, get_map g0, c0, 1, rfl, rfl, p, _, 0, 0, rfl, rfl, hp, ixN_in (by decide) (by rw [len_map]; omega), ?_⟩
    rw [set_map]
    generalize e1 : ns.set 0 (c0 + 1) = ms
    have hms : ms.length = L := by
      rw [← e1, List.length_set]
      exact hL
    clear e1
    have k1 : Kp p H (upd H p (.lst (ms.map V.int))) := Kp.upd
    have hp1 : (upd H p (.lst (ms.map V.int))) p = some (.lst (ms.map V.int)) := upd_same
    generalize upd H p (.lst (ms.map V.int)) = H1 at *
    obtain ⟨c1, _, g1⟩ := at_map (ns := ms) (i := 0) (by decide) (by omega)
    have hL1 : (0 : Int) < ((ms.map V.int).length : Int) - 1 := by
      rw [len_map]
      omega
    refine ⟨_, rfl, p, _, 0, _, rfl, rfl, SqL.of hp1, g1, c1, rfl, _, rfl, p, _, rfl, .inl (SqL.of hp1), _, _, rfl, rfl, _, _, rfl, rfl, hL1, _, _, rfl, rfl, ?_⟩
    have b0 : 0 ≤ 1 + c1 % (((ms.map V.int).length : Int) - 1) := by
      have := Int.emod_nonneg c1 (Int.ne_of_gt hL1)
      omega
    have b1 : 1 + c1 % (((ms.map V.int).length : Int) - 1) < ms.length := by
      have := Int.emod_lt_of_pos c1 hL1
      rw [len_map] at this ⊢
      omega
    dsimp only
    generalize 1 + c1 % (((ms.map V.int).length : Int) - 1) = j at *
    obtain ⟨c2, _, g2⟩ := at_map (ns := ms) (i := j) b0 b1
    refine ⟨_, rfl, _, rfl, p, _, j, _, rfl, rfl, SqL.of hp1, g2, c2, rfl, ?_⟩
    refine ⟨_, rfl, 10, 18, rfl, rfl, ⟨by decide, by decide, by decide⟩, _, _, rfl, rfl, _, rfl, ite2 (fun _ => ?_) (fun _ => ?_)⟩
    · refine ⟨_, rfl, _, rfl, _, _, rfl, rfl, ⟨hm0, by omega⟩, _, rfl, _, rfl, p, _, j, j.toNat, rfl, rfl, hp1, ixN_in b0 (by rw [len_map]; exact b1), ?_⟩
      rw [set_map]
      refine ⟨_, rfl, _, rfl, _, _, rfl, rfl, hm0, ?_⟩
      exact q _ _ (Int.emod_nonneg _ (Int.ne_of_gt hm0)) (Int.emod_lt_of_pos _ hm0) (k1.trans Kp.upd) ⟨_, upd_same, by rw [List.length_set]; exact hms⟩
    · obtain ⟨c3, _, g3⟩ := at_map (ns := ms) (i := 0) (by decide) (by omega)
      refine ⟨_, rfl, _, rfl, p, _, 0, _, rfl, rfl, SqL.of hp1, g3, _, c3, rfl, rfl, .inl ⟨by decide, by decide⟩, _, _, rfl, rfl, _, _, rfl, rfl, _, rfl, _, _, rfl, rfl, .inr ⟨by decide, by decide⟩, _, _, rfl, rfl, (show (0 : Int) < 2147483647 by decide), ?_⟩
      dsimp only
      generalize ez : (c2 + 7919 * c3 + 1) * 48271 % 2147483647 = z
      have z0 : 0 ≤ z := by rw [← ez]; exact Int.emod_nonneg _ (by decide)
      have z1 : z < 2147483647 := by rw [← ez]; exact Int.emod_lt_of_pos _ (by decide)
      refine ⟨_, rfl, _, rfl, _, _, rfl, rfl, ⟨by decide, by decide⟩, _, _, rfl, rfl, _, _, rfl, rfl, .inl ⟨by omega, by omega⟩, _, _, rfl, rfl, (show (0 : Int) < 2147483647 by decide), ?_⟩
      dsimp only
      generalize ey : z * (z / 1009 + 69621) % 2147483647 = y
      have y0 : 0 ≤ y := by rw [← ey]; exact Int.emod_nonneg _ (by decide)
      have y1 : y < 2147483647 := by rw [← ey]; exact Int.emod_lt_of_pos _ (by decide)
      refine ⟨_, rfl, _, rfl, _, _, rfl, rfl, ⟨by decide, by decide⟩, _, _, rfl, rfl, _, _, rfl, rfl, .inl ⟨by omega, by omega⟩, _, _, rfl, rfl, (show (0 : Int) < 2147483399 by decide), ?_⟩
      refine ⟨_, rfl, _, _, rfl, rfl, ⟨by decide, by decide⟩, _, rfl, _, _, rfl, rfl, hm0, ?_⟩
      exact q _ _ (Int.emod_nonneg _ (Int.ne_of_gt hm0)) (Int.emod_lt_of_pos _ hm0) k1 ⟨_, hp1, hms⟩

def Bd (n : Int) : Prop := -(2 ^ 133) < n ∧ n < 2 ^ 133
def sp__law_number (K : PySem.W.Frag) : Sp := fun vs H Q _ => ∃ (p : Addr) (L : Nat), vs = [.ref p] ∧ Pool H p L ∧ 2 ≤ L ∧ L ≤ 64 ∧
  ∀ (r : Int) (H' : Hp), Bd r → Kp p H H' → Pool H' p L → Q (.int r) H'
theorem ok__law_number (T : Top w K mg) : FnOk P w K mg base CX0 2 T.a__law_number T.d__law_number ["_law_pool_here"] (sp__law_number K) := by
  refine T.F__law_number.ok sc__law_number (fun vs H Q E h => ?_) (fun cdv A outer s H vs Q E hr h => ?_)
  · obtain ⟨p, L, rfl, _⟩ := h
    rfl
  · obtain ⟨p, L, rfl, pl, h2, h64, q⟩ := h
    refine ⟨_, (pss_cons (ps_set (i := 1) sc__law_number.nd rfl (Or.inl rfl) (pe_call (ok__law_draw T) hr (by rfl) T.g__law_draw T.F__law_draw.kp (b__law_draw T) .nil pass0 (pa_cons (pv 0) (pa_cons pe_int pa_nil))))
      (pss_cons (ps_if (pt_cmpR op_eq (pv 1) pe_int (nomark _)) (pss_one (ps_ret (pe_op op_sub (pe_call (ok__law_draw T) hr (by rfl) T.g__law_draw T.F__law_draw.kp (b__law_draw T) .nil pass0 (pa_cons (pv 0) (pa_cons pe_int pa_nil))) pe_int))) pss_nil)
      (pss_cons (ps_augS (pv 0) pe_int (k_getL K) pe_int ip_add set_list)
      (pss_cons (ps_set (i := 2) sc__law_number.nd rfl (Or.inl rfl) (pe_op op_add pe_int (pe_op op_mod (pe_callTy call_intI (by rfl) T.z_int bt_int (pa_cons (pe_ix (k_ixL K) (pv 0) pe_int (fun _ _ => rfl)) pa_nil)) (pe_op op_sub (pe_callB (k_len K) (by rfl) T.z_len bt_len (pa_cons (pv 0) pa_nil)) pe_int))))
      (pss_cons (ps_set (i := 3) sc__law_number.nd rfl (Or.inl rfl) (pe_op op_mod (pe_callTy call_intI (by rfl) T.z_int bt_int (pa_cons (pe_op op_add (pe_op op_mul (pe_ix (k_ixL K) (pv 0) (pv 2) (fun _ _ => rfl)) pe_int) (pe_op op_mul (pe_ix (k_ixL K) (pv 0) pe_int (fun _ _ => rfl)) pe_int)) pa_nil)) (pe_op op_pow pe_int pe_int)))
      (pss_cons (ps_if (pt_cmpR op_eq (pe_call (ok__law_draw T) hr (by rfl) T.g__law_draw T.F__law_draw.kp (b__law_draw T) .nil pass0 (pa_cons (pv 0) (pa_cons pe_int pa_nil))) pe_int (nomark _)) (pss_one (ps_ret (pv 3))) pss_nil)
      (pss_one (ps_ret (pe_op op_sub pe_int (pv 3)))))))))), ?_⟩
    refine ⟨_, rfl, p, L, 3, rfl, pl, h2, h64, by decide, by decide, fun r1 H1 _ _ k1 pl1 => ?_⟩
    refine ⟨_, rfl, rfl, _, rfl, ite2 (fun _ => ?_) (fun _ => ?_)⟩
    · refine ⟨_, rfl, p, L, 9, rfl, pl1, h2, h64, by decide, by decide, fun r2 H2 a1 a2 k2 pl2 => ?_⟩
      refine ⟨_, _, rfl, rfl, ?_⟩
      exact q _ _ ⟨by omega, by omega⟩ (k1.trans k2) pl2
    · obtain ⟨ns, hp, hL⟩ := pl1
      obtain ⟨c0, g0, _⟩ := at_map (ns := ns) (i := 0) (by decide) (by omega)
      refine ⟨_, rfl, p, ns.map V.int, 0, .int c0, rfl, rfl, by decide, SqL.of hp, get_map g0, c0, 1, rfl, rfl, p, _, 0, 0, rfl, rfl, hp, ixN_in (by decide) (by rw [len_map]; omega), ?_⟩
      rw [set_map]
      generalize e1 : ns.set 0 (c0 + 1) = ms
      have hms : ms.length = L := by
        rw [← e1, List.length_set]
        exact hL
      clear e1
      have k2 : Kp p H (upd H1 p (.lst (ms.map V.int))) := k1.trans Kp.upd
      have hp1 : (upd H1 p (.lst (ms.map V.int))) p = some (.lst (ms.map V.int)) := upd_same
      generalize upd H1 p (.lst (ms.map V.int)) = H2 at *
      obtain ⟨c1, _, g1⟩ := at_map (ns := ms) (i := 0) (by decide) (by omega)
      have hL1 : (0 : Int) < ((ms.map V.int).length : Int) - 1 := by
        rw [len_map]
        omega
      refine ⟨_, rfl, p, _, 0, _, rfl, rfl, SqL.of hp1, g1, c1, rfl, _, rfl, p, _, rfl, .inl (SqL.of hp1), _, _, rfl, rfl, _, _, rfl, rfl, hL1, _, _, rfl, rfl, ?_⟩
      have b0 : 0 ≤ 1 + c1 % (((ms.map V.int).length : Int) - 1) := by
        have := Int.emod_nonneg c1 (Int.ne_of_gt hL1)
        omega
      have b1 : 1 + c1 % (((ms.map V.int).length : Int) - 1) < ms.length := by
        have := Int.emod_lt_of_pos c1 hL1
        rw [len_map] at this ⊢
        omega
      dsimp only
      generalize 1 + c1 % (((ms.map V.int).length : Int) - 1) = j at *
      obtain ⟨c2, _, g2⟩ := at_map (ns := ms) (i := j) b0 b1
      obtain ⟨c3, _, g3⟩ := at_map (ns := ms) (i := 0) (by decide) (by omega)
      refine ⟨_, rfl, _, rfl, p, _, j, _, rfl, rfl, SqL.of hp1, g2, _, _, rfl, rfl, .inr ⟨by decide, by decide⟩, _, rfl, p, _, 0, _, rfl, rfl, SqL.of hp1, g3, _, _, rfl, rfl, .inr ⟨by decide, by decide⟩, _, _, rfl, rfl, _, rfl, 10, 40, rfl, rfl, ⟨by decide, by decide, by decide⟩, _, _, rfl, rfl, (show (0 : Int) < 10 ^ 40 by decide), ?_⟩
      dsimp only
      generalize ez : (c2 * 48271 + c3 * 69621) % 10 ^ (40 : Int).toNat = z
      have z0 : 0 ≤ z := by rw [← ez]; exact Int.emod_nonneg _ (by decide)
      have z1 : z < 10 ^ 40 := by rw [← ez]; exact Int.emod_lt_of_pos _ (by decide)
      refine ⟨_, rfl, p, L, 2, rfl, ⟨_, hp1, hms⟩, h2, h64, by decide, by decide, fun r3 H3 _ _ k3 pl3 => ?_⟩
      refine ⟨rfl, _, rfl, ite2 (fun _ => ?_) (fun _ => ?_)⟩
      · exact ⟨_, rfl, q _ _ ⟨by omega, by omega⟩ (k2.trans k3) pl3⟩
      · exact ⟨_, rfl, _, _, rfl, rfl, q _ _ ⟨by omega, by omega⟩ (k2.trans k3) pl3⟩

def sp__law_is_row (K : PySem.W.Frag) : Sp := fun vs H Q _ => ∃ (a : Addr) (ns : List Int) (m : Int), vs = [.ref a, .int m] ∧ (SqL K H a (ns.map V.int) ∨ SqT K H a (ns.map V.int)) ∧ ns.length ≤ 1000 ∧
  ∀ (b : Bool) (H' : Hp), (m = (ns.length : Int) → b = true) → Same H H' → Q (.bl b) H'
theorem same_sq {K : PySem.W.Frag} {H H' : Hp} {a : Addr} {xs : List V} (e : Same H H') (h : SqT K H a xs) : SqT K H' a xs := by
  rcases h with (h | ⟨o, h⟩) | h
  · exact .inl (.inl (e _ _ h))
  · exact .inl (.inr ⟨o, e _ _ h⟩)
  · exact .inr h
theorem trues (n : Nat) : ((List.replicate n true).all id) = true := by
  induction n with
  | zero => rfl
  | succ n ih => rw [List.replicate_succ, List.all_cons, ih]; rfl
theorem ok__law_is_row (T : Top w K mg) : FnOk P w K mg base CX0 1 T.a__law_is_row T.d__law_is_row ["_law_value", "_law_many"] (sp__law_is_row K) := by
  refine T.F__law_is_row.ok sc__law_is_row (fun vs H Q E h => ?_) (fun cdv A outer s H vs Q E hr h => ?_)
  · obtain ⟨a, ns, m, rfl, _⟩ := h
    rfl
  · obtain ⟨a, ns, m, rfl, hS, hlen, q⟩ := h
    refine ⟨_, (pss_one (ps_ret (pe_and (pe_cmpR op_eq (pe_callB (k_len K) (by rfl) T.z_len bt_len (pa_cons (pv 0) pa_nil)) (pv 1) (nomark _)) (pe_one (pe_callB (k_all K) (by rfl) T.z_all bt_all (pa_cons (pe_lc (own := [("_law_x", 2)]) (g := (gName 2)) (tt := tYes) rfl sc__law_is_row.nd (k_piS K (pv 0)) (blkOk_by (N := N__law_is_row) (sc := defScope s__law_is_row) (by decide +kernel)) (fun _ _ _ _ _ => (pg_name (i := 2) sc__law_is_row.nd rfl (Or.inl rfl))) (fun _ _ _ _ _ => pts_nil) (fun _ _ _ _ _ => (pe_and (pe_callB (k_isi K) (by rfl) T.z_isinstance bt_isinstance (pa_cons (pv 2) (pa_cons (pe_bltn (v := .ty "int") (by rfl) T.z_int bt_int rfl) pa_nil))) (pe_one (pe_not (pe_callB (k_isi K) (by rfl) T.z_isinstance bt_isinstance (pa_cons (pv 2) (pa_cons (pe_bltn (v := .ty "bool") (by rfl) T.z_bool bt_bool rfl) pa_nil)))))))) pa_nil)))))), ?_⟩
    refine ⟨_, rfl, a, _, rfl, hS, _, rfl, rfl, _, rfl, ite2 (fun _ => ?_) (fun hn => ?_)⟩
    · have turn : ∀ (i : Nat) (x : V) (D : Addr) (H' : Hp), (ns.map V.int)[i]? = some x → H D = none → (Same H H' ∧ H' D = some (.lst ((List.replicate i true).map V.bl))) → i < ns.length →
          ∃ n, x = .int n ∧ (((List.replicate i true).map V.bl).length < sizeLine) ∧ (Same H (upd H' D (.lst ((List.replicate i true).map V.bl ++ [V.bl true]))) ∧ (upd H' D (.lst ((List.replicate i true).map V.bl ++ [V.bl true]))) D = some (.lst ((List.replicate (i + 1) true).map V.bl))) := by
        intro i x D H' hx hD h hi
        rw [List.getElem?_map, List.getElem?_eq_getElem hi] at hx
        cases hx
        refine ⟨_, rfl, ?_, same_new h.1 hD, ?_⟩
        · rw [List.length_map, List.length_replicate]
          exact small1000 (by omega)
        · rw [upd_same, List.replicate_succ', List.map_append]
          rfl
      have done : ∀ (D : Addr) (H' : Hp), (Same H H' ∧ H' D = some (.lst ((List.replicate (ns.map V.int).length true).map V.bl))) → ∃ bs : List Bool, SqL K H' D (bs.map V.bl) ∧ Q (.bl (bs.all id)) H' := by
        intro D H' h
        exact ⟨_, SqL.of h.2, q _ _ (fun _ => trues _) h.1⟩
      have fin : ∀ (D : Addr) (H' : Hp), (Same H H' ∧ H' D = some (.lst ((List.replicate (ns.map V.int).length true).map V.bl))) → tCB (rAll K) (fun σ H Q => Q [V.ref D] H) [] H' Q := by
        intro D H' h
        obtain ⟨bs, h1, h2⟩ := done D H' h
        exact ⟨D, bs, rfl, h1, h2⟩
      rcases hS with hS | hS
      · refine .inl ⟨_, rfl, a, rfl, ⟨_, hS⟩, fun D nD => ?_⟩
        refine lc_list (xs := ns.map V.int) (fun i H' => Same H H' ∧ H' D = some (.lst ((List.replicate i true).map V.bl))) ⟨same_upd nD, upd_same⟩ (fun i H' _ h => h.1.seq hS) (fun i x H' hx h => ?_) (fun H' h => fin D H' h)
        obtain ⟨n, rfl, h1, h2⟩ := turn i x D H' hx nD h (by have := (List.getElem?_eq_some_iff.mp hx).1; rwa [List.length_map] at this)
        refine ⟨rfl, _, rfl, _, _, _, _, true, rfl, .ty _, .base (.int n), kit_ty (by decide +kernel), true, rfl, _, rfl, _, _, _, _, false, rfl, .ty _, .base (.int n), kit_ty (by decide +kernel), false, rfl, _, h.2, h1, h2⟩
      · refine .inr ⟨_, rfl, a, rfl, ⟨_, hS⟩, fun D nD => ?_⟩
        refine lc_tup (xs := ns.map V.int) (fun i H' => Same H H' ∧ H' D = some (.lst ((List.replicate i true).map V.bl))) ⟨same_upd nD, upd_same⟩ (fun i H' _ h => same_sq h.1 hS) (fun i x H' hx h => ?_) (fun H' h => fin D H' h)
        obtain ⟨n, rfl, h1, h2⟩ := turn i x D H' hx nD h (by have := (List.getElem?_eq_some_iff.mp hx).1; rwa [List.length_map] at this)
        refine ⟨rfl, _, rfl, _, _, _, _, true, rfl, .ty _, .base (.int n), kit_ty (by decide +kernel), true, rfl, _, rfl, _, _, _, _, false, rfl, .ty _, .base (.int n), kit_ty (by decide +kernel), false, rfl, _, h.2, h1, h2⟩
    · refine q false _ (fun e => ?_) (Same.refl _)
      exact absurd (decide_eq_true (by rw [len_map, ← e])) hn

def sp__law_any_matrix (K : PySem.W.Frag) : Sp := fun vs H Q _ => ∃ (p : Addr) (L : Nat), vs = [.ref p] ∧ Pool H p L ∧ 2 ≤ L ∧ L ≤ 64 ∧
  ∀ (q : Addr) (ns : List Int) (H' : Hp), ns.length = 49 → (∀ n ∈ ns, Bd n) → Kp p H H' → Pool H' p L → H q = none → H' q = some (.lst (ns.map V.int)) → Q (.ref q) H'
theorem bd_snoc {ns : List Int} {z : Int} (h : ∀ n ∈ ns, Bd n) (b : Bd z) : ∀ n ∈ ns ++ [z], Bd n := fun n hn => by
  rcases List.mem_append.mp hn with hn | hn
  · exact h n hn
  · rw [List.mem_singleton.mp hn]
    exact b
theorem map_snoc (ns : List Int) (z : Int) : ns.map V.int ++ [.int z] = (ns ++ [z]).map V.int := by
  rw [List.map_append]
  rfl
theorem ok__law_any_matrix (T : Top w K mg) : FnOk P w K mg base CX0 3 T.a__law_any_matrix T.d__law_any_matrix ["_law_pool_here"] (sp__law_any_matrix K) := by
  refine T.F__law_any_matrix.ok sc__law_any_matrix (fun vs H Q E h => ?_) (fun cdv A outer s H vs Q E hr h => ?_)
  · obtain ⟨p, L, rfl, _⟩ := h
    rfl
  · obtain ⟨p, L, rfl, pl, h2, h64, q⟩ := h
    refine ⟨_, (pss_cons (ps_set (i := 1) sc__law_any_matrix.nd rfl (Or.inl rfl) (pe_call (ok__law_draw T) (hr.mono (by decide)) (by rfl) T.g__law_draw T.F__law_draw.kp (b__law_draw T) .nil pass0 (pa_cons (pv 0) (pa_cons pe_int pa_nil))))
      (pss_cons (ps_set (i := 2) sc__law_any_matrix.nd rfl (Or.inl rfl) (pe_lst pa_nil))
      (pss_cons (ps_for PassesOwn.never rfl (pi_range1 (by rfl) T.z_range (pa_cons pe_int pa_nil)) (pg_name (i := 3) sc__law_any_matrix.nd rfl (Or.inl rfl)) (pss_cons (ps_set (i := 4) sc__law_any_matrix.nd rfl (Or.inl rfl) pe_int)
        (pss_cons (ps_if (pt_cmpR op_eq (pe_call (ok__law_draw T) (hr.mono (by decide)) (by rfl) T.g__law_draw T.F__law_draw.kp (b__law_draw T) .nil pass0 (pa_cons (pv 0) (pa_cons pe_int pa_nil))) pe_int (nomark _)) (pss_cons (ps_set (i := 4) sc__law_any_matrix.nd rfl (Or.inl rfl) (pe_op op_sub (pe_call (ok__law_draw T) (hr.mono (by decide)) (by rfl) T.g__law_draw T.F__law_draw.kp (b__law_draw T) .nil pass0 (pa_cons (pv 0) (pa_cons pe_int pa_nil))) pe_int))
          (pss_one (ps_if (pt_cmpR op_eq (pv 1) pe_int (nomark _)) (pss_one (ps_set (i := 4) sc__law_any_matrix.nd rfl (Or.inl rfl) (pe_call (ok__law_number T) hr (by rfl) T.g__law_number T.F__law_number.kp (b__law_number T) .nil pass0 (pa_cons (pv 0) pa_nil)))) pss_nil))) pss_nil)
        (pss_one (ps_expr (pe_bm PySem.F.plainAttrs_list PySem.F.slot_list_append PySem.F.type_list_append mt_append (pv 2) (pa_cons (pv 4) pa_nil)))))))
      (pss_one (ps_ret (pv 2)))))), ?_⟩
    refine ⟨_, rfl, p, L, 4, rfl, pl, h2, h64, by decide, by decide, fun wd H1 _ _ k1 pl1 => ?_⟩
    refine ⟨Nat.zero_le _, fun m nm => ?_⟩
    have nm0 : H m = none := k1.none nm (pl1.ne nm)
    have hmp : m ≠ p := pl1.ne nm
    refine ⟨49, rfl, by decide, by decide, for_range (n := 49) (fun i σ H' => ∃ (y z : Option V) (ns : List Int), σ = [some (.ref p), some (.int wd), some (.ref m), y, z] ∧ ns.length = i ∧ (∀ n ∈ ns, Bd n) ∧ Kp p H H' ∧ Pool H' p L ∧ H' m = some (.lst (ns.map V.int))) ?_ (fun i σ H' hi h => ?_) (fun σ H' h => ?_)⟩
    · exact ⟨none, none, [], rfl, rfl, (by intro n hn; cases hn), k1.new nm0, pl1.new nm, upd_same⟩
    · obtain ⟨y, z, ns, rfl, hl, hb, k2, pl2, hm⟩ := h
      have hz : (ns.map V.int).length < sizeLine := by
        rw [len_map]
        exact small1000 (by omega)
      refine ⟨_, rfl, p, L, 3, rfl, pl2, h2, h64, by decide, by decide, fun r3 H3 _ _ k3 pl3 => ?_⟩
      have hm3 := k3 _ _ hmp hm
      refine ⟨rfl, _, rfl, ite2 (fun _ => ?_) (fun _ => ?_)⟩
      · refine ⟨_, rfl, p, L, 9, rfl, pl3, h2, h64, by decide, by decide, fun r4 H4 a1 a2 k4 pl4 => ?_⟩
        have hm4 := k4 _ _ hmp hm3
        have b4 : Bd (r4 - 4) := ⟨by omega, by omega⟩
        refine ⟨_, _, rfl, rfl, _, rfl, rfl, _, rfl, ite2 (fun _ => ?_) (fun _ => ?_)⟩
        · refine ⟨_, rfl, p, L, rfl, pl4, h2, h64, fun r5 H5 b5 k5 pl5 => ?_⟩
          have hm5 := k5 _ _ hmp hm4
          refine ⟨_, rfl, .inl ⟨rfl, _, SqL.of hm5⟩, _, rfl, m, _, _, rfl, rfl, hm5, hz, ?_⟩
          rw [map_snoc]
          exact ⟨_, _, ns ++ [r5], rfl, by simp [hl], bd_snoc hb b5, ((k2.trans k3).trans (k4.trans k5)).new nm0, pl5.keep hmp, upd_same⟩
        · refine ⟨_, rfl, .inl ⟨rfl, _, SqL.of hm4⟩, _, rfl, m, _, _, rfl, rfl, hm4, hz, ?_⟩
          rw [map_snoc]
          exact ⟨_, _, ns ++ [r4 - 4], rfl, by simp [hl], bd_snoc hb b4, ((k2.trans k3).trans k4).new nm0, pl4.keep hmp, upd_same⟩
      · refine ⟨_, rfl, .inl ⟨rfl, _, SqL.of hm3⟩, _, rfl, m, _, _, rfl, rfl, hm3, hz, ?_⟩
        have e0 : ns.map V.int ++ [.int 0] = (ns ++ [0]).map V.int := map_snoc ns 0
        rw [e0]
        exact ⟨_, _, ns ++ [0], rfl, by simp [hl], bd_snoc hb ⟨by decide, by decide⟩, (k2.trans k3).new nm0, pl3.keep hmp, upd_same⟩
    · obtain ⟨y, z, ns, rfl, hl, hb, k2, pl2, hm⟩ := h
      exact ⟨_, rfl, q m ns H' hl hb k2 pl2 nm0 hm⟩

theorem getD_get {ns : List Int} {t : Nat} (h : t < ns.length) : ns[t]? = some (ns.getD t 0) := by
  rw [List.getD_eq_getElem?_getD, List.getElem?_eq_getElem h]
  rfl
theorem at_nat {ns : List Int} {i : Int} {t : Nat} (e : i = (t : Int)) (h : t < ns.length) : atI (ns.map V.int) i = some (.int (ns.getD t 0)) := by
  rw [e]
  exact atI_nat (get_map (getD_get h))
theorem range_snoc (f : Nat → Int) (n : Nat) : ((List.range n).map f).map V.int ++ [.int (f n)] = ((List.range (n + 1)).map f).map V.int := by
  rw [List.range_succ, List.map_append, List.map_append]
  rfl
theorem list49 {ns : List Int} (h : ns.length = 49) : ns = (List.range 49).map fun t => ns.getD t 0 := by
  refine List.ext_getElem? fun t => ?_
  rw [List.getElem?_map]
  by_cases ht : t < 49
  · rw [List.getElem?_range ht, getD_get (by omega)]
    rfl
  · rw [List.getElem?_eq_none (by omega), List.getElem?_eq_none (by rw [List.length_range]; omega)]
    rfl

def S (n : Nat) (f : Nat → Int) : Int := ((List.range n).map f).sum
theorem S_zero (f : Nat → Int) : S 0 f = 0 := rfl
theorem sum_snoc (l : List Int) (z : Int) : (l ++ [z]).sum = l.sum + z := by
  rw [List.sum_append, List.sum_cons, List.sum_nil, Int.add_zero]
theorem S_succ (n : Nat) (f : Nat → Int) : S (n + 1) f = S n f + f n := by
  unfold S
  rw [List.range_succ, List.map_append, List.map_cons, List.map_nil, sum_snoc]
theorem S_congr {n : Nat} {f g : Nat → Int} (h : ∀ k, k < n → f k = g k) : S n f = S n g := by
  unfold S
  rw [List.map_congr_left fun k hk => h k (List.mem_range.mp hk)]
theorem S_left (n : Nat) (c : Int) (f : Nat → Int) : c * S n f = S n fun k => c * f k := by
  induction n with
  | zero => rw [S_zero, S_zero, Int.mul_zero]
  | succ n ih => rw [S_succ, S_succ, Int.mul_add, ih]
theorem S_right (n : Nat) (c : Int) (f : Nat → Int) : S n f * c = S n fun k => f k * c := by
  induction n with
  | zero => rw [S_zero, S_zero, Int.zero_mul]
  | succ n ih => rw [S_succ, S_succ, Int.add_mul, ih]
theorem S_add (n : Nat) (f g : Nat → Int) : (S n fun k => f k + g k) = S n f + S n g := by
  induction n with
  | zero => rfl
  | succ n ih =>
    rw [S_succ, S_succ, S_succ, ih]
    omega
theorem S_const0 (n : Nat) : (S n fun _ => 0) = 0 := by
  induction n with
  | zero => rfl
  | succ n ih => rw [S_succ, ih, Int.add_zero]
theorem S_comm (n m : Nat) (f : Nat → Nat → Int) : (S n fun i => S m fun j => f i j) = S m fun j => S n fun i => f i j := by
  induction n with
  | zero => rw [S_zero]; exact (S_const0 m).symm
  | succ n ih =>
    rw [S_succ, ih, ← S_add]
    refine S_congr fun j _ => ?_
    rw [S_succ]
theorem S_single {n i : Nat} {f : Nat → Int} (hi : i < n) (h : ∀ k, k < n → k ≠ i → f k = 0) : S n f = f i := by
  induction n with
  | zero => omega
  | succ n ih =>
    rw [S_succ]
    by_cases e : i = n
    · subst e
      rw [show S i f = 0 from (S_congr fun k hk => h k (by omega) (by omega)).trans (S_const0 i), Int.zero_add]
    · rw [ih (by omega) (fun k hk hne => h k (by omega) hne), h n (by omega) (by omega), Int.add_zero]
theorem S_bound {n b : Nat} {f : Nat → Int} (h : ∀ k, k < n → (f k).natAbs < 2 ^ b) : (S n f).natAbs ≤ n * 2 ^ b := by
  induction n with
  | zero => rw [S_zero]; simp
  | succ n ih =>
    rw [S_succ, Nat.succ_mul]
    have h1 := ih fun k hk => h k (by omega)
    have h2 := h n (by omega)
    have h3 := Int.natAbs_add_le (S n f) (f n)
    omega
/-- all numbers below 2 ^ b -/
def Bw (b : Nat) (ns : List Int) : Prop := ∀ t, (ns.getD t 0).natAbs < 2 ^ b
theorem Bw.mono {a b : Nat} {ns : List Int} (h : Bw a ns) (hab : a ≤ b) : Bw b ns := fun t => Nat.lt_of_lt_of_le (h t) (Nat.pow_le_pow_right (by decide) hab)
theorem getD_mem {ns : List Int} {P : Int → Prop} (h : ∀ n ∈ ns, P n) (h0 : P 0) (t : Nat) : P (ns.getD t 0) := by
  rw [List.getD_eq_getElem?_getD]
  cases e : ns[t]? with
  | none => exact h0
  | some n => exact h n (List.mem_of_getElem? e)
theorem Bd.bw {ns : List Int} (h : ∀ n ∈ ns, Bd n) : Bw 133 ns := fun t => by
  have := getD_mem h ⟨by decide, by decide⟩ t
  have h1 : -(2 ^ 133) < ns.getD t 0 := this.1
  have h2 : ns.getD t 0 < 2 ^ 133 := this.2
  generalize ns.getD t 0 = z at *
  omega
theorem bw_mul {a b : Nat} {x y : Int} (hx : x.natAbs < 2 ^ a) (hy : y.natAbs < 2 ^ b) (ha : 0 < a) (hb : 0 < b) (h : a + b ≤ 1000000) : CMulW x y := wide_mul hx hy ha hb h
def row (ns : List Int) (i : Nat) : List Int := (List.range 7).map fun t => ns.getD (7 * i + t) 0
def col (ns : List Int) (j : Nat) : List Int := (List.range 7).map fun t => ns.getD (7 * t + j) 0
theorem row_len (ns : List Int) (i : Nat) : (row ns i).length = 7 := by unfold row; rw [List.length_map, List.length_range]
theorem col_len (ns : List Int) (i : Nat) : (col ns i).length = 7 := by unfold col; rw [List.length_map, List.length_range]
theorem getD7 {g : Nat → Int} {t : Nat} : ((List.range 7).map g).getD t 0 = if t < 7 then g t else 0 := by
  rw [List.getD_eq_getElem?_getD, List.getElem?_map]
  by_cases ht : t < 7
  · rw [List.getElem?_range ht, if_pos ht]
    rfl
  · rw [List.getElem?_eq_none (by rw [List.length_range]; omega), if_neg ht]
    rfl
theorem row_bw {b : Nat} {ns : List Int} (h : Bw b ns) (i : Nat) : Bw b (row ns i) := fun t => by
  unfold row
  rw [getD7]
  split
  · exact h _
  · exact Nat.two_pow_pos b
theorem col_bw {b : Nat} {ns : List Int} (h : Bw b ns) (i : Nat) : Bw b (col ns i) := fun t => by
  unfold col
  rw [getD7]
  split
  · exact h _
  · exact Nat.two_pow_pos b
theorem cut_row {ns : List Int} {i : Nat} (hl : ns.length = 49) (hi : i < 7) : cutV (ns.map V.int) (some (7 * (i : Int))) (some (7 * (i : Int) + 7)) = (row ns i).map V.int := by
  have e1 : (7 * (i : Int)) = ((7 * i : Nat) : Int) := by omega
  have e2 : (7 * (i : Int) + 7) = ((7 * i + 7 : Nat) : Int) := by omega
  rw [e1, show (((7 * i : Nat) : Int) + 7) = ((7 * i + 7 : Nat) : Int) by omega]
  have h : cutV (ns.map V.int) (some ((7 * i : Nat) : Int)) (some ((7 * i + 7 : Nat) : Int)) = ((ns.map V.int).drop (7 * i)).take (7 * i + 7 - 7 * i) := by
    unfold cutV
    rw [HT.sIx_nat, HT.sIx_nat, Nat.min_eq_left (by rw [len_map]; omega), Nat.min_eq_left (by rw [len_map]; omega)]
  rw [h, ← List.map_drop, ← List.map_take]
  refine congrArg (List.map V.int) (List.ext_getElem? fun t => ?_)
  unfold row
  rw [List.getElem?_take, List.getElem?_drop, List.getElem?_map]
  by_cases ht : t < 7
  · rw [if_pos (by omega), List.getElem?_range ht, getD_get (by omega)]
    rfl
  · rw [if_neg (by omega), List.getElem?_eq_none (by rw [List.length_range]; omega)]
    rfl

def sp_row_of (K : PySem.W.Frag) : Sp := fun vs H Q _ => ∃ (a : Addr) (ns : List Int) (z : Int) (i : Nat), vs = [.ref a, .int z] ∧ z = (i : Int) ∧ SqL K H a (ns.map V.int) ∧ ns.length = 49 ∧ i < 7 ∧
  ∀ (q : Addr) (H' : Hp), Same H H' → H q = none → H' q = some (.lst ((row ns i).map V.int)) → Q (.ref q) H'
theorem ok_row_of (T : Top w K mg) : FnOk P w K mg base CX0 1 T.a_row_of T.d_row_of ["matrix", "i"] (sp_row_of K) := by
  refine T.F_row_of.ok sc_row_of (fun vs H Q E h => ?_) (fun cdv A outer s H vs Q E hr h => ?_)
  · obtain ⟨a, ns, z, i, rfl, _⟩ := h
    rfl
  · obtain ⟨a, ns, z, i, rfl, rfl, hS, hl, hi, q⟩ := h
    refine ⟨_, (pss_one (ps_ret (pe_slice (k_slL K) (pv 0) (po_some (pe_op op_mul pe_int (pv 1))) (po_some (pe_op op_add (pe_op op_mul pe_int (pv 1)) pe_int))))), ?_⟩
    refine ⟨_, rfl, _, rfl, _, _, rfl, rfl, .inl ⟨by decide, by decide⟩, _, rfl, _, rfl, _, _, rfl, rfl, .inl ⟨by decide, by decide⟩, _, _, rfl, rfl, _, rfl, a, _, rfl, hS, fun p np => ?_⟩
    rw [cut_row hl hi]
    exact q p _ (same_upd np) np upd_same
def dot7 (r c : List Int) : Int := S 7 fun t => r.getD t 0 * c.getD t 0
def sp_dot (K : PySem.W.Frag) : Sp := fun vs H Q _ => ∃ (a b : Addr) (r c : List Int), vs = [.ref a, .ref b] ∧ SqL K H a (r.map V.int) ∧ SqL K H b (c.map V.int) ∧ r.length = 7 ∧ c.length = 7 ∧ Bw 2000 r ∧ Bw 2000 c ∧
  ∀ (H' : Hp), Same H H' → Q (.int (dot7 r c)) H'
theorem ok_dot (T : Top w K mg) : FnOk P w K mg base CX0 1 T.a_dot T.d_dot ["row", "column"] (sp_dot K) := by
  refine T.F_dot.ok sc_dot (fun vs H Q E h => ?_) (fun cdv A outer s H vs Q E hr h => ?_)
  · obtain ⟨a, b, r, c, rfl, _⟩ := h
    rfl
  · obtain ⟨a, b, r, c, rfl, hA, hB, lr, lc, br, bc, q⟩ := h
    refine ⟨_, (pss_one (ps_ret (pe_callB (k_sum K) (by rfl) T.z_sum bt_sum (pa_cons (pe_lc (own := [("a", 2), ("b", 3)]) (g := (gTup K 2 (gCons (gName 2) (gCons (gName 3) gNil)))) (tt := tYes) rfl sc_dot.nd (pi_zip (by rfl) T.z_zip (pa_cons (pv 0) (pa_cons (pv 1) pa_nil))) (blkOk_by (N := N_dot) (sc := defScope s_dot) (by decide +kernel)) (fun _ _ _ _ _ => (pg_tup rfl (pgs_cons (pg_name (i := 2) sc_dot.nd rfl (Or.inl rfl)) (pgs_cons (pg_name (i := 3) sc_dot.nd rfl (Or.inl rfl)) pgs_nil)))) (fun _ _ _ _ _ => pts_nil) (fun _ _ _ _ _ => (pe_op op_mulW (pv 2) (pv 3)))) pa_nil)))), ?_⟩
    refine ⟨_, rfl, _, rfl, a, b, _, _, rfl, hA, hB, fun D nD => ?_⟩
    refine lc_it (walk_zip (n := 7) (xs := r.map V.int) (ys := c.map V.int) (by rw [len_map, len_map, lr, lc]; rfl)) (fun i H' => Same H H' ∧ H' D = some (.lst (((List.range i).map fun t => r.getD t 0 * c.getD t 0).map V.int))) ⟨same_upd nD, upd_same⟩ (fun i H' _ h => ⟨h.1.seq hA, h.1.seq hB⟩) (fun i x H' H2 hi h y => ?_) (fun H' h => ?_)
    · obtain ⟨sm, hD⟩ := h
      obtain ⟨t, x, y, rfl, nt, rfl, hx, hy⟩ := y
      have hx : (r.map V.int)[i]? = some x := hx
      have hy : (c.map V.int)[i]? = some y := hy
      rw [get_map (getD_get (ns := r) (t := i) (by omega))] at hx
      rw [get_map (getD_get (ns := c) (t := i) (by omega))] at hy
      cases hx
      cases hy
      have sm2 := sm.trans (same_upd (o := .tup [V.int (r.getD i 0), V.int (c.getD i 0)]) nt)
      have hD2 := same_upd (o := .tup [V.int (r.getD i 0), V.int (c.getD i 0)]) nt _ _ hD
      refine ⟨t, [V.int (r.getD i 0), V.int (c.getD i 0)], rfl, SqT.of upd_same, rfl, _, _, rfl, _, _, rfl, rfl, rfl, _, rfl, _, rfl, _, _, rfl, rfl, bw_mul (br i) (bc i) (by decide) (by decide) (by decide), _, hD2, ?_, same_new sm2 nD, ?_⟩
      · rw [List.length_map, List.length_map, List.length_range]
        exact small1000 (by omega)
      · rw [upd_same]
        exact congrArg (fun z => some (HO.lst z)) (range_snoc (fun t => r.getD t 0 * c.getD t 0) i)
    · exact ⟨D, _, rfl, SqL.of h.2, q H' h.1⟩

def sp_is_integer (K : PySem.W.Frag) : Sp := fun vs H Q _ => ∃ z : Int, vs = [.int z] ∧ ∀ H', Same H H' → Q (.bl true) H'
theorem ok_is_integer (T : Top w K mg) : FnOk P w K mg base CX0 1 T.a_is_integer T.d_is_integer ["thing"] (sp_is_integer K) := by
  refine T.F_is_integer.ok sc_is_integer (fun vs H Q E h => ?_) (fun cdv A outer s H vs Q E hr h => ?_)
  · obtain ⟨z, rfl, _⟩ := h
    rfl
  · obtain ⟨z, rfl, q⟩ := h
    refine ⟨_, (pss_one (ps_ret (pe_and (pe_callB (k_isi K) (by rfl) T.z_isinstance bt_isinstance (pa_cons (pv 0) (pa_cons (pe_bltn (v := .ty "int") (by rfl) T.z_int bt_int rfl) pa_nil))) (pe_one (pe_not (pe_callB (k_isi K) (by rfl) T.z_isinstance bt_isinstance (pa_cons (pv 0) (pa_cons (pe_bltn (v := .ty "bool") (by rfl) T.z_bool bt_bool rfl) pa_nil)))))))), ?_⟩
    refine ⟨_, rfl, _, _, _, _, true, rfl, .ty _, .base (.int z), kit_ty (by decide +kernel), true, rfl, _, rfl, _, _, _, _, false, rfl, .ty _, .base (.int z), kit_ty (by decide +kernel), false, rfl, ?_⟩
    exact q _ (Same.refl _)
def sp_is_pen (K : PySem.W.Frag) : Sp := fun vs H Q _ => ∃ (a : Addr) (ps : List Int), vs = [.ref a] ∧ H a = some (.tup (ps.map V.int)) ∧ ps.length = 6 ∧ ∀ H', Same H H' → Q (.bl true) H'
theorem trues2 (n : Nat) : ((List.replicate n true).all id) = true := by
  induction n with
  | zero => rfl
  | succ n ih => rw [List.replicate_succ, List.all_cons, ih]; rfl
theorem ok_is_pen (T : Top w K mg) : FnOk P w K mg base CX0 2 T.a_is_pen T.d_is_pen ["thing"] (sp_is_pen K) := by
  refine T.F_is_pen.ok sc_is_pen (fun vs H Q E h => ?_) (fun cdv A outer s H vs Q E hr h => ?_)
  · obtain ⟨a, ps, rfl, _⟩ := h
    rfl
  · obtain ⟨a, ps, rfl, ha, hl, q⟩ := h
    refine ⟨_, (pss_one (ps_ret (pe_and (pe_callB (k_isi K) (by rfl) T.z_isinstance bt_isinstance (pa_cons (pv 0) (pa_cons (pe_bltn (v := .ty "tuple") (by rfl) T.z_tuple bt_tuple rfl) pa_nil))) (pe_and (pe_cmpR op_eq (pe_callB (k_len K) (by rfl) T.z_len bt_len (pa_cons (pv 0) pa_nil)) pe_int (nomark _)) (pe_one (pe_callB (k_all K) (by rfl) T.z_all bt_all (pa_cons (pe_lc (own := [("number", 1)]) (g := (gName 1)) (tt := tYes) rfl sc_is_pen.nd (k_piT K (pv 0)) (blkOk_by (N := N_is_pen) (sc := defScope s_is_pen) (by decide +kernel)) (fun _ _ _ _ _ => (pg_name (i := 1) sc_is_pen.nd rfl (Or.inl rfl))) (fun _ _ _ _ _ => pts_nil) (fun _ _ _ _ _ => (pe_call (ok_is_integer T) hr (by rfl) T.g_is_integer T.F_is_integer.kp (b_is_integer T) .nil pass0 (pa_cons (pv 1) pa_nil)))) pa_nil))))))), ?_⟩
    refine ⟨_, rfl, _, _, _, _, true, rfl, .ty _, .base (.tup ha), kit_ty (by decide +kernel), true, rfl, _, rfl, a, _, rfl, .inr (SqT.of ha), rfl, _, rfl, iteP (by rw [len_map, hl]; rfl) ?_⟩
    refine ⟨_, rfl, a, rfl, ⟨_, SqT.of ha⟩, fun D nD => lc_tup (xs := ps.map V.int) (fun i H' => Same H H' ∧ H' D = some (.lst ((List.replicate i true).map V.bl))) ⟨same_upd nD, upd_same⟩ (fun i H' _ h => SqT.of (h.1 _ _ ha)) (fun i x H' hx h => ?_) (fun H' h => ?_)⟩
    · have hi := (List.getElem?_eq_some_iff.mp hx).1
      rw [len_map] at hi
      rw [List.getElem?_map, List.getElem?_eq_getElem hi] at hx
      cases hx
      refine ⟨rfl, _, rfl, _, rfl, fun J sJ => ⟨_, sJ _ _ h.2, ?_, same_new (h.1.trans sJ) nD, ?_⟩⟩
      · rw [List.length_map, List.length_replicate]
        exact small1000 (by omega)
      · rw [upd_same, List.replicate_succ', List.map_append]
        rfl
    · refine ⟨D, _, rfl, SqL.of h.2, ?_⟩
      rw [trues2]
      exact q _ h.1

def sp_vector (K : PySem.W.Frag) : Sp := fun vs H Q _ => ∃ (a : Addr) (ps : List Int), vs = [.ref a] ∧ H a = some (.tup (ps.map V.int)) ∧ ps.length = 6 ∧
  ∀ (q : Addr) (H' : Hp), Same H H' → H q = none → H' q = some (.lst ((1 :: ps).map V.int)) → Q (.ref q) H'
theorem ok_vector (T : Top w K mg) : FnOk P w K mg base CX0 3 T.a_vector T.d_vector ["pen"] (sp_vector K) := by
  refine T.F_vector.ok sc_vector (fun vs H Q E h => ?_) (fun cdv A outer s H vs Q E hr h => ?_)
  · obtain ⟨a, ps, rfl, _⟩ := h
    rfl
  · obtain ⟨a, ps, rfl, ha, hl, q⟩ := h
    refine ⟨_, (pss_cons (ps_if (pt_not (pt_val (pe_call (ok_is_pen T) hr (by rfl) T.g_is_pen T.F_is_pen.kp (b_is_pen T) .nil pass0 (pa_cons (pv 0) pa_nil)))) (pss_one ps_never) pss_nil)
      (pss_one (ps_ret (pe_lst (pa_cons pe_int (k_star K (pv 0) pa_nil)))))), ?_⟩
    refine ⟨_, rfl, a, ps, rfl, ha, hl, fun H1 s1 => ⟨true, rfl, ?_⟩⟩
    refine ⟨_, rfl, a, _, rfl, .inl (SqT.of (s1 _ _ ha)), ?_, fun p np => ?_⟩
    · simp only [List.length_cons, List.length_append, List.length_map, List.length_nil]
      exact small100 (by omega)
    · refine q p _ (same_new s1 (s1.free np)) (s1.free np) ?_
      rw [upd_same, List.append_nil]
      rfl

def image (ns ps : List Int) : List Int := (List.range 6).map fun t => S 7 fun k => ns.getD (7 * (t + 1) + k) 0 * (1 :: ps).getD k 0
theorem one_bw {b : Nat} {ps : List Int} (h : Bw b ps) (hb : 0 < b) : Bw b (1 :: ps) := fun t => by
  match t with
  | 0 =>
    show 1 < 2 ^ b
    exact Nat.one_lt_two_pow (by omega)
  | t + 1 => exact h t

def sp_applied (K : PySem.W.Frag) : Sp := fun vs H Q _ => ∃ (a b : Addr) (ns ps : List Int), vs = [.ref a, .ref b] ∧ SqL K H a (ns.map V.int) ∧ H b = some (.tup (ps.map V.int)) ∧ ns.length = 49 ∧ ps.length = 6 ∧ Bw 2000 ns ∧ Bw 2000 ps ∧
  ∀ (q : Addr) (H' : Hp), Same H H' → H q = none → H' q = some (.tup ((image ns ps).map V.int)) → Q (.ref q) H'
theorem ok_applied (T : Top w K mg) : FnOk P w K mg base CX0 4 T.a_applied T.d_applied ["matrix", "pen"] (sp_applied K) := by
  refine T.F_applied.ok sc_applied (fun vs H Q E h => ?_) (fun cdv A outer s H vs Q E hr h => ?_)
  · obtain ⟨a, b, ns, ps, rfl, _⟩ := h
    rfl
  · obtain ⟨a, b, ns, ps, rfl, hA, hB, ln, lp, bn, bp, q⟩ := h
    refine ⟨_, (pss_cons (ps_set (i := 2) sc_applied.nd rfl (Or.inr rfl) (pe_call (ok_vector T) hr (by rfl) T.g_vector T.F_vector.kp (b_vector T) .nil pass0 (pa_cons (pv 1) pa_nil)))
      (pss_one (ps_ret (pe_callTy (k_tuple K) (by rfl) T.z_tuple bt_tuple (pa_cons (pe_lc (own := [("i", 3)]) (g := (gName 3)) (tt := tYes) rfl sc_applied.nd (pi_range2 (by rfl) T.z_range (pa_cons pe_int (pa_cons pe_int pa_nil))) (blkOk_by (N := N_applied) (sc := defScope s_applied) (by decide +kernel)) (fun _ _ _ _ _ => (pg_name (i := 3) sc_applied.nd rfl (Or.inl rfl))) (fun _ _ _ _ _ => pts_nil) (fun _ _ _ _ _ => (pe_call (ok_dot T) (hr.mono (by decide)) (by rfl) T.g_dot T.F_dot.kp (b_dot T) .nil pass0 (pa_cons (pe_call (ok_row_of T) (hr.mono (by decide)) (by rfl) T.g_row_of T.F_row_of.kp (b_row_of T) .nil pass0 (pa_cons (pv 0) (pa_cons (pv 3) pa_nil))) (pa_cons (pv 2) pa_nil))))) pa_nil))))), ?_⟩
    refine ⟨_, rfl, b, ps, rfl, hB, lp, fun v H1 s1 nv hv => ?_⟩
    refine ⟨1, 7, rfl, ⟨by decide, by decide, by decide, by decide⟩, fun D nD => lc_range (lo := 1) (n := 6) (fun i H' => Same H1 H' ∧ H' D = some (.lst (((List.range i).map fun t => S 7 fun k => ns.getD (7 * (t + 1) + k) 0 * (1 :: ps).getD k 0).map V.int))) ⟨same_upd nD, upd_same⟩ (fun i H' hi h => ?_) (fun H2 h => ?_)⟩
    · obtain ⟨sm, hD⟩ := h
      refine ⟨rfl, _, rfl, _, rfl, a, ns, _, i + 1, rfl, by omega, (s1.trans sm).seq hA, ln, by omega, fun r J s2 nr hr => ?_⟩
      refine ⟨_, rfl, r, v, row ns (i + 1), 1 :: ps, rfl, SqL.of hr, SqL.of (s2 _ _ (sm _ _ hv)), row_len _ _, by rw [List.length_cons, lp], row_bw bn _, one_bw bp (by decide), fun J2 s3 => ⟨_, s3 _ _ (s2 _ _ hD), ?_, same_new (sm.trans (s2.trans s3)) nD, ?_⟩⟩
      · rw [List.length_map, List.length_map, List.length_range]
        exact small1000 (by omega)
      · rw [upd_same]
        refine congrArg (fun z => some (HO.lst z)) (Eq.trans ?_ (range_snoc (fun t => S 7 fun k => ns.getD (7 * (t + 1) + k) 0 * (1 :: ps).getD k 0) i))
        have e : dot7 (row ns (i + 1)) (1 :: ps) = S 7 fun k => ns.getD (7 * (i + 1) + k) 0 * (1 :: ps).getD k 0 := S_congr fun k hk => by
          unfold row
          rw [getD7, if_pos hk]
        rw [e]
    · obtain ⟨s2, hD⟩ := h
      refine ⟨D, _, rfl, SqL.of hD, fun t nt => ?_⟩
      have s := s1.trans s2
      exact q t _ (same_new s (s.free nt)) (s.free nt) upd_same

def sp__law_is_integer (K : PySem.W.Frag) : Sp := fun vs H Q _ => ∃ z : Int, vs = [.int z] ∧ ∀ H', Same H H' → Q (.bl true) H'
theorem list6 {ps : List Int} (h : ps.length = 6) : [ps.getD 0 0, ps.getD 1 0, ps.getD 2 0, ps.getD 3 0, ps.getD 4 0, ps.getD 5 0] = ps := by
  match ps, h with
  | [a, b, c, d, e, f], _ => rfl
def sp__law_pen (K : PySem.W.Frag) : Sp := fun vs H Q _ => ∃ (p : Addr) (L : Nat), vs = [.ref p] ∧ Pool H p L ∧ 2 ≤ L ∧ L ≤ 64 ∧
  ∀ (q : Addr) (ps : List Int) (H' : Hp), ps.length = 6 → (∀ n ∈ ps, Bd n) → Kp p H H' → Pool H' p L → H q = none → H' q = some (.tup (ps.map V.int)) → Q (.ref q) H'
theorem ok__law_pen (T : Top w K mg) : FnOk P w K mg base CX0 3 T.a__law_pen T.d__law_pen ["_law_pool_here"] (sp__law_pen K) := by
  refine T.F__law_pen.ok sc__law_pen (fun vs H Q E h => ?_) (fun cdv A outer s H vs Q E hr h => ?_)
  · obtain ⟨p, L, rfl, _⟩ := h
    rfl
  · obtain ⟨p, L, rfl, pl, h2, h64, q⟩ := h
    refine ⟨_, (pss_cons (ps_setLc (i := 1) (own := [("_law_k", 2)]) (g := (gName 2)) (tt := tYes) rfl sc__law_pen.nd rfl rfl (sw_true rfl rfl rfl (by decide +kernel)) (pi_range1 (by rfl) T.z_range (pa_cons pe_int pa_nil)) (blkOk_by (N := N__law_pen) (sc := defScope s__law_pen) (by decide +kernel)) (fun _ _ _ _ _ => (pg_name (i := 2) sc__law_pen.nd rfl (Or.inl rfl))) (fun _ _ _ _ _ => pts_nil) (fun _ _ _ _ _ => (pe_call (ok__law_number T) hr (by rfl) T.g__law_number T.F__law_number.kp (b__law_number T) .nil pass0 (pa_cons (pv 0) pa_nil))))
      (pss_one (ps_ret (pe_tup (pa_cons (pe_ix (k_ixL K) (pv 1) pe_int (fun _ _ => rfl)) (pa_cons (pe_ix (k_ixL K) (pv 1) pe_int (fun _ _ => rfl)) (pa_cons (pe_ix (k_ixL K) (pv 1) pe_int (fun _ _ => rfl)) (pa_cons (pe_ix (k_ixL K) (pv 1) pe_int (fun _ _ => rfl)) (pa_cons (pe_ix (k_ixL K) (pv 1) pe_int (fun _ _ => rfl)) (pa_cons (pe_ix (k_ixL K) (pv 1) pe_int (fun _ _ => rfl)) pa_nil)))))))))), ?_⟩
    refine ⟨6, rfl, by decide, by decide, fun D nD => ?_⟩
    have hDp : D ≠ p := pl.ne nD
    refine lc_range (n := 6) (fun i H' => ∃ ps : List Int, ps.length = i ∧ (∀ n ∈ ps, Bd n) ∧ Kp p H H' ∧ Pool H' p L ∧ H' D = some (.lst (ps.map V.int))) ⟨[], rfl, (by intro n hn; cases hn), (Kp.refl p H).new nD, pl.new nD, upd_same⟩ (fun i H' hi h => ?_) (fun H1 h => ?_)
    · obtain ⟨ps, hl, hb, k, pl1, hD⟩ := h
      refine ⟨rfl, _, rfl, p, L, rfl, pl1, h2, h64, fun r J br kJ plJ => ⟨_, kJ _ _ hDp hD, ?_, ps ++ [r], by rw [List.length_append, hl]; rfl, ?_, (k.trans kJ).new nD, plJ.keep hDp, ?_⟩⟩
      · rw [len_map, hl]
        exact small1000 (by omega)
      · intro n hn
        rcases List.mem_append.mp hn with hn | hn
        · exact hb n hn
        · rw [List.mem_singleton.mp hn]
          exact br
      · rw [upd_same, List.map_append]
        rfl
    · obtain ⟨ps, hl, hb, k, pl1, hD⟩ := h
      have at6 : ∀ {t : Nat} {z : Int}, z = (t : Int) → t < 6 → atI (ps.map V.int) z = some (.int (ps.getD t 0)) := fun e ht => at_nat e (by omega)
      have hd := SqL.of (K := K) hD
      refine ⟨_, rfl, D, _, _, _, rfl, rfl, hd, at6 (t := 0) rfl (by decide), _, rfl, D, _, _, _, rfl, rfl, hd, at6 (t := 1) rfl (by decide), _, rfl, D, _, _, _, rfl, rfl, hd, at6 (t := 2) rfl (by decide),
        _, rfl, D, _, _, _, rfl, rfl, hd, at6 (t := 3) rfl (by decide), _, rfl, D, _, _, _, rfl, rfl, hd, at6 (t := 4) rfl (by decide), _, rfl, D, _, _, _, rfl, rfl, hd, at6 (t := 5) rfl (by decide), small100 (n := 6) (by decide), fun t nt => ?_⟩
      have nt0 : H t = none := k.none nt (pl1.ne nt)
      refine q t ps _ hl hb (k.new nt0) (pl1.new nt) nt0 ?_
      rw [upd_same]
      exact congrArg (fun z => some (HO.tup (z.map V.int))) (list6 hl)

def sp__law_is_pen (K : PySem.W.Frag) : Sp := fun vs H Q _ => ∃ (a : Addr) (ps : List Int), vs = [.ref a] ∧ H a = some (.tup (ps.map V.int)) ∧ ps.length = 6 ∧ ∀ H', Same H H' → Q (.bl true) H'
theorem ok__law_is_pen (T : Top w K mg) : FnOk P w K mg base CX0 2 T.a__law_is_pen T.d__law_is_pen ["_law_value"] (sp__law_is_pen K) := by
  refine T.F__law_is_pen.ok sc__law_is_pen (fun vs H Q E h => ?_) (fun cdv A outer s H vs Q E hr h => ?_)
  · obtain ⟨a, ps, rfl, _⟩ := h
    rfl
  · obtain ⟨a, ps, rfl, ha, hl, q⟩ := h
    refine ⟨_, (pss_one (ps_ret (pe_and (pe_callB (k_isi K) (by rfl) T.z_isinstance bt_isinstance (pa_cons (pv 0) (pa_cons (pe_bltn (v := .ty "tuple") (by rfl) T.z_tuple bt_tuple rfl) pa_nil))) (pe_one (pe_call (ok__law_is_row T) hr (by rfl) T.g__law_is_row T.F__law_is_row.kp (b__law_is_row T) .nil pass0 (pa_cons (pv 0) (pa_cons pe_int pa_nil))))))), ?_⟩
    refine ⟨_, rfl, _, _, _, _, true, rfl, .ty _, .base (.tup ha), kit_ty (by decide +kernel), true, rfl, _, rfl, a, ps, 6, rfl, .inr (SqT.of ha), by omega, fun b H' hb sm => ?_⟩
    rw [hb (by rw [hl]; rfl)]
    exact q H' sm

def sp__law_image (K : PySem.W.Frag) : Sp := fun vs H Q _ => ∃ (a b : Addr) (ns ps : List Int), vs = [.ref a, .ref b] ∧ SqL K H a (ns.map V.int) ∧ H b = some (.tup (ps.map V.int)) ∧ ns.length = 49 ∧ ps.length = 6 ∧ Bw 2000 ns ∧ Bw 2000 ps ∧
  ∀ (q : Addr) (H' : Hp), Same H H' → H q = none → H' q = some (.tup ((image ns ps).map V.int)) → Q (.ref q) H'
theorem ok__law_image (T : Top w K mg) : FnOk P w K mg base CX0 1 T.a__law_image T.d__law_image ["_law_matrix", "_law_begin"] (sp__law_image K) := by
  refine T.F__law_image.ok sc__law_image (fun vs H Q E h => ?_) (fun cdv A outer s H vs Q E hr h => ?_)
  · obtain ⟨a, b, ns, ps, rfl, _⟩ := h
    rfl
  · obtain ⟨a, b, ns, ps, rfl, hA, hB, ln, lp, bn, bp, q⟩ := h
    refine ⟨_, (pss_cons (ps_set (i := 2) sc__law_image.nd rfl (Or.inr rfl) (pe_lst (pa_cons pe_int (pa_cons (pe_ix (k_ixT K) (pv 1) pe_int (fun _ _ => rfl)) (pa_cons (pe_ix (k_ixT K) (pv 1) pe_int (fun _ _ => rfl)) (pa_cons (pe_ix (k_ixT K) (pv 1) pe_int (fun _ _ => rfl)) (pa_cons (pe_ix (k_ixT K) (pv 1) pe_int (fun _ _ => rfl)) (pa_cons (pe_ix (k_ixT K) (pv 1) pe_int (fun _ _ => rfl)) (pa_cons (pe_ix (k_ixT K) (pv 1) pe_int (fun _ _ => rfl)) pa_nil)))))))))
      (pss_cons (ps_setLc (i := 3) (own := [("_law_i", 4)]) (g := (gName 4)) (tt := tYes) rfl sc__law_image.nd rfl rfl (sw_true rfl rfl rfl (by decide +kernel)) (pi_range1 (by rfl) T.z_range (pa_cons pe_int pa_nil)) (blkOk_by (N := N__law_image) (sc := defScope s__law_image) (by decide +kernel)) (fun _ _ _ _ _ => (pg_name (i := 4) sc__law_image.nd rfl (Or.inr rfl))) (fun _ _ _ _ _ => pts_nil) (fun _ _ _ _ _ => (pe_callB (k_sum K) (by rfl) T.z_sum bt_sum (pa_cons (pe_lc (own := [("_law_j", 5)]) (g := (gName 5)) (tt := tYes) rfl sc__law_image.nd (pi_range1 (by rfl) T.z_range (pa_cons pe_int pa_nil)) (blkOk_by (N := N__law_image) (sc := (relS ({ kind := .function, names := [(".0", .local), ("_law_i", .cell), ("sum", .globalImplicit), ("range", .globalImplicit), ("_law_ahead", .free), ("_law_matrix", .free)], isGenerator := false, isCoroutine := false } : Scope) (defScope s__law_image))) (by decide +kernel)) (fun _ _ _ _ _ => (pg_name (i := 5) sc__law_image.nd rfl (Or.inl rfl))) (fun _ _ _ _ _ => pts_nil) (fun _ _ _ _ _ => (pe_op op_mulW (pe_ix (k_ixL K) (pv 0) (pe_op op_add (pe_op op_mul pe_int (pv 4)) (pv 5)) (fun _ _ => rfl)) (pe_ix (k_ixL K) (pv 2) (pv 5) (fun _ _ => rfl))))) pa_nil))))
      (pss_one (ps_ret (pe_tup (pa_cons (pe_ix (k_ixL K) (pv 3) pe_int (fun _ _ => rfl)) (pa_cons (pe_ix (k_ixL K) (pv 3) pe_int (fun _ _ => rfl)) (pa_cons (pe_ix (k_ixL K) (pv 3) pe_int (fun _ _ => rfl)) (pa_cons (pe_ix (k_ixL K) (pv 3) pe_int (fun _ _ => rfl)) (pa_cons (pe_ix (k_ixL K) (pv 3) pe_int (fun _ _ => rfl)) (pa_cons (pe_ix (k_ixL K) (pv 3) pe_int (fun _ _ => rfl)) pa_nil))))))))))), ?_⟩
    have at6 : ∀ {t : Nat} {z : Int}, z = (t : Int) → t < 6 → atI (ps.map V.int) z = some (.int (ps.getD t 0)) := fun e ht => at_nat e (by omega)
    have hd := SqT.of (K := K) hB
    refine ⟨_, rfl, b, _, _, _, rfl, rfl, hd, at6 (t := 0) rfl (by decide), _, rfl, b, _, _, _, rfl, rfl, hd, at6 (t := 1) rfl (by decide), _, rfl, b, _, _, _, rfl, rfl, hd, at6 (t := 2) rfl (by decide),
      _, rfl, b, _, _, _, rfl, rfl, hd, at6 (t := 3) rfl (by decide), _, rfl, b, _, _, _, rfl, rfl, hd, at6 (t := 4) rfl (by decide), _, rfl, b, _, _, _, rfl, rfl, hd, at6 (t := 5) rfl (by decide), small100 (n := 7) (by decide), fun x nx => ?_⟩
    have eh : [V.int 1, .int (ps.getD 0 0), .int (ps.getD 1 0), .int (ps.getD 2 0), .int (ps.getD 3 0), .int (ps.getD 4 0), .int (ps.getD 5 0)] = (1 :: ps).map V.int := congrArg (fun z => V.int 1 :: z.map V.int) (list6 lp)
    rw [eh]
    have s1 := same_upd (o := .lst ((1 :: ps).map V.int)) nx
    have hx : (upd H x (.lst ((1 :: ps).map V.int))) x = some (.lst ((1 :: ps).map V.int)) := upd_same
    generalize upd H x (.lst ((1 :: ps).map V.int)) = H1 at *
    let g : Nat → Int := fun i => S 7 fun j => ns.getD (7 * i + j) 0 * (1 :: ps).getD j 0
    refine ⟨7, rfl, by decide, by decide, fun D nD => lc_range (n := 7) (fun i H' => Same H1 H' ∧ H' D = some (.lst (((List.range i).map g).map V.int))) ⟨same_upd nD, upd_same⟩ (fun i H' hi h => ?_) (fun H2 h => ?_)⟩
    · obtain ⟨sm, hD⟩ := h
      refine ⟨rfl, 7, rfl, by decide, by decide, fun C nC => lc_range (n := 7) (fun k J => Same H' J ∧ J C = some (.lst (((List.range k).map fun j => ns.getD (7 * i + j) 0 * (1 :: ps).getD j 0).map V.int))) ⟨same_upd nC, upd_same⟩ (fun k J hk h => ?_) (fun J h => ?_)⟩
      · obtain ⟨sJ, hC⟩ := h
        refine ⟨rfl, _, rfl, _, rfl, _, _, rfl, rfl, .inl ⟨by decide, by decide⟩, _, rfl, _, _, rfl, rfl, a, _, _, _, rfl, rfl, (s1.trans (sm.trans sJ)).seq hA, at_nat (t := 7 * i + k) (by omega) (by omega), _, rfl, _, rfl, x, _, _, _, rfl, rfl, SqL.of (sJ _ _ (sm _ _ hx)), at_nat (ns := 1 :: ps) (t := k) (by omega) (by rw [List.length_cons, lp]; exact hk), _, _, rfl, rfl, bw_mul (bn _) (one_bw bp (by decide) k) (by decide) (by decide) (by decide), _, hC, ?_, same_new sJ nC, ?_⟩
        · rw [List.length_map, List.length_map, List.length_range]
          exact small1000 (by omega)
        · rw [upd_same]
          exact congrArg (fun z => some (HO.lst z)) (range_snoc (fun j => ns.getD (7 * i + j) 0 * (1 :: ps).getD j 0) k)
      · obtain ⟨sJ, hC⟩ := h
        refine ⟨C, _, rfl, SqL.of hC, _, sJ _ _ hD, ?_, same_new (sm.trans sJ) nD, ?_⟩
        · rw [List.length_map, List.length_map, List.length_range]
          exact small1000 (by omega)
        · rw [upd_same]
          exact congrArg (fun z => some (HO.lst z)) (range_snoc g i)
    · obtain ⟨s2, hD⟩ := h
      have at7 : ∀ {t : Nat} {z : Int}, z = (t : Int) → t < 7 → atI (((List.range 7).map g).map V.int) z = some (.int (g t)) := fun {t z} e ht => by
        have := at_nat (ns := (List.range 7).map g) (t := t) e (by rw [List.length_map, List.length_range]; exact ht)
        rw [getD7, if_pos ht] at this
        exact this
      have hd := SqL.of (K := K) hD
      refine ⟨_, rfl, D, _, _, _, rfl, rfl, hd, at7 (t := 1) rfl (by decide), _, rfl, D, _, _, _, rfl, rfl, hd, at7 (t := 2) rfl (by decide), _, rfl, D, _, _, _, rfl, rfl, hd, at7 (t := 3) rfl (by decide),
        _, rfl, D, _, _, _, rfl, rfl, hd, at7 (t := 4) rfl (by decide), _, rfl, D, _, _, _, rfl, rfl, hd, at7 (t := 5) rfl (by decide), _, rfl, D, _, _, _, rfl, rfl, hd, at7 (t := 6) rfl (by decide), small100 (n := 6) (by decide), fun t nt => ?_⟩
      have s := s1.trans s2
      refine q t _ (same_new s (s.free nt)) (s.free nt) ?_
      rw [upd_same]
      rfl

theorem ok__law_is_integer (T : Top w K mg) : FnOk P w K mg base CX0 1 T.a__law_is_integer T.d__law_is_integer ["_law_value"] (sp__law_is_integer K) := by
  refine T.F__law_is_integer.ok sc__law_is_integer (fun vs H Q E h => ?_) (fun cdv A outer s H vs Q E hr h => ?_)
  · obtain ⟨z, rfl, _⟩ := h
    rfl
  · obtain ⟨z, rfl, q⟩ := h
    refine ⟨_, (pss_one (ps_ret (pe_and (pe_callB (k_isi K) (by rfl) T.z_isinstance bt_isinstance (pa_cons (pv 0) (pa_cons (pe_bltn (v := .ty "int") (by rfl) T.z_int bt_int rfl) pa_nil))) (pe_one (pe_not (pe_callB (k_isi K) (by rfl) T.z_isinstance bt_isinstance (pa_cons (pv 0) (pa_cons (pe_bltn (v := .ty "bool") (by rfl) T.z_bool bt_bool rfl) pa_nil)))))))), ?_⟩
    refine ⟨_, rfl, _, _, _, _, true, rfl, .ty _, .base (.int z), kit_ty (by decide +kernel), true, rfl, _, rfl, _, _, _, _, false, rfl, .ty _, .base (.int z), kit_ty (by decide +kernel), false, rfl, ?_⟩
    exact q _ (Same.refl _)

def spLaw (K : PySem.W.Frag) : Sp := fun vs H Q _ => ∃ (a : Addr) (ns : List Int), vs = [.ref a] ∧ SqL K H a (ns.map V.int) ∧ ns.length ≤ 63 ∧ ∀ H', Q (.bl true) H'
theorem cat1 (ps : List Int) : [V.int 1] ++ ps.map V.int = (1 :: ps).map V.int := rfl
theorem ok_law (T : Top w K mg) : FnOk P w K mg base CX0 5 T.a_law T.d_law ["_law_script"] (spLaw K) := by
  refine T.F_law.ok sc_law (fun vs H Q E h => ?_) (fun cdv A outer s H vs Q E hr h => ?_)
  · obtain ⟨a, ns, rfl, _⟩ := h
    rfl
  · obtain ⟨a, ns, rfl, hS, hlen, q⟩ := h
    refine ⟨_, (pss_cons (ps_set (i := 1) sc_law.nd rfl (Or.inl rfl) (pe_call (ok__law_pool T) (hr.mono (by decide)) (by rfl) T.g__law_pool T.F__law_pool.kp (b__law_pool T) .nil pass0 (pa_cons (pv 0) pa_nil)))
      (pss_cons (ps_for PassesOwn.never rfl (pi_range1 (by rfl) T.z_range (pa_cons (pe_op op_add pe_int (pe_op op_fdiv (pe_callB (k_len K) (by rfl) T.z_len bt_len (pa_cons (pv 1) pa_nil)) pe_int)) pa_nil)) (pg_name (i := 2) sc_law.nd rfl (Or.inl rfl)) (pss_cons (ps_set (i := 3) sc_law.nd rfl (Or.inl rfl) (pe_call (ok__law_any_matrix T) (hr.mono (by decide)) (by rfl) T.g__law_any_matrix T.F__law_any_matrix.kp (b__law_any_matrix T) .nil pass0 (pa_cons (pv 1) pa_nil)))
        (pss_cons (ps_set (i := 4) sc_law.nd rfl (Or.inl rfl) (pe_call (ok__law_pen T) (hr.mono (by decide)) (by rfl) T.g__law_pen T.F__law_pen.kp (b__law_pen T) .nil pass0 (pa_cons (pv 1) pa_nil)))
        (pss_cons (ps_set (i := 5) sc_law.nd rfl (Or.inl rfl) (pe_callTy (k_list K) (by rfl) T.z_list bt_list (pa_cons (pv 3) pa_nil)))
        (pss_cons (ps_set (i := 6) sc_law.nd rfl (Or.inl rfl) (pe_call (ok_applied T) hr (by rfl) T.g_applied T.F_applied.kp (b_applied T) .nil pass0 (pa_cons (pv 5) (pa_cons (pv 4) pa_nil))))
        (pss_cons (ps_if (PW.pt (pw_or (pt_not (pt_val (pe_call (ok__law_is_pen T) (hr.mono (by decide)) (by rfl) T.g__law_is_pen T.F__law_is_pen.kp (b__law_is_pen T) .nil pass0 (pa_cons (pv 6) pa_nil)))) (pw_or (pt_cmpR (k_neTI K (hu64 hr)) (pv 6) (pe_call (ok__law_image T) (hr.mono (by decide)) (by rfl) T.g__law_image T.F__law_image.kp (b__law_image T) .nil pass0 (pa_cons (pv 3) (pa_cons (pv 4) pa_nil))) (nomark _)) (pw_or1 (pt_cmpR (k_neI K (hu64 hr)) (pv 5) (pv 3) (nomark _)))))) (pss_one (ps_ret pe_bl)) pss_nil)
        (pss_cons (ps_set (i := 7) sc_law.nd rfl (Or.inl rfl) (pe_call (ok_vector T) (hr.mono (by decide)) (by rfl) T.g_vector T.F_vector.kp (b_vector T) .nil pass0 (pa_cons (pv 4) pa_nil)))
        (pss_cons (ps_if (PW.pt (pw_or (pt_not (pt_val (pe_callB (k_isi K) (by rfl) T.z_isinstance bt_isinstance (pa_cons (pv 7) (pa_cons (pe_bltn (v := .ty "list") (by rfl) T.z_list bt_list rfl) pa_nil))))) (pw_or1 (pt_cmpR (k_neI K (hu64 hr)) (pv 7) (pe_op op_cat (pe_lst (pa_cons pe_int pa_nil)) (pe_callTy (k_listT K) (by rfl) T.z_list bt_list (pa_cons (pv 4) pa_nil))) (nomark _))))) (pss_one (ps_ret pe_bl)) pss_nil)
        (pss_cons (ps_for PassesOwn.never rfl (k_piL K (pv 7)) (pg_name (i := 8) sc_law.nd rfl (Or.inl rfl)) (pss_one (ps_if (pt_not (pt_val (pe_call (ok__law_is_integer T) (hr.mono (by decide)) (by rfl) T.g__law_is_integer T.F__law_is_integer.kp (b__law_is_integer T) .nil pass0 (pa_cons (pv 8) pa_nil)))) (pss_one (ps_ret pe_bl)) pss_nil)))
        (pss_cons (ps_asg pe_int (pg_sub (pv 7) pe_int set_list))
        (pss_one (ps_if (pt_cmpR (k_neI K (hu64 hr)) (pe_call (ok_vector T) (hr.mono (by decide)) (by rfl) T.g_vector T.F_vector.kp (b_vector T) .nil pass0 (pa_cons (pv 4) pa_nil)) (pe_op op_cat (pe_lst (pa_cons pe_int pa_nil)) (pe_callTy (k_listT K) (by rfl) T.z_list bt_list (pa_cons (pv 4) pa_nil))) (nomark _)) (pss_one (ps_ret pe_bl)) pss_nil))))))))))))
      (pss_one (ps_ret pe_bl)))), ?_⟩
    refine ⟨_, rfl, a, ns, rfl, hS, hlen, fun H1 p L s1 np pl h2 h64 => ?_⟩
    obtain ⟨pn, hp, hL⟩ := pl
    have pl : Pool H1 p L := ⟨pn, hp, hL⟩
    refine ⟨_, rfl, p, _, rfl, .inl (SqL.of hp), _, _, rfl, rfl, ⟨by decide, by decide⟩, _, _, rfl, rfl, _, rfl, ?_, ?_, for_range (n := (1 + ((pn.map V.int).length : Int) / 8).toNat) (fun i σ H' => ∃ y2 y3 y4 y5 y6 y7 y8, σ = [some (.ref a), some (.ref p), y2, y3, y4, y5, y6, y7, y8] ∧ Pool H' p L) ?_ (fun i σ H' hi h => ?_) (fun σ H' h => ?_)⟩
    · rw [len_map]
      omega
    · rw [len_map]
      omega
    · exact ⟨none, none, none, none, none, none, none, rfl, pl⟩
    · obtain ⟨y2, y3, y4, y5, y6, y7, y8, rfl, pl1⟩ := h
      refine ⟨_, rfl, p, L, rfl, pl1, h2, h64, fun m ms H2 lm bm k2 pl2 nm hm => ?_⟩
      refine ⟨_, rfl, p, L, rfl, pl2, h2, h64, fun b ps H3 lp bp k3 pl3 nb hb => ?_⟩
      have hm := k3 _ _ (pl1.ne nm) hm
      have hb3 := hb
      have wm : Bw 2000 ms := (Bd.bw bm).mono (by decide)
      have wp : Bw 2000 ps := (Bd.bw bp).mono (by decide)
      refine ⟨_, rfl, m, _, rfl, .inl (SqL.of hm), fun x nx => ?_⟩
      have s4 := same_upd (o := .lst (ms.map V.int)) nx
      have hx : (upd H3 x (.lst (ms.map V.int))) x = some (.lst (ms.map V.int)) := upd_same
      generalize upd H3 x (.lst (ms.map V.int)) = H4 at *
      refine ⟨_, rfl, _, rfl, x, b, ms, ps, rfl, SqL.of hx, s4 _ _ hb, lm, lp, wm, wp, fun r H5 s5 nr hr5 => ?_⟩
      have il : (image ms ps).length = 6 := by unfold image; rw [List.length_map, List.length_range]
      refine ⟨_, rfl, r, _, rfl, hr5, il, fun H6 s6 => ⟨true, rfl, ?_⟩⟩
      have t46 := s5.trans s6
      have t36 := s4.trans t46
      refine ⟨_, rfl, _, rfl, _, rfl, m, b, ms, ps, rfl, SqL.of (t36 _ _ hm), t36 _ _ hb, lm, lp, wm, wp, fun r2 H7 s7 nr2 hr7 => ?_⟩
      have t37 := t36.trans s7
      refine ⟨r, r2, _, _, rfl, rfl, SqT.of (s7 _ _ (s6 _ _ hr5)), SqT.of hr7, _, rfl, iteNS rfl ?_⟩
      refine ⟨_, rfl, _, rfl, x, m, ms, ms, rfl, rfl, SqL.of (s7 _ _ (t46 _ _ hx)), SqL.of (t37 _ _ hm), _, rfl, iteNS rfl ?_⟩
      refine ⟨_, rfl, b, ps, rfl, t37 _ _ hb, lp, fun v H8 s8 nv hv => ?_⟩
      have t38 := t37.trans s8
      refine ⟨_, rfl, _, _, _, _, true, rfl, .ty _, .base (.lst hv), kit_ty (by decide +kernel), true, rfl, ?_⟩
      refine ⟨_, rfl, small100 (n := 1) (by decide), fun o no => ?_⟩
      have s9 := same_upd (o := .lst [V.int 1]) no
      have ho : (upd H8 o (.lst [V.int 1])) o = some (.lst [V.int 1]) := upd_same
      generalize upd H8 o (.lst [V.int 1]) = H9 at *
      refine ⟨_, rfl, b, _, rfl, .inr (SqT.of (s9 _ _ (t38 _ _ hb))), fun l nl => ?_⟩
      have s10 := same_upd (o := .lst (ps.map V.int)) nl
      have hl : (upd H9 l (.lst (ps.map V.int))) l = some (.lst (ps.map V.int)) := upd_same
      generalize upd H9 l (.lst (ps.map V.int)) = H10 at *
      refine ⟨o, l, _, _, rfl, rfl, s10 _ _ ho, hl, ?_, fun c nc => ?_⟩
      · rw [len_map, lp]
        exact small100 (n := 7) (by decide)
      rw [cat1]
      have s11 := same_upd (o := .lst ((1 :: ps).map V.int)) nc
      have hc : (upd H10 c (.lst ((1 :: ps).map V.int))) c = some (.lst ((1 :: ps).map V.int)) := upd_same
      generalize upd H10 c (.lst ((1 :: ps).map V.int)) = H11 at *
      have t8 := s9.trans (s10.trans s11)
      have hv := t8 _ _ hv
      have t311 := t38.trans t8
      refine ⟨v, c, 1 :: ps, 1 :: ps, rfl, rfl, SqL.of hv, SqL.of hc, _, rfl, iteNS rfl ?_⟩
      have nv3 : H3 v = none := t37.free nv
      have pl11 : Pool H11 p L := by
        obtain ⟨z, hz, e⟩ := pl3
        exact ⟨z, t311 _ _ hz, e⟩
      have hb := t311 _ _ hb
      refine ⟨_, rfl, v, rfl, ⟨_, SqL.of hv⟩, for_list (xs := (1 :: ps).map V.int) (fun j σ H' => ∃ y8, σ = [some (.ref a), some (.ref p), some (.int (0 + (i : Int))), some (.ref m), some (.ref b), some (.ref x), some (.ref r), some (.ref v), y8] ∧ Same H11 H') ?_ (fun j σ H' hj h => ?_) (fun j z σ H' hz h => ?_) (fun σ H' h => ?_)⟩
      · exact ⟨y8, rfl, Same.refl _⟩
      · obtain ⟨_, _, sm⟩ := h
        exact SqL.of (sm _ _ hv)
      · obtain ⟨y8, rfl, sm⟩ := h
        rw [List.getElem?_map] at hz
        cases e : (1 :: ps)[j]? with
        | none =>
          rw [e] at hz
          cases hz
        | some n =>
          rw [e] at hz
          cases hz
          exact ⟨_, rfl, n, rfl, fun J sJ => ⟨_, rfl, _, rfl, sm.trans sJ⟩⟩
      · obtain ⟨y8, rfl, sm⟩ := h
        have hv := sm _ _ hv
        have hb := sm _ _ hb
        refine ⟨_, rfl, v, _, 0, 0, rfl, rfl, hv, ixN_in (by decide) (by rw [len_map, List.length_cons]; omega), ?_⟩
        have hbv : b ≠ v := ne_of_none hb3 nv3
        have hb : (upd H' v (.lst (((1 :: ps).map V.int).set 0 (.int 7)))) b = some (.tup (ps.map V.int)) := by
          rw [upd_ne hbv]
          exact hb
        have pl12 : Pool (upd H' v (.lst (((1 :: ps).map V.int).set 0 (.int 7)))) p L := by
          obtain ⟨z, hz, e⟩ := pl11
          exact Pool.keep ⟨z, sm _ _ hz, e⟩ (pl3.ne nv3)
        dsimp only
        generalize upd H' v (.lst (((1 :: ps).map V.int).set 0 (.int 7))) = J0 at *
        refine ⟨_, rfl, b, ps, rfl, hb, lp, fun v2 J1 s1 nv2 hv2 => ?_⟩
        refine ⟨small100 (n := 1) (by decide), fun o no => ?_⟩
        have s9 := same_upd (o := .lst [V.int 1]) no
        have ho : (upd J1 o (.lst [V.int 1])) o = some (.lst [V.int 1]) := upd_same
        generalize upd J1 o (.lst [V.int 1]) = J2 at *
        refine ⟨_, rfl, b, _, rfl, .inr (SqT.of (s9 _ _ (s1 _ _ hb))), fun l nl => ?_⟩
        have s10 := same_upd (o := .lst (ps.map V.int)) nl
        have hl : (upd J2 l (.lst (ps.map V.int))) l = some (.lst (ps.map V.int)) := upd_same
        generalize upd J2 l (.lst (ps.map V.int)) = J3 at *
        refine ⟨o, l, _, _, rfl, rfl, s10 _ _ ho, hl, ?_, fun c nc => ?_⟩
        · rw [len_map, lp]
          exact small100 (n := 7) (by decide)
        rw [cat1]
        have s11 := same_upd (o := .lst ((1 :: ps).map V.int)) nc
        have hc : (upd J3 c (.lst ((1 :: ps).map V.int))) c = some (.lst ((1 :: ps).map V.int)) := upd_same
        generalize upd J3 c (.lst ((1 :: ps).map V.int)) = J4 at *
        have t := s9.trans (s10.trans s11)
        refine ⟨v2, c, 1 :: ps, 1 :: ps, rfl, rfl, SqL.of (t _ _ hv2), SqL.of hc, _, rfl, iteNS rfl ?_⟩
        obtain ⟨z, hz, e⟩ := pl12
        exact ⟨_, _, _, _, _, _, _, rfl, z, t _ _ (s1 _ _ hz), e⟩
    · obtain ⟨y2, y3, y4, y5, y6, y7, y8, rfl, pl1⟩ := h
      exact q _
end
theorem all_mk {l : PySem.W.OpenLaw} {w : World} {K : PySem.W.Frag} {h : Heap} {mg : Str → Option Value} {fa f0 f1 f2 f3 f4 f5 f6 f7 f8 f9 f10 f11 f12 f13 f14 f15 : Addr} (X : K.In h) (G : h.Ns mainGlobals mg) (hfa : mg "law" = some (.ref fa))
    {od0 an0 od1 an1 od2 an2 od3 an3 od4 an4 od5 an5 od6 an6 od7 an7 od8 an8 od9 an9 od10 an10 od11 an11 od12 an12 od13 an13 od14 an14 od15 an15 : Option Addr} {sl0 sl1 sl2 sl3 sl4 sl5 sl6 sl7 sl8 sl9 sl10 sl11 sl12 sl13 sl14 sl15 : Array (Option Value)}
    {oc0 kV0 dc0 pm0 cd0 ct0 oc1 kV1 dc1 pm1 cd1 ct1 oc2 kV2 dc2 pm2 cd2 ct2 oc3 kV3 dc3 pm3 cd3 ct3 oc4 kV4 dc4 pm4 cd4 ct4 oc5 kV5 dc5 pm5 cd5 ct5 oc6 kV6 dc6 pm6 cd6 ct6 oc7 kV7 dc7 pm7 cd7 ct7 oc8 kV8 dc8 pm8 cd8 ct8 oc9 kV9 dc9 pm9 cd9 ct9 oc10 kV10 dc10 pm10 cd10 ct10 oc11 kV11 dc11 pm11 cd11 ct11 oc12 kV12 dc12 pm12 cd12 ct12 oc13 kV13 dc13 pm13 cd13 ct13 oc14 kV14 dc14 pm14 cd14 ct14 oc15 kV15 dc15 pm15 cd15 ct15 : Value}
    (a0 : PySem.W.nsIn K mainGlobals "is_integer" = some (some (.ref f0)))
    (l0 : K.lookup f0 = some ⟨oc0, od0, .func (PySem.W.fnOf "is_integer" "is_integer" (defArgs s_is_integer) (defBody s_is_integer) (defScope s_is_integer) .none kV0 dc0 pm0 an0 cd0 ct0), sl0⟩)
    (c0 : PySem.W.codeIn K cd0 "is_integer" = true)
    (k0 : PySem.W.keepIn K (.ref f0) = true)
    (a1 : PySem.W.nsIn K mainGlobals "is_pen" = some (some (.ref f1)))
    (l1 : K.lookup f1 = some ⟨oc1, od1, .func (PySem.W.fnOf "is_pen" "is_pen" (defArgs s_is_pen) (defBody s_is_pen) (defScope s_is_pen) .none kV1 dc1 pm1 an1 cd1 ct1), sl1⟩)
    (c1 : PySem.W.codeIn K cd1 "is_pen" = true)
    (k1 : PySem.W.keepIn K (.ref f1) = true)
    (a2 : PySem.W.nsIn K mainGlobals "vector" = some (some (.ref f2)))
    (l2 : K.lookup f2 = some ⟨oc2, od2, .func (PySem.W.fnOf "vector" "vector" (defArgs s_vector) (defBody s_vector) (defScope s_vector) .none kV2 dc2 pm2 an2 cd2 ct2), sl2⟩)
    (c2 : PySem.W.codeIn K cd2 "vector" = true)
    (k2 : PySem.W.keepIn K (.ref f2) = true)
    (a3 : PySem.W.nsIn K mainGlobals "row_of" = some (some (.ref f3)))
    (l3 : K.lookup f3 = some ⟨oc3, od3, .func (PySem.W.fnOf "row_of" "row_of" (defArgs s_row_of) (defBody s_row_of) (defScope s_row_of) .none kV3 dc3 pm3 an3 cd3 ct3), sl3⟩)
    (c3 : PySem.W.codeIn K cd3 "row_of" = true)
    (k3 : PySem.W.keepIn K (.ref f3) = true)
    (a4 : PySem.W.nsIn K mainGlobals "dot" = some (some (.ref f4)))
    (l4 : K.lookup f4 = some ⟨oc4, od4, .func (PySem.W.fnOf "dot" "dot" (defArgs s_dot) (defBody s_dot) (defScope s_dot) .none kV4 dc4 pm4 an4 cd4 ct4), sl4⟩)
    (c4 : PySem.W.codeIn K cd4 "dot" = true)
    (k4 : PySem.W.keepIn K (.ref f4) = true)
    (a5 : PySem.W.nsIn K mainGlobals "applied" = some (some (.ref f5)))
    (l5 : K.lookup f5 = some ⟨oc5, od5, .func (PySem.W.fnOf "applied" "applied" (defArgs s_applied) (defBody s_applied) (defScope s_applied) .none kV5 dc5 pm5 an5 cd5 ct5), sl5⟩)
    (c5 : PySem.W.codeIn K cd5 "applied" = true)
    (k5 : PySem.W.keepIn K (.ref f5) = true)
    (a6 : PySem.W.nsIn K mainGlobals "_law_pool" = some (some (.ref f6)))
    (l6 : K.lookup f6 = some ⟨oc6, od6, .func (PySem.W.fnOf "_law_pool" "_law_pool" (defArgs s__law_pool) (defBody s__law_pool) (defScope s__law_pool) .none kV6 dc6 pm6 an6 cd6 ct6), sl6⟩)
    (c6 : PySem.W.codeIn K cd6 "_law_pool" = true)
    (k6 : PySem.W.keepIn K (.ref f6) = true)
    (a7 : PySem.W.nsIn K mainGlobals "_law_draw" = some (some (.ref f7)))
    (l7 : K.lookup f7 = some ⟨oc7, od7, .func (PySem.W.fnOf "_law_draw" "_law_draw" (defArgs s__law_draw) (defBody s__law_draw) (defScope s__law_draw) .none kV7 dc7 pm7 an7 cd7 ct7), sl7⟩)
    (c7 : PySem.W.codeIn K cd7 "_law_draw" = true)
    (k7 : PySem.W.keepIn K (.ref f7) = true)
    (a8 : PySem.W.nsIn K mainGlobals "_law_is_integer" = some (some (.ref f8)))
    (l8 : K.lookup f8 = some ⟨oc8, od8, .func (PySem.W.fnOf "_law_is_integer" "_law_is_integer" (defArgs s__law_is_integer) (defBody s__law_is_integer) (defScope s__law_is_integer) .none kV8 dc8 pm8 an8 cd8 ct8), sl8⟩)
    (c8 : PySem.W.codeIn K cd8 "_law_is_integer" = true)
    (k8 : PySem.W.keepIn K (.ref f8) = true)
    (a9 : PySem.W.nsIn K mainGlobals "_law_number" = some (some (.ref f9)))
    (l9 : K.lookup f9 = some ⟨oc9, od9, .func (PySem.W.fnOf "_law_number" "_law_number" (defArgs s__law_number) (defBody s__law_number) (defScope s__law_number) .none kV9 dc9 pm9 an9 cd9 ct9), sl9⟩)
    (c9 : PySem.W.codeIn K cd9 "_law_number" = true)
    (k9 : PySem.W.keepIn K (.ref f9) = true)
    (a10 : PySem.W.nsIn K mainGlobals "_law_pen" = some (some (.ref f10)))
    (l10 : K.lookup f10 = some ⟨oc10, od10, .func (PySem.W.fnOf "_law_pen" "_law_pen" (defArgs s__law_pen) (defBody s__law_pen) (defScope s__law_pen) .none kV10 dc10 pm10 an10 cd10 ct10), sl10⟩)
    (c10 : PySem.W.codeIn K cd10 "_law_pen" = true)
    (k10 : PySem.W.keepIn K (.ref f10) = true)
    (a11 : PySem.W.nsIn K mainGlobals "_law_is_pen" = some (some (.ref f11)))
    (l11 : K.lookup f11 = some ⟨oc11, od11, .func (PySem.W.fnOf "_law_is_pen" "_law_is_pen" (defArgs s__law_is_pen) (defBody s__law_is_pen) (defScope s__law_is_pen) .none kV11 dc11 pm11 an11 cd11 ct11), sl11⟩)
    (c11 : PySem.W.codeIn K cd11 "_law_is_pen" = true)
    (k11 : PySem.W.keepIn K (.ref f11) = true)
    (a12 : PySem.W.nsIn K mainGlobals "_law_image" = some (some (.ref f12)))
    (l12 : K.lookup f12 = some ⟨oc12, od12, .func (PySem.W.fnOf "_law_image" "_law_image" (defArgs s__law_image) (defBody s__law_image) (defScope s__law_image) .none kV12 dc12 pm12 an12 cd12 ct12), sl12⟩)
    (c12 : PySem.W.codeIn K cd12 "_law_image" = true)
    (k12 : PySem.W.keepIn K (.ref f12) = true)
    (a13 : PySem.W.nsIn K mainGlobals "_law_any_matrix" = some (some (.ref f13)))
    (l13 : K.lookup f13 = some ⟨oc13, od13, .func (PySem.W.fnOf "_law_any_matrix" "_law_any_matrix" (defArgs s__law_any_matrix) (defBody s__law_any_matrix) (defScope s__law_any_matrix) .none kV13 dc13 pm13 an13 cd13 ct13), sl13⟩)
    (c13 : PySem.W.codeIn K cd13 "_law_any_matrix" = true)
    (k13 : PySem.W.keepIn K (.ref f13) = true)
    (a14 : PySem.W.nsIn K mainGlobals "_law_is_row" = some (some (.ref f14)))
    (l14 : K.lookup f14 = some ⟨oc14, od14, .func (PySem.W.fnOf "_law_is_row" "_law_is_row" (defArgs s__law_is_row) (defBody s__law_is_row) (defScope s__law_is_row) .none kV14 dc14 pm14 an14 cd14 ct14), sl14⟩)
    (c14 : PySem.W.codeIn K cd14 "_law_is_row" = true)
    (k14 : PySem.W.keepIn K (.ref f14) = true)
    (a15 : PySem.W.nsIn K mainGlobals "law" = some (some (.ref f15)))
    (l15 : K.lookup f15 = some ⟨oc15, od15, .func (PySem.W.fnOf "law" "law" (defArgs s_law) (defBody s_law) (defScope s_law) .none kV15 dc15 pm15 an15 cd15 ct15), sl15⟩)
    (c15 : PySem.W.codeIn K cd15 "law" = true)
    (k15 : PySem.W.keepIn K (.ref f15) = true)
    (z0 : PySem.W.nsIn K mainGlobals "all" = some none)
    (z1 : PySem.W.nsIn K mainGlobals "bool" = some none)
    (z2 : PySem.W.nsIn K mainGlobals "int" = some none)
    (z3 : PySem.W.nsIn K mainGlobals "isinstance" = some none)
    (z4 : PySem.W.nsIn K mainGlobals "len" = some none)
    (z5 : PySem.W.nsIn K mainGlobals "list" = some none)
    (z6 : PySem.W.nsIn K mainGlobals "range" = some none)
    (z7 : PySem.W.nsIn K mainGlobals "sum" = some none)
    (z8 : PySem.W.nsIn K mainGlobals "tuple" = some none)
    (z9 : PySem.W.nsIn K mainGlobals "zip" = some none)
    : ∃ fd : FuncData, (∀ (s : Shared) (v : Value), BindsTo s fd ⟨[v], []⟩ [("_law_script", v)]) ∧ ∀ base : Heap, K.In base → base.Ns mainGlobals mg → FnOk l.prog w K mg base CX0 5 fa fd ["_law_script"] (spLaw K) := by
  have e := hfa.symm.trans (PySem.W.mg_of X G a15)
  cases e
  have F0 := fun_mk (st := s_is_integer) l0 c0 k0
  have F1 := fun_mk (st := s_is_pen) l1 c1 k1
  have F2 := fun_mk (st := s_vector) l2 c2 k2
  have F3 := fun_mk (st := s_row_of) l3 c3 k3
  have F4 := fun_mk (st := s_dot) l4 c4 k4
  have F5 := fun_mk (st := s_applied) l5 c5 k5
  have F6 := fun_mk (st := s__law_pool) l6 c6 k6
  have F7 := fun_mk (st := s__law_draw) l7 c7 k7
  have F8 := fun_mk (st := s__law_is_integer) l8 c8 k8
  have F9 := fun_mk (st := s__law_number) l9 c9 k9
  have F10 := fun_mk (st := s__law_pen) l10 c10 k10
  have F11 := fun_mk (st := s__law_is_pen) l11 c11 k11
  have F12 := fun_mk (st := s__law_image) l12 c12 k12
  have F13 := fun_mk (st := s__law_any_matrix) l13 c13 k13
  have F14 := fun_mk (st := s__law_is_row) l14 c14 k14
  have F15 := fun_mk (st := s_law) l15 c15 k15
  have T : ∃ T : Top w K mg, T.a_law = fa ∧ T.d_law = PySem.W.fnOf "law" "law" (defArgs s_law) (defBody s_law) (defScope s_law) .none kV15 dc15 pm15 an15 cd15 ct15 := ⟨{ a_is_integer := f0, d_is_integer := PySem.W.fnOf "is_integer" "is_integer" (defArgs s_is_integer) (defBody s_is_integer) (defScope s_is_integer) .none kV0 dc0 pm0 an0 cd0 ct0, F_is_integer := F0, g_is_integer := PySem.W.mg_of X G a0, a_is_pen := f1, d_is_pen := PySem.W.fnOf "is_pen" "is_pen" (defArgs s_is_pen) (defBody s_is_pen) (defScope s_is_pen) .none kV1 dc1 pm1 an1 cd1 ct1, F_is_pen := F1, g_is_pen := PySem.W.mg_of X G a1, a_vector := f2, d_vector := PySem.W.fnOf "vector" "vector" (defArgs s_vector) (defBody s_vector) (defScope s_vector) .none kV2 dc2 pm2 an2 cd2 ct2, F_vector := F2, g_vector := PySem.W.mg_of X G a2, a_row_of := f3, d_row_of := PySem.W.fnOf "row_of" "row_of" (defArgs s_row_of) (defBody s_row_of) (defScope s_row_of) .none kV3 dc3 pm3 an3 cd3 ct3, F_row_of := F3, g_row_of := PySem.W.mg_of X G a3, a_dot := f4, d_dot := PySem.W.fnOf "dot" "dot" (defArgs s_dot) (defBody s_dot) (defScope s_dot) .none kV4 dc4 pm4 an4 cd4 ct4, F_dot := F4, g_dot := PySem.W.mg_of X G a4, a_applied := f5, d_applied := PySem.W.fnOf "applied" "applied" (defArgs s_applied) (defBody s_applied) (defScope s_applied) .none kV5 dc5 pm5 an5 cd5 ct5, F_applied := F5, g_applied := PySem.W.mg_of X G a5, a__law_pool := f6, d__law_pool := PySem.W.fnOf "_law_pool" "_law_pool" (defArgs s__law_pool) (defBody s__law_pool) (defScope s__law_pool) .none kV6 dc6 pm6 an6 cd6 ct6, F__law_pool := F6, g__law_pool := PySem.W.mg_of X G a6, a__law_draw := f7, d__law_draw := PySem.W.fnOf "_law_draw" "_law_draw" (defArgs s__law_draw) (defBody s__law_draw) (defScope s__law_draw) .none kV7 dc7 pm7 an7 cd7 ct7, F__law_draw := F7, g__law_draw := PySem.W.mg_of X G a7, a__law_is_integer := f8, d__law_is_integer := PySem.W.fnOf "_law_is_integer" "_law_is_integer" (defArgs s__law_is_integer) (defBody s__law_is_integer) (defScope s__law_is_integer) .none kV8 dc8 pm8 an8 cd8 ct8, F__law_is_integer := F8, g__law_is_integer := PySem.W.mg_of X G a8, a__law_number := f9, d__law_number := PySem.W.fnOf "_law_number" "_law_number" (defArgs s__law_number) (defBody s__law_number) (defScope s__law_number) .none kV9 dc9 pm9 an9 cd9 ct9, F__law_number := F9, g__law_number := PySem.W.mg_of X G a9, a__law_pen := f10, d__law_pen := PySem.W.fnOf "_law_pen" "_law_pen" (defArgs s__law_pen) (defBody s__law_pen) (defScope s__law_pen) .none kV10 dc10 pm10 an10 cd10 ct10, F__law_pen := F10, g__law_pen := PySem.W.mg_of X G a10, a__law_is_pen := f11, d__law_is_pen := PySem.W.fnOf "_law_is_pen" "_law_is_pen" (defArgs s__law_is_pen) (defBody s__law_is_pen) (defScope s__law_is_pen) .none kV11 dc11 pm11 an11 cd11 ct11, F__law_is_pen := F11, g__law_is_pen := PySem.W.mg_of X G a11, a__law_image := f12, d__law_image := PySem.W.fnOf "_law_image" "_law_image" (defArgs s__law_image) (defBody s__law_image) (defScope s__law_image) .none kV12 dc12 pm12 an12 cd12 ct12, F__law_image := F12, g__law_image := PySem.W.mg_of X G a12, a__law_any_matrix := f13, d__law_any_matrix := PySem.W.fnOf "_law_any_matrix" "_law_any_matrix" (defArgs s__law_any_matrix) (defBody s__law_any_matrix) (defScope s__law_any_matrix) .none kV13 dc13 pm13 an13 cd13 ct13, F__law_any_matrix := F13, g__law_any_matrix := PySem.W.mg_of X G a13, a__law_is_row := f14, d__law_is_row := PySem.W.fnOf "_law_is_row" "_law_is_row" (defArgs s__law_is_row) (defBody s__law_is_row) (defScope s__law_is_row) .none kV14 dc14 pm14 an14 cd14 ct14, F__law_is_row := F14, g__law_is_row := PySem.W.mg_of X G a14, a_law := fa, d_law := PySem.W.fnOf "law" "law" (defArgs s_law) (defBody s_law) (defScope s_law) .none kV15 dc15 pm15 an15 cd15 ct15, F_law := F15, g_law := PySem.W.mg_of X G a15, z_all := PySem.W.mg_none_of X G z0, z_bool := PySem.W.mg_none_of X G z1, z_int := PySem.W.mg_none_of X G z2, z_isinstance := PySem.W.mg_none_of X G z3, z_len := PySem.W.mg_none_of X G z4, z_list := PySem.W.mg_none_of X G z5, z_range := PySem.W.mg_none_of X G z6, z_sum := PySem.W.mg_none_of X G z7, z_tuple := PySem.W.mg_none_of X G z8, z_zip := PySem.W.mg_none_of X G z9 }, rfl, rfl⟩
  obtain ⟨T, e1, e2⟩ := T
  refine ⟨PySem.W.fnOf "law" "law" (defArgs s_law) (defBody s_law) (defScope s_law) .none kV15 dc15 pm15 an15 cd15 ct15, fun s v => .of_eq rfl, fun base _ _ => ?_⟩
  · rw [← e1, ← e2]; exact ok_law T
end My
open PySem PySem.W PyProof.Rows
set_option maxRecDepth 100000 in
set_option maxHeartbeats 0 in
theorem PySem.Challenge.cw_penhome_k04_vector_and_applied_holds : PySem.Challenge.rw_penhome_k04_vector_and_applied.Holds := by
  w_on; o_law; k_head; (case hw => w_witness2)
  k_fill
  refine L2.walk_of (l := PySem.Challenge.rw_penhome_k04_vector_and_applied) (n := 63) (k := 5) (x := "_law_script") (CX := fun _ => L2.CX0) (sp := fun w => My.spLaw _) rfl (by decide) rfl ⟨rfl, by decide, by decide⟩ (fun w h Y => PySem.W.kIn_of Y) ?F (fun _ _ a ns hl _ hS => ⟨a, ns, rfl, hS, hl, fun _ => rfl⟩) (fun _ _ _ _ _ h => h)
  case F =>
    intro w mg fa h KX G hmg
    refine' My.all_mk KX G hmg ?a0 ?l0 ?c0 ?k0 ?a1 ?l1 ?c1 ?k1 ?a2 ?l2 ?c2 ?k2 ?a3 ?l3 ?c3 ?k3 ?a4 ?l4 ?c4 ?k4 ?a5 ?l5 ?c5 ?k5 ?a6 ?l6 ?c6 ?k6 ?a7 ?l7 ?c7 ?k7 ?a8 ?l8 ?c8 ?k8 ?a9 ?l9 ?c9 ?k9 ?a10 ?l10 ?c10 ?k10 ?a11 ?l11 ?c11 ?k11 ?a12 ?l12 ?c12 ?k12 ?a13 ?l13 ?c13 ?k13 ?a14 ?l14 ?c14 ?k14 ?a15 ?l15 ?c15 ?k15 ?z0 ?z1 ?z2 ?z3 ?z4 ?z5 ?z6 ?z7 ?z8 ?z9
    (case a0 => k_is); (case l0 => k_is); (case c0 => k_is); (case k0 => k_is); (case a1 => k_is); (case l1 => k_is); (case c1 => k_is); (case k1 => k_is); (case a2 => k_is); (case l2 => k_is); (case c2 => k_is); (case k2 => k_is); (case a3 => k_is); (case l3 => k_is); (case c3 => k_is); (case k3 => k_is); (case a4 => k_is); (case l4 => k_is); (case c4 => k_is); (case k4 => k_is); (case a5 => k_is); (case l5 => k_is); (case c5 => k_is); (case k5 => k_is); (case a6 => k_is); (case l6 => k_is); (case c6 => k_is); (case k6 => k_is); (case a7 => k_is); (case l7 => k_is); (case c7 => k_is); (case k7 => k_is); (case a8 => k_is); (case l8 => k_is); (case c8 => k_is); (case k8 => k_is); (case a9 => k_is); (case l9 => k_is); (case c9 => k_is); (case k9 => k_is); (case a10 => k_is); (case l10 => k_is); (case c10 => k_is); (case k10 => k_is); (case a11 => k_is); (case l11 => k_is); (case c11 => k_is); (case k11 => k_is); (case a12 => k_is); (case l12 => k_is); (case c12 => k_is); (case k12 => k_is); (case a13 => k_is); (case l13 => k_is); (case c13 => k_is); (case k13 => k_is); (case a14 => k_is); (case l14 => k_is); (case c14 => k_is); (case k14 => k_is); (case a15 => k_is); (case l15 => k_is); (case c15 => k_is); (case k15 => k_is); (case z0 => k_is); (case z1 => k_is); (case z2 => k_is); (case z3 => k_is); (case z4 => k_is); (case z5 => k_is); (case z6 => k_is); (case z7 => k_is); (case z8 => k_is); (case z9 => k_is)

