import PyProof.Rows.All
import Wide.All
import OpenK.AllK
import Wide.FinOn
import HandS.ForMost
import HandS.Star
import HandS.Wide
import HandS.Flow
import HandS.IsInst
import PySem.Challenge.RW_penhome_k06_kept_matrix
set_option Elab.async false
set_option linter.all false
set_option maxRecDepth 100000
namespace My
open PySem PySem.Spec PyProof.Rows L2
theorem hu64 {A : Around} {k : Nat} (hr : Room k A) : A.units + 64 < cLine := by
  have := hr.un
  omega
section
variable {X : Cx}
theorem call_intI : CallR X (.type "int") (fun xs H Q => ∃ i, xs = [.int i] ∧ Q (.int i) H) := fun pins s σ H xs us Q I r ⟨i, e, q⟩ => call_int1 pins s σ H xs us Q I r (.inl ⟨i, e, q⟩)
theorem call_intB : CallR X (.type "int") (fun xs H Q => ∃ k, xs = [.bl k] ∧ Q (.int (if k then 1 else 0)) H) := fun pins s σ H xs us Q I r ⟨i, e, q⟩ => call_int1 pins s σ H xs us Q I r (.inr ⟨i, e, q⟩)
theorem call_lenA : CallR X (.builtin "len") (fun xs H Q => ∃ p ys, xs = [.ref p] ∧ (SqL X.K H p ys ∨ SqT X.K H p ys) ∧ Q (.int ys.length) H) := call_len_seq
theorem call_listL : CallR X (.type "list") (fun xs H Q => ∃ p ys, xs = [.ref p] ∧ (SqL X.K H p ys ∨ SqT X.K H p ys) ∧ ∀ l, H l = none → Q (.ref l) (upd H l (.lst ys))) := call_list_of
theorem call_tupL : CallR X (.type "tuple") (fun xs H Q => ∃ p ys, xs = [.ref p] ∧ SqL X.K H p ys ∧ ∀ l, H l = none → Q (.ref l) (upd H l (.tup ys))) := fun pins s σ H xs us Q I r ⟨p, ys, e, h, q⟩ => call_tuple_of pins s σ H xs us Q I r ⟨p, ys, e, .inl ⟨h, q⟩⟩
theorem get_lst : PGet X (fun o i H Q => ∃ p xs k v, o = .ref p ∧ i = .int k ∧ 0 ≤ k ∧ SqL X.K H p xs ∧ xs[k.toNat]? = some v ∧ Q v H) := by
  intro pins s σ H o i ov iv Q I r1 r2 h
  obtain ⟨p, xs, k, v, rfl, rfl, h0, hq, he, q⟩ := h
  cases r1
  obtain ⟨t, rfl⟩ := r2
  obtain ⟨its, r, pl, hz⟩ := I.list hq
  obtain ⟨w, ew, rw'⟩ := r.get he
  have hl := r.length
  have hn := line63
  have hlt : k.toNat < xs.length := (List.getElem?_eq_some_iff.mp he).1
  exact wpAny_getItem_list pl.isList h0 (by omega) (by simpa using ew) ⟨v, H, I, rw', q⟩
end
/-! ### lists and tuples of ints compared -/
theorem dpAllInts {K : PySem.W.Frag} {H : Hp} : ∀ ns : List Int, DpAll K H (ns.map V.int) (ns.map PyData.int)
  | [] => .nil
  | n :: r => .cons (.int n) (dpAllInts r)
theorem canAllInts : ∀ ns : List Int, PyData.canLayAll0 (ns.map PyData.int) = true
  | [] => by simp [PyData.canLayAll0]
  | n :: r => by simp [PyData.canLayAll0, PyData.canLay0, canAllInts r]
theorem depthAllInts : ∀ ns : List Int, PyData.depthAll (ns.map PyData.int) = 0
  | [] => by simp [PyData.depthAll]
  | n :: r => by simp [PyData.depthAll, PyData.depth, depthAllInts r]
theorem shList (ns : List Int) : SeqAt.shaped (.list (ns.map PyData.int)) = true := by
  simp [SeqAt.shaped, PyData.canLay0, PyData.depth, canAllInts, depthAllInts]
theorem shTup (ns : List Int) : SeqAt.shaped (.tuple (ns.map PyData.int)) = true := by
  simp [SeqAt.shaped, PyData.canLay0, PyData.depth, canAllInts, depthAllInts]
theorem eqvAllInts : ∀ ns ms : List Int, PyData.eqvAll (ns.map PyData.int) (ms.map PyData.int) = decide (ns = ms)
  | [], [] => by simp [PyData.eqvAll]
  | [], m :: r => by simp [PyData.eqvAll]
  | n :: r, [] => by simp [PyData.eqvAll]
  | n :: r, m :: q => by
    rw [List.map_cons, List.map_cons, PyData.eqvAll, eqvAllInts r q, PyData.eqv]
    by_cases e : n = m
    · subst e; simp
    · simp [e]
section
variable {X : Cx}
def rEqI (K : PySem.W.Frag) : R2 := fun x y H Q => ∃ (a b : Addr) (ns ms : List Int), x = .ref a ∧ y = .ref b ∧ SqL K H a (ns.map V.int) ∧ SqL K H b (ms.map V.int) ∧ Q (.bl (decide (ns = ms))) H
def rNeI (K : PySem.W.Frag) : R2 := fun x y H Q => ∃ (a b : Addr) (ns ms : List Int), x = .ref a ∧ y = .ref b ∧ SqL K H a (ns.map V.int) ∧ SqL K H b (ms.map V.int) ∧ Q (.bl (!decide (ns = ms))) H
def rEqTI (K : PySem.W.Frag) : R2 := fun x y H Q => ∃ (a b : Addr) (ns ms : List Int), x = .ref a ∧ y = .ref b ∧ SqT K H a (ns.map V.int) ∧ SqT K H b (ms.map V.int) ∧ Q (.bl (decide (ns = ms))) H
def rNeTI (K : PySem.W.Frag) : R2 := fun x y H Q => ∃ (a b : Addr) (ns ms : List Int), x = .ref a ∧ y = .ref b ∧ SqT K H a (ns.map V.int) ∧ SqT K H b (ms.map V.int) ∧ Q (.bl (!decide (ns = ms))) H
theorem op_eqI (hu : X.A.units + 64 < cLine) : OpR X (compareOp .Eq) (rEqI X.K) := fun pins s σ H x y v u Q I rx ry ⟨a, b, ns, ms, e1, e2, h1, h2, q⟩ =>
  op_eqD hu pins s σ H x y v u Q I rx ry ⟨_, _, e1 ▸ .lst h1 (dpAllInts ns), e2 ▸ .lst h2 (dpAllInts ms), shList ns, shList ms, by rw [PyData.eqv, eqvAllInts]; exact q⟩
theorem op_neI (hu : X.A.units + 64 < cLine) : OpR X (compareOp .NotEq) (rNeI X.K) := fun pins s σ H x y v u Q I rx ry ⟨a, b, ns, ms, e1, e2, h1, h2, q⟩ =>
  op_neD hu pins s σ H x y v u Q I rx ry ⟨_, _, e1 ▸ .lst h1 (dpAllInts ns), e2 ▸ .lst h2 (dpAllInts ms), shList ns, shList ms, by rw [PyData.eqv, eqvAllInts]; exact q⟩
theorem op_eqTI (hu : X.A.units + 64 < cLine) : OpR X (compareOp .Eq) (rEqTI X.K) := fun pins s σ H x y v u Q I rx ry ⟨a, b, ns, ms, e1, e2, h1, h2, q⟩ =>
  op_eqD hu pins s σ H x y v u Q I rx ry ⟨_, _, e1 ▸ .tup h1 (dpAllInts ns), e2 ▸ .tup h2 (dpAllInts ms), shTup ns, shTup ms, by rw [PyData.eqv, eqvAllInts]; exact q⟩
theorem op_neTI (hu : X.A.units + 64 < cLine) : OpR X (compareOp .NotEq) (rNeTI X.K) := fun pins s σ H x y v u Q I rx ry ⟨a, b, ns, ms, e1, e2, h1, h2, q⟩ =>
  op_neD hu pins s σ H x y v u Q I rx ry ⟨_, _, e1 ▸ .tup h1 (dpAllInts ns), e2 ▸ .tup h2 (dpAllInts ms), shTup ns, shTup ms, by rw [PyData.eqv, eqvAllInts]; exact q⟩
end
/-! ### heaps -/
theorem same_upd {H : Hp} {p : Addr} {o : HO} (h : H p = none) : Same H (upd H p o) := fun b x e => by
  rw [upd_ne (ne_of_none e h)]
  exact e
/-- all that was tracked is as it was, but for what is at p -/
def Kp (p : Addr) (H H' : Hp) : Prop := ∀ b o, b ≠ p → H b = some o → H' b = some o
theorem Kp.refl (p : Addr) (H : Hp) : Kp p H H := fun _ _ _ h => h
theorem Kp.trans {p : Addr} {H H1 H2 : Hp} (a : Kp p H H1) (b : Kp p H1 H2) : Kp p H H2 := fun c o n h => b c o n (a c o n h)
theorem Kp.upd {p : Addr} {H : Hp} {o : HO} : Kp p H (upd H p o) := fun b x n e => by rw [upd_ne n]; exact e
theorem Kp.of {p : Addr} {H H' : Hp} (s : Same H H') : Kp p H H' := fun b o _ e => s b o e
theorem Kp.new {p q : Addr} {H H1 : Hp} {o : HO} (k : Kp p H H1) (n : H q = none) : Kp p H (L2.upd H1 q o) := fun b x nb e => by
  rw [upd_ne (ne_of_none e n)]
  exact k b x nb e
theorem same_new {q : Addr} {H H1 : Hp} {o : HO} (k : Same H H1) (n : H q = none) : Same H (upd H1 q o) := fun b x e => by
  rw [upd_ne (ne_of_none e n)]
  exact k b x e
theorem Kp.none {p q : Addr} {H H' : Hp} (k : Kp p H H') (h : H' q = none) (n : q ≠ p) : H q = none := by
  cases e : H q with
  | none => rfl
  | some o =>
    rw [k q o n e] at h
    cases h
/-- the law's pool: a list of L ints -/
def Pool (H : Hp) (p : Addr) (L : Nat) : Prop := ∃ ns : List Int, H p = some (.lst (ns.map V.int)) ∧ ns.length = L
theorem Pool.ne {H : Hp} {p q : Addr} {L : Nat} (h : Pool H p L) (n : H q = none) : q ≠ p := fun e => by
  obtain ⟨ns, h, _⟩ := h
  rw [← e, n] at h
  cases h
theorem Pool.new {H : Hp} {p q : Addr} {o : HO} {L : Nat} (h : Pool H p L) (n : H q = none) : Pool (upd H q o) p L := by
  have hn := (h.ne n).symm
  obtain ⟨ns, h, e⟩ := h
  exact ⟨ns, by rw [upd_ne hn]; exact h, e⟩
theorem Pool.keep {H : Hp} {p q : Addr} {o : HO} {L : Nat} (h : Pool H p L) (n : q ≠ p) : Pool (upd H q o) p L := by
  obtain ⟨ns, h, e⟩ := h
  exact ⟨ns, by rw [upd_ne n.symm]; exact h, e⟩
theorem get_map {ns : List Int} {i : Nat} {n : Int} (h : ns[i]? = some n) : (ns.map V.int)[i]? = some (.int n) := by
  rw [List.getElem?_map, h]
  rfl
theorem at_map {ns : List Int} {i : Int} (h0 : 0 ≤ i) (h1 : i < ns.length) : ∃ n, ns[i.toNat]? = some n ∧ atI (ns.map V.int) i = some (.int n) := by
  have hi : i.toNat < ns.length := by omega
  refine ⟨ns[i.toNat], List.getElem?_eq_getElem hi, ?_⟩
  refine at_of (j := i.toNat) (by omega) ?_
  exact get_map (List.getElem?_eq_getElem hi)
theorem ixN_in {n : Nat} {i : Int} (h0 : 0 ≤ i) (h1 : i < n) : ixN n i = some i.toNat := by
  unfold ixN
  rw [if_pos h0, if_pos h1]
theorem set_map {ns : List Int} {j : Nat} {z : Int} : (ns.map V.int).set j (.int z) = (ns.set j z).map V.int := by
  rw [List.map_set]
theorem small100 {n : Nat} (h : n ≤ 1000) : n ≤ sizeLine := Nat.le_of_lt (small1000 h)
theorem len_map (ns : List Int) : (ns.map V.int).length = ns.length := List.length_map ..
/-! ### what a for walks: a list or a tuple -/
def iSeq (K : PySem.W.Frag) (tl : TE) : TI := fun σ H R => iList K tl σ H R ∨ iTup K tl σ H R
theorem pi_seq {X : Cx} {tg l : Expr} {tl : TE} (h1 : PI X tg l (iList X.K tl)) (h2 : PI X tg l (iTup X.K tl)) : PI X tg l (iSeq X.K tl) :=
  ⟨fun pins s σ H R I h => h.elim (fun h => h1.run pins s σ H R I h) fun h => h2.run pins s σ H R I h⟩
theorem pi_sq {X : Cx} {tg l : Expr} {tl : TE} (h : PE X l tl) : PI X tg l (iSeq X.K tl) := pi_seq (pi_list h) (pi_tup h)
/-! ### the same rules, the written part by name (within a comprehension's block) -/
section
variable (K : PySem.W.Frag) {X : Cx}
def rLenA (K : PySem.W.Frag) : List V → Hp → VK → Prop := fun xs H Q => ∃ p ys, xs = [V.ref p] ∧ (SqL K H p ys ∨ SqT K H p ys) ∧ Q (.int ys.length) H
def rListL (K : PySem.W.Frag) : List V → Hp → VK → Prop := fun xs H Q => ∃ p ys, xs = [V.ref p] ∧ (SqL K H p ys ∨ SqT K H p ys) ∧ ∀ l, H l = none → Q (.ref l) (upd H l (.lst ys))
def rTupL (K : PySem.W.Frag) : List V → Hp → VK → Prop := fun xs H Q => ∃ p ys, xs = [V.ref p] ∧ SqL K H p ys ∧ ∀ l, H l = none → Q (.ref l) (upd H l (.tup ys))
theorem k_len (hK : X.K = K := by rfl) : CallR X (.builtin "len") (rLenA K) := hK ▸ call_lenA
theorem k_list (hK : X.K = K := by rfl) : CallR X (.type "list") (rListL K) := hK ▸ call_listL
theorem k_tuple (hK : X.K = K := by rfl) : CallR X (.type "tuple") (rTupL K) := hK ▸ call_tupL
theorem k_isi (hK : X.K = K := by rfl) : CallR X (.builtin "isinstance") (rIsi K) := hK ▸ call_isi
theorem k_all (hK : X.K = K := by rfl) (hc : X.calm = true := by rfl) : CallR X (.builtin "all") (rAll K) := hK ▸ cr_all hc
theorem k_sum (hK : X.K = K := by rfl) (hc : X.calm = true := by rfl) : CallR X (.builtin "sum") (rSum K) := hK ▸ cr_sum hc
theorem k_ixL (hK : X.K = K := by rfl) : IxR X (rIxL K) := hK ▸ ix_list
theorem k_ixT (hK : X.K = K := by rfl) : IxR X (rIxT K) := hK ▸ ix_tup
theorem k_slL (hK : X.K = K := by rfl) : SlR X (rSlL K) := hK ▸ sl_list
theorem k_slT (hK : X.K = K := by rfl) : SlR X (rSlT K) := hK ▸ sl_tup
theorem k_piL {tg l : Expr} {tl : TE} (hl : PE X l tl) (hK : X.K = K := by rfl) : PI X tg l (iList K tl) := hK ▸ pi_list hl
theorem k_piT {tg l : Expr} {tl : TE} (hl : PE X l tl) (hK : X.K = K := by rfl) : PI X tg l (iTup K tl) := hK ▸ pi_tup hl
theorem k_piS {tg l : Expr} {tl : TE} (hl : PE X l tl) (hK : X.K = K := by rfl) : PI X tg l (iSeq K tl) := hK ▸ pi_sq hl
theorem k_eqI (hu : X.A.units + 64 < cLine) (hK : X.K = K := by rfl) : OpR X (compareOp .Eq) (rEqI K) := hK ▸ op_eqI hu
theorem k_neI (hu : X.A.units + 64 < cLine) (hK : X.K = K := by rfl) : OpR X (compareOp .NotEq) (rNeI K) := hK ▸ op_neI hu
theorem k_eqTI (hu : X.A.units + 64 < cLine) (hK : X.K = K := by rfl) : OpR X (compareOp .Eq) (rEqTI K) := hK ▸ op_eqTI hu
theorem k_neTI (hu : X.A.units + 64 < cLine) (hK : X.K = K := by rfl) : OpR X (compareOp .NotEq) (rNeTI K) := hK ▸ op_neTI hu
theorem k_getL (hK : X.K = K := by rfl) : PGet X (fun o i H Q => ∃ p xs k v, o = .ref p ∧ i = .int k ∧ 0 ≤ k ∧ SqL K H p xs ∧ xs[k.toNat]? = some v ∧ Q v H) := hK ▸ get_lst
theorem k_star {e : Expr} {es : List Expr} {te : TE} {t : TA} {p : Pos} (he : PE X e te) (hr : PA X es t) (hK : X.K = K := by rfl) (hs : starEach (.Starred e p :: es) X.env = (true, eval e X.env) :: starEach es X.env := by rfl) : PA X (.Starred e p :: es) (StX.tStar K te t) := hK ▸ StX.pa_star he hr hs
end
theorem iteP {c A B : Prop} [Decidable c] (hc : c) (h : A) : if decide c = true then A else B := by
  rw [if_pos (decide_eq_true hc)]
  exact h
section
variable (K : PySem.W.Frag) {X : Cx}
theorem k_listT (hK : X.K = K := by rfl) : CallR X (.type "list") (rListL K) := k_list K hK
end

def topS (i : Nat) : Stmt := PySem.Challenge.pw_penhome_k06_kept_matrix.main.body.getD i (.Pass ⟨0, 0, 0, 0⟩)
theorem bt_all : bootBuiltins "all" = some (.builtin "all") := by decide +kernel
theorem bt_bool : bootBuiltins "bool" = some (.type "bool") := by decide +kernel
theorem bt_int : bootBuiltins "int" = some (.type "int") := by decide +kernel
theorem bt_isinstance : bootBuiltins "isinstance" = some (.builtin "isinstance") := by decide +kernel
theorem bt_len : bootBuiltins "len" = some (.builtin "len") := by decide +kernel
theorem bt_list : bootBuiltins "list" = some (.type "list") := by decide +kernel
theorem bt_range : bootBuiltins "range" = some (.type "range") := by decide +kernel
abbrev s_identity : Stmt := topS 1
abbrev N_identity : List Str := ["i", "j"]
theorem sc_identity : FnScope N_identity [] (defScope s_identity) := ⟨rfl, rfl, rfl, by decide +kernel, rfl, by decide +kernel, by decide +kernel⟩
abbrev s_kept_matrix : Stmt := topS 2
abbrev N_kept_matrix : List Str := ["matrix", "middle", "number"]
theorem sc_kept_matrix : FnScope N_kept_matrix ["matrix"] (defScope s_kept_matrix) := ⟨rfl, rfl, rfl, by decide +kernel, rfl, by decide +kernel, by decide +kernel⟩
abbrev s__law_pool : Stmt := topS 4
abbrev N__law_pool : List Str := ["_law_script", "_law_cell"]
theorem sc__law_pool : FnScope N__law_pool ["_law_script"] (defScope s__law_pool) := ⟨rfl, rfl, rfl, by decide +kernel, rfl, by decide +kernel, by decide +kernel⟩
abbrev s__law_draw : Stmt := topS 5
abbrev N__law_draw : List Str := ["_law_pool_here", "_law_many", "_law_at", "_law_cell", "_law_number_here"]
theorem sc__law_draw : FnScope N__law_draw ["_law_pool_here", "_law_many"] (defScope s__law_draw) := ⟨rfl, rfl, rfl, by decide +kernel, rfl, by decide +kernel, by decide +kernel⟩
abbrev s__law_number : Stmt := topS 6
abbrev N__law_number : List Str := ["_law_pool_here", "_law_small", "_law_at", "_law_number_here"]
theorem sc__law_number : FnScope N__law_number ["_law_pool_here"] (defScope s__law_number) := ⟨rfl, rfl, rfl, by decide +kernel, rfl, by decide +kernel, by decide +kernel⟩
abbrev s__law_is_matrix : Stmt := topS 7
abbrev N__law_is_matrix : List Str := ["_law_value"]
theorem sc__law_is_matrix : FnScope N__law_is_matrix ["_law_value"] (defScope s__law_is_matrix) := ⟨rfl, rfl, rfl, by decide +kernel, rfl, by decide +kernel, by decide +kernel⟩
abbrev s__law_any_matrix : Stmt := topS 8
abbrev N__law_any_matrix : List Str := ["_law_pool_here", "_law_wide", "_law_matrix", "_law_k", "_law_number_here"]
theorem sc__law_any_matrix : FnScope N__law_any_matrix ["_law_pool_here"] (defScope s__law_any_matrix) := ⟨rfl, rfl, rfl, by decide +kernel, rfl, by decide +kernel, by decide +kernel⟩
abbrev s__law_is_row : Stmt := topS 9
abbrev N__law_is_row : List Str := ["_law_value", "_law_many", "_law_x"]
theorem sc__law_is_row : FnScope N__law_is_row ["_law_value", "_law_many"] (defScope s__law_is_row) := ⟨rfl, rfl, rfl, by decide +kernel, rfl, by decide +kernel, by decide +kernel⟩
abbrev s__law_due : Stmt := topS 10
abbrev N__law_due : List Str := ["_law_matrix", "_law_due_here", "_law_i", "_law_j"]
theorem sc__law_due : FnScope N__law_due ["_law_matrix"] (defScope s__law_due) := ⟨rfl, rfl, rfl, by decide +kernel, rfl, by decide +kernel, by decide +kernel⟩
abbrev s_law : Stmt := topS 11
abbrev N_law : List Str := ["_law_script", "_law_pool_here", "_law_one", "_law_other", "_law_factor", "_law_mixed", "_law_matrix", "_law_passed", "_law_answer", "_law_first", "_law_second", "_law_k"]
theorem sc_law : FnScope N_law ["_law_script"] (defScope s_law) := ⟨rfl, rfl, rfl, by decide +kernel, rfl, by decide +kernel, by decide +kernel⟩
structure Top (w : World) (K : PySem.W.Frag) (mg : Str → Option Value) where
  a_identity : Addr
  d_identity : FuncData
  F_identity : Fun K "identity" "identity" s_identity a_identity d_identity
  g_identity : mg "identity" = some (.ref a_identity)
  a_kept_matrix : Addr
  d_kept_matrix : FuncData
  F_kept_matrix : Fun K "kept_matrix" "kept_matrix" s_kept_matrix a_kept_matrix d_kept_matrix
  g_kept_matrix : mg "kept_matrix" = some (.ref a_kept_matrix)
  a__law_pool : Addr
  d__law_pool : FuncData
  F__law_pool : Fun K "_law_pool" "_law_pool" s__law_pool a__law_pool d__law_pool
  g__law_pool : mg "_law_pool" = some (.ref a__law_pool)
  a__law_draw : Addr
  d__law_draw : FuncData
  F__law_draw : Fun K "_law_draw" "_law_draw" s__law_draw a__law_draw d__law_draw
  g__law_draw : mg "_law_draw" = some (.ref a__law_draw)
  a__law_number : Addr
  d__law_number : FuncData
  F__law_number : Fun K "_law_number" "_law_number" s__law_number a__law_number d__law_number
  g__law_number : mg "_law_number" = some (.ref a__law_number)
  a__law_is_matrix : Addr
  d__law_is_matrix : FuncData
  F__law_is_matrix : Fun K "_law_is_matrix" "_law_is_matrix" s__law_is_matrix a__law_is_matrix d__law_is_matrix
  g__law_is_matrix : mg "_law_is_matrix" = some (.ref a__law_is_matrix)
  a__law_any_matrix : Addr
  d__law_any_matrix : FuncData
  F__law_any_matrix : Fun K "_law_any_matrix" "_law_any_matrix" s__law_any_matrix a__law_any_matrix d__law_any_matrix
  g__law_any_matrix : mg "_law_any_matrix" = some (.ref a__law_any_matrix)
  a__law_is_row : Addr
  d__law_is_row : FuncData
  F__law_is_row : Fun K "_law_is_row" "_law_is_row" s__law_is_row a__law_is_row d__law_is_row
  g__law_is_row : mg "_law_is_row" = some (.ref a__law_is_row)
  a__law_due : Addr
  d__law_due : FuncData
  F__law_due : Fun K "_law_due" "_law_due" s__law_due a__law_due d__law_due
  g__law_due : mg "_law_due" = some (.ref a__law_due)
  a_law : Addr
  d_law : FuncData
  F_law : Fun K "law" "law" s_law a_law d_law
  g_law : mg "law" = some (.ref a_law)
  z_all : mg "all" = none
  z_bool : mg "bool" = none
  z_int : mg "int" = none
  z_isinstance : mg "isinstance" = none
  z_len : mg "len" = none
  z_list : mg "list" = none
  z_range : mg "range" = none
theorem b_identity {w : World} {K : PySem.W.Frag} {mg : Str → Option Value} (T : Top w K mg) : Binds K T.d_identity [] [] := T.F_identity.binds (ps := []) fun _ _ _ _ _ _ us hl => match us, hl with | [], _ => rfl
theorem b_kept_matrix {w : World} {K : PySem.W.Frag} {mg : Str → Option Value} (T : Top w K mg) : Binds K T.d_kept_matrix ["matrix"] [] := T.F_kept_matrix.binds (ps := ["matrix"]) fun _ _ _ _ _ _ us hl => match us, hl with | [_], _ => rfl
theorem b__law_pool {w : World} {K : PySem.W.Frag} {mg : Str → Option Value} (T : Top w K mg) : Binds K T.d__law_pool ["_law_script"] [] := T.F__law_pool.binds (ps := ["_law_script"]) fun _ _ _ _ _ _ us hl => match us, hl with | [_], _ => rfl
theorem b__law_draw {w : World} {K : PySem.W.Frag} {mg : Str → Option Value} (T : Top w K mg) : Binds K T.d__law_draw ["_law_pool_here", "_law_many"] [] := T.F__law_draw.binds (ps := ["_law_pool_here", "_law_many"]) fun _ _ _ _ _ _ us hl => match us, hl with | [_, _], _ => rfl
theorem b__law_number {w : World} {K : PySem.W.Frag} {mg : Str → Option Value} (T : Top w K mg) : Binds K T.d__law_number ["_law_pool_here"] [] := T.F__law_number.binds (ps := ["_law_pool_here"]) fun _ _ _ _ _ _ us hl => match us, hl with | [_], _ => rfl
theorem b__law_is_matrix {w : World} {K : PySem.W.Frag} {mg : Str → Option Value} (T : Top w K mg) : Binds K T.d__law_is_matrix ["_law_value"] [] := T.F__law_is_matrix.binds (ps := ["_law_value"]) fun _ _ _ _ _ _ us hl => match us, hl with | [_], _ => rfl
theorem b__law_any_matrix {w : World} {K : PySem.W.Frag} {mg : Str → Option Value} (T : Top w K mg) : Binds K T.d__law_any_matrix ["_law_pool_here"] [] := T.F__law_any_matrix.binds (ps := ["_law_pool_here"]) fun _ _ _ _ _ _ us hl => match us, hl with | [_], _ => rfl
theorem b__law_is_row {w : World} {K : PySem.W.Frag} {mg : Str → Option Value} (T : Top w K mg) : Binds K T.d__law_is_row ["_law_value", "_law_many"] [] := T.F__law_is_row.binds (ps := ["_law_value", "_law_many"]) fun _ _ _ _ _ _ us hl => match us, hl with | [_, _], _ => rfl
theorem b__law_due {w : World} {K : PySem.W.Frag} {mg : Str → Option Value} (T : Top w K mg) : Binds K T.d__law_due ["_law_matrix"] [] := T.F__law_due.binds (ps := ["_law_matrix"]) fun _ _ _ _ _ _ us hl => match us, hl with | [_], _ => rfl
theorem b_law {w : World} {K : PySem.W.Frag} {mg : Str → Option Value} (T : Top w K mg) : Binds K T.d_law ["_law_script"] [] := T.F_law.binds (ps := ["_law_script"]) fun _ _ _ _ _ _ us hl => match us, hl with | [_], _ => rfl
section
variable {P : Program} {w : World} {K : PySem.W.Frag} {mg : Str → Option Value} {base : Heap}
def sp__law_pool (K : PySem.W.Frag) : Sp := fun vs H Q _ => ∃ (a : Addr) (ns : List Int), vs = [.ref a] ∧ SqL K H a (ns.map V.int) ∧ ns.length ≤ 63 ∧
  ∀ (H' : Hp) (p : Addr) (L : Nat), Same H H' → H p = none → Pool H' p L → 2 ≤ L → L ≤ 64 → Q (.ref p) H'
theorem cut63 {ns : List Int} (h : ns.length ≤ 63) : cutV (ns.map V.int) none (some 63) = ns.map V.int := by
  unfold cutV
  rw [HT.sIx_none, show HT.sIx (ns.map V.int).length (ns.map V.int).length (some 63) = min 63 (ns.map V.int).length from HT.sIx_nat _ _ 63, List.drop_zero, Nat.sub_zero]
  refine List.take_of_length_le ?_
  rw [List.length_map]
  omega
theorem ok__law_pool (T : Top w K mg) : FnOk P w K mg base CX0 1 T.a__law_pool T.d__law_pool ["_law_script"] (sp__law_pool K) := by
  refine T.F__law_pool.ok sc__law_pool (fun vs H Q E h => ?_) (fun cdv A outer s H vs Q E hr h => ?_)
  · obtain ⟨a, ns, rfl, _⟩ := h
    rfl
  · obtain ⟨a, ns, rfl, hS, hlen, q⟩ := h
    refine ⟨_, (pss_one (ps_ret (pe_op op_cat (pe_lst (pa_cons pe_int pa_nil)) (pe_orT (pe_lc (own := [("_law_cell", 1)]) (g := (gName 1)) (tt := tYes) rfl sc__law_pool.nd (k_piL K (pe_slice (k_slL K) (pv 0) po_none (po_some pe_int))) (blkOk_by (N := N__law_pool) (sc := defScope s__law_pool) (by decide +kernel)) (fun _ _ _ _ _ => (pg_name (i := 1) sc__law_pool.nd rfl (Or.inl rfl))) (fun _ _ _ _ _ => pts_nil) (fun _ _ _ _ _ => (pe_callTy call_intI (by rfl) T.z_int bt_int (pa_cons (pv 1) pa_nil)))) (pe_one (pe_lst (pa_cons pe_int pa_nil))))))), ?_⟩
    refine ⟨small100 (n := 1) (by decide), fun l0 n0 => ?_⟩
    have s1 : Same H (upd H l0 (.lst [.int 0])) := same_upd n0
    refine ⟨_, rfl, 63, rfl, a, _, rfl, s1.seq hS, fun c nc => ?_⟩
    rw [cut63 hlen]
    have s2 := s1.trans (same_upd (o := .lst (ns.map V.int)) nc)
    have hl0 : (upd (upd H l0 (.lst [.int 0])) c (.lst (ns.map V.int))) l0 = some (.lst [.int 0]) := by
      rw [upd_ne (ne_of_none upd_same nc), upd_same]
    refine ⟨c, rfl, ⟨_, SqL.of upd_same⟩, fun D nD => ?_⟩
    refine lc_list (xs := ns.map V.int) (fun i H' => Same (upd (upd H l0 (.lst [.int 0])) c (.lst (ns.map V.int))) H' ∧ H' D = some (.lst ((ns.take i).map V.int))) ⟨same_upd nD, ?_⟩ (fun i H' _ h => h.1.seq (SqL.of upd_same)) (fun i x H' hx h => ?_) (fun H' h => ?_)
    · rw [upd_same]
      rfl
    · obtain ⟨hs, hD⟩ := h
      rw [List.getElem?_map] at hx
      cases e : ns[i]? with
      | none =>
        rw [e] at hx
        cases hx
      | some n =>
        rw [e] at hx
        cases hx
        refine ⟨rfl, _, rfl, n, rfl, _, hD, ?_, same_new hs nD, ?_⟩
        · rw [List.length_map, List.length_take]
          exact small1000 (by omega)
        · rw [upd_same, List.take_add_one, e, List.map_append]
          rfl
    · obtain ⟨hs, hD⟩ := h
      rw [len_map, List.take_length] at hD
      have hl0' := hs _ _ hl0
      have hD0 : H D = none := s2.free nD
      refine ⟨!(ns.map V.int).isEmpty, .inl ⟨_, SqL.of hD, rfl⟩, ?_⟩
      have hne : D ≠ l0 := (ne_of_none hl0 nD).symm
      cases ns with
      | nil =>
        refine ⟨small100 (n := 1) (by decide), fun l2 n2 => ?_⟩
        have hl2 : (upd H' l2 (.lst [.int 0])) l0 = some (.lst [.int 0]) := by
          rw [upd_ne (ne_of_none hl0' n2)]
          exact hl0'
        refine ⟨l0, l2, _, _, rfl, rfl, hl2, upd_same, small100 (n := 2) (by decide), fun p np => ?_⟩
        have s3 := same_new (s2.trans hs) (o := .lst [.int 0]) ((s2.trans hs).free n2)
        exact q _ p 2 (same_new s3 (s3.free np)) (s3.free np) ⟨[0, 0], upd_same, rfl⟩ (by decide) (by decide)
      | cons n r =>
        refine ⟨l0, D, _, _, rfl, rfl, hl0', hD, ?_, fun p np => ?_⟩
        · show 1 + ((n :: r).map V.int).length ≤ sizeLine
          rw [len_map]
          exact small100 (by omega)
        · have s3 := s2.trans hs
          refine q _ p (1 + (n :: r).length) (same_new s3 (s3.free np)) (s3.free np) ⟨0 :: n :: r, upd_same, ?_⟩ ?_ ?_
          · rw [List.length_cons]
            omega
          · rw [List.length_cons]
            omega
          · omega
def sp__law_draw (K : PySem.W.Frag) : Sp := fun vs H Q _ => ∃ (p : Addr) (L : Nat) (m : Int), vs = [.ref p, .int m] ∧ Pool H p L ∧ 2 ≤ L ∧ L ≤ 64 ∧ 0 < m ∧ m ≤ 1000 ∧
  ∀ (r : Int) (H' : Hp), 0 ≤ r → r < m → Kp p H H' → Pool H' p L → Q (.int r) H'
theorem ok__law_draw (T : Top w K mg) : FnOk P w K mg base CX0 1 T.a__law_draw T.d__law_draw ["_law_pool_here", "_law_many"] (sp__law_draw K) := by
  refine T.F__law_draw.ok sc__law_draw (fun vs H Q E h => ?_) (fun cdv A outer s H vs Q E hr h => ?_)
  · obtain ⟨p, L, m, rfl, _⟩ := h
    rfl
  · obtain ⟨p, L, m, rfl, ⟨ns, hp, hL⟩, h2, h64, hm0, hm1, q⟩ := h
    refine ⟨_, (pss_cons (ps_augS (pv 0) pe_int (k_getL K) pe_int ip_add set_list)
      (pss_cons (ps_set (i := 2) sc__law_draw.nd rfl (Or.inl rfl) (pe_op op_add pe_int (pe_op op_mod (pe_callTy call_intI (by rfl) T.z_int bt_int (pa_cons (pe_ix (k_ixL K) (pv 0) pe_int (fun _ _ => rfl)) pa_nil)) (pe_op op_sub (pe_callB (k_len K) (by rfl) T.z_len bt_len (pa_cons (pv 0) pa_nil)) pe_int))))
      (pss_cons (ps_set (i := 3) sc__law_draw.nd rfl (Or.inl rfl) (pe_callTy call_intI (by rfl) T.z_int bt_int (pa_cons (pe_ix (k_ixL K) (pv 0) (pv 2) (fun _ _ => rfl)) pa_nil)))
      (pss_cons (ps_if (pt_cmpR op_ge (pv 3) (pe_op op_pow pe_int pe_int) (nomark _)) (pss_cons (ps_asg (pe_op op_fdiv (pv 3) (pv 1)) (pg_sub (pv 0) (pv 2) set_list))
        (pss_one (ps_ret (pe_op op_mod (pv 3) (pv 1))))) pss_nil)
      (pss_cons (ps_set (i := 4) sc__law_draw.nd rfl (Or.inl rfl) (pe_op op_mod (pe_op op_mul (pe_callTy call_intI (by rfl) T.z_int bt_int (pa_cons (pe_op op_add (pe_op op_add (pv 3) (pe_op op_mul pe_int (pe_ix (k_ixL K) (pv 0) pe_int (fun _ _ => rfl)))) pe_int) pa_nil)) pe_int) pe_int))
      (pss_cons (ps_set (i := 4) sc__law_draw.nd rfl (Or.inl rfl) (pe_op op_mod (pe_op op_mul (pv 4) (pe_op op_add (pe_op op_fdiv (pv 4) pe_int) pe_int)) pe_int))
      (pss_cons (ps_set (i := 4) sc__law_draw.nd rfl (Or.inl rfl) (pe_op op_mod (pe_op op_mul (pv 4) (pe_op op_add (pe_op op_fdiv (pv 4) pe_int) pe_int)) pe_int))
      (pss_one (ps_ret (pe_op op_mod (pe_op op_fdiv (pv 4) pe_int) (pv 1))))))))))), ?_⟩
    obtain ⟨c0, g0, _⟩ := at_map (ns := ns) (i := 0) (by decide) (by omega)
    refine ⟨_, rfl, p, ns.map V.int, 0, .int c0, rfl, rfl, by decide, SqL.of hp, get_map g0, c0, 1, rfl, rfl, p, _, 0, 0, rfl, rfl, hp, ixN_in (by decide) (by rw [len_map]; omega), ?_⟩
    rw [set_map]
    generalize e1 : ns.set 0 (c0 + 1) = ms
    have hms : ms.length = L := by
      rw [← e1, List.length_set]
      exact hL
    clear e1
    have k1 : Kp p H (upd H p (.lst (ms.map V.int))) := Kp.upd
    have hp1 : (upd H p (.lst (ms.map V.int))) p = some (.lst (ms.map V.int)) := upd_same
    generalize upd H p (.lst (ms.map V.int)) = H1 at *
    obtain ⟨c1, _, g1⟩ := at_map (ns := ms) (i := 0) (by decide) (by omega)
    have hL1 : (0 : Int) < ((ms.map V.int).length : Int) - 1 := by
      rw [len_map]
      omega
    refine ⟨_, rfl, p, _, 0, _, rfl, rfl, SqL.of hp1, g1, c1, rfl, _, rfl, p, _, rfl, .inl (SqL.of hp1), _, _, rfl, rfl, _, _, rfl, rfl, hL1, _, _, rfl, rfl, ?_⟩
    have b0 : 0 ≤ 1 + c1 % (((ms.map V.int).length : Int) - 1) := by
      have := Int.emod_nonneg c1 (Int.ne_of_gt hL1)
      omega
    have b1 : 1 + c1 % (((ms.map V.int).length : Int) - 1) < ms.length := by
      have := Int.emod_lt_of_pos c1 hL1
      rw [len_map] at this ⊢
      omega
    dsimp only
    generalize 1 + c1 % (((ms.map V.int).length : Int) - 1) = j at *
    obtain ⟨c2, _, g2⟩ := at_map (ns := ms) (i := j) b0 b1
    refine ⟨_, rfl, _, rfl, p, _, j, _, rfl, rfl, SqL.of hp1, g2, c2, rfl, ?_⟩
    refine ⟨_, rfl, 10, 18, rfl, rfl, ⟨by decide, by decide, by decide⟩, _, _, rfl, rfl, _, rfl, ite2 (fun _ => ?_) (fun _ => ?_)⟩
    · refine ⟨_, rfl, _, rfl, _, _, rfl, rfl, ⟨hm0, by omega⟩, _, rfl, _, rfl, p, _, j, j.toNat, rfl, rfl, hp1, ixN_in b0 (by rw [len_map]; exact b1), ?_⟩
      rw [set_map]
      refine ⟨_, rfl, _, rfl, _, _, rfl, rfl, hm0, ?_⟩
      exact q _ _ (Int.emod_nonneg _ (Int.ne_of_gt hm0)) (Int.emod_lt_of_pos _ hm0) (k1.trans Kp.upd) ⟨_, upd_same, by rw [List.length_set]; exact hms⟩
    · obtain ⟨c3, _, g3⟩ := at_map (ns := ms) (i := 0) (by decide) (by omega)
      refine ⟨_, rfl, _, rfl, p, _, 0, _, rfl, rfl, SqL.of hp1, g3, _, c3, rfl, rfl, .inl ⟨by decide, by decide⟩, _, _, rfl, rfl, _, _, rfl, rfl, _, rfl, _, _, rfl, rfl, .inr ⟨by decide, by decide⟩, _, _, rfl, rfl, (show (0 : Int) < 2147483647 by decide), ?_⟩
      dsimp only
      generalize ez : (c2 + 7919 * c3 + 1) * 48271 % 2147483647 = z
      have z0 : 0 ≤ z := by rw [← ez]; exact Int.emod_nonneg _ (by decide)
      have z1 : z < 2147483647 := by rw [← ez]; exact Int.emod_lt_of_pos _ (by decide)
      refine ⟨_, rfl, _, rfl, _, _, rfl, rfl, ⟨by decide, by decide⟩, _, _, rfl, rfl, _, _, rfl, rfl, .inl ⟨by omega, by omega⟩, _, _, rfl, rfl, (show (0 : Int) < 2147483647 by decide), ?_⟩
      dsimp only
      generalize ey : z * (z / 1009 + 69621) % 2147483647 = y
      have y0 : 0 ≤ y := by rw [← ey]; exact Int.emod_nonneg _ (by decide)
      have y1 : y < 2147483647 := by rw [← ey]; exact Int.emod_lt_of_pos _ (by decide)
      refine ⟨_, rfl, _, rfl, _, _, rfl, rfl, ⟨by decide, by decide⟩, _, _, rfl, rfl, _, _, rfl, rfl, .inl ⟨by omega, by omega⟩, _, _, rfl, rfl, (show (0 : Int) < 2147483399 by decide), ?_⟩
      refine ⟨_, rfl, _, _, rfl, rfl, ⟨by decide, by decide⟩, _, rfl, _, _, rfl, rfl, hm0, ?_⟩
      exact q _ _ (Int.emod_nonneg _ (Int.ne_of_gt hm0)) (Int.emod_lt_of_pos _ hm0) k1 ⟨_, hp1, hms⟩

def Bd (n : Int) : Prop := -(2 ^ 133) < n ∧ n < 2 ^ 133
def sp__law_number (K : PySem.W.Frag) : Sp := fun vs H Q _ => ∃ (p : Addr) (L : Nat), vs = [.ref p] ∧ Pool H p L ∧ 2 ≤ L ∧ L ≤ 64 ∧
  ∀ (r : Int) (H' : Hp), Bd r → Kp p H H' → Pool H' p L → Q (.int r) H'
theorem ok__law_number (T : Top w K mg) : FnOk P w K mg base CX0 2 T.a__law_number T.d__law_number ["_law_pool_here"] (sp__law_number K) := by
  refine T.F__law_number.ok sc__law_number (fun vs H Q E h => ?_) (fun cdv A outer s H vs Q E hr h => ?_)
  · obtain ⟨p, L, rfl, _⟩ := h
    rfl
  · obtain ⟨p, L, rfl, pl, h2, h64, q⟩ := h
    refine ⟨_, (pss_cons (ps_set (i := 1) sc__law_number.nd rfl (Or.inl rfl) (pe_call (ok__law_draw T) hr (by rfl) T.g__law_draw T.F__law_draw.kp (b__law_draw T) .nil pass0 (pa_cons (pv 0) (pa_cons pe_int pa_nil))))
      (pss_cons (ps_if (pt_cmpR op_eq (pv 1) pe_int (nomark _)) (pss_one (ps_ret (pe_op op_sub (pe_call (ok__law_draw T) hr (by rfl) T.g__law_draw T.F__law_draw.kp (b__law_draw T) .nil pass0 (pa_cons (pv 0) (pa_cons pe_int pa_nil))) pe_int))) pss_nil)
      (pss_cons (ps_augS (pv 0) pe_int (k_getL K) pe_int ip_add set_list)
      (pss_cons (ps_set (i := 2) sc__law_number.nd rfl (Or.inl rfl) (pe_op op_add pe_int (pe_op op_mod (pe_callTy call_intI (by rfl) T.z_int bt_int (pa_cons (pe_ix (k_ixL K) (pv 0) pe_int (fun _ _ => rfl)) pa_nil)) (pe_op op_sub (pe_callB (k_len K) (by rfl) T.z_len bt_len (pa_cons (pv 0) pa_nil)) pe_int))))
      (pss_cons (ps_set (i := 3) sc__law_number.nd rfl (Or.inl rfl) (pe_op op_mod (pe_callTy call_intI (by rfl) T.z_int bt_int (pa_cons (pe_op op_add (pe_op op_mul (pe_ix (k_ixL K) (pv 0) (pv 2) (fun _ _ => rfl)) pe_int) (pe_op op_mul (pe_ix (k_ixL K) (pv 0) pe_int (fun _ _ => rfl)) pe_int)) pa_nil)) (pe_op op_pow pe_int pe_int)))
      (pss_cons (ps_if (pt_cmpR op_eq (pe_call (ok__law_draw T) hr (by rfl) T.g__law_draw T.F__law_draw.kp (b__law_draw T) .nil pass0 (pa_cons (pv 0) (pa_cons pe_int pa_nil))) pe_int (nomark _)) (pss_one (ps_ret (pv 3))) pss_nil)
      (pss_one (ps_ret (pe_op op_sub pe_int (pv 3)))))))))), ?_⟩
    refine ⟨_, rfl, p, L, 3, rfl, pl, h2, h64, by decide, by decide, fun r1 H1 _ _ k1 pl1 => ?_⟩
    refine ⟨_, rfl, rfl, _, rfl, ite2 (fun _ => ?_) (fun _ => ?_)⟩
    · refine ⟨_, rfl, p, L, 9, rfl, pl1, h2, h64, by decide, by decide, fun r2 H2 a1 a2 k2 pl2 => ?_⟩
      refine ⟨_, _, rfl, rfl, ?_⟩
      exact q _ _ ⟨by omega, by omega⟩ (k1.trans k2) pl2
    · obtain ⟨ns, hp, hL⟩ := pl1
      obtain ⟨c0, g0, _⟩ := at_map (ns := ns) (i := 0) (by decide) (by omega)
      refine ⟨_, rfl, p, ns.map V.int, 0, .int c0, rfl, rfl, by decide, SqL.of hp, get_map g0, c0, 1, rfl, rfl, p, _, 0, 0, rfl, rfl, hp, ixN_in (by decide) (by rw [len_map]; omega), ?_⟩
      rw [set_map]
      generalize e1 : ns.set 0 (c0 + 1) = ms
      have hms : ms.length = L := by
        rw [← e1, List.length_set]
        exact hL
      clear e1
      have k2 : Kp p H (upd H1 p (.lst (ms.map V.int))) := k1.trans Kp.upd
      have hp1 : (upd H1 p (.lst (ms.map V.int))) p = some (.lst (ms.map V.int)) := upd_same
      generalize upd H1 p (.lst (ms.map V.int)) = H2 at *
      obtain ⟨c1, _, g1⟩ := at_map (ns := ms) (i := 0) (by decide) (by omega)
      have hL1 : (0 : Int) < ((ms.map V.int).length : Int) - 1 := by
        rw [len_map]
        omega
      refine ⟨_, rfl, p, _, 0, _, rfl, rfl, SqL.of hp1, g1, c1, rfl, _, rfl, p, _, rfl, .inl (SqL.of hp1), _, _, rfl, rfl, _, _, rfl, rfl, hL1, _, _, rfl, rfl, ?_⟩
      have b0 : 0 ≤ 1 + c1 % (((ms.map V.int).length : Int) - 1) := by
        have := Int.emod_nonneg c1 (Int.ne_of_gt hL1)
        omega
      have b1 : 1 + c1 % (((ms.map V.int).length : Int) - 1) < ms.length := by
        have := Int.emod_lt_of_pos c1 hL1
        rw [len_map] at this ⊢
        omega
      dsimp only
      generalize 1 + c1 % (((ms.map V.int).length : Int) - 1) = j at *
      obtain ⟨c2, _, g2⟩ := at_map (ns := ms) (i := j) b0 b1
      obtain ⟨c3, _, g3⟩ := at_map (ns := ms) (i := 0) (by decide) (by omega)
      refine ⟨_, rfl, _, rfl, p, _, j, _, rfl, rfl, SqL.of hp1, g2, _, _, rfl, rfl, .inr ⟨by decide, by decide⟩, _, rfl, p, _, 0, _, rfl, rfl, SqL.of hp1, g3, _, _, rfl, rfl, .inr ⟨by decide, by decide⟩, _, _, rfl, rfl, _, rfl, 10, 40, rfl, rfl, ⟨by decide, by decide, by decide⟩, _, _, rfl, rfl, (show (0 : Int) < 10 ^ 40 by decide), ?_⟩
      dsimp only
      generalize ez : (c2 * 48271 + c3 * 69621) % 10 ^ (40 : Int).toNat = z
      have z0 : 0 ≤ z := by rw [← ez]; exact Int.emod_nonneg _ (by decide)
      have z1 : z < 10 ^ 40 := by rw [← ez]; exact Int.emod_lt_of_pos _ (by decide)
      refine ⟨_, rfl, p, L, 2, rfl, ⟨_, hp1, hms⟩, h2, h64, by decide, by decide, fun r3 H3 _ _ k3 pl3 => ?_⟩
      refine ⟨rfl, _, rfl, ite2 (fun _ => ?_) (fun _ => ?_)⟩
      · exact ⟨_, rfl, q _ _ ⟨by omega, by omega⟩ (k2.trans k3) pl3⟩
      · exact ⟨_, rfl, _, _, rfl, rfl, q _ _ ⟨by omega, by omega⟩ (k2.trans k3) pl3⟩

def sp__law_is_row (K : PySem.W.Frag) : Sp := fun vs H Q _ => ∃ (a : Addr) (ns : List Int) (m : Int), vs = [.ref a, .int m] ∧ (SqL K H a (ns.map V.int) ∨ SqT K H a (ns.map V.int)) ∧ ns.length ≤ 1000 ∧
  ∀ (b : Bool) (H' : Hp), (m = (ns.length : Int) → b = true) → Same H H' → Q (.bl b) H'
theorem same_sq {K : PySem.W.Frag} {H H' : Hp} {a : Addr} {xs : List V} (e : Same H H') (h : SqT K H a xs) : SqT K H' a xs := by
  rcases h with (h | ⟨o, h⟩) | h
  · exact .inl (.inl (e _ _ h))
  · exact .inl (.inr ⟨o, e _ _ h⟩)
  · exact .inr h
theorem trues (n : Nat) : ((List.replicate n true).all id) = true := by
  induction n with
  | zero => rfl
  | succ n ih => rw [List.replicate_succ, List.all_cons, ih]; rfl
theorem ok__law_is_row (T : Top w K mg) : FnOk P w K mg base CX0 1 T.a__law_is_row T.d__law_is_row ["_law_value", "_law_many"] (sp__law_is_row K) := by
  refine T.F__law_is_row.ok sc__law_is_row (fun vs H Q E h => ?_) (fun cdv A outer s H vs Q E hr h => ?_)
  · obtain ⟨a, ns, m, rfl, _⟩ := h
    rfl
  · obtain ⟨a, ns, m, rfl, hS, hlen, q⟩ := h
    refine ⟨_, (pss_one (ps_ret (pe_and (pe_cmpR op_eq (pe_callB (k_len K) (by rfl) T.z_len bt_len (pa_cons (pv 0) pa_nil)) (pv 1) (nomark _)) (pe_one (pe_callB (k_all K) (by rfl) T.z_all bt_all (pa_cons (pe_lc (own := [("_law_x", 2)]) (g := (gName 2)) (tt := tYes) rfl sc__law_is_row.nd (k_piS K (pv 0)) (blkOk_by (N := N__law_is_row) (sc := defScope s__law_is_row) (by decide +kernel)) (fun _ _ _ _ _ => (pg_name (i := 2) sc__law_is_row.nd rfl (Or.inl rfl))) (fun _ _ _ _ _ => pts_nil) (fun _ _ _ _ _ => (pe_and (pe_callB (k_isi K) (by rfl) T.z_isinstance bt_isinstance (pa_cons (pv 2) (pa_cons (pe_bltn (v := .ty "int") (by rfl) T.z_int bt_int rfl) pa_nil))) (pe_one (pe_not (pe_callB (k_isi K) (by rfl) T.z_isinstance bt_isinstance (pa_cons (pv 2) (pa_cons (pe_bltn (v := .ty "bool") (by rfl) T.z_bool bt_bool rfl) pa_nil)))))))) pa_nil)))))), ?_⟩
    refine ⟨_, rfl, a, _, rfl, hS, _, rfl, rfl, _, rfl, ite2 (fun _ => ?_) (fun hn => ?_)⟩
    · have turn : ∀ (i : Nat) (x : V) (D : Addr) (H' : Hp), (ns.map V.int)[i]? = some x → H D = none → (Same H H' ∧ H' D = some (.lst ((List.replicate i true).map V.bl))) → i < ns.length →
          ∃ n, x = .int n ∧ (((List.replicate i true).map V.bl).length < sizeLine) ∧ (Same H (upd H' D (.lst ((List.replicate i true).map V.bl ++ [V.bl true]))) ∧ (upd H' D (.lst ((List.replicate i true).map V.bl ++ [V.bl true]))) D = some (.lst ((List.replicate (i + 1) true).map V.bl))) := by
        intro i x D H' hx hD h hi
        rw [List.getElem?_map, List.getElem?_eq_getElem hi] at hx
        cases hx
        refine ⟨_, rfl, ?_, same_new h.1 hD, ?_⟩
        · rw [List.length_map, List.length_replicate]
          exact small1000 (by omega)
        · rw [upd_same, List.replicate_succ', List.map_append]
          rfl
      have done : ∀ (D : Addr) (H' : Hp), (Same H H' ∧ H' D = some (.lst ((List.replicate (ns.map V.int).length true).map V.bl))) → ∃ bs : List Bool, SqL K H' D (bs.map V.bl) ∧ Q (.bl (bs.all id)) H' := by
        intro D H' h
        exact ⟨_, SqL.of h.2, q _ _ (fun _ => trues _) h.1⟩
      have fin : ∀ (D : Addr) (H' : Hp), (Same H H' ∧ H' D = some (.lst ((List.replicate (ns.map V.int).length true).map V.bl))) → tCB (rAll K) (fun σ H Q => Q [V.ref D] H) [] H' Q := by
        intro D H' h
        obtain ⟨bs, h1, h2⟩ := done D H' h
        exact ⟨D, bs, rfl, h1, h2⟩
      rcases hS with hS | hS
      · refine .inl ⟨_, rfl, a, rfl, ⟨_, hS⟩, fun D nD => ?_⟩
        refine lc_list (xs := ns.map V.int) (fun i H' => Same H H' ∧ H' D = some (.lst ((List.replicate i true).map V.bl))) ⟨same_upd nD, upd_same⟩ (fun i H' _ h => h.1.seq hS) (fun i x H' hx h => ?_) (fun H' h => fin D H' h)
        obtain ⟨n, rfl, h1, h2⟩ := turn i x D H' hx nD h (by have := (List.getElem?_eq_some_iff.mp hx).1; rwa [List.length_map] at this)
        refine ⟨rfl, _, rfl, _, _, _, _, true, rfl, .ty _, .base (.int n), kit_ty (by decide +kernel), true, rfl, _, rfl, _, _, _, _, false, rfl, .ty _, .base (.int n), kit_ty (by decide +kernel), false, rfl, _, h.2, h1, h2⟩
      · refine .inr ⟨_, rfl, a, rfl, ⟨_, hS⟩, fun D nD => ?_⟩
        refine lc_tup (xs := ns.map V.int) (fun i H' => Same H H' ∧ H' D = some (.lst ((List.replicate i true).map V.bl))) ⟨same_upd nD, upd_same⟩ (fun i H' _ h => same_sq h.1 hS) (fun i x H' hx h => ?_) (fun H' h => fin D H' h)
        obtain ⟨n, rfl, h1, h2⟩ := turn i x D H' hx nD h (by have := (List.getElem?_eq_some_iff.mp hx).1; rwa [List.length_map] at this)
        refine ⟨rfl, _, rfl, _, _, _, _, true, rfl, .ty _, .base (.int n), kit_ty (by decide +kernel), true, rfl, _, rfl, _, _, _, _, false, rfl, .ty _, .base (.int n), kit_ty (by decide +kernel), false, rfl, _, h.2, h1, h2⟩
    · refine q false _ (fun e => ?_) (Same.refl _)
      exact absurd (decide_eq_true (by rw [len_map, ← e])) hn

def sp__law_is_matrix (K : PySem.W.Frag) : Sp := fun vs H Q _ => ∃ (a : Addr) (ns : List Int), vs = [.ref a] ∧ H a = some (.lst (ns.map V.int)) ∧ ns.length = 49 ∧ ∀ H', Same H H' → Q (.bl true) H'
theorem ok__law_is_matrix (T : Top w K mg) : FnOk P w K mg base CX0 2 T.a__law_is_matrix T.d__law_is_matrix ["_law_value"] (sp__law_is_matrix K) := by
  refine T.F__law_is_matrix.ok sc__law_is_matrix (fun vs H Q E h => ?_) (fun cdv A outer s H vs Q E hr h => ?_)
  · obtain ⟨a, ns, rfl, _⟩ := h
    rfl
  · obtain ⟨a, ns, rfl, ha, hl, q⟩ := h
    refine ⟨_, (pss_one (ps_ret (pe_and (pe_callB (k_isi K) (by rfl) T.z_isinstance bt_isinstance (pa_cons (pv 0) (pa_cons (pe_bltn (v := .ty "list") (by rfl) T.z_list bt_list rfl) pa_nil))) (pe_one (pe_call (ok__law_is_row T) hr (by rfl) T.g__law_is_row T.F__law_is_row.kp (b__law_is_row T) .nil pass0 (pa_cons (pv 0) (pa_cons pe_int pa_nil))))))), ?_⟩
    refine ⟨_, rfl, _, _, _, _, true, rfl, .ty _, .base (.lst ha), kit_ty (by decide +kernel), true, rfl, _, rfl, a, ns, 49, rfl, .inl (SqL.of ha), by omega, fun b H' hb sm => ?_⟩
    rw [hb (by rw [hl]; rfl)]
    exact q H' sm

def sp__law_any_matrix (K : PySem.W.Frag) : Sp := fun vs H Q _ => ∃ (p : Addr) (L : Nat), vs = [.ref p] ∧ Pool H p L ∧ 2 ≤ L ∧ L ≤ 64 ∧
  ∀ (q : Addr) (ns : List Int) (H' : Hp), ns.length = 49 → (∀ n ∈ ns, Bd n) → Kp p H H' → Pool H' p L → H q = none → H' q = some (.lst (ns.map V.int)) → Q (.ref q) H'
theorem bd_snoc {ns : List Int} {z : Int} (h : ∀ n ∈ ns, Bd n) (b : Bd z) : ∀ n ∈ ns ++ [z], Bd n := fun n hn => by
  rcases List.mem_append.mp hn with hn | hn
  · exact h n hn
  · rw [List.mem_singleton.mp hn]
    exact b
theorem map_snoc (ns : List Int) (z : Int) : ns.map V.int ++ [.int z] = (ns ++ [z]).map V.int := by
  rw [List.map_append]
  rfl
theorem ok__law_any_matrix (T : Top w K mg) : FnOk P w K mg base CX0 3 T.a__law_any_matrix T.d__law_any_matrix ["_law_pool_here"] (sp__law_any_matrix K) := by
  refine T.F__law_any_matrix.ok sc__law_any_matrix (fun vs H Q E h => ?_) (fun cdv A outer s H vs Q E hr h => ?_)
  · obtain ⟨p, L, rfl, _⟩ := h
    rfl
  · obtain ⟨p, L, rfl, pl, h2, h64, q⟩ := h
    refine ⟨_, (pss_cons (ps_set (i := 1) sc__law_any_matrix.nd rfl (Or.inl rfl) (pe_call (ok__law_draw T) (hr.mono (by decide)) (by rfl) T.g__law_draw T.F__law_draw.kp (b__law_draw T) .nil pass0 (pa_cons (pv 0) (pa_cons pe_int pa_nil))))
      (pss_cons (ps_set (i := 2) sc__law_any_matrix.nd rfl (Or.inl rfl) (pe_lst pa_nil))
      (pss_cons (ps_for PassesOwn.never rfl (pi_range1 (by rfl) T.z_range (pa_cons pe_int pa_nil)) (pg_name (i := 3) sc__law_any_matrix.nd rfl (Or.inl rfl)) (pss_cons (ps_set (i := 4) sc__law_any_matrix.nd rfl (Or.inl rfl) pe_int)
        (pss_cons (ps_if (pt_cmpR op_eq (pe_call (ok__law_draw T) (hr.mono (by decide)) (by rfl) T.g__law_draw T.F__law_draw.kp (b__law_draw T) .nil pass0 (pa_cons (pv 0) (pa_cons pe_int pa_nil))) pe_int (nomark _)) (pss_cons (ps_set (i := 4) sc__law_any_matrix.nd rfl (Or.inl rfl) (pe_op op_sub (pe_call (ok__law_draw T) (hr.mono (by decide)) (by rfl) T.g__law_draw T.F__law_draw.kp (b__law_draw T) .nil pass0 (pa_cons (pv 0) (pa_cons pe_int pa_nil))) pe_int))
          (pss_one (ps_if (pt_cmpR op_eq (pv 1) pe_int (nomark _)) (pss_one (ps_set (i := 4) sc__law_any_matrix.nd rfl (Or.inl rfl) (pe_call (ok__law_number T) hr (by rfl) T.g__law_number T.F__law_number.kp (b__law_number T) .nil pass0 (pa_cons (pv 0) pa_nil)))) pss_nil))) pss_nil)
        (pss_one (ps_expr (pe_bm PySem.F.plainAttrs_list PySem.F.slot_list_append PySem.F.type_list_append mt_append (pv 2) (pa_cons (pv 4) pa_nil)))))))
      (pss_one (ps_ret (pv 2)))))), ?_⟩
    refine ⟨_, rfl, p, L, 4, rfl, pl, h2, h64, by decide, by decide, fun wd H1 _ _ k1 pl1 => ?_⟩
    refine ⟨Nat.zero_le _, fun m nm => ?_⟩
    have nm0 : H m = none := k1.none nm (pl1.ne nm)
    have hmp : m ≠ p := pl1.ne nm
    refine ⟨49, rfl, by decide, by decide, for_range (n := 49) (fun i σ H' => ∃ (y z : Option V) (ns : List Int), σ = [some (.ref p), some (.int wd), some (.ref m), y, z] ∧ ns.length = i ∧ (∀ n ∈ ns, Bd n) ∧ Kp p H H' ∧ Pool H' p L ∧ H' m = some (.lst (ns.map V.int))) ?_ (fun i σ H' hi h => ?_) (fun σ H' h => ?_)⟩
    · exact ⟨none, none, [], rfl, rfl, (by intro n hn; cases hn), k1.new nm0, pl1.new nm, upd_same⟩
    · obtain ⟨y, z, ns, rfl, hl, hb, k2, pl2, hm⟩ := h
      have hz : (ns.map V.int).length < sizeLine := by
        rw [len_map]
        exact small1000 (by omega)
      refine ⟨_, rfl, p, L, 3, rfl, pl2, h2, h64, by decide, by decide, fun r3 H3 _ _ k3 pl3 => ?_⟩
      have hm3 := k3 _ _ hmp hm
      refine ⟨rfl, _, rfl, ite2 (fun _ => ?_) (fun _ => ?_)⟩
      · refine ⟨_, rfl, p, L, 9, rfl, pl3, h2, h64, by decide, by decide, fun r4 H4 a1 a2 k4 pl4 => ?_⟩
        have hm4 := k4 _ _ hmp hm3
        have b4 : Bd (r4 - 4) := ⟨by omega, by omega⟩
        refine ⟨_, _, rfl, rfl, _, rfl, rfl, _, rfl, ite2 (fun _ => ?_) (fun _ => ?_)⟩
        · refine ⟨_, rfl, p, L, rfl, pl4, h2, h64, fun r5 H5 b5 k5 pl5 => ?_⟩
          have hm5 := k5 _ _ hmp hm4
          refine ⟨_, rfl, .inl ⟨rfl, _, SqL.of hm5⟩, _, rfl, m, _, _, rfl, rfl, hm5, hz, ?_⟩
          rw [map_snoc]
          exact ⟨_, _, ns ++ [r5], rfl, by simp [hl], bd_snoc hb b5, ((k2.trans k3).trans (k4.trans k5)).new nm0, pl5.keep hmp, upd_same⟩
        · refine ⟨_, rfl, .inl ⟨rfl, _, SqL.of hm4⟩, _, rfl, m, _, _, rfl, rfl, hm4, hz, ?_⟩
          rw [map_snoc]
          exact ⟨_, _, ns ++ [r4 - 4], rfl, by simp [hl], bd_snoc hb b4, ((k2.trans k3).trans k4).new nm0, pl4.keep hmp, upd_same⟩
      · refine ⟨_, rfl, .inl ⟨rfl, _, SqL.of hm3⟩, _, rfl, m, _, _, rfl, rfl, hm3, hz, ?_⟩
        have e0 : ns.map V.int ++ [.int 0] = (ns ++ [0]).map V.int := map_snoc ns 0
        rw [e0]
        exact ⟨_, _, ns ++ [0], rfl, by simp [hl], bd_snoc hb ⟨by decide, by decide⟩, (k2.trans k3).new nm0, pl3.keep hmp, upd_same⟩
    · obtain ⟨y, z, ns, rfl, hl, hb, k2, pl2, hm⟩ := h
      exact ⟨_, rfl, q m ns H' hl hb k2 pl2 nm0 hm⟩

def dueAt (ns : List Int) (t : Nat) : Int := if t / 7 = 0 ∨ 4 < t / 7 then ns.getD t 0 else ns.getD 0 0 * (if t / 7 = t % 7 then 1 else 0)
def due (ns : List Int) : List Int := (List.range 49).map (dueAt ns)
theorem getD_get {ns : List Int} {t : Nat} (h : t < ns.length) : ns[t]? = some (ns.getD t 0) := by
  rw [List.getD_eq_getElem?_getD, List.getElem?_eq_getElem h]
  rfl
theorem at_nat {ns : List Int} {i : Int} {t : Nat} (e : i = (t : Int)) (h : t < ns.length) : atI (ns.map V.int) i = some (.int (ns.getD t 0)) := by
  rw [e]
  exact atI_nat (get_map (getD_get h))
def sp__law_due (K : PySem.W.Frag) : Sp := fun vs H Q _ => ∃ (a : Addr) (ns : List Int), vs = [.ref a] ∧ SqL K H a (ns.map V.int) ∧ ns.length = 49 ∧
  ∀ (q : Addr) (H' : Hp), Same H H' → H q = none → H' q = some (.lst ((due ns).map V.int)) → Q (.ref q) H'
theorem range_snoc (f : Nat → Int) (n : Nat) : ((List.range n).map f).map V.int ++ [.int (f n)] = ((List.range (n + 1)).map f).map V.int := by
  rw [List.range_succ, List.map_append, List.map_append]
  rfl
theorem ok__law_due (T : Top w K mg) : FnOk P w K mg base CX0 1 T.a__law_due T.d__law_due ["_law_matrix"] (sp__law_due K) := by
  refine T.F__law_due.ok sc__law_due (fun vs H Q E h => ?_) (fun cdv A outer s H vs Q E hr h => ?_)
  · obtain ⟨a, ns, rfl, _⟩ := h
    rfl
  · obtain ⟨a, ns, rfl, hS, hl, q⟩ := h
    refine ⟨_, (pss_cons (ps_set (i := 1) sc__law_due.nd rfl (Or.inl rfl) (pe_lst pa_nil))
      (pss_cons (ps_for PassesOwn.never rfl (pi_range1 (by rfl) T.z_range (pa_cons pe_int pa_nil)) (pg_name (i := 2) sc__law_due.nd rfl (Or.inl rfl)) (pss_one (ps_for PassesOwn.never rfl (pi_range1 (by rfl) T.z_range (pa_cons pe_int pa_nil)) (pg_name (i := 3) sc__law_due.nd rfl (Or.inl rfl)) (pss_one (ps_if (PW.pt (pw_or (pt_cmpR op_eq (pv 2) pe_int (nomark _)) (pw_or1 (pt_cmpR op_gt (pv 2) pe_int (nomark _))))) (pss_one (ps_expr (pe_bm PySem.F.plainAttrs_list PySem.F.slot_list_append PySem.F.type_list_append mt_append (pv 1) (pa_cons (pe_ix (k_ixL K) (pv 0) (pe_op op_add (pe_op op_mul pe_int (pv 2)) (pv 3)) (fun _ _ => rfl)) pa_nil)))) (pss_one (ps_expr (pe_bm PySem.F.plainAttrs_list PySem.F.slot_list_append PySem.F.type_list_append mt_append (pv 1) (pa_cons (pe_op op_mul (pe_ix (k_ixL K) (pv 0) pe_int (fun _ _ => rfl)) (pe_callTy call_intB (by rfl) T.z_int bt_int (pa_cons (pe_cmpR op_eq (pv 2) (pv 3) (nomark _)) pa_nil))) pa_nil)))))))))
      (pss_one (ps_ret (pv 1))))), ?_⟩
    refine ⟨Nat.zero_le _, fun D nD => ?_⟩
    refine ⟨7, rfl, by decide, by decide, for_range (n := 7) (fun i σ H' => ∃ (y z : Option V), σ = [some (.ref a), some (.ref D), y, z] ∧ Same H H' ∧ H' D = some (.lst (((List.range (7 * i)).map (dueAt ns)).map V.int))) ?_ (fun i σ H' hi h => ?_) (fun σ H' h => ?_)⟩
    · exact ⟨none, none, rfl, same_upd nD, upd_same⟩
    · obtain ⟨y, z, rfl, sm, hD⟩ := h
      refine ⟨7, rfl, by decide, by decide, for_range (n := 7) (fun j σ H' => ∃ (z : Option V), σ = [some (.ref a), some (.ref D), some (.int (0 + i)), z] ∧ Same H H' ∧ H' D = some (.lst (((List.range (7 * i + j)).map (dueAt ns)).map V.int))) ?_ (fun j σ H' hj h => ?_) (fun σ H' h => ?_)⟩
      · exact ⟨z, rfl, sm, hD⟩
      · obtain ⟨z, rfl, sm, hD⟩ := h
        have e1 : (7 * i + j) / 7 = i := by omega
        have e2 : (7 * i + j) % 7 = j := by omega
        have hA := sm.seq hS
        have hsz : (((List.range (7 * i + j)).map (dueAt ns)).map V.int).length < sizeLine := by
          rw [List.length_map, List.length_map, List.length_range]
          exact small1000 (by omega)
        have big : ∀ (c : i = 0 ∨ 4 < i), dueAt ns (7 * i + j) = ns.getD (7 * i + j) 0 := fun c => by
          unfold dueAt
          rw [e1, if_pos c]
        have take : ∀ v : Int, dueAt ns (7 * i + j) = v → (∃ z, ([some (V.ref a), some (.ref D), some (.int (0 + i)), some (.int (0 + j))] : L2.St) = [some (V.ref a), some (.ref D), some (.int (0 + i)), z] ∧ Same H (upd H' D (.lst (((List.range (7 * i + j)).map (dueAt ns)).map V.int ++ [.int v]))) ∧ (upd H' D (.lst (((List.range (7 * i + j)).map (dueAt ns)).map V.int ++ [.int v]))) D = some (.lst (((List.range (7 * i + (j + 1))).map (dueAt ns)).map V.int))) := fun v e => by
          refine ⟨_, rfl, same_new sm nD, ?_⟩
          rw [upd_same, ← e, range_snoc, Nat.add_assoc]
        refine ⟨_, rfl, rfl, _, rfl, ite2 (fun h0 => ?_) (fun h0 => ?_)⟩
        · have i0 : i = 0 := by have := V.int.inj (of_decide_eq_true h0); omega
          refine ⟨_, rfl, .inl ⟨rfl, _, SqL.of hD⟩, _, rfl, _, rfl, _, _, rfl, rfl, .inl ⟨by decide, by decide⟩, _, rfl, _, _, rfl, rfl, a, _, _, _, rfl, rfl, hA, at_nat (t := 7 * i + j) (by omega) (by omega), D, _, _, rfl, rfl, hD, hsz, ?_⟩
          exact take _ (big (.inl i0))
        · have i0 : i ≠ 0 := fun e => h0 (decide_eq_true (by subst e; rfl))
          refine ⟨_, rfl, _, _, rfl, rfl, _, rfl, ite2 (fun h4 => ?_) (fun h4 => ?_)⟩
          · have h4 := of_decide_eq_true h4
            refine ⟨_, rfl, .inl ⟨rfl, _, SqL.of hD⟩, _, rfl, _, rfl, _, _, rfl, rfl, .inl ⟨by decide, by decide⟩, _, rfl, _, _, rfl, rfl, a, _, _, _, rfl, rfl, hA, at_nat (t := 7 * i + j) (by omega) (by omega), D, _, _, rfl, rfl, hD, hsz, ?_⟩
            exact take _ (big (.inr (by omega)))
          · have h4 : ¬ (4 < i) := fun h => h4 (decide_eq_true (by omega))
            have e3 : (V.int (0 + (i : Int)) = V.int (0 + (j : Int))) ↔ (i = j) := ⟨fun e => by have := V.int.inj e; omega, fun e => by rw [e]⟩
            refine ⟨_, rfl, .inl ⟨rfl, _, SqL.of hD⟩, _, rfl, a, _, 0, _, rfl, rfl, hA, at_nat (t := 0) rfl (by omega), _, rfl, _, rfl, rfl, _, rfl, _, _, rfl, rfl, ?_, D, _, _, rfl, rfl, hD, hsz, ?_⟩
            · refine .inr ?_
              split <;> exact ⟨by decide, by decide⟩
            · refine take _ ?_
              unfold dueAt
              rw [e1, e2, if_neg (by omega)]
              by_cases e : i = j
              · rw [if_pos e, decide_eq_true (e3.mpr e), if_pos rfl]
              · rw [if_neg e, decide_eq_false (fun x => e (e3.mp x)), if_neg (by decide)]
      · obtain ⟨z, rfl, sm, hD⟩ := h
        exact ⟨_, z, rfl, sm, by rw [hD, Nat.mul_succ]⟩
    · obtain ⟨y, z, rfl, sm, hD⟩ := h
      exact ⟨_, rfl, q D H' sm nD hD⟩

def identL : List Int := (List.range 49).map fun t => if t / 7 = t % 7 then 1 else 0
def sp_identity (K : PySem.W.Frag) : Sp := fun vs H Q _ => vs = [] ∧ ∀ (q : Addr) (H' : Hp), Same H H' → H q = none → H' q = some (.lst (identL.map V.int)) → Q (.ref q) H'
theorem ok_identity (T : Top w K mg) : FnOk P w K mg base CX0 1 T.a_identity T.d_identity [] (sp_identity K) := by
  refine T.F_identity.ok sc_identity (fun vs H Q E h => ?_) (fun cdv A outer s H vs Q E hr h => ?_)
  · rw [h.1]
    rfl
  · obtain ⟨rfl, q⟩ := h
    refine ⟨_, (pss_one (ps_ret (pe_lc2 (own := [("i", 0), ("j", 1)]) (vs1 := [1]) (g := (gName 0)) (g1 := (gName 1)) (tt := tYes) (tt1 := tYes) rfl sc_identity.nd (pi_range1 (by rfl) T.z_range (pa_cons pe_int pa_nil)) (blkOk_by (N := N_identity) (sc := defScope s_identity) (by decide +kernel)) (by decide) (fun _ _ _ _ _ => (pg_name (i := 0) sc_identity.nd rfl (Or.inl rfl))) (fun _ _ _ _ _ => pts_nil) (fun _ _ _ _ _ => (pi_range1 (by rfl) T.z_range (pa_cons pe_int pa_nil))) (fun _ _ _ _ _ => (pg_name (i := 1) sc_identity.nd rfl (Or.inl rfl))) (fun _ _ _ _ _ => pts_nil) (fun _ _ _ _ _ => (pe_callTy call_intB (by rfl) T.z_int bt_int (pa_cons (pe_cmpR op_eq (pv 0) (pv 1) (nomark _)) pa_nil)))))), ?_⟩
    let f : Nat → Int := fun t => if t / 7 = t % 7 then 1 else 0
    refine ⟨7, rfl, by decide, by decide, fun D nD => ?_⟩
    refine ⟨fun i m H' => m = 7 - i ∧ i ≤ 7 ∧ Same H H' ∧ H' D = some (.lst (((List.range (7 * i)).map f).map V.int)), ⟨7, rfl, by decide, same_upd nD, upd_same⟩, fun i m H' h => ?_⟩
    obtain ⟨rfl, hi, sm, hD⟩ := h
    by_cases h7 : i < 7
    · refine .inr ⟨h7, fun H' => Same H H' ∧ H' D = some (.lst (((List.range (7 * i + 7)).map f).map V.int)), fun H' h => ⟨7 - (i + 1), by omega, rfl, h7, h.1, by rw [h.2, Nat.mul_succ]⟩, fun x H' y => ?_⟩
      obtain ⟨rfl, rfl⟩ := y
      refine ⟨rfl, 7, rfl, by decide, by decide, ?_⟩
      refine ⟨fun j k H' => k = 7 - j ∧ j ≤ 7 ∧ Same H H' ∧ H' D = some (.lst (((List.range (7 * i + j)).map f).map V.int)), ⟨7, rfl, by decide, sm, hD⟩, fun j k H' h => ?_⟩
      obtain ⟨rfl, hj, sm, hD⟩ := h
      by_cases j7 : j < 7
      · refine .inr ⟨j7, fun H' => Same H H' ∧ H' D = some (.lst (((List.range (7 * i + (j + 1))).map f).map V.int)), fun H' h => ⟨7 - (j + 1), by omega, rfl, j7, h.1, h.2⟩, fun x H' y => ?_⟩
        obtain ⟨rfl, rfl⟩ := y
        have e3 : (V.int (0 + (i : Int)) = V.int (0 + (j : Int))) ↔ (i = j) := ⟨fun e => by have := V.int.inj e; omega, fun e => by rw [e]⟩
        refine ⟨rfl, _, rfl, _, rfl, rfl, _, rfl, _, hD, ?_, same_new sm nD, ?_⟩
        · rw [List.length_map, List.length_map, List.length_range]
          exact small1000 (by omega)
        · have ef : f (7 * i + j) = if decide (V.int (0 + (i : Int)) = V.int (0 + (j : Int))) = true then 1 else 0 := by
            show (if (7 * i + j) / 7 = (7 * i + j) % 7 then (1 : Int) else 0) = _
            rw [show (7 * i + j) / 7 = i by omega, show (7 * i + j) % 7 = j by omega]
            by_cases e : i = j
            · rw [if_pos e, decide_eq_true (e3.mpr e), if_pos rfl]
            · rw [if_neg e, decide_eq_false (fun x => e (e3.mp x)), if_neg (by decide)]
          rw [upd_same, ← ef, range_snoc, Nat.add_assoc]
      · refine .inl ⟨by show 7 ≤ j; omega, sm, ?_⟩
        rw [hD, show j = 7 by omega]
    · have e : i = 7 := by omega
      subst e
      exact .inl ⟨Nat.le_refl _, q D H' sm nD hD⟩
def kept (ns : List Int) : List Int := ns.take 7 ++ (((identL.drop 7).take 28).map fun z => ns.getD 0 0 * z) ++ ns.drop 35
def sp_kept_matrix (K : PySem.W.Frag) : Sp := fun vs H Q _ => ∃ (a : Addr) (ns : List Int), vs = [.ref a] ∧ SqL K H a (ns.map V.int) ∧ ns.length = 49 ∧
  ∀ (q : Addr) (H' : Hp), Same H H' → H q = none → H' q = some (.lst ((kept ns).map V.int)) → Q (.ref q) H'
theorem cut_head {xs : List V} {k : Nat} (h : k ≤ xs.length) : cutV xs none (some (k : Int)) = xs.take k := by
  unfold cutV
  rw [HT.sIx_none, HT.sIx_nat, List.drop_zero, Nat.sub_zero, Nat.min_eq_left h]
theorem cut_tail {xs : List V} {k : Nat} (h : k ≤ xs.length) : cutV xs (some (k : Int)) none = xs.drop k := by
  unfold cutV
  rw [HT.sIx_none, HT.sIx_nat, Nat.min_eq_left h]
  exact List.take_of_length_le (by rw [List.length_drop]; omega)
theorem cut_mid {xs : List V} {j k : Nat} (h : k ≤ xs.length) (hj : j ≤ k) : cutV xs (some (j : Int)) (some (k : Int)) = (xs.drop j).take (k - j) := by
  unfold cutV
  rw [HT.sIx_nat, HT.sIx_nat, Nat.min_eq_left h, Nat.min_eq_left (Nat.le_trans hj h)]
theorem ident_small : ∀ z ∈ identL, z = 0 ∨ z = 1 := by decide +kernel
theorem ok_kept_matrix (T : Top w K mg) : FnOk P w K mg base CX0 2 T.a_kept_matrix T.d_kept_matrix ["matrix"] (sp_kept_matrix K) := by
  refine T.F_kept_matrix.ok sc_kept_matrix (fun vs H Q E h => ?_) (fun cdv A outer s H vs Q E hr h => ?_)
  · obtain ⟨a, ns, rfl, _⟩ := h
    rfl
  · obtain ⟨a, ns, rfl, hS, hl, q⟩ := h
    refine ⟨_, (pss_cons (ps_setLc (i := 1) (own := [("number", 2)]) (g := (gName 2)) (tt := tYes) rfl sc_kept_matrix.nd rfl rfl (sw_true rfl rfl rfl (by decide +kernel)) (k_piL K (pe_slice (k_slL K) (pe_call0 (ok_identity T) hr (by rfl) T.g_identity T.F_identity.kp (b_identity T) .nil pass0) (po_some pe_int) (po_some pe_int))) (blkOk_by (N := N_kept_matrix) (sc := defScope s_kept_matrix) (by decide +kernel)) (fun _ _ _ _ _ => (pg_name (i := 2) sc_kept_matrix.nd rfl (Or.inl rfl))) (fun _ _ _ _ _ => pts_nil) (fun _ _ _ _ _ => (pe_op op_mul (pe_ix (k_ixL K) (pv 0) pe_int (fun _ _ => rfl)) (pv 2))))
      (pss_one (ps_ret (pe_lst (k_star K (pe_slice (k_slL K) (pv 0) po_none (po_some pe_int)) (k_star K (pv 1) (k_star K (pe_slice (k_slL K) (pv 0) (po_some pe_int) po_none) pa_nil))))))), ?_⟩
    refine ⟨rfl, fun i H1 s1 ni hi => ?_⟩
    have hil : (identL.map V.int).length = 49 := by decide +kernel
    refine ⟨7, rfl, 35, rfl, i, _, rfl, SqL.of hi, fun c nc => ?_⟩
    rw [show cutV (identL.map V.int) (some 7) (some 35) = ((identL.map V.int).drop 7).take 28 from cut_mid (j := 7) (k := 35) (by rw [hil]; decide) (by decide)]
    have ec : ((identL.map V.int).drop 7).take 28 = ((identL.drop 7).take 28).map V.int := by rw [← List.map_drop, ← List.map_take]
    rw [ec]
    generalize eX : (identL.drop 7).take 28 = xs
    have hxs : ∀ z ∈ xs, z = 0 ∨ z = 1 := fun z hz => by
      rw [← eX] at hz
      exact ident_small z (List.mem_of_mem_drop (List.mem_of_mem_take hz))
    have hxl : xs.length = 28 := by rw [← eX]; decide +kernel
    have s2 : Same H (upd H1 c (.lst (xs.map V.int))) := s1.trans (same_upd nc)
    refine ⟨c, rfl, ⟨_, SqL.of upd_same⟩, fun D nD => ?_⟩
    refine lc_list (xs := xs.map V.int) (fun i H' => Same (upd H1 c (.lst (xs.map V.int))) H' ∧ H' D = some (.lst ((((xs.take i).map fun z => ns.getD 0 0 * z)).map V.int))) ⟨same_upd nD, ?_⟩ (fun i H' _ h => h.1.seq (SqL.of upd_same)) (fun i x H' hx h => ?_) (fun H' h => ?_)
    · rw [upd_same]
      rfl
    · obtain ⟨hs, hD⟩ := h
      rw [List.getElem?_map] at hx
      cases e : xs[i]? with
      | none =>
        rw [e] at hx
        cases hx
      | some n =>
        rw [e] at hx
        cases hx
        have hn := hxs n (List.mem_of_getElem? e)
        refine ⟨rfl, _, rfl, a, _, 0, _, rfl, rfl, (s2.trans hs).seq hS, at_nat (t := 0) rfl (by omega), _, rfl, _, _, rfl, rfl, .inr ⟨by rcases hn with rfl | rfl <;> decide, by rcases hn with rfl | rfl <;> decide⟩, _, hD, ?_, same_new hs nD, ?_⟩
        · rw [List.length_map, List.length_map, List.length_take]
          exact small1000 (by omega)
        · rw [upd_same, List.take_add_one, e, List.map_append, List.map_append]
          rfl
    · obtain ⟨hs, hD⟩ := h
      rw [len_map, List.take_length] at hD
      have s3 := s2.trans hs
      have hD0 : H D = none := s2.free nD
      refine ⟨_, rfl, 7, rfl, a, _, rfl, s3.seq hS, fun f nf => ?_⟩
      rw [show cutV (ns.map V.int) none (some 7) = (ns.map V.int).take 7 from cut_head (k := 7) (by rw [len_map]; omega)]
      have hDf := ne_of_none hD nf
      refine ⟨f, _, rfl, .inr (SqL.of upd_same), _, rfl, D, _, rfl, .inr (SqL.of (by rw [upd_ne hDf]; exact hD)), _, rfl, 35, rfl, a, _, rfl, (same_new s3 (s3.free nf)).seq hS, fun g ng => ?_⟩
      rw [show cutV (ns.map V.int) (some 35) none = (ns.map V.int).drop 35 from cut_tail (k := 35) (by rw [len_map]; omega)]
      refine ⟨g, _, rfl, .inr (SqL.of upd_same), ?_, fun z nz => ?_⟩
      · simp only [List.length_append, List.length_map, List.length_take, List.length_drop, List.length_nil]
        exact small100 (by omega)
      · have s4 := same_new (o := .lst ((ns.map V.int).take 7)) s3 (s3.free nf)
        have s5 := same_new (o := .lst ((ns.map V.int).drop 35)) s4 (s4.free ng)
        refine q z _ (same_new s5 (s5.free nz)) (s5.free nz) ?_
        rw [upd_same]
        unfold kept
        rw [eX]
        simp only [List.map_append, List.map_take, List.map_drop, List.append_nil, List.append_assoc]
theorem list49 {ns : List Int} (h : ns.length = 49) : ns = (List.range 49).map fun t => ns.getD t 0 := by
  refine List.ext_getElem? fun t => ?_
  rw [List.getElem?_map]
  by_cases ht : t < 49
  · rw [List.getElem?_range ht, getD_get (by omega)]
    rfl
  · rw [List.getElem?_eq_none (by omega), List.getElem?_eq_none (by rw [List.length_range]; omega)]
    rfl
theorem kept_due {ns : List Int} (h : ns.length = 49) : kept ns = due ns := by
  rw [list49 h]
  generalize (fun t => ns.getD t 0) = f
  rfl
theorem due_len (ns : List Int) : (due ns).length = 49 := by
  unfold due
  rw [List.length_map, List.length_range]

theorem kept_len {ns : List Int} (h : ns.length = 49) : (kept ns).length = 49 := by
  rw [kept_due h, due_len]
theorem kept_kept {ns : List Int} (h : ns.length = 49) : kept (kept ns) = due ns := by
  rw [kept_due h, kept_due (due_len ns), list49 h]
  generalize (fun t => ns.getD t 0) = f
  show due ((List.range 49).map (dueAt ((List.range 49).map f))) = (List.range 49).map (dueAt ((List.range 49).map f))
  generalize eg : dueAt ((List.range 49).map f) = g
  have hg : ∀ t, t < 49 → ((List.range 49).map g).getD t 0 = g t := fun t ht => by
    rw [List.getD_eq_getElem?_getD, List.getElem?_map, List.getElem?_range ht]
    rfl
  unfold due
  refine List.map_congr_left fun t ht => ?_
  have ht := List.mem_range.mp ht
  have g0 : g 0 = f 0 := by rw [← eg]; rfl
  have gt : g t = if t / 7 = 0 ∨ 4 < t / 7 then f t else f 0 * (if t / 7 = t % 7 then 1 else 0) := by
    rw [← eg]
    unfold dueAt
    rw [List.getD_eq_getElem?_getD, List.getElem?_map, List.getElem?_range ht]
    rfl
  unfold dueAt
  rw [hg t ht, hg 0 (by decide), g0, gt]
  split <;> rfl
def mix (f : Int) (m1 m2 : List Int) : List Int := (List.range 49).map fun t => m1.getD t 0 + f * m2.getD t 0
theorem getD_map {g : Nat → Int} {t : Nat} (ht : t < 49) : ((List.range 49).map g).getD t 0 = g t := by
  rw [List.getD_eq_getElem?_getD, List.getElem?_map, List.getElem?_range ht]
  rfl
theorem mix_len (f : Int) (m1 m2 : List Int) : (mix f m1 m2).length = 49 := by
  unfold mix
  rw [List.length_map, List.length_range]
theorem kept_mix {f : Int} {m1 m2 : List Int} (h1 : m1.length = 49) (h2 : m2.length = 49) : kept (mix f m1 m2) = mix f (kept m1) (kept m2) := by
  rw [kept_due h1, kept_due h2, kept_due (mix_len f m1 m2)]
  unfold due mix
  refine List.map_congr_left fun t ht => ?_
  have ht := List.mem_range.mp ht
  rw [getD_map ht, getD_map ht]
  unfold dueAt
  rw [getD_map ht, getD_map (by decide)]
  split
  · rfl
  · rw [Int.add_mul, Int.mul_assoc]
def spLaw (K : PySem.W.Frag) : Sp := fun vs H Q _ => ∃ (a : Addr) (ns : List Int), vs = [.ref a] ∧ SqL K H a (ns.map V.int) ∧ ns.length ≤ 63 ∧ ∀ H', Q (.bl true) H'
theorem getElem4 {α : Type} {x0 x1 x2 x3 y : α} {i : Nat} (h : [x0, x1, x2, x3][i]? = some y) : y = x0 ∨ y = x1 ∨ y = x2 ∨ y = x3 := by
  match i, h with
  | 0, h => exact .inl (Option.some.inj h).symm
  | 1, h => exact .inr (.inl (Option.some.inj h).symm)
  | 2, h => exact .inr (.inr (.inl (Option.some.inj h).symm))
  | 3, h => exact .inr (.inr (.inr (Option.some.inj h).symm))
theorem ok_law (T : Top w K mg) : FnOk P w K mg base CX0 4 T.a_law T.d_law ["_law_script"] (spLaw K) := by
  refine T.F_law.ok sc_law (fun vs H Q E h => ?_) (fun cdv A outer s H vs Q E hr h => ?_)
  · obtain ⟨a, ns, rfl, _⟩ := h
    rfl
  · obtain ⟨a, ns, rfl, hS, hlen, q⟩ := h
    refine ⟨_, (pss_cons (ps_set (i := 1) sc_law.nd rfl (Or.inl rfl) (pe_call (ok__law_pool T) (hr.mono (by decide)) (by rfl) T.g__law_pool T.F__law_pool.kp (b__law_pool T) .nil pass0 (pa_cons (pv 0) pa_nil)))
      (pss_cons (ps_set (i := 2) sc_law.nd rfl (Or.inr rfl) (pe_call (ok__law_any_matrix T) hr (by rfl) T.g__law_any_matrix T.F__law_any_matrix.kp (b__law_any_matrix T) .nil pass0 (pa_cons (pv 1) pa_nil)))
      (pss_cons (ps_set (i := 3) sc_law.nd rfl (Or.inr rfl) (pe_call (ok__law_any_matrix T) hr (by rfl) T.g__law_any_matrix T.F__law_any_matrix.kp (b__law_any_matrix T) .nil pass0 (pa_cons (pv 1) pa_nil)))
      (pss_cons (ps_set (i := 4) sc_law.nd rfl (Or.inr rfl) (pe_op op_sub (pe_call (ok__law_draw T) (hr.mono (by decide)) (by rfl) T.g__law_draw T.F__law_draw.kp (b__law_draw T) .nil pass0 (pa_cons (pv 1) (pa_cons pe_int pa_nil))) pe_int))
      (pss_cons (ps_setLc (i := 5) (own := [("_law_k", 11)]) (g := (gName 11)) (tt := tYes) rfl sc_law.nd rfl rfl (sw_true rfl rfl rfl (by decide +kernel)) (pi_range1 (by rfl) T.z_range (pa_cons pe_int pa_nil)) (blkOk_by (N := N_law) (sc := defScope s_law) (by decide +kernel)) (fun _ _ _ _ _ => (pg_name (i := 11) sc_law.nd rfl (Or.inl rfl))) (fun _ _ _ _ _ => pts_nil) (fun _ _ _ _ _ => (pe_op op_add (pe_ix (k_ixL K) (pv 2) (pv 11) (fun _ _ => rfl)) (pe_op op_mul (pv 4) (pe_ix (k_ixL K) (pv 3) (pv 11) (fun _ _ => rfl))))))
      (pss_cons (ps_for PassesOwn.never rfl (k_piL K (pe_lst (pa_cons (pv 2) (pa_cons (pv 3) (pa_cons (pv 5) (pa_cons (pe_lc (own := [("_law_k", 11)]) (g := (gName 11)) (tt := tYes) rfl sc_law.nd (pi_range1 (by rfl) T.z_range (pa_cons pe_int pa_nil)) (blkOk_by (N := N_law) (sc := defScope s_law) (by decide +kernel)) (fun _ _ _ _ _ => (pg_name (i := 11) sc_law.nd rfl (Or.inl rfl))) (fun _ _ _ _ _ => pts_nil) (fun _ _ _ _ _ => pe_int)) pa_nil)))))) (pg_name (i := 6) sc_law.nd rfl (Or.inl rfl)) (pss_cons (ps_set (i := 7) sc_law.nd rfl (Or.inl rfl) (pe_callTy (k_list K) (by rfl) T.z_list bt_list (pa_cons (pv 6) pa_nil)))
        (pss_cons (ps_set (i := 8) sc_law.nd rfl (Or.inl rfl) (pe_call (ok_kept_matrix T) (hr.mono (by decide)) (by rfl) T.g_kept_matrix T.F_kept_matrix.kp (b_kept_matrix T) .nil pass0 (pa_cons (pv 7) pa_nil)))
        (pss_cons (ps_if (PW.pt (pw_or (pt_not (pt_val (pe_call (ok__law_is_matrix T) (hr.mono (by decide)) (by rfl) T.g__law_is_matrix T.F__law_is_matrix.kp (b__law_is_matrix T) .nil pass0 (pa_cons (pv 8) pa_nil)))) (pw_or (pt_cmpR (k_neI K (hu64 hr)) (pv 8) (pe_call (ok__law_due T) (hr.mono (by decide)) (by rfl) T.g__law_due T.F__law_due.kp (b__law_due T) .nil pass0 (pa_cons (pv 6) pa_nil)) (nomark _)) (pw_or1 (pt_cmpR (k_neI K (hu64 hr)) (pv 7) (pv 6) (nomark _)))))) (pss_one (ps_ret pe_bl)) pss_nil)
        (pss_one (ps_if (pt_cmpR (k_neI K (hu64 hr)) (pe_call (ok_kept_matrix T) (hr.mono (by decide)) (by rfl) T.g_kept_matrix T.F_kept_matrix.kp (b_kept_matrix T) .nil pass0 (pa_cons (pv 8) pa_nil)) (pe_call (ok__law_due T) (hr.mono (by decide)) (by rfl) T.g__law_due T.F__law_due.kp (b__law_due T) .nil pass0 (pa_cons (pv 6) pa_nil)) (nomark _)) (pss_one (ps_ret pe_bl)) pss_nil))))))
      (pss_cons (ps_set (i := 9) sc_law.nd rfl (Or.inr rfl) (pe_call (ok_kept_matrix T) (hr.mono (by decide)) (by rfl) T.g_kept_matrix T.F_kept_matrix.kp (b_kept_matrix T) .nil pass0 (pa_cons (pv 2) pa_nil)))
      (pss_cons (ps_set (i := 10) sc_law.nd rfl (Or.inr rfl) (pe_call (ok_kept_matrix T) (hr.mono (by decide)) (by rfl) T.g_kept_matrix T.F_kept_matrix.kp (b_kept_matrix T) .nil pass0 (pa_cons (pv 3) pa_nil)))
      (pss_one (ps_ret (pe_cmpR (k_eqI K (hu64 hr)) (pe_call (ok_kept_matrix T) (hr.mono (by decide)) (by rfl) T.g_kept_matrix T.F_kept_matrix.kp (b_kept_matrix T) .nil pass0 (pa_cons (pv 5) pa_nil)) (pe_lc (own := [("_law_k", 11)]) (g := (gName 11)) (tt := tYes) rfl sc_law.nd (pi_range1 (by rfl) T.z_range (pa_cons pe_int pa_nil)) (blkOk_by (N := N_law) (sc := defScope s_law) (by decide +kernel)) (fun _ _ _ _ _ => (pg_name (i := 11) sc_law.nd rfl (Or.inl rfl))) (fun _ _ _ _ _ => pts_nil) (fun _ _ _ _ _ => (pe_op op_add (pe_ix (k_ixL K) (pv 9) (pv 11) (fun _ _ => rfl)) (pe_op op_mul (pv 4) (pe_ix (k_ixL K) (pv 10) (pv 11) (fun _ _ => rfl)))))) (nomark _)))))))))))), ?_⟩
    refine ⟨_, rfl, a, ns, rfl, hS, hlen, fun H1 p L s1 np pl h2 h64 => ?_⟩
    refine ⟨_, rfl, p, L, rfl, pl, h2, h64, fun o1 m1 H2 l1 b1 k2 pl2 no1 ho1 => ?_⟩
    refine ⟨_, rfl, p, L, rfl, pl2, h2, h64, fun o2 m2 H3 l2 b2 k3 pl3 no2 ho2 => ?_⟩
    have no1p : o1 ≠ p := pl.ne no1
    have no2p : o2 ≠ p := pl2.ne no2
    have ho13 := k3 _ _ no1p ho1
    refine ⟨_, rfl, p, L, 19, rfl, pl3, h2, h64, by decide, by decide, fun r H4 r0 r1 k4 pl4 => ?_⟩
    have ho14 := k4 _ _ no1p ho13
    have ho24 := k4 _ _ no2p ho2
    refine ⟨_, _, rfl, rfl, ?_⟩
    dsimp only
    generalize ef : r - 9 = f
    have f0 : -10 < f := by omega
    have f1 : f < 10 := by omega
    refine ⟨49, rfl, by decide, by decide, fun D nD => lc_range (n := 49) (fun i H' => Same H4 H' ∧ H' D = some (.lst (((List.range i).map fun t => m1.getD t 0 + f * m2.getD t 0).map V.int))) ⟨same_upd nD, upd_same⟩ (fun i H' hi h => ?_) (fun H5 h => ?_)⟩
    · obtain ⟨sm, hD⟩ := h
      refine ⟨rfl, _, rfl, _, rfl, o1, _, _, _, rfl, rfl, SqL.of (sm _ _ ho14), at_nat (t := i) (by omega) (by omega), _, rfl, _, rfl, _, rfl, o2, _, _, _, rfl, rfl, SqL.of (sm _ _ ho24), at_nat (t := i) (by omega) (by omega), _, _, rfl, rfl, .inl ⟨by omega, by omega⟩, _, _, rfl, rfl, _, hD, ?_, same_new sm nD, ?_⟩
      · rw [List.length_map, List.length_map, List.length_range]
        exact small1000 (by omega)
      · rw [upd_same]
        exact congrArg (fun z => some (HO.lst z)) (range_snoc (fun t => m1.getD t 0 + f * m2.getD t 0) i)
    · obtain ⟨s5, hD⟩ := h
      have hD : H5 D = some (.lst ((mix f m1 m2).map V.int)) := hD
      have ho15 := s5 _ _ ho14
      have ho25 := s5 _ _ ho24
      refine ⟨_, rfl, _, rfl, _, rfl, 49, rfl, by decide, by decide, fun Z nZ => lc_range (n := 49) (fun i H' => Same H5 H' ∧ H' Z = some (.lst (((List.range i).map fun _ => (0 : Int)).map V.int))) ⟨same_upd nZ, upd_same⟩ (fun i H' hi h => ?_) (fun H6 h => ?_)⟩
      · obtain ⟨sm, hZ⟩ := h
        refine ⟨rfl, _, hZ, ?_, same_new sm nZ, ?_⟩
        · rw [List.length_map, List.length_map, List.length_range]
          exact small1000 (by omega)
        · rw [upd_same]
          exact congrArg (fun z => some (HO.lst z)) (range_snoc (fun _ => 0) i)
      · obtain ⟨s6, hZ⟩ := h
        refine ⟨small100 (n := 4) (by decide), fun dl ndl => ?_⟩
        have s7 := s6.trans (same_upd (o := .lst [.ref o1, .ref o2, .ref D, .ref Z]) ndl)
        have hdl : (upd H6 dl (.lst [.ref o1, .ref o2, .ref D, .ref Z])) dl = some (.lst [.ref o1, .ref o2, .ref D, .ref Z]) := upd_same
        have hZ7 := same_upd (o := .lst [.ref o1, .ref o2, .ref D, .ref Z]) ndl _ _ hZ
        have ho17 := s7 _ _ ho15
        have ho27 := s7 _ _ ho25
        have hD7 := s7 _ _ hD
        generalize upd H6 dl (.lst [.ref o1, .ref o2, .ref D, .ref Z]) = H7 at *
        have each : ∀ {i : Nat} {x : V}, [V.ref o1, .ref o2, .ref D, .ref Z][i]? = some x → ∃ (m : Addr) (ms : List Int), x = .ref m ∧ H7 m = some (.lst (ms.map V.int)) ∧ ms.length = 49 := fun hx => by
          rcases getElem4 hx with rfl | rfl | rfl | rfl
          · exact ⟨_, _, rfl, ho17, l1⟩
          · exact ⟨_, _, rfl, ho27, l2⟩
          · exact ⟨_, _, rfl, hD7, mix_len _ _ _⟩
          · exact ⟨_, _, rfl, hZ7, by rw [List.length_map, List.length_range]⟩
        refine ⟨dl, rfl, ⟨_, SqL.of hdl⟩, for_list (xs := [V.ref o1, .ref o2, .ref D, .ref Z]) (fun i σ H' => ∃ y6 y7 y8, σ = [some (.ref a), some (.ref p), some (.ref o1), some (.ref o2), some (.int f), some (.ref D), y6, y7, y8, none, none, none] ∧ Same H7 H') ?_ (fun i σ H' hi h => ?_) (fun i x σ H' hx h => ?_) (fun σ H' h => ?_)⟩
        · exact ⟨none, none, none, rfl, Same.refl _⟩
        · obtain ⟨_, _, _, _, sm⟩ := h
          exact SqL.of (sm _ _ hdl)
        · obtain ⟨y6, y7, y8, rfl, sm⟩ := h
          obtain ⟨m, ms, rfl, hm, hl⟩ := each hx
          have hm' := sm _ _ hm
          refine ⟨_, rfl, m, _, rfl, .inl (SqL.of hm'), fun l nl => ?_⟩
          have t1 := same_upd (o := .lst (ms.map V.int)) nl
          have hl1 : (upd H' l (.lst (ms.map V.int))) l = some (.lst (ms.map V.int)) := upd_same
          generalize upd H' l (.lst (ms.map V.int)) = J1 at *
          refine ⟨_, rfl, l, ms, rfl, SqL.of hl1, hl, fun an J2 t2 nan han => ?_⟩
          refine ⟨_, rfl, an, _, rfl, han, kept_len hl, fun J3 t3 => ?_⟩
          have hm3 := t3 _ _ (t2 _ _ (t1 _ _ hm'))
          refine ⟨_, rfl, _, rfl, _, rfl, m, ms, rfl, SqL.of hm3, hl, fun d J4 t4 nd hd => ?_⟩
          refine ⟨an, d, kept ms, due ms, rfl, rfl, SqL.of (t4 _ _ (t3 _ _ han)), SqL.of hd, _, rfl, iteNS (kept_due hl) ?_⟩
          refine ⟨_, rfl, _, rfl, l, m, ms, ms, rfl, rfl, SqL.of (t4 _ _ (t3 _ _ (t2 _ _ hl1))), SqL.of (t4 _ _ hm3), _, rfl, iteNS rfl ?_⟩
          refine ⟨_, rfl, an, kept ms, rfl, SqL.of (t4 _ _ (t3 _ _ han)), kept_len hl, fun a2 J5 t5 na2 ha2 => ?_⟩
          refine ⟨_, rfl, m, ms, rfl, SqL.of (t5 _ _ (t4 _ _ hm3)), hl, fun d2 J6 t6 nd2 hd2 => ?_⟩
          refine ⟨a2, d2, kept (kept ms), due ms, rfl, rfl, SqL.of (t6 _ _ ha2), SqL.of hd2, _, rfl, iteNS (kept_kept hl) ?_⟩
          exact ⟨_, _, _, rfl, sm.trans (t1.trans (t2.trans (t3.trans (t4.trans (t5.trans t6)))))⟩
        · obtain ⟨y6, y7, y8, rfl, sm⟩ := h
          refine ⟨_, rfl, o1, m1, rfl, SqL.of (sm _ _ ho17), l1, fun g1 J1 t1 ng1 hg1 => ?_⟩
          refine ⟨_, rfl, o2, m2, rfl, SqL.of (t1 _ _ (sm _ _ ho27)), l2, fun g2 J2 t2 ng2 hg2 => ?_⟩
          refine ⟨_, rfl, D, mix f m1 m2, rfl, SqL.of (t2 _ _ (t1 _ _ (sm _ _ hD7))), mix_len _ _ _, fun g3 J3 t3 ng3 hg3 => ?_⟩
          have hg13 := t3 _ _ (t2 _ _ hg1)
          have hg23 := t3 _ _ hg2
          refine ⟨49, rfl, by decide, by decide, fun Y nY => lc_range (n := 49) (fun i H' => Same J3 H' ∧ H' Y = some (.lst (((List.range i).map fun t => (kept m1).getD t 0 + f * (kept m2).getD t 0).map V.int))) ⟨same_upd nY, upd_same⟩ (fun i H' hi h => ?_) (fun J4 h => ?_)⟩
          · obtain ⟨sm, hD⟩ := h
            refine ⟨rfl, _, rfl, _, rfl, g1, _, _, _, rfl, rfl, SqL.of (sm _ _ hg13), at_nat (t := i) (by omega) (by rw [kept_len l1]; exact hi), _, rfl, _, rfl, _, rfl, g2, _, _, _, rfl, rfl, SqL.of (sm _ _ hg23), at_nat (t := i) (by omega) (by rw [kept_len l2]; exact hi), _, _, rfl, rfl, .inl ⟨by omega, by omega⟩, _, _, rfl, rfl, _, hD, ?_, same_new sm nY, ?_⟩
            · rw [List.length_map, List.length_map, List.length_range]
              exact small1000 (by omega)
            · rw [upd_same]
              exact congrArg (fun z => some (HO.lst z)) (range_snoc (fun t => (kept m1).getD t 0 + f * (kept m2).getD t 0) i)
          · obtain ⟨s4, hY⟩ := h
            refine ⟨g3, Y, kept (mix f m1 m2), mix f (kept m1) (kept m2), rfl, rfl, SqL.of (s4 _ _ hg3), SqL.of hY, ?_⟩
            rw [decide_eq_true (kept_mix l1 l2)]
            exact q _
end
theorem all_mk {l : PySem.W.OpenLaw} {w : World} {K : PySem.W.Frag} {h : Heap} {mg : Str → Option Value} {fa f0 f1 f2 f3 f4 f5 f6 f7 f8 f9 : Addr} (X : K.In h) (G : h.Ns mainGlobals mg) (hfa : mg "law" = some (.ref fa))
    {od0 an0 od1 an1 od2 an2 od3 an3 od4 an4 od5 an5 od6 an6 od7 an7 od8 an8 od9 an9 : Option Addr} {sl0 sl1 sl2 sl3 sl4 sl5 sl6 sl7 sl8 sl9 : Array (Option Value)}
    {oc0 kV0 dc0 pm0 cd0 ct0 oc1 kV1 dc1 pm1 cd1 ct1 oc2 kV2 dc2 pm2 cd2 ct2 oc3 kV3 dc3 pm3 cd3 ct3 oc4 kV4 dc4 pm4 cd4 ct4 oc5 kV5 dc5 pm5 cd5 ct5 oc6 kV6 dc6 pm6 cd6 ct6 oc7 kV7 dc7 pm7 cd7 ct7 oc8 kV8 dc8 pm8 cd8 ct8 oc9 kV9 dc9 pm9 cd9 ct9 : Value}
    (a0 : PySem.W.nsIn K mainGlobals "identity" = some (some (.ref f0)))
    (l0 : K.lookup f0 = some ⟨oc0, od0, .func (PySem.W.fnOf "identity" "identity" (defArgs s_identity) (defBody s_identity) (defScope s_identity) .none kV0 dc0 pm0 an0 cd0 ct0), sl0⟩)
    (c0 : PySem.W.codeIn K cd0 "identity" = true)
    (k0 : PySem.W.keepIn K (.ref f0) = true)
    (a1 : PySem.W.nsIn K mainGlobals "kept_matrix" = some (some (.ref f1)))
    (l1 : K.lookup f1 = some ⟨oc1, od1, .func (PySem.W.fnOf "kept_matrix" "kept_matrix" (defArgs s_kept_matrix) (defBody s_kept_matrix) (defScope s_kept_matrix) .none kV1 dc1 pm1 an1 cd1 ct1), sl1⟩)
    (c1 : PySem.W.codeIn K cd1 "kept_matrix" = true)
    (k1 : PySem.W.keepIn K (.ref f1) = true)
    (a2 : PySem.W.nsIn K mainGlobals "_law_pool" = some (some (.ref f2)))
    (l2 : K.lookup f2 = some ⟨oc2, od2, .func (PySem.W.fnOf "_law_pool" "_law_pool" (defArgs s__law_pool) (defBody s__law_pool) (defScope s__law_pool) .none kV2 dc2 pm2 an2 cd2 ct2), sl2⟩)
    (c2 : PySem.W.codeIn K cd2 "_law_pool" = true)
    (k2 : PySem.W.keepIn K (.ref f2) = true)
    (a3 : PySem.W.nsIn K mainGlobals "_law_draw" = some (some (.ref f3)))
    (l3 : K.lookup f3 = some ⟨oc3, od3, .func (PySem.W.fnOf "_law_draw" "_law_draw" (defArgs s__law_draw) (defBody s__law_draw) (defScope s__law_draw) .none kV3 dc3 pm3 an3 cd3 ct3), sl3⟩)
    (c3 : PySem.W.codeIn K cd3 "_law_draw" = true)
    (k3 : PySem.W.keepIn K (.ref f3) = true)
    (a4 : PySem.W.nsIn K mainGlobals "_law_number" = some (some (.ref f4)))
    (l4 : K.lookup f4 = some ⟨oc4, od4, .func (PySem.W.fnOf "_law_number" "_law_number" (defArgs s__law_number) (defBody s__law_number) (defScope s__law_number) .none kV4 dc4 pm4 an4 cd4 ct4), sl4⟩)
    (c4 : PySem.W.codeIn K cd4 "_law_number" = true)
    (k4 : PySem.W.keepIn K (.ref f4) = true)
    (a5 : PySem.W.nsIn K mainGlobals "_law_is_matrix" = some (some (.ref f5)))
    (l5 : K.lookup f5 = some ⟨oc5, od5, .func (PySem.W.fnOf "_law_is_matrix" "_law_is_matrix" (defArgs s__law_is_matrix) (defBody s__law_is_matrix) (defScope s__law_is_matrix) .none kV5 dc5 pm5 an5 cd5 ct5), sl5⟩)
    (c5 : PySem.W.codeIn K cd5 "_law_is_matrix" = true)
    (k5 : PySem.W.keepIn K (.ref f5) = true)
    (a6 : PySem.W.nsIn K mainGlobals "_law_any_matrix" = some (some (.ref f6)))
    (l6 : K.lookup f6 = some ⟨oc6, od6, .func (PySem.W.fnOf "_law_any_matrix" "_law_any_matrix" (defArgs s__law_any_matrix) (defBody s__law_any_matrix) (defScope s__law_any_matrix) .none kV6 dc6 pm6 an6 cd6 ct6), sl6⟩)
    (c6 : PySem.W.codeIn K cd6 "_law_any_matrix" = true)
    (k6 : PySem.W.keepIn K (.ref f6) = true)
    (a7 : PySem.W.nsIn K mainGlobals "_law_is_row" = some (some (.ref f7)))
    (l7 : K.lookup f7 = some ⟨oc7, od7, .func (PySem.W.fnOf "_law_is_row" "_law_is_row" (defArgs s__law_is_row) (defBody s__law_is_row) (defScope s__law_is_row) .none kV7 dc7 pm7 an7 cd7 ct7), sl7⟩)
    (c7 : PySem.W.codeIn K cd7 "_law_is_row" = true)
    (k7 : PySem.W.keepIn K (.ref f7) = true)
    (a8 : PySem.W.nsIn K mainGlobals "_law_due" = some (some (.ref f8)))
    (l8 : K.lookup f8 = some ⟨oc8, od8, .func (PySem.W.fnOf "_law_due" "_law_due" (defArgs s__law_due) (defBody s__law_due) (defScope s__law_due) .none kV8 dc8 pm8 an8 cd8 ct8), sl8⟩)
    (c8 : PySem.W.codeIn K cd8 "_law_due" = true)
    (k8 : PySem.W.keepIn K (.ref f8) = true)
    (a9 : PySem.W.nsIn K mainGlobals "law" = some (some (.ref f9)))
    (l9 : K.lookup f9 = some ⟨oc9, od9, .func (PySem.W.fnOf "law" "law" (defArgs s_law) (defBody s_law) (defScope s_law) .none kV9 dc9 pm9 an9 cd9 ct9), sl9⟩)
    (c9 : PySem.W.codeIn K cd9 "law" = true)
    (k9 : PySem.W.keepIn K (.ref f9) = true)
    (z0 : PySem.W.nsIn K mainGlobals "all" = some none)
    (z1 : PySem.W.nsIn K mainGlobals "bool" = some none)
    (z2 : PySem.W.nsIn K mainGlobals "int" = some none)
    (z3 : PySem.W.nsIn K mainGlobals "isinstance" = some none)
    (z4 : PySem.W.nsIn K mainGlobals "len" = some none)
    (z5 : PySem.W.nsIn K mainGlobals "list" = some none)
    (z6 : PySem.W.nsIn K mainGlobals "range" = some none)
    : ∃ fd : FuncData, (∀ (s : Shared) (v : Value), BindsTo s fd ⟨[v], []⟩ [("_law_script", v)]) ∧ ∀ base : Heap, K.In base → base.Ns mainGlobals mg → FnOk l.prog w K mg base CX0 4 fa fd ["_law_script"] (spLaw K) := by
  have e := hfa.symm.trans (PySem.W.mg_of X G a9)
  cases e
  have F0 := fun_mk (st := s_identity) l0 c0 k0
  have F1 := fun_mk (st := s_kept_matrix) l1 c1 k1
  have F2 := fun_mk (st := s__law_pool) l2 c2 k2
  have F3 := fun_mk (st := s__law_draw) l3 c3 k3
  have F4 := fun_mk (st := s__law_number) l4 c4 k4
  have F5 := fun_mk (st := s__law_is_matrix) l5 c5 k5
  have F6 := fun_mk (st := s__law_any_matrix) l6 c6 k6
  have F7 := fun_mk (st := s__law_is_row) l7 c7 k7
  have F8 := fun_mk (st := s__law_due) l8 c8 k8
  have F9 := fun_mk (st := s_law) l9 c9 k9
  have T : ∃ T : Top w K mg, T.a_law = fa ∧ T.d_law = PySem.W.fnOf "law" "law" (defArgs s_law) (defBody s_law) (defScope s_law) .none kV9 dc9 pm9 an9 cd9 ct9 := ⟨{ a_identity := f0, d_identity := PySem.W.fnOf "identity" "identity" (defArgs s_identity) (defBody s_identity) (defScope s_identity) .none kV0 dc0 pm0 an0 cd0 ct0, F_identity := F0, g_identity := PySem.W.mg_of X G a0, a_kept_matrix := f1, d_kept_matrix := PySem.W.fnOf "kept_matrix" "kept_matrix" (defArgs s_kept_matrix) (defBody s_kept_matrix) (defScope s_kept_matrix) .none kV1 dc1 pm1 an1 cd1 ct1, F_kept_matrix := F1, g_kept_matrix := PySem.W.mg_of X G a1, a__law_pool := f2, d__law_pool := PySem.W.fnOf "_law_pool" "_law_pool" (defArgs s__law_pool) (defBody s__law_pool) (defScope s__law_pool) .none kV2 dc2 pm2 an2 cd2 ct2, F__law_pool := F2, g__law_pool := PySem.W.mg_of X G a2, a__law_draw := f3, d__law_draw := PySem.W.fnOf "_law_draw" "_law_draw" (defArgs s__law_draw) (defBody s__law_draw) (defScope s__law_draw) .none kV3 dc3 pm3 an3 cd3 ct3, F__law_draw := F3, g__law_draw := PySem.W.mg_of X G a3, a__law_number := f4, d__law_number := PySem.W.fnOf "_law_number" "_law_number" (defArgs s__law_number) (defBody s__law_number) (defScope s__law_number) .none kV4 dc4 pm4 an4 cd4 ct4, F__law_number := F4, g__law_number := PySem.W.mg_of X G a4, a__law_is_matrix := f5, d__law_is_matrix := PySem.W.fnOf "_law_is_matrix" "_law_is_matrix" (defArgs s__law_is_matrix) (defBody s__law_is_matrix) (defScope s__law_is_matrix) .none kV5 dc5 pm5 an5 cd5 ct5, F__law_is_matrix := F5, g__law_is_matrix := PySem.W.mg_of X G a5, a__law_any_matrix := f6, d__law_any_matrix := PySem.W.fnOf "_law_any_matrix" "_law_any_matrix" (defArgs s__law_any_matrix) (defBody s__law_any_matrix) (defScope s__law_any_matrix) .none kV6 dc6 pm6 an6 cd6 ct6, F__law_any_matrix := F6, g__law_any_matrix := PySem.W.mg_of X G a6, a__law_is_row := f7, d__law_is_row := PySem.W.fnOf "_law_is_row" "_law_is_row" (defArgs s__law_is_row) (defBody s__law_is_row) (defScope s__law_is_row) .none kV7 dc7 pm7 an7 cd7 ct7, F__law_is_row := F7, g__law_is_row := PySem.W.mg_of X G a7, a__law_due := f8, d__law_due := PySem.W.fnOf "_law_due" "_law_due" (defArgs s__law_due) (defBody s__law_due) (defScope s__law_due) .none kV8 dc8 pm8 an8 cd8 ct8, F__law_due := F8, g__law_due := PySem.W.mg_of X G a8, a_law := fa, d_law := PySem.W.fnOf "law" "law" (defArgs s_law) (defBody s_law) (defScope s_law) .none kV9 dc9 pm9 an9 cd9 ct9, F_law := F9, g_law := PySem.W.mg_of X G a9, z_all := PySem.W.mg_none_of X G z0, z_bool := PySem.W.mg_none_of X G z1, z_int := PySem.W.mg_none_of X G z2, z_isinstance := PySem.W.mg_none_of X G z3, z_len := PySem.W.mg_none_of X G z4, z_list := PySem.W.mg_none_of X G z5, z_range := PySem.W.mg_none_of X G z6 }, rfl, rfl⟩
  obtain ⟨T, e1, e2⟩ := T
  refine ⟨PySem.W.fnOf "law" "law" (defArgs s_law) (defBody s_law) (defScope s_law) .none kV9 dc9 pm9 an9 cd9 ct9, fun s v => .of_eq rfl, fun base _ _ => ?_⟩
  · rw [← e1, ← e2]; exact ok_law T
end My
open PySem PySem.W PyProof.Rows
set_option maxRecDepth 100000 in
set_option maxHeartbeats 0 in
theorem PySem.Challenge.cw_penhome_k06_kept_matrix_holds : PySem.Challenge.rw_penhome_k06_kept_matrix.Holds := by
  w_on; o_law; k_head; (case hw => w_witness2)
  k_fill
  refine L2.walk_of (l := PySem.Challenge.rw_penhome_k06_kept_matrix) (n := 63) (k := 4) (x := "_law_script") (CX := fun _ => L2.CX0) (sp := fun w => My.spLaw _) rfl (by decide) rfl ⟨rfl, by decide, by decide⟩ (fun w h Y => PySem.W.kIn_of Y) ?F (fun _ _ a ns hl _ hS => ⟨a, ns, rfl, hS, hl, fun _ => rfl⟩) (fun _ _ _ _ _ h => h)
  case F =>
    intro w mg fa h KX G hmg
    refine' My.all_mk KX G hmg ?a0 ?l0 ?c0 ?k0 ?a1 ?l1 ?c1 ?k1 ?a2 ?l2 ?c2 ?k2 ?a3 ?l3 ?c3 ?k3 ?a4 ?l4 ?c4 ?k4 ?a5 ?l5 ?c5 ?k5 ?a6 ?l6 ?c6 ?k6 ?a7 ?l7 ?c7 ?k7 ?a8 ?l8 ?c8 ?k8 ?a9 ?l9 ?c9 ?k9 ?z0 ?z1 ?z2 ?z3 ?z4 ?z5 ?z6
    (case a0 => k_is); (case l0 => k_is); (case c0 => k_is); (case k0 => k_is); (case a1 => k_is); (case l1 => k_is); (case c1 => k_is); (case k1 => k_is); (case a2 => k_is); (case l2 => k_is); (case c2 => k_is); (case k2 => k_is); (case a3 => k_is); (case l3 => k_is); (case c3 => k_is); (case k3 => k_is); (case a4 => k_is); (case l4 => k_is); (case c4 => k_is); (case k4 => k_is); (case a5 => k_is); (case l5 => k_is); (case c5 => k_is); (case k5 => k_is); (case a6 => k_is); (case l6 => k_is); (case c6 => k_is); (case k6 => k_is); (case a7 => k_is); (case l7 => k_is); (case c7 => k_is); (case k7 => k_is); (case a8 => k_is); (case l8 => k_is); (case c8 => k_is); (case k8 => k_is); (case a9 => k_is); (case l9 => k_is); (case c9 => k_is); (case k9 => k_is); (case z0 => k_is); (case z1 => k_is); (case z2 => k_is); (case z3 => k_is); (case z4 => k_is); (case z5 => k_is); (case z6 => k_is)

