import PyProof.Rows.All
import Wide.All
import OpenK.AllK
import Wide.FinOn
import HandS.ForMost
import HandS.Star
import HandS.Style
import HandS.Wide
import HandS.IsInst
import HandS.EndBits
import HandS.More
import HandS.TupAny
import HandS.Evl
import PySem.Challenge.RW_leafround_k26_names_that_are_free
set_option Elab.async false
set_option linter.all false
set_option maxRecDepth 100000
namespace Lf
open PySem PySem.Spec PyProof.Rows L2

/-- an own def: where it stands, its promise, how it is called -/
def Callee (P : Program) (w : World) (K : PySem.W.Frag) (mg : Str → Option Value) (base : Heap) (k : Nat) (x : Str) (ps : List Str) (sp : Sp) : Prop :=
  ∃ (f : Addr) (fd : FuncData), FnOk P w K mg base CX0 k f fd ps sp ∧ mg x = some (.ref f) ∧ PySem.W.keepIn K (.ref f) = true ∧ Binds K fd ps []
section
variable {X : Cx} {k : Nat} {x : Str} {ps : List Str} {sp : Sp} {e : Expr} {es : List Expr} {t : TA} {p pos : Pos}
theorem pe_own (C : Callee X.prog X.w X.K X.mg X.base k x ps sp) (hr : Room k X.A) (hg : Gl X x) (ha : PA X (e :: es) t)
    (hdb : (x == ("__debug__" : Str)) = false := by decide) (he : starEach (e :: es) X.env = (false, eval e X.env) :: starEach es X.env := by rfl) (hpl : (backTo pos (starEach es X.env)).any (·.1) = false := by rfl) :
    PE X (.Call (.Name x p) (e :: es) [] pos) (tCall sp [] E0 t) := by
  obtain ⟨f, fd, F, hm, hk, hb⟩ := C
  exact pe_call F hr hg hm hk hb .nil pass0 ha hdb he hpl
end

/-- all but the object at a stays -/
def Kp (a : Addr) (H H' : Hp) : Prop := ∀ b o, b ≠ a → H b = some o → H' b = some o
theorem Kp.refl (a : Addr) (H : Hp) : Kp a H H := fun _ _ _ h => h
theorem Kp.trans {a : Addr} {H H1 H2 : Hp} (x : Kp a H H1) (y : Kp a H1 H2) : Kp a H H2 := fun b o n h => y b o n (x b o n h)
theorem Kp.new {a p : Addr} {H H' : Hp} {o : HO} (x : Kp a H H') (h : H' p = none) : Kp a H (upd H' p o) := fun b u n e => by
  rw [upd_ne (ne_of_none (x b u n e) h)]
  exact x b u n e
theorem Kp.mut {a : Addr} {H H' : Hp} {o : HO} (x : Kp a H H') : Kp a H (upd H' a o) := fun b u n e => by
  rw [upd_ne n]
  exact x b u n e
theorem Kp.seqL {K : PySem.W.Frag} {a p : Addr} {H H' : Hp} {xs : List V} (x : Kp a H H') (n : p ≠ a) (h : SqL K H p xs) : SqL K H' p xs := by
  rcases h with (h | ⟨o, h⟩) | h
  · exact .inl (.inl (x _ _ n h))
  · exact .inl (.inr ⟨o, x _ _ n h⟩)
  · exact .inr h

/-- the tape: two ints -/
def TapeAt (H : Hp) (a : Addr) : Prop := ∃ u v : Int, H a = some (.lst [.int u, .int v]) ∧ 0 ≤ u ∧ 0 ≤ v ∧ v < 2147483648
theorem TapeAt.keep {a b : Addr} {H H' : Hp} (h : TapeAt H a) (k : Kp b H H') (n : a ≠ b) : TapeAt H' a := by
  obtain ⟨u, v, e, r⟩ := h
  exact ⟨u, v, k _ _ n e, r⟩
theorem TapeAt.new {a p : Addr} {H : Hp} {o : HO} (h : TapeAt H a) (n : H p = none) : TapeAt (upd H p o) a := by
  obtain ⟨u, v, e, r⟩ := h
  exact ⟨u, v, by rw [upd_ne (ne_of_none e n)]; exact e, r⟩
def spDigit : Sp := fun vs H Q _ => ∃ (a : Addr) (n : Int), vs = [.ref a, .int n] ∧ TapeAt H a ∧ 0 < n ∧ n ≤ 10 ^ 60 ∧
  ∀ (v : Int) (H' : Hp), Kp a H H' → TapeAt H' a → 0 ≤ v → v < n → Q (.int v) H'
/-- an object that H does not know may change -/
theorem Kp.mutN {a p : Addr} {H H' : Hp} {o : HO} (x : Kp a H H') (h : H p = none) : Kp a H (upd H' p o) := fun b u n e => by
  rw [upd_ne (ne_of_none e h)]
  exact x b u n e
theorem Kp.fresh {a p : Addr} {H H' : Hp} (x : Kp a H H') (h : H' p = none) (n : p ≠ a) : H p = none := by
  cases e : H p with
  | none => rfl
  | some o =>
    rw [x p o n e] at h
    cases h
theorem Kp.get {a b : Addr} {H H' : Hp} {o : HO} (x : Kp a H H') (n : b ≠ a) (h : H b = some o) : H' b = some o := x b o n h
theorem TapeAt.ne {a p : Addr} {H : Hp} (h : TapeAt H a) (n : H p = none) : p ≠ a := fun e => by
  obtain ⟨u, v, h, _⟩ := h
  rw [e, h] at n
  cases n
theorem TapeAt.mut {a p : Addr} {H : Hp} {o : HO} (h : TapeAt H a) (n : p ≠ a) : TapeAt (upd H p o) a := by
  obtain ⟨u, v, e, r⟩ := h
  exact ⟨u, v, by rw [upd_ne n.symm]; exact e, r⟩
theorem atI_mem {α : Type} {xs : List α} {i : Int} (h0 : 0 ≤ i) (h1 : i < xs.length) : ∃ x, x ∈ xs ∧ atI xs i = some x := by
  obtain ⟨n, rfl⟩ := Int.eq_ofNat_of_zero_le h0
  have h : n < xs.length := by omega
  exact ⟨xs[n], List.getElem_mem h, atI_nat (List.getElem?_eq_getElem h)⟩
theorem str_len_append (x y : Str) : (x ++ y).length = x.length + y.length := by
  show (x.cps ++ y.cps).size = _
  rw [Array.size_append]
  rfl
theorem join_len (sep : Str) (hs : sep.length = 0) : ∀ ys : List Str, (Str.join sep ys).length = (ys.map (·.length)).sum
  | [] => rfl
  | [x] => by
    show x.length = x.length + 0
    omega
  | x :: y :: r => by
    show (x ++ sep ++ Str.join sep (y :: r)).length = x.length + ((y :: r).map (·.length)).sum
    rw [str_len_append, str_len_append, join_len sep hs (y :: r), hs]
    omega
theorem sum_ones : ∀ {ys : List Str}, (∀ y ∈ ys, y.length = 1) → (ys.map (·.length)).sum = ys.length
  | [], _ => rfl
  | y :: r, h => by
    rw [List.map_cons, List.sum_cons, h y (List.mem_cons_self ..), sum_ones fun z hz => h z (List.mem_cons_of_mem _ hz)]
    show 1 + r.length = r.length + 1
    omega
end Lf
namespace L2
open PySem
theorem Same.kp {a : Addr} {H H' : Hp} (s : Same H H') : Lf.Kp a H H' := fun b o _ h => s b o h
theorem same_new {H : Hp} {p : Addr} {o : HO} (h : H p = none) : Same H (upd H p o) := fun b x e => by
  rw [upd_ne (ne_of_none e h)]
  exact e
theorem Same.tr {H H1 H2 : Hp} (x : Same H H1) (y : Same H1 H2) : Same H H2 := fun b o h => y b o (x b o h)
theorem Same.fresh {H H' : Hp} {p : Addr} (s : Same H H') (h : H' p = none) : H p = none := by
  cases e : H p with
  | none => rfl
  | some o =>
    rw [s p o e] at h
    cases h
theorem Same.mutN {H H' : Hp} {p : Addr} {o : HO} (s : Same H H') (h : H p = none) : Same H (upd H' p o) := fun b u e => by
  rw [upd_ne (ne_of_none e h)]
  exact s b u e
theorem same_refl (H : Hp) : Same H H := fun _ _ h => h
end L2
namespace Lf
open PySem PySem.Spec PyProof.Rows L2
/-- a comprehension over enumerate(list): each turn's pair is a new tuple at T -/
theorem lc_enum {K : PySem.W.Frag} {a : Addr} {xs : List V} {g : TG} {tt : TT} {te : TE} {vs : List Nat} {σ : L2.St} {H1 : Hp} {D : Addr} {Qd : Hp → Prop} (Pv : Nat → Hp → Prop)
    (h0 : Pv 0 (upd H1 D (.lst []))) (hl : ∀ i H, Pv i H → SqL K H a xs)
    (hs : ∀ i x T H, xs[i]? = some x → H T = none → Pv i H → g (.ref T) (wipe σ vs) (upd H T (.tup [.int (i : Nat), x])) fun σ2 H2 => wipe σ2 vs = wipe σ vs ∧ tt σ2 H2 fun b H3 =>
      if b = true then te σ2 H3 fun y H4 => ∃ acc, H4 D = some (.lst acc) ∧ acc.length < sizeLine ∧ Pv (i + 1) (upd H4 D (.lst (acc ++ [y]))) else Pv (i + 1) H3)
    (hd : ∀ H, Pv xs.length H → Qd H) :
    ∃ W : Nat → Nat → Hp → Prop, (∃ m, W 0 m (upd H1 D (.lst []))) ∧ ∀ i m H, W i m H → ((Ite K a).stop i H ∧ Qd H) ∨
      ((Ite K a).go i H ∧ ∃ Nx : Hp → Prop, (∀ H', Nx H' → ∃ m', m' < m ∧ W (i + 1) m' H') ∧ ∀ x H', (Ite K a).yld i H x H' → g x (wipe σ vs) H' fun σ2 H2 => wipe σ2 vs = wipe σ vs ∧ tt σ2 H2 fun b H3 =>
        if b = true then te σ2 H3 fun y H4 => ∃ acc, H4 D = some (.lst acc) ∧ acc.length < sizeLine ∧ Nx (upd H4 D (.lst (acc ++ [y]))) else Nx H3) := by
  refine ⟨fun i m H => i + m = xs.length ∧ Pv i H, ⟨xs.length, Nat.zero_add _, h0⟩, fun i m H ⟨em, p⟩ => ?_⟩
  by_cases hi : i < xs.length
  · refine .inr ⟨⟨xs, xs[i], hl i H p, List.getElem?_eq_getElem hi⟩, Pv (i + 1), fun H' p' => ⟨m - 1, by omega, by omega, p'⟩, fun x H' y => ?_⟩
    obtain ⟨T, z, rfl, hT, rfl, hz⟩ := y
    exact hs i z T H (hz xs (hl i H p)) hT p
  · have e : i = xs.length := by omega
    exact .inl ⟨⟨xs, hl i H p, by omega⟩, hd H (e ▸ p)⟩
end Lf
namespace Lf
open PySem PySem.Spec PyProof.Rows L2
/-- signs that a text may hold -/
abbrev SOk (x : Str) : Prop := ∀ c ∈ x.cps.toList, c < 0x110000
theorem sok_append {x y : Str} (h1 : SOk x) (h2 : SOk y) : SOk (x ++ y) := fun c hc => by
  have e : (x ++ y).cps.toList = x.cps.toList ++ y.cps.toList := by
    show (x.cps ++ y.cps).toList = _
    rw [Array.toList_append]
  rw [e] at hc
  rcases List.mem_append.mp hc with h | h
  · exact h1 c h
  · exact h2 c h
theorem sok_join {sep : Str} (hs : SOk sep) : ∀ {ys : List Str}, (∀ y ∈ ys, SOk y) → SOk (Str.join sep ys)
  | [], _ => fun c hc => by
    have h : c ∈ ([] : List Nat) := hc
    cases h
  | [x], h => h x (List.mem_cons_self ..)
  | x :: y :: r, h => sok_append (sok_append (h x (List.mem_cons_self ..)) hs) (sok_join hs fun z hz => h z (List.mem_cons_of_mem _ hz))
end Lf
namespace Lf
open PySem PySem.Spec PyProof.Rows L2
theorem len_K {X : Cx} : CallR X (.builtin "len") (Evl.rLenS X.K) := call_len_seq
end Lf
namespace Lf
open PySem PySem.Spec PyProof.Rows L2
def topS (i : Nat) : Stmt := PySem.Challenge.pw_leafround_k26_names_that_are_free.main.body.getD i (.Pass ⟨0, 0, 0, 0⟩)
/-- the built-ins stand -/
structure Bs (mg : Str → Option Value) : Prop where
  len : mg "len" = none
  range : mg "range" = none
  abs : mg "abs" = none
  list : mg "list" = none
  tuple : mg "tuple" = none
  enumerate : mg "enumerate" = none
  isinstance : mg "isinstance" = none
  max : mg "max" = none
  min : mg "min" = none
section
variable {P : Program} {w : World} {K : PySem.W.Frag} {mg : Str → Option Value} {base : Heap}
abbrev sDigit : Stmt := topS 7
theorem scDigit : FnScope ["_law_tape_here", "_law_many", "_law_found", "_law_more"] ["_law_tape_here", "_law_many"] (defScope sDigit) := ⟨rfl, rfl, rfl, by decide +kernel, rfl, by decide +kernel, by decide +kernel⟩
theorem pow60 : (10 : Int) ^ 60 < 2 ^ 200 := by decide +kernel
theorem ok_digit {f : Addr} {fd : FuncData} (F : Fun K "_law_digit" "_law_digit" sDigit f fd) : FnOk P w K mg base CX0 1 f fd ["_law_tape_here", "_law_many"] spDigit := by
  refine F.ok scDigit (fun vs H Q E h => ?_) (fun cdv A outer s H vs Q E hr h => ?_)
  · obtain ⟨a, n, rfl, _⟩ := h
    rfl
  · obtain ⟨a, n, rfl, ⟨u, v, hT, hu, hv, hv2⟩, hn, hn2, q⟩ := h
    have nd := scDigit.nd
    refine ⟨_, (pss_cons (ps_if (pt_cmpR op_gt (pe_ix ix_list (pv 0) pe_int (fun _ _ => rfl)) pe_int (nomark _))
  (pss_cons (ps_set (i := 2) nd rfl (Or.inl rfl) (pe_op op_mod (pe_ix ix_list (pv 0) pe_int (fun _ _ => rfl)) (pv 1)))
  (pss_cons (ps_asg (pe_op op_fdivW (pe_ix ix_list (pv 0) pe_int (fun _ _ => rfl)) (pv 1)) (pg_sub (pv 0) pe_int set_list))
  (pss_one (ps_ret (pv 2)))))
  pss_nil)
  (pss_cons (ps_asg (pe_op op_mod (pe_op op_add (pe_op op_mulW (pe_ix ix_list (pv 0) pe_int (fun _ _ => rfl)) pe_int) pe_int) pe_int) (pg_sub (pv 0) pe_int set_list))
  (pss_cons (ps_set (i := 3) nd rfl (Or.inl rfl) (pe_op op_mod (pe_op op_mulW (pe_ix ix_list (pv 0) pe_int (fun _ _ => rfl)) pe_int) pe_int))
  (pss_one (ps_ret (pe_op op_mod (pe_op op_add (pe_op op_mulW (pe_op op_mod (pe_op op_mulW (pe_ix ix_list (pv 0) pe_int (fun _ _ => rfl)) (pe_ix ix_list (pv 0) pe_int (fun _ _ => rfl))) pe_int) pe_int) (pv 3)) (pv 1))))))), ?_⟩
    have nW : n.natAbs < 2 ^ 200 := by
      have h := pow60
      omega
    refine ⟨.ref a, rfl, a, _, 0, .int u, rfl, rfl, SqL.of hT, atI_nat (j := 0) rfl, u, 0, rfl, rfl, _, rfl, ite2 (fun c => ?_) (fun c => ?_)⟩
    · have c' : 0 < u := of_decide_eq_true c
      refine ⟨.ref a, rfl, a, _, 0, .int u, rfl, rfl, SqL.of hT, atI_nat (j := 0) rfl, .int n, rfl, u, n, rfl, rfl, hn, ?_⟩
      refine ⟨.ref a, rfl, a, _, 0, .int u, rfl, rfl, SqL.of hT, atI_nat (j := 0) rfl, .int n, rfl, u, n, rfl, rfl, wide_div hn nW (by decide) (by decide), ?_⟩
      refine ⟨.ref a, rfl, a, _, 0, 0, rfl, rfl, hT, rfl, ?_⟩
      refine ⟨_, rfl, ?_⟩
      refine q _ _ (Kp.refl a H).mut ⟨u / n, v, upd_same, Int.ediv_nonneg hu (by omega), hv, hv2⟩ (Int.emod_nonneg _ (by omega)) (Int.emod_lt_of_pos _ hn)
    · have e60 : (2 : Int) ^ 60 = 1152921504606846976 := by decide
      have w1 : CMulW v 48271 := wide_mul (a := 32) (b := 32) (by omega) (by decide) (by decide) (by decide) (by decide)
      refine ⟨.ref a, rfl, a, _, 1, .int v, rfl, rfl, SqL.of hT, atI_nat (j := 1) rfl, v, 48271, rfl, rfl, w1, _, 11, rfl, rfl, _, 2147483647, rfl, rfl, (by show (0 : Int) < 2147483647; decide), ?_⟩
      refine ⟨.ref a, rfl, a, _, 1, 1, rfl, rfl, hT, rfl, ?_⟩
      have r0 : 0 ≤ (v * 48271 + 11) % 2147483647 := Int.emod_nonneg _ (by decide)
      have r1 : (v * 48271 + 11) % 2147483647 < 2147483647 := Int.emod_lt_of_pos _ (by decide)
      dsimp only
      generalize (v * 48271 + 11) % 2147483647 = v1 at r0 r1 ⊢
      have hT1 : (upd H a (.lst ([V.int u, .int v].set 1 (.int v1)))) a = some (.lst [.int u, .int v1]) := upd_same
      have w2 : CMulW v1 40692 := wide_mul (a := 32) (b := 32) (by omega) (by decide) (by decide) (by decide) (by decide)
      refine ⟨.ref a, rfl, a, _, 1, .int v1, rfl, rfl, SqL.of hT1, atI_nat (j := 1) rfl, v1, 40692, rfl, rfl, w2, _, 2147483399, rfl, rfl, (by show (0 : Int) < 2147483399; decide), ?_⟩
      have w3 : CMulW v1 v1 := wide_mul (a := 32) (b := 32) (by omega) (by omega) (by decide) (by decide) (by decide)
      refine ⟨.ref a, rfl, a, _, 1, .int v1, rfl, rfl, SqL.of hT1, atI_nat (j := 1) rfl, .ref a, rfl, a, _, 1, .int v1, rfl, rfl, SqL.of hT1, atI_nat (j := 1) rfl, v1, v1, rfl, rfl, w3, _, 2147483629, rfl, rfl, (by show (0 : Int) < 2147483629; decide), ?_⟩
      have s0 : 0 ≤ v1 * v1 % 2147483629 := Int.emod_nonneg _ (by decide)
      have s1 : v1 * v1 % 2147483629 < 2147483629 := Int.emod_lt_of_pos _ (by decide)
      dsimp only
      generalize v1 * v1 % 2147483629 = z at s0 s1 ⊢
      have w4 : CMulW z 2147483399 := wide_mul (a := 32) (b := 32) (by omega) (by decide) (by decide) (by decide) (by decide)
      refine ⟨_, _, rfl, rfl, w4, _, rfl, _, _, rfl, rfl, .int n, rfl, _, n, rfl, rfl, hn, ?_⟩
      exact q _ _ (Kp.refl a H).mut ⟨u, v1, upd_same, hu, r0, by omega⟩ (Int.emod_nonneg _ (by omega)) (Int.emod_lt_of_pos _ hn)
/-- a new tape of the script -/
def spTape (K : PySem.W.Frag) : Sp := fun vs H Q _ => ∃ (a : Addr) (ns : List Int) (k : Int), vs = [.ref a, .int k] ∧ SqL K H a (ns.map V.int) ∧ 0 ≤ k ∧ k ≤ 100 ∧
  ∀ (p : Addr) (H' : Hp), Same H H' → H p = none → TapeAt H' p → Q (.ref p) H'
abbrev sTape : Stmt := topS 6
theorem scTape : FnScope ["_law_script", "_law_start", "_law_cell"] ["_law_script", "_law_start"] (defScope sTape) := ⟨rfl, rfl, rfl, by decide +kernel, rfl, by decide +kernel, by decide +kernel⟩
theorem ok_tape {f : Addr} {fd : FuncData} (F : Fun K "_law_tape" "_law_tape" sTape f fd) (T : Bs mg) : FnOk P w K mg base CX0 1 f fd ["_law_script", "_law_start"] (spTape K) := by
  refine F.ok scTape (fun vs H Q E h => ?_) (fun cdv A outer s H vs Q E hr h => ?_)
  · obtain ⟨a, ns, n, rfl, _⟩ := h
    rfl
  · obtain ⟨a, ns, k, rfl, hS, hk0, hk1, q⟩ := h
    have nd := scTape.nd
    refine ⟨_, (pss_cons (ps_set (i := 2) nd rfl (Or.inl rfl) pe_int)
  (pss_cons (ps_if (pt_cmpR op_lt (pv 1) (pe_callB call_len_seq (by rfl) T.len PySem.boot_len (pa_cons (pv 0) pa_nil)) (nomark _))
  (pss_one (ps_set (i := 2) nd rfl (Or.inl rfl) (pe_callB call_abs (by rfl) T.abs (by decide +kernel) (pa_cons (pe_ix ix_list (pv 0) (pv 1) (fun _ _ => rfl)) pa_nil))))
  pss_nil)
  (pss_one (ps_ret (pe_lst (pa_cons (pv 2) (pa_cons (pe_op op_add (pe_op op_mod (pe_op op_add (pe_op op_mulW (pv 1) pe_int) (pv 2)) pe_int) pe_int) pa_nil))))))), ?_⟩
    have fin : ∀ c : Int, 0 ≤ c → (tRet (tLst (tCons (tVar 2) (tCons (tOp (rI0 fun i j => V.int (i + j)) (tOp (rI (fun x j => 0 < j) fun i j => V.int (i % j)) (tOp (rI0 fun i j => V.int (i + j)) (tOp (rI CMulW fun i j => V.int (i * j)) (tVar 1) (tC (V.int 7919))) (tVar 2)) (tC (V.int 998244353))) (tC (V.int 1))) tNil))))
        { nx := fun x H' => Q V.non H', rt := Q } [some (.ref a), some (.int k), some (.int c)] H := fun c hc => by
      have w1 : CMulW k 7919 := wide_mul (a := 32) (b := 32) (by omega) (by decide) (by decide) (by decide) (by decide)
      refine ⟨_, rfl, _, rfl, k, 7919, rfl, rfl, w1, _, rfl, _, c, rfl, rfl, _, 998244353, rfl, rfl, (by show (0 : Int) < 998244353; decide), _, 1, rfl, rfl, (by show 2 ≤ sizeLine; decide), fun p hp => ?_⟩
      have r0 : 0 ≤ (k * 7919 + c) % 998244353 := Int.emod_nonneg _ (by decide)
      have r1 : (k * 7919 + c) % 998244353 < 998244353 := Int.emod_lt_of_pos _ (by decide)
      exact q p _ (fun b o e => by rw [upd_ne (ne_of_none e hp)]; exact e) hp ⟨_, _, upd_same, hc, by omega, by omega⟩
    refine ⟨.int k, rfl, .ref a, rfl, a, _, rfl, .inl hS, k, _, rfl, rfl, _, rfl, ite2 (fun c => ?_) (fun c => ?_)⟩
    · have c' : k < ((ns.map V.int).length : Nat) := of_decide_eq_true c
      obtain ⟨x, hx, e⟩ := atI_mem hk0 c'
      obtain ⟨z, _, rfl⟩ := List.mem_map.mp hx
      refine ⟨.ref a, rfl, .int k, rfl, a, _, k, _, rfl, rfl, hS, e, z, rfl, ?_⟩
      exact fin _ (by split <;> omega)
    · exact fin 0 (by decide)
end
end Lf
namespace Lf
open PySem PySem.Spec PyProof.Rows L2
section
variable {P : Program} {w : World} {K : PySem.W.Frag} {mg : Str → Option Value} {base : Heap}
abbrev sName : Stmt := topS 8
theorem scName : FnScope ["_law_tape_here", "_law_letters", "_law_word", "_law_kept", "_law_k"] ["_law_tape_here"] (defScope sName) := ⟨rfl, rfl, rfl, by decide +kernel, rfl, by decide +kernel, by decide +kernel⟩
def spName : Sp := fun vs H Q _ => ∃ a : Addr, vs = [.ref a] ∧ TapeAt H a ∧ ∀ (x : Str) (H' : Hp), Kp a H H' → TapeAt H' a → x.length ≤ 20 → SOk x → Q (.str x) H'
/-- signs picked one by one: the new list at D behind i turns -/
def Picked (a D : Addr) (H0 : Hp) (i : Nat) (H : Hp) : Prop := H0 D = none ∧ Kp a H0 H ∧ TapeAt H a ∧ ∃ ys : List Str, H D = some (.lst (ys.map V.str)) ∧ ys.length = i ∧ ∀ y ∈ ys, y.length = 1 ∧ SOk y
theorem ok_name {f : Addr} {fd : FuncData} (F : Fun K "_law_name" "_law_name" sName f fd) (T : Bs mg) (c__law_digit : Callee P w K mg base 1 "_law_digit" ["_law_tape_here", "_law_many"] spDigit) :
    FnOk P w K mg base CX0 2 f fd ["_law_tape_here"] spName := by
  refine F.ok scName (fun vs H Q E h => ?_) (fun cdv A outer s H vs Q E hr h => ?_)
  · obtain ⟨a, rfl, _⟩ := h
    rfl
  · obtain ⟨a, rfl, hT, q⟩ := h
    have nd := scName.nd
    refine ⟨_, (pss_cons (ps_set (i := 1) nd rfl (Or.inr rfl) pe_str)
  (pss_cons (ps_set (i := 2) nd rfl (Or.inl rfl) (pe_join pe_str (pe_lc (own := [("_law_k", 4)]) (g := gName 4) (tt := tYes) rfl nd (pi_range1 (by rfl) T.range (pa_cons (pe_op op_add pe_int (pe_own c__law_digit (hr.mono (by decide)) (by rfl) (pa_cons (pv 0) (pa_cons (pe_ix ix_list (pe_lst (pa_cons pe_int (pa_cons pe_int pa_nil))) (pe_own c__law_digit (hr.mono (by decide)) (by rfl) (pa_cons (pv 0) (pa_cons pe_int pa_nil))) (fun _ _ => rfl)) pa_nil)))) pa_nil)) (blkOk_by (own := [("_law_k", 4)]) (N := ["_law_tape_here", "_law_letters", "_law_word", "_law_kept", "_law_k"]) (sc := defScope sName) (by decide +kernel)) (fun _ _ _ _ _ => (pg_name (i := 4) nd rfl (Or.inl rfl))) (fun _ _ _ _ _ => pts_nil) (fun _ _ _ _ _ => (pe_ix ix_str (pv 1) (pe_own c__law_digit (hr.mono (by decide)) (by rfl) (pa_cons (pv 0) (pa_cons pe_int pa_nil))) (fun _ _ => rfl))))))
  (pss_cons (ps_set (i := 3) nd rfl (Or.inl rfl) (pe_lst (pa_cons pe_str (pa_cons pe_str (pa_cons pe_str (pa_cons pe_str (pa_cons pe_str (pa_cons pe_str (pa_cons pe_str (pa_cons pe_str (pa_cons pe_str (pa_cons pe_str (pa_cons pe_str (pa_cons pe_str (pa_cons pe_str (pa_cons pe_str (pa_cons pe_str pa_nil)))))))))))))))))
  (pss_cons (ps_if (pt_cmpR op_in_seq (pv 2) (pv 3) (by rfl))
  (pss_one (ps_ret (pe_op op_add_str pe_str (pv 2))))
  pss_nil)
  (pss_one (ps_ret (pv 2))))))), ?_⟩
    have w26 : (26 : Int) ≤ 10 ^ 60 := by decide +kernel
    have w8 : (8 : Int) ≤ 10 ^ 60 := by decide +kernel
    -- the range
    refine ⟨⟨_, rfl⟩, .ref a, rfl, (by show 2 ≤ sizeLine; decide), fun p hp => ?_⟩
    refine ⟨.ref a, rfl, a, 2, rfl, hT.new hp, (by decide), (by omega), fun v1 H1 k1 t1 b0 b1 => ?_⟩
    have h1 : H1 p = some (.lst [.int 2, .int 8]) := k1 _ _ (hT.ne hp) upd_same
    obtain ⟨x, hx, ex⟩ := atI_mem (xs := [V.int 2, V.int 8]) b0 b1
    obtain ⟨m, rfl, hm0, hm1⟩ : ∃ m : Int, x = .int m ∧ 0 < m ∧ m ≤ 8 := by
      rcases List.mem_cons.mp hx with rfl | hx
      · exact ⟨2, rfl, by decide, by decide⟩
      · rw [List.mem_singleton] at hx
        exact ⟨8, hx, by decide, by decide⟩
    refine ⟨p, _, v1, .int m, rfl, rfl, SqL.of h1, ex, a, m, rfl, t1, hm0, by omega, fun v2 H2 k2 t2 b2 b3 => ?_⟩
    have k02 : Kp a H H2 := ((Kp.refl a H).new hp).trans (k1.trans k2)
    refine ⟨1, v2, rfl, rfl, 1 + v2, rfl, by omega, by omega, fun D hD => ?_⟩
    refine lc_range (lo := 0) (n := (1 + v2).toNat) (Picked a D H2) ⟨hD, (Kp.refl a H2).new hD, t2.new hD, [], upd_same, rfl, by simp⟩ (fun i H3 hi pk => ?_) (fun H3 pk => ?_)
    · obtain ⟨d0, k3, t3, ys, e3, l3, o3⟩ := pk
      refine ⟨rfl, _, rfl, .ref a, rfl, a, 26, rfl, t3, by decide, w26, fun v4 H4 k4 t4 b4 b5 => ?_⟩
      have hda : D ≠ a := t2.ne hD
      obtain ⟨c, mc, ec⟩ := atI_mem (xs := (Str.ofString "abcdefghijklmnopqrstuvwxyz").cps.toList) b4 (by show v4 < 26; omega)
      refine ⟨_, v4, c, rfl, rfl, by decide +kernel, ec, ys.map V.str, k4 _ _ hda e3, ?_, ?_⟩
      · rw [List.length_map, l3]
        exact small1000 (by omega)
      · refine ⟨d0, (k3.trans k4).mutN d0, t4.mut hda, ys ++ [⟨#[c]⟩], ?_, ?_, fun y hy => ?_⟩
        · rw [upd_same, List.map_append]
          rfl
        · rw [List.length_append, l3]
          rfl
        · rcases List.mem_append.mp hy with hy | hy
          · exact o3 y hy
          · rw [List.mem_singleton.mp hy]
            refine ⟨rfl, fun z hz => ?_⟩
            have e : z = c := List.mem_singleton.mp hz
            subst e
            exact (by decide +kernel : ∀ z ∈ (Str.ofString "abcdefghijklmnopqrstuvwxyz").cps.toList, z < 0x110000) z mc
    · obtain ⟨d0, k3, t3, ys, e3, l3, o3⟩ := pk
      have hl : (ys.map (·.length)).sum = ys.length := sum_ones fun y hy => (o3 y hy).1
      have hsk : SOk (Txt.join "" ys) := by
        rw [TL.join_eq]
        exact sok_join (by decide +kernel) fun y hy => (o3 y hy).2
      have hlen : (Txt.join "" ys).length = ys.length := by
        rw [TL.join_eq, join_len _ (by decide +kernel), hl]
      refine ⟨_, D, ys, rfl, rfl, .inl (SqL.of e3), ?_, ?_⟩
      · rw [hl, show (Str.ofString "").length = 0 by decide +kernel]
        omega
      -- the kept words
      refine ⟨(by show 15 ≤ sizeLine; decide), fun r hr3 => ?_⟩
      have k05 : ∀ o, Kp a H (upd H3 r o) := fun o => (k02.trans k3).new hr3
      refine ⟨_, rfl, .ref r, rfl, r, _, rfl, .inl (SqL.of upd_same), rfl, rfl, _, rfl, ite2 (fun _ => ?_) (fun _ => ?_)⟩
      · refine ⟨_, rfl, _, _, rfl, rfl, ?_, ?_⟩
        · rw [hlen, show (Str.ofString "x").length = 1 by decide +kernel]
          have : 100 ≤ sizeLine := by decide
          omega
        · refine q _ _ (k05 _) (t3.new hr3) ?_ (sok_append (by decide +kernel) hsk)
          rw [str_len_append, hlen, show (Str.ofString "x").length = 1 by decide +kernel]
          omega
      · refine ⟨_, rfl, q _ _ (k05 _) (t3.new hr3) ?_ hsk⟩
        rw [hlen]
        omega
end
end Lf
namespace Lf
open PySem PySem.Spec PyProof.Rows L2
/-! ### trees -/
inductive Kd where
  | leaf (k : Str) | nam | call | own | un (k : Str) | sign | bin (k : Str) | ite | lett | list | each | eachT
  deriving DecidableEq
inductive Tr where
  | node (k : Kd) (at_ : Int) (v : V) (ps : List Tr)
mutual
def Tr.depth : Tr → Nat
  | .node _ _ _ ps => depthL ps + 1
def depthL : List Tr → Nat
  | [] => 0
  | p :: r => max (p.depth) (depthL r)
end
mutual
def Tr.size : Tr → Nat
  | .node _ _ _ ps => sizeL ps + 1
def sizeL : List Tr → Nat
  | [] => 0
  | p :: r => p.size + sizeL r
end
/-- no tuple: what is told of a value within a tree beside its parts -/
inductive Flat : V → Prop where
  | int (i : Int) : Flat (.int i)
  | bl (b : Bool) : Flat (.bl b)
  | str (x : Str) : Flat (.str x)
/-- a tree's tuple: of the kind k, at, with the value v and the parts vs -/
def Form (H : Hp) : Kd → Int → V → List V → List V → Prop
  | .leaf k, n, v, vs, xs => xs = [.str k, .int n, v] ∧ vs = [] ∧ Flat v ∧ (k = "number" ∨ k = "truth" ∨ k = "words")
  | .nam, n, v, vs, xs => ∃ x, v = .str x ∧ xs = [.str "name", .int n, v] ∧ vs = []
  | .call, n, v, vs, xs => ∃ x b, v = .str x ∧ xs = [.str "call", .int n, v, .ref b] ∧ H b = some (.tup vs)
  | .own, n, v, vs, xs => ∃ x a, v = .str x ∧ xs = [.str "own", .int n, v, a] ∧ vs = [a]
  | .un k, n, v, vs, xs => ∃ a, v = .non ∧ xs = [.str k, .int n, a] ∧ vs = [a] ∧ (k = "minus" ∨ k = "not")
  | .sign, n, v, vs, xs => ∃ x a b, v = .str x ∧ xs = [.str "sign", .int n, v, a, b] ∧ vs = [a, b]
  | .bin k, n, v, vs, xs => ∃ a b, v = .non ∧ xs = [.str k, .int n, a, b] ∧ vs = [a, b] ∧ (k = "and" ∨ k = "or" ∨ k = "pick")
  | .ite, n, v, vs, xs => ∃ a b c, v = .non ∧ xs = [.str "if", .int n, a, b, c] ∧ vs = [a, b, c]
  | .lett, n, v, vs, xs => ∃ x a b, v = .str x ∧ xs = [.str "let", .int n, v, a, b] ∧ vs = [a, b]
  | .list, n, v, vs, xs => ∃ b, v = .non ∧ xs = [.str "list", .int n, .ref b] ∧ H b = some (.tup vs)
  | .each, n, v, vs, xs => ∃ x a b, v = .str x ∧ xs = [.str "each", .int n, a, v, b, .non] ∧ vs = [a, b]
  | .eachT, n, v, vs, xs => ∃ x a b c, v = .str x ∧ xs = [.str "each", .int n, a, v, b, c] ∧ vs = [a, b, c]
/-- tuples stay -/
def Tups (H H' : Hp) : Prop := ∀ b xs, H b = some (.tup xs) → H' b = some (.tup xs)
theorem Form.keep {H H' : Hp} (t : Tups H H') {k : Kd} {n : Int} {v : V} {vs xs : List V} (h : Form H k n v vs xs) : Form H' k n v vs xs := by
  cases k with
  | call =>
    obtain ⟨x, b, h1, h2, h3⟩ := h
    exact ⟨x, b, h1, h2, t _ _ h3⟩
  | list =>
    obtain ⟨b, h1, h2, h3⟩ := h
    exact ⟨b, h1, h2, t _ _ h3⟩
  | _ => exact h
mutual
inductive TrIs (H : Hp) : V → Tr → Prop where
  | mk {a : Addr} {xs vs : List V} {k : Kd} {n : Int} {v : V} {ps : List Tr} : H a = some (.tup xs) → Form H k n v vs xs → TrsIs H vs ps → TrIs H (.ref a) (.node k n v ps)
inductive TrsIs (H : Hp) : List V → List Tr → Prop where
  | nil : TrsIs H [] []
  | cons {v : V} {vs : List V} {t : Tr} {ts : List Tr} : TrIs H v t → TrsIs H vs ts → TrsIs H (v :: vs) (t :: ts)
end
mutual
theorem TrIs.keep {H H' : Hp} (t : Tups H H') : ∀ {v : V} {x : Tr}, TrIs H v x → TrIs H' v x
  | _, _, .mk h1 h2 h3 => .mk (t _ _ h1) (h2.keep t) (h3.keep t)
theorem TrsIs.keep {H H' : Hp} (t : Tups H H') : ∀ {v : List V} {x : List Tr}, TrsIs H v x → TrsIs H' v x
  | _, _, .nil => .nil
  | _, _, .cons h1 h2 => .cons (h1.keep t) (h2.keep t)
end
theorem TrsIs.len {H : Hp} : ∀ {v : List V} {x : List Tr}, TrsIs H v x → v.length = x.length
  | _, _, .nil => rfl
  | _, _, .cons _ h2 => congrArg (· + 1) h2.len
theorem TrsIs.get {H : Hp} : ∀ {v : List V} {x : List Tr} {i : Nat} {u : V}, TrsIs H v x → v[i]? = some u → ∃ t, x[i]? = some t ∧ TrIs H u t
  | _, _, _, _, .nil, e => by simp at e
  | _, _, 0, _, .cons h1 _, e => by
    simp at e
    subst e
    exact ⟨_, rfl, h1⟩
  | _, _, i + 1, u, .cons _ h2, e => by
    obtain ⟨t, e1, h⟩ := TrsIs.get (i := i) h2 (by simpa using e)
    exact ⟨t, by simpa using e1, h⟩
theorem TrsIs.append {H : Hp} : ∀ {v u : List V} {x y : List Tr}, TrsIs H v x → TrsIs H u y → TrsIs H (v ++ u) (x ++ y)
  | _, _, _, _, .nil, h => h
  | _, _, _, _, .cons h1 h2, h => .cons h1 (h2.append h)
theorem TrsIs.take {H : Hp} : ∀ {v : List V} {x : List Tr} (n : Nat), TrsIs H v x → TrsIs H (v.take n) (x.take n)
  | _, _, 0, _ => .nil
  | _, _, _ + 1, .nil => .nil
  | _, _, n + 1, .cons h1 h2 => .cons h1 (h2.take n)
end Lf
namespace L2
theorem Same.tups {H H' : Hp} (s : Same H H') : Lf.Tups H H' := fun b xs h => s b _ h
end L2
namespace Lf
open PySem PySem.Spec PyProof.Rows L2
theorem Kp.tups {a : Addr} {xs : List V} {H H' : Hp} (k : Kp a H H') (ha : H a = some (.lst xs)) : Tups H H' := fun b ys h => k b _ (ne_of h ha (by intro z; cases z)) h
theorem TapeAt.tups {a : Addr} {H H' : Hp} (h : TapeAt H a) (k : Kp a H H') : Tups H H' := by
  obtain ⟨u, v, e, _⟩ := h
  exact k.tups e
theorem Tups.trans {H H1 H2 : Hp} (x : Tups H H1) (y : Tups H1 H2) : Tups H H2 := fun b xs h => y b xs (x b xs h)
theorem Tups.new {H : Hp} {p : Addr} {o : HO} (h : H p = none) : Tups H (upd H p o) := fun b xs e => by
  rw [upd_ne (ne_of_none e h)]
  exact e
theorem Tups.mut {H : Hp} {p : Addr} {o : HO} {ys : List V} (h : H p = some (.lst ys)) : Tups H (upd H p o) := fun b xs e => by
  rw [upd_ne (ne_of e h (by intro z; cases z))]
  exact e
/-! ### how big -/
def AllL (p : Tr → Prop) (ts : List Tr) : Prop := ∀ t ∈ ts, p t
theorem depthL_le {n : Nat} : ∀ {ts : List Tr}, (∀ t ∈ ts, t.depth ≤ n) → depthL ts ≤ n
  | [], _ => Nat.zero_le _
  | p :: r, h => Nat.max_le.mpr ⟨h p (List.mem_cons_self ..), depthL_le fun t ht => h t (List.mem_cons_of_mem _ ht)⟩
theorem le_depthL : ∀ {ts : List Tr} {t : Tr}, t ∈ ts → t.depth ≤ depthL ts
  | p :: r, t, h => by
    rcases List.mem_cons.mp h with rfl | h
    · exact Nat.le_max_left _ _
    · exact Nat.le_trans (le_depthL h) (Nat.le_max_right _ _)
theorem sizeL_le {n : Nat} : ∀ {ts : List Tr}, (∀ t ∈ ts, t.size ≤ n) → sizeL ts ≤ ts.length * n
  | [], _ => Nat.zero_le _
  | p :: r, h => by
    have h1 := h p (List.mem_cons_self ..)
    have h2 := sizeL_le (n := n) fun t ht => h t (List.mem_cons_of_mem _ ht)
    show p.size + sizeL r ≤ (r.length + 1) * n
    rw [Nat.add_mul]
    omega
/-- names are texts of right signs -/
def VOk : Kd → V → Prop
  | .nam, v => ∃ x, v = .str x ∧ SOk x
  | .call, v => ∃ x, v = .str x ∧ SOk x
  | _, _ => True
mutual
def Tr.ok : Tr → Prop
  | .node k _ v ps => VOk k v ∧ okL ps
def okL : List Tr → Prop
  | [] => True
  | p :: r => p.ok ∧ okL r
end
theorem okL_of : ∀ {ps : List Tr}, (∀ t ∈ ps, t.ok) → okL ps
  | [], _ => trivial
  | p :: r, h => ⟨h p (List.mem_cons_self ..), okL_of fun t ht => h t (List.mem_cons_of_mem _ ht)⟩
/-- a tree of depth d + 1 at most, of 5 ^ (d + 1) places at most -/
def Fits (d : Nat) (t : Tr) : Prop := t.depth ≤ d + 1 ∧ t.size ≤ 5 ^ (d + 1) ∧ t.ok
theorem Fits.node {d : Nat} {k : Kd} {n : Int} {v : V} {ps : List Tr} (hl : ps.length ≤ 4) (hv : VOk k v) (h : ∀ t ∈ ps, Fits d t) : Fits (d + 1) (.node k n v ps) := by
  refine ⟨Nat.succ_le_succ (depthL_le fun t ht => (h t ht).1), ?_, hv, okL_of fun t ht => (h t ht).2.2⟩
  have h1 := sizeL_le fun t ht => (h t ht).2.1
  have h2 : ps.length * 5 ^ (d + 1) ≤ 4 * 5 ^ (d + 1) := Nat.mul_le_mul_right _ hl
  have h3 : 0 < 5 ^ (d + 1) := Nat.pow_pos (by decide)
  show sizeL ps + 1 ≤ 5 ^ (d + 1 + 1)
  rw [Nat.pow_succ 5 (d + 1)]
  omega
theorem Fits.leaf {d : Nat} {k : Kd} {n : Int} {v : V} (hv : VOk k v) : Fits d (.node k n v []) := by
  refine ⟨by show 0 + 1 ≤ d + 1; omega, ?_, hv, trivial⟩
  have h3 : 0 < 5 ^ (d + 1) := Nat.pow_pos (by decide)
  show 0 + 1 ≤ 5 ^ (d + 1)
  omega
theorem Fits.mono {d : Nat} {t : Tr} (h : Fits d t) : Fits (d + 1) t := by
  refine ⟨Nat.le_succ_of_le h.1, Nat.le_trans h.2.1 ?_, h.2.2⟩
  exact Nat.pow_le_pow_right (by decide) (by omega)
/-! ### the names that a tree lets free -/
/-- what is given in the i-th part -/
def giv (k : Kd) (i : Nat) (v : V) (g : List Str) : List Str :=
  match k, i, v with
  | .lett, 1, .str x => g ++ [x]
  | .each, 0, .str x => g ++ [x]
  | .eachT, 0, .str x => g ++ [x]
  | .eachT, 2, .str x => g ++ [x]
  | _, _, _ => g
def ownName (k : Kd) (v : V) (g : List Str) : List Str :=
  match k, v with
  | .nam, .str x => if x ∈ g then [] else [x]
  | .call, .str x => if x ∈ g then [] else [x]
  | _, _ => []
mutual
def met : Tr → List Str → List Str
  | .node k _ v ps, g => ownName k v g ++ metL k v ps 0 g
def metL (k : Kd) (v : V) : List Tr → Nat → List Str → List Str
  | [], _, _ => []
  | p :: r, i, g => met p (giv k i v g) ++ metL k v r (i + 1) g
end
theorem ownName_len (k : Kd) (v : V) (g : List Str) : (ownName k v g).length ≤ 1 := by
  unfold ownName
  split <;> (try split) <;> simp
mutual
theorem met_len : ∀ (t : Tr) (g : List Str), (met t g).length ≤ t.size
  | .node k n v ps, g => by
    have h1 := ownName_len k v g
    have h2 := metL_len k v ps 0 g
    show (ownName k v g ++ metL k v ps 0 g).length ≤ sizeL ps + 1
    rw [List.length_append]
    omega
theorem metL_len (k : Kd) (v : V) : ∀ (ts : List Tr) (i : Nat) (g : List Str), (metL k v ts i g).length ≤ sizeL ts
  | [], _, _ => Nat.zero_le _
  | p :: r, i, g => by
    have h1 := met_len p (giv k i v g)
    have h2 := metL_len k v r (i + 1) g
    show (met p (giv k i v g) ++ metL k v r (i + 1) g).length ≤ p.size + sizeL r
    rw [List.length_append]
    omega
end
mutual
theorem met_ok : ∀ (t : Tr) (g : List Str), t.ok → ∀ x ∈ met t g, SOk x
  | .node k n v ps, g, h, x, hx => by
    rcases List.mem_append.mp (show x ∈ ownName k v g ++ metL k v ps 0 g from hx) with hx | hx
    · have hv := h.1
      cases k with
      | nam =>
        obtain ⟨y, rfl, hy⟩ := hv
        have hx' : x ∈ (if y ∈ g then [] else [y]) := hx
        split at hx'
        · cases hx'
        · rw [List.mem_singleton.mp hx']
          exact hy
      | call =>
        obtain ⟨y, rfl, hy⟩ := hv
        have hx' : x ∈ (if y ∈ g then [] else [y]) := hx
        split at hx'
        · cases hx'
        · rw [List.mem_singleton.mp hx']
          exact hy
      | _ => exact nomatch (show x ∈ ([] : List Str) from hx)
    · exact metL_ok k v ps 0 g h.2 x hx
theorem metL_ok (k : Kd) (v : V) : ∀ (ts : List Tr) (i : Nat) (g : List Str), okL ts → ∀ x ∈ metL k v ts i g, SOk x
  | [], _, _, _, x, hx => nomatch (show x ∈ ([] : List Str) from hx)
  | p :: r, i, g, h, x, hx => by
    rcases List.mem_append.mp (show x ∈ met p (giv k i v g) ++ metL k v r (i + 1) g from hx) with hx | hx
    · exact met_ok p _ h.1 x hx
    · exact metL_ok k v r (i + 1) g h.2 x hx
end
/-! ### each once -/
def uniq : List Str → List Str → List Str
  | acc, [] => acc
  | acc, x :: r => uniq (if x ∈ acc then acc else acc ++ [x]) r
theorem uniq_app (acc l m : List Str) : uniq acc (l ++ m) = uniq (uniq acc l) m := by
  induction l generalizing acc with
  | nil => rfl
  | cons x r ih => exact ih _
theorem mem_uniq {z : Str} (acc l : List Str) : z ∈ uniq acc l ↔ z ∈ acc ∨ z ∈ l := by
  induction l generalizing acc with
  | nil => simp [uniq]
  | cons x r ih =>
    show z ∈ uniq (if x ∈ acc then acc else acc ++ [x]) r ↔ _
    rw [ih]
    by_cases h : x ∈ acc
    · rw [if_pos h]
      constructor
      · rintro (h1 | h1)
        · exact .inl h1
        · exact .inr (List.mem_cons_of_mem _ h1)
      · rintro (h1 | h1)
        · exact .inl h1
        · rcases List.mem_cons.mp h1 with rfl | h1
          · exact .inl h
          · exact .inr h1
    · rw [if_neg h]
      simp only [List.mem_append, List.mem_cons, List.not_mem_nil, or_false]
      exact or_assoc
theorem uniq_len (acc l : List Str) : (uniq acc l).length ≤ acc.length + l.length := by
  induction l generalizing acc with
  | nil => exact Nat.le_refl _
  | cons x r ih =>
    have h := ih (if x ∈ acc then acc else acc ++ [x])
    show (uniq (if x ∈ acc then acc else acc ++ [x]) r).length ≤ acc.length + (r.length + 1)
    by_cases hx : x ∈ acc
    · rw [if_pos hx] at h ⊢
      omega
    · rw [if_neg hx] at h ⊢
      rw [List.length_append] at h
      have : ([x] : List Str).length = 1 := rfl
      omega
end Lf
namespace Lf
open PySem PySem.Spec PyProof.Rows L2
section
variable {P : Program} {w : World} {K : PySem.W.Frag} {mg : Str → Option Value} {base : Heap}
abbrev sClosed : Stmt := topS 9
theorem scClosed : FnScope ["_law_tape_here", "_law_names_here", "_law_way", "_law_at", "_law_signs", "_law_k"] ["_law_tape_here", "_law_names_here"] (defScope sClosed) := ⟨rfl, rfl, rfl, by decide +kernel, rfl, by decide +kernel, by decide +kernel⟩
/-- the names handed in: a list of three to ten texts -/
def NamesAt (H : Hp) (l : Addr) (ns : List Str) : Prop := H l = some (.lst (ns.map V.str)) ∧ 3 ≤ ns.length ∧ ns.length ≤ 10 ∧ ∀ x ∈ ns, SOk x
def spClosed : Sp := fun vs H Q _ => ∃ (a l : Addr) (ns : List Str), vs = [.ref a, .ref l] ∧ TapeAt H a ∧ NamesAt H l ns ∧ l ≠ a ∧
  ∀ (v : V) (t : Tr) (H' : Hp), Kp a H H' → TapeAt H' a → TrIs H' v t → Fits 0 t → Q v H'
theorem fl {i j : Int} : decide (V.int i = V.int j) = decide (i = j) := by
  by_cases h : i = j
  · subst h; simp
  · rw [decide_eq_false h, decide_eq_false fun e => h (V.int.inj e)]
theorem ok_closed {f : Addr} {fd : FuncData} (F : Fun K "_law_closed_tree" "_law_closed_tree" sClosed f fd) (T : Bs mg) (c__law_digit : Callee P w K mg base 1 "_law_digit" ["_law_tape_here", "_law_many"] spDigit) :
    FnOk P w K mg base CX0 2 f fd ["_law_tape_here", "_law_names_here"] spClosed := by
  refine F.ok scClosed (fun vs H Q E h => ?_) (fun cdv A outer s H vs Q E hr h => ?_)
  · obtain ⟨a, l, ns, rfl, _⟩ := h
    rfl
  · obtain ⟨a, l, ns, rfl, hT, hN, hla, q⟩ := h
    have nd := scClosed.nd
    refine ⟨_, (pss_cons (ps_par (i := 2) (j := 3) (by rfl) nd rfl rfl (by decide) rfl rfl (pa_cons (pe_own c__law_digit (hr.mono (by decide)) (by rfl) (pa_cons (pv 0) (pa_cons pe_int pa_nil))) (pa_cons (pe_own c__law_digit (hr.mono (by decide)) (by rfl) (pa_cons (pv 0) (pa_cons pe_int pa_nil))) pa_nil)) (by rfl))
  (pss_cons (ps_if (pt_cmpR op_eq (pv 2) pe_int (nomark _))
  (pss_one (ps_ret (pe_tup (pa_cons pe_str (pa_cons (pv 3) (pa_cons (pe_own c__law_digit (hr.mono (by decide)) (by rfl) (pa_cons (pv 0) (pa_cons (pe_ix ix_list (pe_lst (pa_cons pe_int (pa_cons pe_int (pa_cons (pe_op op_pow pe_int pe_int) pa_nil)))) (pe_own c__law_digit (hr.mono (by decide)) (by rfl) (pa_cons (pv 0) (pa_cons pe_int pa_nil))) (fun _ _ => rfl)) pa_nil))) pa_nil))))))
  pss_nil)
  (pss_cons (ps_if (pt_cmpR op_eq (pv 2) pe_int (nomark _))
  (pss_one (ps_ret (pe_tup (pa_cons pe_str (pa_cons (pv 3) (pa_cons (pe_cmpR op_eq (pe_own c__law_digit (hr.mono (by decide)) (by rfl) (pa_cons (pv 0) (pa_cons pe_int pa_nil))) pe_int (nomark _)) pa_nil))))))
  pss_nil)
  (pss_cons (ps_if (pt_cmpR op_eq (pv 2) pe_int (nomark _))
  (pss_cons (ps_set (i := 4) nd rfl (Or.inr rfl) pe_str)
  (pss_one (ps_ret (pe_tup (pa_cons pe_str (pa_cons (pv 3) (pa_cons (pe_join pe_str (pe_lc (own := [("_law_k", 5)]) (g := gName 5) (tt := tYes) rfl nd (pi_range1 (by rfl) T.range (pa_cons (pe_own c__law_digit (hr.mono (by decide)) (by rfl) (pa_cons (pv 0) (pa_cons pe_int pa_nil))) pa_nil)) (blkOk_by (own := [("_law_k", 5)]) (N := ["_law_tape_here", "_law_names_here", "_law_way", "_law_at", "_law_signs", "_law_k"]) (sc := defScope sClosed) (by decide +kernel)) (fun _ _ _ _ _ => (pg_name (i := 5) nd rfl (Or.inl rfl))) (fun _ _ _ _ _ => pts_nil) (fun _ _ _ _ _ => (pe_ix ix_str (pv 4) (pe_own c__law_digit (hr.mono (by decide)) (by rfl) (pa_cons (pv 0) (pa_cons pe_int pa_nil))) (fun _ _ => rfl))))) pa_nil)))))))
  pss_nil)
  (pss_one (ps_ret (pe_tup (pa_cons pe_str (pa_cons (pv 3) (pa_cons (pe_ix ix_list (pv 1) (pe_own c__law_digit (hr.mono (by decide)) (by rfl) (pa_cons (pv 0) (pa_cons (pe_callB call_len_seq (by rfl) T.len PySem.boot_len (pa_cons (pv 1) pa_nil)) pa_nil))) (fun _ _ => rfl)) pa_nil)))))))))), ?_⟩
    have big : ∀ n : Int, n ≤ 1000 → n ≤ 10 ^ 60 := fun n hn => Int.le_trans hn (by decide +kernel)
    refine ⟨.ref a, rfl, a, 6, rfl, hT, by decide, big _ (by decide), fun way H1 k1 t1 y0 y1 => ?_⟩
    refine ⟨.ref a, rfl, a, 500, rfl, t1, by decide, big _ (by decide), fun at_ H2 k2 t2 z0 z1 => ?_⟩
    refine ⟨_, _, rfl, ?_⟩
    have k02 := k1.trans k2
    have fin : ∀ {b : Addr} {H3 : Hp} {k : Kd} {v : V} {xs : List V}, Kp a H H3 → TapeAt H3 a → H3 b = none → VOk k v → Form (upd H3 b (.tup xs)) k at_ v [] xs → Q (.ref b) (upd H3 b (.tup xs)) := fun k3 t3 hb hv fo =>
      q _ _ _ (k3.new hb) (t3.new hb) (.mk upd_same fo .nil) (.leaf hv)
    refine ⟨_, rfl, rfl, _, rfl, ite2 (fun _ => ?_) (fun _ => ?_)⟩
    · -- a number
      refine ⟨_, rfl, .ref a, rfl, 10, 60, rfl, rfl, ⟨by decide, by decide, by decide⟩, (by show 3 ≤ sizeLine; decide), fun p hp => ?_⟩
      refine ⟨.ref a, rfl, a, 3, rfl, t2.new hp, by decide, big _ (by decide), fun v3 H3 k3 t3 b0 b1 => ?_⟩
      obtain ⟨x, hx, ex⟩ := atI_mem (xs := [V.int 10, V.int 1000, V.int (10 ^ 60)]) b0 b1
      obtain ⟨m, rfl, hm0, hm1⟩ : ∃ m : Int, x = .int m ∧ 0 < m ∧ m ≤ 10 ^ 60 := by
        rcases List.mem_cons.mp hx with rfl | hx
        · exact ⟨10, rfl, by decide, big _ (by decide)⟩
        · rcases List.mem_cons.mp hx with rfl | hx
          · exact ⟨1000, rfl, by decide, big _ (by decide)⟩
          · rw [List.mem_singleton] at hx
            exact ⟨10 ^ 60, hx, by decide +kernel, Int.le_refl _⟩
      have hp3 : H3 p = some (.lst [V.int 10, V.int 1000, V.int (10 ^ 60)]) := k3 _ _ (t2.ne hp) upd_same
      refine ⟨p, _, v3, .int m, rfl, rfl, SqL.of hp3, ex, a, m, rfl, t3, hm0, hm1, fun v4 H4 k4 t4 c0 c1 => ?_⟩
      refine ⟨(by show 3 ≤ sizeLine; decide), fun b hb => ?_⟩
      exact fin (k := .leaf "number") ((k02.new hp).trans (k3.trans k4)) t4 hb trivial ⟨rfl, rfl, .int _, .inl rfl⟩
    refine ⟨_, rfl, rfl, _, rfl, ite2 (fun _ => ?_) (fun _ => ?_)⟩
    · refine ⟨_, rfl, .ref a, rfl, a, 2, rfl, t2, by decide, big _ (by decide), fun v3 H3 k3 t3 b0 b1 => ?_⟩
      refine ⟨rfl, (by show 3 ≤ sizeLine; decide), fun b hb => ?_⟩
      exact fin (k := .leaf "truth") (k02.trans k3) t3 hb trivial ⟨rfl, rfl, .bl _, .inr (.inl rfl)⟩
    refine ⟨_, rfl, rfl, _, rfl, ite2 (fun _ => ?_) (fun _ => ?_)⟩
    · refine ⟨_, rfl, ⟨_, rfl⟩, .ref a, rfl, a, 6, rfl, t2, by decide, big _ (by decide), fun v3 H3 k3 t3 b0 b1 => ?_⟩
      refine ⟨v3, rfl, by omega, by omega, fun D hD => ?_⟩
      refine lc_range (lo := 0) (n := v3.toNat) (Picked a D H3) ⟨hD, (Kp.refl a H3).new hD, t3.new hD, [], upd_same, rfl, by simp⟩ (fun i H4 hi pk => ?_) (fun H4 pk => ?_)
      · obtain ⟨d0, k4, t4, ys, e4, l4, o4⟩ := pk
        refine ⟨rfl, _, rfl, .ref a, rfl, a, 24, rfl, t4, by decide, big _ (by decide), fun v5 H5 k5 t5 b4 b5 => ?_⟩
        have hda : D ≠ a := t3.ne hD
        obtain ⟨c, mc, ec⟩ := atI_mem (xs := (Str.ofString " abz09AZ#()[]+-=<!*/,.~:").cps.toList) b4 (by show v5 < 24; omega)
        refine ⟨_, v5, c, rfl, rfl, by decide +kernel, ec, ys.map V.str, k5 _ _ hda e4, ?_, ?_⟩
        · rw [List.length_map, l4]
          exact small1000 (by omega)
        · refine ⟨d0, (k4.trans k5).mutN d0, t5.mut hda, ys ++ [⟨#[c]⟩], ?_, ?_, fun y hy => ?_⟩
          · rw [upd_same, List.map_append]
            rfl
          · rw [List.length_append, l4]
            rfl
          · rcases List.mem_append.mp hy with hy | hy
            · exact o4 y hy
            · rw [List.mem_singleton.mp hy]
              refine ⟨rfl, fun z hz => ?_⟩
              have e : z = c := List.mem_singleton.mp hz
              subst e
              exact (by decide +kernel : ∀ z ∈ (Str.ofString " abz09AZ#()[]+-=<!*/,.~:").cps.toList, z < 0x110000) z mc
      · obtain ⟨d0, k4, t4, ys, e4, l4, o4⟩ := pk
        refine ⟨_, D, ys, rfl, rfl, .inl (SqL.of e4), ?_, (by show 3 ≤ sizeLine; decide), fun b hb => ?_⟩
        · rw [sum_ones fun y hy => (o4 y hy).1, show (Str.ofString "").length = 0 by decide +kernel]
          omega
        · exact fin (k := .leaf "words") ((k02.trans k3).trans k4) t4 hb trivial ⟨rfl, rfl, .str _, .inr (.inr rfl)⟩
    · have hN2 : H2 l = some (.lst (ns.map V.str)) := k02 _ _ hla hN.1
      refine ⟨_, rfl, .ref l, rfl, .ref a, rfl, .ref l, rfl, l, _, rfl, .inl (SqL.of hN2), a, _, rfl, t2, ?_, ?_, fun v3 H3 k3 t3 b0 b1 => ?_⟩
      · rw [List.length_map]
        have := hN.2.1
        omega
      · rw [List.length_map]
        refine big _ ?_
        have := hN.2.2.1
        omega
      obtain ⟨x, hx, ex⟩ := atI_mem b0 b1
      obtain ⟨y, hy, rfl⟩ := List.mem_map.mp hx
      refine ⟨l, _, v3, _, rfl, rfl, SqL.of (k3 _ _ hla hN2), ex, (by show 3 ≤ sizeLine; decide), fun b hb => ?_⟩
      exact fin (k := .nam) (k02.trans k3) t3 hb ⟨y, rfl, hN.2.2.2 y hy⟩ ⟨y, rfl, rfl, rfl⟩
end
end Lf
namespace Lf
open PySem PySem.Spec PyProof.Rows L2
section
variable {P : Program} {w : World} {K : PySem.W.Frag} {mg : Str → Option Value} {base : Heap}
abbrev sTree : Stmt := topS 10
theorem scTree : FnScope ["_law_tape_here", "_law_names_here", "_law_deep", "_law_way", "_law_at", "_law_some", "_law_more", "_law_signs", "_law_test", "_law_k"] ["_law_tape_here", "_law_names_here", "_law_deep"] (defScope sTree) := ⟨rfl, rfl, rfl, by decide +kernel, rfl, by decide +kernel, by decide +kernel⟩
def spTree (d : Nat) : Sp := fun vs H Q _ => ∃ (a l : Addr) (ns : List Str) (n : Int), vs = [.ref a, .ref l, .int n] ∧ TapeAt H a ∧ NamesAt H l ns ∧ l ≠ a ∧ 0 ≤ n ∧ n ≤ d ∧
  ∀ (v : V) (t : Tr) (H' : Hp), Kp a H H' → TapeAt H' a → TrIs H' v t → Fits d t → Q v H'
/-- what holds of the calls within -/
def spBelow (d : Nat) : Sp := fun vs H Q E => 1 ≤ d ∧ spTree (d - 1) vs H Q E
/-- how many parts each way makes -/
def cnt (w : Int) : Nat := [1, 1, 2, 1, 1, 2, 2, 2, 2, 1, 2, 2, 3, 2].getD w.toNat 0
theorem cnt_at {w : Int} (h0 : 0 ≤ w) (h1 : w < 14) : atI [V.int 1, V.int 1, V.int 2, V.int 1, V.int 1, V.int 2, V.int 2, V.int 2, V.int 2, V.int 1, V.int 2, V.int 2, V.int 3, V.int 2] w = some (.int (cnt w)) ∧ cnt w ≤ 3 := by
  obtain ⟨n, rfl⟩ := Int.eq_ofNat_of_zero_le h0
  have h : n < 14 := by omega
  have e : atI [V.int 1, V.int 1, V.int 2, V.int 1, V.int 1, V.int 2, V.int 2, V.int 2, V.int 2, V.int 1, V.int 2, V.int 2, V.int 3, V.int 2] (n : Int) = some (.int ((cnt (n : Int) : Nat) : Int)) := by
    refine atI_nat ?_
    rcases n with _ | _ | _ | _ | _ | _ | _ | _ | _ | _ | _ | _ | _ | _ | n <;> first | rfl | omega
  refine ⟨e, ?_⟩
  rcases n with _ | _ | _ | _ | _ | _ | _ | _ | _ | _ | _ | _ | _ | _ | n <;> first | decide | omega
theorem inV_int {w : Int} {l : List Int} : inV (.int w) (l.map V.int) = true → w ∈ l := by
  intro h
  unfold inV at h
  obtain ⟨y, hy, e⟩ := List.any_eq_true.mp h
  obtain ⟨z, hz, rfl⟩ := List.mem_map.mp hy
  have e' : (z == w) = true := e
  rw [beq_iff_eq] at e'
  exact e' ▸ hz
theorem inV_int' {w : Int} {l : List Int} : ¬ inV (.int w) (l.map V.int) = true → w ∉ l := by
  intro h hm
  refine h ?_
  unfold inV
  refine List.any_eq_true.mpr ⟨.int w, List.mem_map.mpr ⟨w, hm, rfl⟩, ?_⟩
  show (w == w) = true
  exact beq_self_eq_true w
/-- parts made one by one: the new list at D behind i turns -/
def Grown (d : Nat) (a D : Addr) (H0 : Hp) (i : Nat) (H : Hp) : Prop := H0 D = none ∧ Kp a H0 H ∧ TapeAt H a ∧ ∃ (vs : List V) (ts : List Tr), H D = some (.lst vs) ∧ TrsIs H vs ts ∧ vs.length = i ∧ ∀ t ∈ ts, Fits d t
theorem Grown.start {d : Nat} {a D : Addr} {H : Hp} (hT : TapeAt H a) (hD : H D = none) : Grown d a D H 0 (upd H D (.lst [])) :=
  ⟨hD, (Kp.refl a H).new hD, hT.new hD, [], [], upd_same, .nil, rfl, by simp⟩
theorem Grown.more {d i : Nat} {a D : Addr} {H0 H H' : Hp} {v : V} {t : Tr} (g : Grown d a D H0 i H) (hne : D ≠ a) (hi : i ≤ 900) (k : Kp a H H') (tp : TapeAt H' a) (ht : TrIs H' v t) (hf : Fits d t) :
    ∃ acc, H' D = some (.lst acc) ∧ acc.length < sizeLine ∧ Grown d a D H0 (i + 1) (upd H' D (.lst (acc ++ [v]))) := by
  obtain ⟨d0, k0, t0, vs, ts, e, h, l, f⟩ := g
  have e' := k _ _ hne e
  refine ⟨vs, e', ?_, d0, (k0.trans k).mutN d0, tp.mut hne, vs ++ [v], ts ++ [t], upd_same, ?_, ?_, ?_⟩
  · rw [l]
    exact small1000 (by omega)
  · have tu : Tups H' (upd H' D (.lst (vs ++ [v]))) := Tups.mut e'
    exact ((h.keep (t0.tups k)).keep tu).append (.cons (ht.keep tu) .nil)
  · rw [List.length_append, l]
    rfl
  · intro z hz
    rcases List.mem_append.mp hz with hz | hz
    · exact f z hz
    · rw [List.mem_singleton.mp hz]
      exact hf
theorem Fits.up {t : Tr} : ∀ {d : Nat}, Fits 0 t → Fits d t
  | 0, h => h
  | d + 1, h => (Fits.up (d := d) h).mono
theorem len1 {α : Type} {l : List α} (h : l.length = 1) : ∃ x, l = [x] := match l, h with | [x], _ => ⟨x, rfl⟩
theorem len2 {α : Type} {l : List α} (h : l.length = 2) : ∃ x y, l = [x, y] := match l, h with | [x, y], _ => ⟨x, y, rfl⟩
theorem len3 {α : Type} {l : List α} (h : l.length = 3) : ∃ x y z, l = [x, y, z] := match l, h with | [x, y, z], _ => ⟨x, y, z, rfl⟩
theorem cut_take (xs : List V) (n : Nat) : cutV xs none (some (n : Int)) = xs.take n := by
  unfold cutV
  rw [HT.sIx_none, HT.sIx_nat, List.drop_zero, Nat.sub_zero]
  rcases Nat.le_total n xs.length with h | h
  · rw [Nat.min_eq_left h]
  · rw [Nat.min_eq_right h, List.take_of_length_le h, List.take_of_length_le (Nat.le_refl _)]
theorem cut_drop (xs : List V) (n : Nat) : cutV xs (some (n : Int)) none = xs.drop n := by
  unfold cutV
  rw [HT.sIx_none, HT.sIx_nat]
  rcases Nat.le_total n xs.length with h | h
  · rw [Nat.min_eq_left h, List.take_of_length_le]
    rw [List.length_drop]
    omega
  · rw [Nat.min_eq_right h, List.drop_of_length_le h, List.drop_of_length_le (Nat.le_refl _), List.take_nil]
theorem names_pick {ns : List Str} {v : Int} (b0 : 0 ≤ v) (b1 : v < (ns.map V.str).length) : ∃ y : Str, y ∈ ns ∧ atI (ns.map V.str) v = some (.str y) := by
  obtain ⟨x, hx, ex⟩ := atI_mem b0 b1
  obtain ⟨y, hy, rfl⟩ := List.mem_map.mp hx
  exact ⟨y, hy, ex⟩
theorem step_tree {k d : Nat} {f : Addr} {fd : FuncData} (F : Fun K "_law_tree" "_law_tree" sTree f fd) (T : Bs mg) (hk : 2 ≤ k) (c__law_digit : Callee P w K mg base 1 "_law_digit" ["_law_tape_here", "_law_many"] spDigit)
    (c__law_closed_tree : Callee P w K mg base 2 "_law_closed_tree" ["_law_tape_here", "_law_names_here"] spClosed) (c__law_tree : Callee P w K mg base k "_law_tree" ["_law_tape_here", "_law_names_here", "_law_deep"] (spBelow d)) :
    FnOk P w K mg base CX0 (k + 1) f fd ["_law_tape_here", "_law_names_here", "_law_deep"] (spTree d) := by
  refine F.ok scTree (fun vs H Q E h => ?_) (fun cdv A outer s H vs Q E hr h => ?_)
  · obtain ⟨a, l, ns, n, rfl, _⟩ := h
    rfl
  · obtain ⟨a, l, ns, n, rfl, hT, hN, hla, hn0, hn1, q⟩ := h
    have nd := scTree.nd
    refine ⟨_, (pss_cons (ps_par (i := 3) (j := 4) (by rfl) nd rfl rfl (by decide) rfl rfl (pa_cons (pe_own c__law_digit (hr.mono (by omega)) (by rfl) (pa_cons (pv 0) (pa_cons pe_int pa_nil))) (pa_cons (pe_own c__law_digit (hr.mono (by omega)) (by rfl) (pa_cons (pv 0) (pa_cons pe_int pa_nil))) pa_nil)) (by rfl))
  (pss_cons (ps_if (PW.pt (pw_or (pt_cmpR op_eq (pv 2) pe_int (nomark _)) (pw_or1 (pt_cmpR op_eq (pv 3) pe_int (nomark _)))))
  (pss_one (ps_ret (pe_own c__law_closed_tree (hr.mono (by omega)) (by rfl) (pa_cons (pv 0) (pa_cons (pv 1) pa_nil)))))
  pss_nil)
  (pss_cons (ps_setLc (i := 5) (own := [("_law_k", 9)]) (g := gName 9) (tt := tYes) rfl nd rfl rfl (sw_true rfl rfl rfl (by decide +kernel)) (pi_range1 (by rfl) T.range (pa_cons (pe_ix ix_list (pe_lst (pa_cons pe_int (pa_cons pe_int (pa_cons pe_int (pa_cons pe_int (pa_cons pe_int (pa_cons pe_int (pa_cons pe_int (pa_cons pe_int (pa_cons pe_int (pa_cons pe_int (pa_cons pe_int (pa_cons pe_int (pa_cons pe_int (pa_cons pe_int pa_nil))))))))))))))) (pv 3) (fun _ _ => rfl)) pa_nil)) (blkOk_by (own := [("_law_k", 9)]) (N := ["_law_tape_here", "_law_names_here", "_law_deep", "_law_way", "_law_at", "_law_some", "_law_more", "_law_signs", "_law_test", "_law_k"]) (sc := defScope (topS 10)) (by decide +kernel)) (fun _ _ _ _ _ => (pg_name (i := 9) nd rfl (Or.inl rfl))) (fun _ _ _ _ _ => pts_nil) (fun _ _ _ _ _ => (pe_own c__law_tree (hr.mono (by omega)) (by rfl) (pa_cons (pv 0) (pa_cons (pv 1) (pa_cons (pe_op op_sub (pv 2) pe_int) pa_nil))))))
  (pss_cons (ps_if (pt_cmpR op_eq (pv 3) pe_int (nomark _))
  (pss_one (ps_ret (pe_tup (pa_cons pe_str (pa_cons (pv 4) (pa_cons (pe_ix ix_list (pe_lst (pa_cons pe_str (pa_cons pe_str (pa_cons pe_str pa_nil)))) (pe_own c__law_digit (hr.mono (by omega)) (by rfl) (pa_cons (pv 0) (pa_cons pe_int pa_nil))) (fun _ _ => rfl)) (pa_cons (pe_ix ix_list (pv 5) pe_int (fun _ _ => rfl)) pa_nil)))))))
  pss_nil)
  (pss_cons (ps_if (pt_cmpR op_in_seq (pv 3) (pe_tup (pa_cons pe_int (pa_cons pe_int pa_nil))) (by rfl))
  (pss_cons (ps_setLc (i := 6) (own := [("_law_k", 9)]) (g := gName 9) (tt := tYes) rfl nd rfl rfl (sw_true rfl rfl rfl (by decide +kernel)) (pi_range1 (by rfl) T.range (pa_cons (pe_own c__law_digit (hr.mono (by omega)) (by rfl) (pa_cons (pv 0) (pa_cons pe_int pa_nil))) pa_nil)) (blkOk_by (own := [("_law_k", 9)]) (N := ["_law_tape_here", "_law_names_here", "_law_deep", "_law_way", "_law_at", "_law_some", "_law_more", "_law_signs", "_law_test", "_law_k"]) (sc := defScope (topS 10)) (by decide +kernel)) (fun _ _ _ _ _ => (pg_name (i := 9) nd rfl (Or.inl rfl))) (fun _ _ _ _ _ => pts_nil) (fun _ _ _ _ _ => (pe_own c__law_closed_tree (hr.mono (by omega)) (by rfl) (pa_cons (pv 0) (pa_cons (pv 1) pa_nil)))))
  (pss_one (ps_ret (pe_tup (pa_cons pe_str (pa_cons (pv 4) (pa_cons (pe_ix ix_list (pv 1) (pe_own c__law_digit (hr.mono (by omega)) (by rfl) (pa_cons (pv 0) (pa_cons (pe_callB call_len_seq (by rfl) T.len PySem.boot_len (pa_cons (pv 1) pa_nil)) pa_nil))) (fun _ _ => rfl)) (pa_cons (pe_callTy call_tuple_of (by rfl) T.tuple (by decide +kernel) (pa_cons (pe_op op_cat (pv 5) (pv 6)) pa_nil)) pa_nil))))))))
  pss_nil)
  (pss_cons (ps_if (pt_cmpR op_eq (pv 3) pe_int (nomark _))
  (pss_one (ps_ret (pe_tup (pa_cons pe_str (pa_cons (pv 4) (pa_cons (pe_ix ix_list (pv 5) pe_int (fun _ _ => rfl)) pa_nil))))))
  pss_nil)
  (pss_cons (ps_if (pt_cmpR op_in_seq (pv 3) (pe_tup (pa_cons pe_int (pa_cons pe_int (pa_cons pe_int pa_nil)))) (by rfl))
  (pss_cons (ps_set (i := 7) nd rfl (Or.inl rfl) (pe_lst (pa_cons pe_str (pa_cons pe_str (pa_cons pe_str (pa_cons pe_str (pa_cons pe_str (pa_cons pe_str (pa_cons pe_str (pa_cons pe_str (pa_cons pe_str pa_nil)))))))))))
  (pss_one (ps_ret (pe_tup (pa_cons pe_str (pa_cons (pv 4) (pa_cons (pe_ix ix_list (pv 7) (pe_own c__law_digit (hr.mono (by omega)) (by rfl) (pa_cons (pv 0) (pa_cons pe_int pa_nil))) (fun _ _ => rfl)) (pa_cons (pe_ix ix_list (pv 5) pe_int (fun _ _ => rfl)) (pa_cons (pe_ix ix_list (pv 5) pe_int (fun _ _ => rfl)) pa_nil)))))))))
  pss_nil)
  (pss_cons (ps_if (pt_cmpR op_eq (pv 3) pe_int (nomark _))
  (pss_one (ps_ret (pe_tup (pa_cons (pe_ix ix_list (pe_lst (pa_cons pe_str (pa_cons pe_str pa_nil))) (pe_own c__law_digit (hr.mono (by omega)) (by rfl) (pa_cons (pv 0) (pa_cons pe_int pa_nil))) (fun _ _ => rfl)) (pa_cons (pv 4) (pa_cons (pe_ix ix_list (pv 5) pe_int (fun _ _ => rfl)) (pa_cons (pe_ix ix_list (pv 5) pe_int (fun _ _ => rfl)) pa_nil)))))))
  pss_nil)
  (pss_cons (ps_if (pt_cmpR op_eq (pv 3) pe_int (nomark _))
  (pss_one (ps_ret (pe_tup (pa_cons pe_str (pa_cons (pv 4) (pa_cons (pe_ix ix_list (pv 5) pe_int (fun _ _ => rfl)) pa_nil))))))
  pss_nil)
  (pss_cons (ps_if (pt_cmpR op_eq (pv 3) pe_int (nomark _))
  (pss_one (ps_ret (pe_tup (pa_cons pe_str (pa_cons (pv 4) (pa_cons (pe_ix ix_list (pv 5) pe_int (fun _ _ => rfl)) (pa_cons (pe_ix ix_list (pv 5) pe_int (fun _ _ => rfl)) pa_nil)))))))
  pss_nil)
  (pss_cons (ps_if (pt_cmpR op_eq (pv 3) pe_int (nomark _))
  (pss_one (ps_ret (pe_tup (pa_cons pe_str (pa_cons (pv 4) (pa_cons (pe_ix ix_list (pv 1) (pe_own c__law_digit (hr.mono (by omega)) (by rfl) (pa_cons (pv 0) (pa_cons (pe_callB call_len_seq (by rfl) T.len PySem.boot_len (pa_cons (pv 1) pa_nil)) pa_nil))) (fun _ _ => rfl)) (pa_cons (pe_ix ix_list (pv 5) pe_int (fun _ _ => rfl)) (pa_cons (pe_ix ix_list (pv 5) pe_int (fun _ _ => rfl)) pa_nil))))))))
  pss_nil)
  (pss_cons (ps_if (pt_cmpR op_eq (pv 3) pe_int (nomark _))
  (pss_one (ps_ret (pe_tup (pa_cons pe_str (pa_cons (pv 4) (pa_cons (pe_ix ix_list (pv 5) pe_int (fun _ _ => rfl)) (pa_cons (pe_ix ix_list (pv 5) pe_int (fun _ _ => rfl)) (pa_cons (pe_ix ix_list (pv 5) pe_int (fun _ _ => rfl)) pa_nil))))))))
  pss_nil)
  (pss_cons (ps_if (pt_cmpR op_eq (pe_own c__law_digit (hr.mono (by omega)) (by rfl) (pa_cons (pv 0) (pa_cons pe_int pa_nil))) pe_int (nomark _))
  (pss_one (ps_ret (pe_tup (pa_cons pe_str (pa_cons (pv 4) (pa_cons (pe_callTy call_tuple_of (by rfl) T.tuple (by decide +kernel) (pa_cons (pe_slice sl_list (pv 5) po_none (po_some (pe_own c__law_digit (hr.mono (by omega)) (by rfl) (pa_cons (pv 0) (pa_cons pe_int pa_nil))))) pa_nil)) pa_nil))))))
  pss_nil)
  (pss_cons (ps_set (i := 8) nd rfl (Or.inl rfl) pe_non)
  (pss_cons (ps_if (pt_cmpR op_eq (pe_own c__law_digit (hr.mono (by omega)) (by rfl) (pa_cons (pv 0) (pa_cons pe_int pa_nil))) pe_int (nomark _))
  (pss_one (ps_set (i := 8) nd rfl (Or.inl rfl) (pe_own c__law_tree (hr.mono (by omega)) (by rfl) (pa_cons (pv 0) (pa_cons (pv 1) (pa_cons (pe_op op_sub (pv 2) pe_int) pa_nil))))))
  pss_nil)
  (pss_one (ps_ret (pe_tup (pa_cons pe_str (pa_cons (pv 4) (pa_cons (pe_ix ix_list (pv 5) pe_int (fun _ _ => rfl)) (pa_cons (pe_ix ix_list (pv 1) (pe_own c__law_digit (hr.mono (by omega)) (by rfl) (pa_cons (pv 0) (pa_cons (pe_callB call_len_seq (by rfl) T.len PySem.boot_len (pa_cons (pv 1) pa_nil)) pa_nil))) (fun _ _ => rfl)) (pa_cons (pe_ix ix_list (pv 5) pe_int (fun _ _ => rfl)) (pa_cons (pv 8) pa_nil)))))))))))))))))))))))), ?_⟩
    have big : ∀ n : Int, n ≤ 1000 → n ≤ 10 ^ 60 := fun n hn => Int.le_trans hn (by decide +kernel)
    refine ⟨.ref a, rfl, a, 14, rfl, hT, by decide, big _ (by decide), fun way H1 k1 t1 y0 y1 => ?_⟩
    refine ⟨.ref a, rfl, a, 500, rfl, t1, by decide, big _ (by decide), fun at_ H2 k2 t2 z0 z1 => ?_⟩
    refine ⟨_, _, rfl, ?_⟩
    have k02 := k1.trans k2
    have hN2 : NamesAt H2 l ns := ⟨k02 _ _ hla hN.1, hN.2⟩
    have nsl : 0 < ((ns.map V.str).length : Int) ∧ ((ns.map V.str).length : Int) ≤ 10 ^ 60 := by
      rw [List.length_map]
      have h1 := hN.2.1
      have h2 := hN.2.2.1
      exact ⟨by omega, big _ (by omega)⟩
    -- a closed one
    refine ⟨_, rfl, rfl, _, rfl, ite2 (fun _ => iteT ?_) (fun c0 => ⟨_, rfl, rfl, _, rfl, ite2 (fun _ => ?_) (fun m0 => ?_)⟩)⟩
    · exact ⟨.ref a, rfl, .ref l, rfl, a, l, ns, rfl, t2, hN2, hla, fun v t H3 k3 t3 tr fi => q v t H3 (k02.trans k3) t3 tr fi.up⟩
    · exact ⟨.ref a, rfl, .ref l, rfl, a, l, ns, rfl, t2, hN2, hla, fun v t H3 k3 t3 tr fi => q v t H3 (k02.trans k3) t3 tr fi.up⟩
    have n0 : n ≠ 0 := fun e => c0 (by rw [e]; exact decide_eq_true rfl)
    obtain ⟨d, rfl⟩ : ∃ d', d = d' + 1 := ⟨d - 1, by omega⟩
    -- the parts
    refine ⟨(by show 14 ≤ sizeLine; decide), fun p hp => ⟨.int way, rfl, p, _, way, .int (cnt way), rfl, rfl, SqL.of upd_same, (cnt_at y0 y1).1, (cnt way : Int), rfl, by omega, ?_, fun D hD => ?_⟩⟩
    · have := (cnt_at y0 y1).2
      omega
    have k02p := k02.new (o := .lst [V.int 1, V.int 1, V.int 2, V.int 1, V.int 1, V.int 2, V.int 2, V.int 2, V.int 2, V.int 1, V.int 2, V.int 2, V.int 3, V.int 2]) hp
    have t2p := t2.new (o := .lst [V.int 1, V.int 1, V.int 2, V.int 1, V.int 1, V.int 2, V.int 2, V.int 2, V.int 2, V.int 1, V.int 2, V.int 2, V.int 3, V.int 2]) hp
    have hNp : ∀ {H'}, Kp a H H' → NamesAt H' l ns := fun k => ⟨k _ _ hla hN.1, hN.2⟩
    have hDa : D ≠ a := t2p.ne hD
    refine lc_range (lo := 0) (n := (cnt way : Int).toNat) (Grown d a D _) (Grown.start t2p hD) (fun i H3 hi pk => ?_) (fun H3 pk => ?_)
    · have k3 := pk.2.1
      have t3 := pk.2.2.1
      refine ⟨rfl, .ref a, rfl, .ref l, rfl, .int n, rfl, n, 1, rfl, rfl, by omega, a, l, ns, n - 1, rfl, t3, hNp (k02p.trans k3), hla, by omega, by omega, fun v t H4 k4 t4 tr fi => ?_⟩
      have := (cnt_at y0 y1).2
      exact pk.more hDa (by omega) k4 t4 tr fi
    obtain ⟨dn, k3', t3, vs, ts, e3, h3, l3, f3⟩ := pk
    have k3 := k02p.trans k3'
    have l3' : vs.length = cnt way := by rw [l3]; omega
    have fin : ∀ {b : Addr} {H4 : Hp} {k : Kd} {v : V} {vs xs : List V} {ts : List Tr}, Kp a H H4 → TapeAt H4 a → H4 b = none → TrsIs H4 vs ts → ts.length ≤ 4 → (∀ t ∈ ts, Fits d t) → VOk k v → Form (upd H4 b (.tup xs)) k at_ v vs xs → Q (.ref b) (upd H4 b (.tup xs)) :=
      fun k4 t4 hb th hl hf hv fo => q _ _ _ (k4.new hb) (t4.new hb) (.mk upd_same fo (th.keep (Tups.new hb))) (.node hl hv hf)
    have tl : ts.length ≤ 4 := by
      rw [← h3.len, l3']
      have := (cnt_at y0 y1).2
      omega
    have wy : ∀ {j : Int}, decide (V.int way = V.int j) = true → way = j := fun c => V.int.inj (of_decide_eq_true c)
    -- own
    refine ⟨_, rfl, rfl, _, rfl, ite2 (fun c => ?_) (fun m1 => ?_)⟩
    · obtain ⟨x0, rfl⟩ := len1 (l3'.trans (by rw [wy c]; rfl))
      refine ⟨_, rfl, (by show 3 ≤ sizeLine; decide), fun p2 hp2 => ?_⟩
      refine ⟨.ref a, rfl, a, 3, rfl, t3.new hp2, by decide, big _ (by decide), fun v4 H4 k4 t4 b0 b1 => ?_⟩
      have hp4 := k4 _ _ (t3.ne hp2) upd_same
      obtain ⟨y, hy, ey⟩ := names_pick (ns := ["len", "sum", "text"]) b0 b1
      have eD : H4 D = some (.lst [x0]) := k4 _ _ hDa (by rw [upd_ne (ne_of_none e3 hp2)]; exact e3)
      refine ⟨p2, _, v4, _, rfl, rfl, SqL.of hp4, ey, .ref D, rfl, D, _, 0, x0, rfl, rfl, SqL.of eD, atI_nat (j := 0) rfl, (by show 4 ≤ sizeLine; decide), fun b hb => ?_⟩
      exact fin (k := .own) ((k3.new hp2).trans k4) t4 hb (h3.keep ((Tups.new hp2).trans ((t3.new hp2).tups k4))) tl f3 trivial ⟨y, x0, rfl, rfl, rfl⟩
    -- call
    refine ⟨_, rfl, (by show 2 ≤ sizeLine; decide), fun p2 hp2 => ⟨p2, _, rfl, .inr (SqT.of upd_same), rfl, rfl, _, rfl, ite2 (fun c => ?_) (fun m2 => ?_)⟩⟩
    · have e3p : (upd H3 p2 (.tup [V.int 2, V.int 3])) D = some (.lst vs) := by rw [upd_ne (ne_of_none e3 hp2)]; exact e3
      have k3p := k3.new (o := .tup [V.int 2, V.int 3]) hp2
      have t3p := t3.new (o := .tup [V.int 2, V.int 3]) hp2
      have h3p := h3.keep (Tups.new (o := .tup [V.int 2, V.int 3]) hp2)
      have l2 : vs.length ≤ 2 := by
        have : way ∈ [(2 : Int), 3] := inV_int c
        rcases List.mem_cons.mp this with e | e
        · rw [l3', e]; decide
        · rw [List.mem_singleton] at e
          rw [l3', e]; decide
      refine ⟨.ref a, rfl, a, 3, rfl, t3p, by decide, big _ (by decide), fun v4 H4 k4 t4 b0 b1 => ⟨v4, rfl, by omega, by omega, fun D2 hD2 => ?_⟩⟩
      have hD2a : D2 ≠ a := t4.ne hD2
      refine lc_range (lo := 0) (n := v4.toNat) (Grown 0 a D2 _) (Grown.start t4 hD2) (fun i H5 hi pk => ?_) (fun H5 pk => ?_)
      · have k5 := pk.2.1
        have t5 := pk.2.2.1
        exact ⟨rfl, .ref a, rfl, .ref l, rfl, a, l, ns, rfl, t5, hNp ((k3p.trans k4).trans k5), hla, fun v t H6 k6 t6 tr fi => pk.more hD2a (by omega) k6 t6 tr fi⟩
      obtain ⟨dn2, k5, t5, vs2, ts2, e5, h5, l5, f5⟩ := pk
      have kA : Kp a H H5 := (k3p.trans k4).trans k5
      have e5D : H5 D = some (.lst vs) := k5 _ _ hDa (k4 _ _ hDa e3p)
      refine ⟨_, rfl, .ref l, rfl, .ref a, rfl, .ref l, rfl, l, _, rfl, .inl (SqL.of (kA _ _ hla hN.1)), a, _, rfl, t5, nsl.1, nsl.2, fun v6 H6 k6 t6 c0 c1 => ?_⟩
      obtain ⟨y, hy, ey⟩ := names_pick c0 c1
      refine ⟨l, _, v6, _, rfl, rfl, SqL.of ((kA.trans k6) _ _ hla hN.1), ey, .ref D, rfl, .ref D2, rfl, D, D2, vs, vs2, rfl, rfl, k6 _ _ hDa e5D, k6 _ _ hD2a e5, ?_, fun p7 hp7 => ?_⟩
      · have h1 := small1000 (n := 4) (by decide)
        omega
      refine ⟨p7, _, rfl, .inl ⟨SqL.of upd_same, fun p8 hp8 => ⟨(by show 4 ≤ sizeLine; decide), fun b hb => ?_⟩⟩⟩
      have tA : TapeAt _ a := (t6.new (o := .lst (vs ++ vs2)) hp7).new (o := .tup (vs ++ vs2)) hp8
      have tuA : Tups H6 _ := (Tups.new (o := .lst (vs ++ vs2)) hp7).trans (Tups.new (o := .tup (vs ++ vs2)) hp8)
      have hh3 := ((h3p.keep ((t3p.tups k4).trans (t4.tups k5))).keep (t5.tups k6)).keep tuA
      have hh5 := (h5.keep (t5.tups k6)).keep tuA
      refine fin (k := .call) (vs := vs ++ vs2) (ts := ts ++ ts2) (((kA.trans k6).new hp7).new hp8) tA hb (hh3.append hh5) ?_ (fun t ht => ?_) ⟨y, rfl, hN.2.2.2 y hy⟩ ⟨y, p8, rfl, rfl, ?_⟩
      · rw [List.length_append, ← h3.len, ← h5.len]
        omega
      · rcases List.mem_append.mp ht with ht | ht
        · exact f3 t ht
        · exact (f5 t ht).up
      · rw [upd_ne (ne_of_none upd_same hb)]
        exact upd_same
    have e3 : (upd H3 p2 (.tup [V.int 2, V.int 3])) D = some (.lst vs) := by rw [upd_ne (ne_of_none e3 hp2)]; exact e3
    have k3 := k3.new (o := .tup [V.int 2, V.int 3]) hp2
    have t3 := t3.new (o := .tup [V.int 2, V.int 3]) hp2
    have h3 := h3.keep (Tups.new (o := .tup [V.int 2, V.int 3]) hp2)
    generalize (upd H3 p2 (.tup [V.int 2, V.int 3])) = H3 at e3 k3 t3 h3 ⊢
    -- minus
    refine ⟨_, rfl, rfl, _, rfl, ite2 (fun c => ?_) (fun m4 => ?_)⟩
    · obtain ⟨x0, rfl⟩ := len1 (l3'.trans (by rw [wy c]; rfl))
      refine ⟨_, rfl, .ref D, rfl, D, _, 0, x0, rfl, rfl, SqL.of e3, atI_nat (j := 0) rfl, (by show 3 ≤ sizeLine; decide), fun b hb => ?_⟩
      exact fin (k := .un "minus") k3 t3 hb h3 tl f3 trivial ⟨x0, rfl, rfl, rfl, .inl rfl⟩
    -- sign
    refine ⟨_, rfl, (by show 3 ≤ sizeLine; decide), fun p3 hp3 => ⟨p3, _, rfl, .inr (SqT.of upd_same), rfl, rfl, _, rfl, ite2 (fun c => ?_) (fun m5 => ?_)⟩⟩
    · have e3p : (upd H3 p3 (.tup [V.int 5, V.int 6, V.int 7])) D = some (.lst vs) := by rw [upd_ne (ne_of_none e3 hp3)]; exact e3
      have k3p := k3.new (o := .tup [V.int 5, V.int 6, V.int 7]) hp3
      have t3p := t3.new (o := .tup [V.int 5, V.int 6, V.int 7]) hp3
      have h3p := h3.keep (Tups.new (o := .tup [V.int 5, V.int 6, V.int 7]) hp3)
      have l2 : vs.length = 2 := by
        have : way ∈ [(5 : Int), 6, 7] := inV_int c
        rcases List.mem_cons.mp this with e | e
        · rw [l3', e]; decide
        · rcases List.mem_cons.mp e with e | e
          · rw [l3', e]; decide
          · rw [List.mem_singleton] at e
            rw [l3', e]; decide
      obtain ⟨x0, x1, rfl⟩ := len2 l2
      refine ⟨(by show 9 ≤ sizeLine; decide), fun p4 hp4 => ?_⟩
      have e4 := e3p
      refine ⟨_, rfl, .ref p4, rfl, .ref a, rfl, a, 9, rfl, t3p.new hp4, by decide, big _ (by decide), fun v4 H4 k4 t4 b0 b1 => ?_⟩
      have hp5 := k4 _ _ (t3p.ne hp4) upd_same
      obtain ⟨y, hy, ey⟩ := names_pick (ns := ["+", "-", "*", "//", "rest", "==", "!=", "<", "<="]) b0 b1
      have eD : H4 D = some (.lst [x0, x1]) := k4 _ _ hDa (by rw [upd_ne (ne_of_none e3p hp4)]; exact e3p)
      refine ⟨p4, _, v4, _, rfl, rfl, SqL.of hp5, ey, .ref D, rfl, D, _, 0, x0, rfl, rfl, SqL.of eD, atI_nat (j := 0) rfl, .ref D, rfl, D, _, 1, x1, rfl, rfl, SqL.of eD, atI_nat (j := 1) rfl, (by show 5 ≤ sizeLine; decide), fun b hb => ?_⟩
      exact fin (k := .sign) ((k3p.new hp4).trans k4) t4 hb (h3p.keep ((Tups.new hp4).trans ((t3p.new hp4).tups k4))) tl f3 trivial ⟨y, x0, x1, rfl, rfl, rfl⟩
    have e3 : (upd H3 p3 (.tup [V.int 5, V.int 6, V.int 7])) D = some (.lst vs) := by rw [upd_ne (ne_of_none e3 hp3)]; exact e3
    have k3 := k3.new (o := .tup [V.int 5, V.int 6, V.int 7]) hp3
    have t3 := t3.new (o := .tup [V.int 5, V.int 6, V.int 7]) hp3
    have h3 := h3.keep (Tups.new (o := .tup [V.int 5, V.int 6, V.int 7]) hp3)
    generalize (upd H3 p3 (.tup [V.int 5, V.int 6, V.int 7])) = H3 at e3 k3 t3 h3 ⊢
    -- and, or
    refine ⟨_, rfl, rfl, _, rfl, ite2 (fun c => ?_) (fun m8 => ?_)⟩
    · obtain ⟨x0, x1, rfl⟩ := len2 (l3'.trans (by rw [wy c]; rfl))
      refine ⟨(by show 2 ≤ sizeLine; decide), fun p4 hp4 => ?_⟩
      refine ⟨.ref a, rfl, a, 2, rfl, t3.new hp4, by decide, big _ (by decide), fun v4 H4 k4 t4 b0 b1 => ?_⟩
      have hp5 := k4 _ _ (t3.ne hp4) upd_same
      have eD : H4 D = some (.lst [x0, x1]) := k4 _ _ hDa (by rw [upd_ne (ne_of_none e3 hp4)]; exact e3)
      obtain ⟨y, ey, hyk⟩ : ∃ y : Str, atI [V.str "and", V.str "or"] v4 = some (.str y) ∧ (y = "and" ∨ y = "or" ∨ y = "pick") := by
        obtain ⟨x, hx, ex⟩ := atI_mem (xs := [V.str "and", V.str "or"]) b0 b1
        rcases List.mem_cons.mp hx with rfl | hx
        · exact ⟨_, ex, .inl rfl⟩
        · rw [List.mem_singleton] at hx
          subst hx
          exact ⟨_, ex, .inr (.inl rfl)⟩
      refine ⟨p4, _, v4, _, rfl, rfl, SqL.of hp5, ey, _, rfl, .ref D, rfl, D, _, 0, x0, rfl, rfl, SqL.of eD, atI_nat (j := 0) rfl, .ref D, rfl, D, _, 1, x1, rfl, rfl, SqL.of eD, atI_nat (j := 1) rfl, (by show 4 ≤ sizeLine; decide), fun b hb => ?_⟩
      exact fin (k := .bin y) ((k3.new hp4).trans k4) t4 hb (h3.keep ((Tups.new hp4).trans ((t3.new hp4).tups k4))) tl f3 trivial ⟨x0, x1, rfl, rfl, rfl, hyk⟩
    -- not
    refine ⟨_, rfl, rfl, _, rfl, ite2 (fun c => ?_) (fun m9 => ?_)⟩
    · obtain ⟨x0, rfl⟩ := len1 (l3'.trans (by rw [wy c]; rfl))
      refine ⟨_, rfl, .ref D, rfl, D, _, 0, x0, rfl, rfl, SqL.of e3, atI_nat (j := 0) rfl, (by show 3 ≤ sizeLine; decide), fun b hb => ?_⟩
      exact fin (k := .un "not") k3 t3 hb h3 tl f3 trivial ⟨x0, rfl, rfl, rfl, .inr rfl⟩
    -- pick
    refine ⟨_, rfl, rfl, _, rfl, ite2 (fun c => ?_) (fun m10 => ?_)⟩
    · obtain ⟨x0, x1, rfl⟩ := len2 (l3'.trans (by rw [wy c]; rfl))
      refine ⟨_, rfl, .ref D, rfl, D, _, 0, x0, rfl, rfl, SqL.of e3, atI_nat (j := 0) rfl, .ref D, rfl, D, _, 1, x1, rfl, rfl, SqL.of e3, atI_nat (j := 1) rfl, (by show 4 ≤ sizeLine; decide), fun b hb => ?_⟩
      exact fin (k := .bin "pick") k3 t3 hb h3 tl f3 trivial ⟨x0, x1, rfl, rfl, rfl, .inr (.inr rfl)⟩
    -- let
    refine ⟨_, rfl, rfl, _, rfl, ite2 (fun c => ?_) (fun m11 => ?_)⟩
    · obtain ⟨x0, x1, rfl⟩ := len2 (l3'.trans (by rw [wy c]; rfl))
      refine ⟨_, rfl, .ref l, rfl, .ref a, rfl, .ref l, rfl, l, _, rfl, .inl (SqL.of (k3 _ _ hla hN.1)), a, _, rfl, t3, nsl.1, nsl.2, fun v6 H6 k6 t6 c0 c1 => ?_⟩
      obtain ⟨y, hy, ey⟩ := names_pick c0 c1
      have eD := k6 _ _ hDa e3
      refine ⟨l, _, v6, _, rfl, rfl, SqL.of ((k3.trans k6) _ _ hla hN.1), ey, .ref D, rfl, D, _, 0, x0, rfl, rfl, SqL.of eD, atI_nat (j := 0) rfl, .ref D, rfl, D, _, 1, x1, rfl, rfl, SqL.of eD, atI_nat (j := 1) rfl, (by show 5 ≤ sizeLine; decide), fun b hb => ?_⟩
      exact fin (k := .lett) (k3.trans k6) t6 hb (h3.keep (t3.tups k6)) tl f3 trivial ⟨y, x0, x1, rfl, rfl, rfl⟩
    -- if
    refine ⟨_, rfl, rfl, _, rfl, ite2 (fun c => ?_) (fun m12 => ?_)⟩
    · obtain ⟨x0, x1, x2, rfl⟩ := len3 (l3'.trans (by rw [wy c]; rfl))
      refine ⟨_, rfl, .ref D, rfl, D, _, 0, x0, rfl, rfl, SqL.of e3, atI_nat (j := 0) rfl, .ref D, rfl, D, _, 1, x1, rfl, rfl, SqL.of e3, atI_nat (j := 1) rfl, .ref D, rfl, D, _, 2, x2, rfl, rfl, SqL.of e3, atI_nat (j := 2) rfl, (by show 5 ≤ sizeLine; decide), fun b hb => ?_⟩
      exact fin (k := .ite) k3 t3 hb h3 tl f3 trivial ⟨x0, x1, x2, rfl, rfl, rfl⟩
    have wn : ∀ {j : Int}, ¬ decide (V.int way = V.int j) = true → way ≠ j := fun c e => c (by rw [e]; exact decide_eq_true rfl)
    have w13 : way = 13 := by
      have a0 := wn m0
      have a1 := wn m1
      have a2 : way ∉ [(2 : Int), 3] := inV_int' m2
      have a4 := wn m4
      have a5 : way ∉ [(5 : Int), 6, 7] := inV_int' m5
      have a8 := wn m8
      have a9 := wn m9
      have a10 := wn m10
      have a11 := wn m11
      have a12 := wn m12
      simp only [List.mem_cons, List.not_mem_nil, or_false, not_or] at a2 a5
      omega
    obtain ⟨x0, x1, rfl⟩ := len2 (l3'.trans (by rw [w13]; rfl))
    obtain ⟨s0, s1, rfl⟩ := len2 (h3.len.symm.trans (show [x0, x1].length = 2 from rfl))
    refine ⟨.ref a, rfl, a, 2, rfl, t3, by decide, big _ (by decide), fun v4 H4 k4 t4 b0 b1 => ?_⟩
    have e4 := k4 _ _ hDa e3
    have kk4 := k3.trans k4
    have h4 := h3.keep (t3.tups k4)
    refine ⟨rfl, _, rfl, ite2 (fun _ => ?_) (fun _ => ?_)⟩
    · -- a list
      refine ⟨_, rfl, .ref D, rfl, .ref a, rfl, a, 3, rfl, t4, by decide, big _ (by decide), fun v5 H5 k5 t5 c0 c1 => ?_⟩
      have e5 := k5 _ _ hDa e4
      obtain ⟨m, rfl⟩ := Int.eq_ofNat_of_zero_le c0
      refine ⟨(m : Int), rfl, D, [x0, x1], rfl, SqL.of e5, fun p6 hp6 => ?_⟩
      rw [cut_take]
      refine ⟨p6, _, rfl, .inl ⟨SqL.of upd_same, fun p7 hp7 => ⟨(by show 3 ≤ sizeLine; decide), fun b hb => ?_⟩⟩⟩
      refine fin (k := .list) (vs := [x0, x1].take m) (ts := [s0, s1].take m) (((kk4.trans k5).new hp6).new hp7) ((t5.new hp6).new hp7) hb (((h4.keep (t4.tups k5)).take m).keep ((Tups.new hp6).trans (Tups.new hp7))) ?_ (fun t ht => f3 t (List.mem_of_mem_take ht)) trivial ⟨p7, rfl, rfl, ?_⟩
      · rw [List.length_take]
        show min m 2 ≤ 4
        omega
      · rw [upd_ne (ne_of_none upd_same hb)]
        exact upd_same
    · -- for each
      have nb : ∀ {H' : Hp}, Kp a H H' → H' l = some (.lst (ns.map V.str)) := fun k => k _ _ hla hN.1
      refine ⟨.ref a, rfl, a, 2, rfl, t4, by decide, big _ (by decide), fun v5 H5 k5 t5 c0 c1 => ?_⟩
      have e5 := k5 _ _ hDa e4
      have kk5 := kk4.trans k5
      have h5 := h4.keep (t4.tups k5)
      refine ⟨rfl, _, rfl, ite2 (fun _ => ?_) (fun _ => ?_)⟩
      · refine ⟨.ref a, rfl, .ref l, rfl, .int n, rfl, n, 1, rfl, rfl, by omega, a, l, ns, n - 1, rfl, t5, hNp kk5, hla, by omega, by omega, fun v6 s6 H6 k6 t6 tr fi => ?_⟩
        have e6 := k6 _ _ hDa e5
        have kk6 := kk5.trans k6
        have h6 := h5.keep (t5.tups k6)
        refine ⟨_, rfl, .ref D, rfl, D, _, 0, x0, rfl, rfl, SqL.of e6, atI_nat (j := 0) rfl, .ref l, rfl, .ref a, rfl, .ref l, rfl, l, _, rfl, .inl (SqL.of (nb kk6)), a, _, rfl, t6, nsl.1, nsl.2, fun v7 H7 k7 t7 d0 d1 => ?_⟩
        obtain ⟨y, hy, ey⟩ := names_pick d0 d1
        have e7 := k7 _ _ hDa e6
        have tr7 := tr.keep (t6.tups k7)
        have h7 := h6.keep (t6.tups k7)
        refine ⟨l, _, v7, _, rfl, rfl, SqL.of (nb (kk6.trans k7)), ey, .ref D, rfl, D, _, 1, x1, rfl, rfl, SqL.of e7, atI_nat (j := 1) rfl, v6, rfl, (by show 6 ≤ sizeLine; decide), fun b hb => ?_⟩
        refine fin (k := .eachT) (vs := [x0, x1, v6]) (ts := [s0, s1, s6]) (kk6.trans k7) t7 hb (h7.append (.cons tr7 .nil)) (by show 3 ≤ 4; decide) (fun t ht => ?_) trivial ⟨y, x0, x1, v6, rfl, rfl, rfl⟩
        rcases List.mem_append.mp (show t ∈ [s0, s1] ++ [s6] from ht) with ht | ht
        · exact f3 t ht
        · rw [List.mem_singleton.mp ht]
          exact fi
      · refine ⟨_, rfl, .ref D, rfl, D, _, 0, x0, rfl, rfl, SqL.of e5, atI_nat (j := 0) rfl, .ref l, rfl, .ref a, rfl, .ref l, rfl, l, _, rfl, .inl (SqL.of (nb kk5)), a, _, rfl, t5, nsl.1, nsl.2, fun v7 H7 k7 t7 d0 d1 => ?_⟩
        obtain ⟨y, hy, ey⟩ := names_pick d0 d1
        have e7 := k7 _ _ hDa e5
        have h7 := h5.keep (t5.tups k7)
        refine ⟨l, _, v7, _, rfl, rfl, SqL.of (nb (kk5.trans k7)), ey, .ref D, rfl, D, _, 1, x1, rfl, rfl, SqL.of e7, atI_nat (j := 1) rfl, .non, rfl, (by show 6 ≤ sizeLine; decide), fun b hb => ?_⟩
        exact fin (k := .each) (kk5.trans k7) t7 hb h7 (by show 2 ≤ 4; decide) f3 trivial ⟨y, x0, x1, rfl, rfl, rfl⟩
/-- the tree's promise, at each depth -/
theorem ok_tree {f : Addr} {fd : FuncData} (F : Fun K "_law_tree" "_law_tree" sTree f fd) (T : Bs mg) (c_digit : Callee P w K mg base 1 "_law_digit" ["_law_tape_here", "_law_many"] spDigit)
    (c_closed : Callee P w K mg base 2 "_law_closed_tree" ["_law_tape_here", "_law_names_here"] spClosed) (g : mg "_law_tree" = some (.ref f)) (b : Binds K fd ["_law_tape_here", "_law_names_here", "_law_deep"] []) :
    ∀ d : Nat, FnOk P w K mg base CX0 (d + 3) f fd ["_law_tape_here", "_law_names_here", "_law_deep"] (spTree d)
  | 0 => step_tree (k := 2) F T (Nat.le_refl _) c_digit c_closed ⟨f, fd, ⟨fun _ _ _ _ h => absurd h.1 (by decide), fun _ _ _ _ _ _ _ _ _ _ _ _ _ h => absurd h.1 (by decide)⟩, g, F.kp, b⟩
  | d + 1 => step_tree (k := d + 3) F T (by omega) c_digit c_closed ⟨f, fd, (ok_tree F T c_digit c_closed g b d).imp fun _ _ _ _ h => h.2, g, F.kp, b⟩
end
end Lf
namespace Lf
open PySem PySem.Spec PyProof.Rows L2
/-- a kind's word -/
def kname : Kd → Str
  | .leaf k => k
  | .nam => "name"
  | .call => "call"
  | .own => "own"
  | .un k => k
  | .sign => "sign"
  | .bin k => k
  | .ite => "if"
  | .lett => "let"
  | .list => "list"
  | .each => "each"
  | .eachT => "each"
/-- the kinds by their words -/
inductive KdOk : Kd → Prop where
  | l1 : KdOk (.leaf "number") | l2 : KdOk (.leaf "truth") | l3 : KdOk (.leaf "words")
  | nam : KdOk .nam | call : KdOk .call | own : KdOk .own | u1 : KdOk (.un "minus") | u2 : KdOk (.un "not") | sign : KdOk .sign
  | b1 : KdOk (.bin "and") | b2 : KdOk (.bin "or") | b3 : KdOk (.bin "pick") | ite : KdOk .ite | lett : KdOk .lett | list : KdOk .list | each : KdOk .each | eachT : KdOk .eachT
theorem Form.ok {H : Hp} {k : Kd} {n : Int} {v : V} {vs xs : List V} (h : Form H k n v vs xs) : KdOk k ∧ xs[0]? = some (.str (kname k)) := by
  cases k with
  | leaf k =>
    obtain ⟨rfl, _, _, rfl | rfl | rfl⟩ := h
    · exact ⟨.l1, rfl⟩
    · exact ⟨.l2, rfl⟩
    · exact ⟨.l3, rfl⟩
  | nam => obtain ⟨x, _, rfl, _⟩ := h; exact ⟨.nam, rfl⟩
  | call => obtain ⟨x, b, _, rfl, _⟩ := h; exact ⟨.call, rfl⟩
  | own => obtain ⟨x, b, _, rfl, _⟩ := h; exact ⟨.own, rfl⟩
  | un k =>
    obtain ⟨a, _, rfl, _, rfl | rfl⟩ := h
    · exact ⟨.u1, rfl⟩
    · exact ⟨.u2, rfl⟩
  | sign => obtain ⟨x, a, b, _, rfl, _⟩ := h; exact ⟨.sign, rfl⟩
  | bin k =>
    obtain ⟨a, b, _, rfl, _, rfl | rfl | rfl⟩ := h
    · exact ⟨.b1, rfl⟩
    · exact ⟨.b2, rfl⟩
    · exact ⟨.b3, rfl⟩
  | ite => obtain ⟨x, a, b, _, rfl, _⟩ := h; exact ⟨.ite, rfl⟩
  | lett => obtain ⟨x, a, b, _, rfl, _⟩ := h; exact ⟨.lett, rfl⟩
  | list => obtain ⟨b, _, rfl, _⟩ := h; exact ⟨.list, rfl⟩
  | each => obtain ⟨x, a, b, _, rfl, _⟩ := h; exact ⟨.each, rfl⟩
  | eachT => obtain ⟨x, a, b, c, _, rfl, _⟩ := h; exact ⟨.eachT, rfl⟩
theorem cut_at {H : Hp} {p : Addr} {xs ys : List V} {n : Nat} (h : xs.drop n = ys) : (upd H p (.tup (cutV xs (some (n : Int)) none))) p = some (.tup ys) := by
  rw [cut_drop, h]
  exact upd_same
theorem not_whole {n k : Nat} {hi : Option Int} {p : Prop} (h0 : 0 < n) (hk : 0 < k) : ¬ (HT.sIx n 0 (some (k : Int)) = 0 ∧ p) := fun h => by
  have e := h.1
  rw [HT.sIx_nat] at e
  omega
section
variable {P : Program} {w : World} {K : PySem.W.Frag} {mg : Str → Option Value} {base : Heap}
abbrev sParts : Stmt := topS 1
theorem scParts : FnScope ["tree", "kind", "body", "_", "source", "test"] ["tree"] (defScope sParts) := ⟨rfl, rfl, rfl, by decide +kernel, rfl, by decide +kernel, by decide +kernel⟩
def spParts : Sp := fun vs H Q _ => ∃ (u : V) (k : Kd) (n : Int) (v : V) (ps : List Tr), vs = [u] ∧ TrIs H u (.node k n v ps) ∧
  ∀ (p : Addr) (us : List V) (H' : Hp), Same H H' → H p = none → H' p = some (.lst us) → TrsIs H' us ps → Q (.ref p) H'
theorem ok_parts {f : Addr} {fd : FuncData} (F : Fun K "parts_of" "parts_of" sParts f fd) (T : Bs mg) : FnOk P w K mg base CX0 1 f fd ["tree"] spParts := by
  refine F.ok scParts (fun vs H Q E h => ?_) (fun cdv A outer s H vs Q E hr h => ?_)
  · obtain ⟨u, k, n, v, ps, rfl, _⟩ := h
    rfl
  · obtain ⟨u, k, n, v, ps, rfl, hT, q⟩ := h
    have nd := scParts.nd
    cases hT with
    | @mk a xs us _ _ _ _ ha hf hs =>
    refine ⟨_, (pss_cons (ps_set (i := 1) nd rfl (Or.inl rfl) (pe_ix ix_tup (pv 0) pe_int (fun _ _ => rfl)))
  (pss_cons (ps_if (pt_cmpR op_in_seq (pv 1) (pe_tup (pa_cons pe_str (pa_cons pe_str (pa_cons pe_str (pa_cons pe_str pa_nil))))) (by rfl))
  (pss_one (ps_ret (pe_lst pa_nil)))
  pss_nil)
  (pss_cons (ps_if (pt_cmpR op_eq (pv 1) pe_str (nomark _))
  (pss_one (ps_ret (pe_callTy call_list_of (by rfl) T.list (by decide +kernel) (pa_cons (pe_ix ix_tup (pv 0) pe_int (fun _ _ => rfl)) pa_nil))))
  pss_nil)
  (pss_cons (ps_if (pt_cmpR op_eq (pv 1) pe_str (nomark _))
  (pss_one (ps_ret (pe_callTy call_list_of (by rfl) T.list (by decide +kernel) (pa_cons (pe_ix ix_tup (pv 0) pe_int (fun _ _ => rfl)) pa_nil))))
  pss_nil)
  (pss_cons (ps_if (pt_cmpR op_eq (pv 1) pe_str (nomark _))
  (pss_cons (ps_asg (pe_slice sl_tupA (pv 0) (po_some pe_int) po_none) (pg_tup rfl (pgs_cons (pg_name (i := 2) nd rfl (Or.inl rfl)) (pgs_cons (pg_name (i := 3) nd rfl (Or.inl rfl)) (pgs_cons (pg_name (i := 4) nd rfl (Or.inl rfl)) (pgs_cons (pg_name (i := 5) nd rfl (Or.inl rfl)) pgs_nil))))))
  (pss_one (ps_ret (pe_ifExp (pt_cmpR op_isN (pv 5) pe_non (nomark _)) (pe_lst (pa_cons (pv 2) (pa_cons (pv 4) pa_nil))) (pe_lst (pa_cons (pv 2) (pa_cons (pv 4) (pa_cons (pv 5) pa_nil))))))))
  pss_nil)
  (pss_cons (ps_if (pt_cmpR op_in_seq (pv 1) (pe_tup (pa_cons pe_str (pa_cons pe_str (pa_cons pe_str pa_nil)))) (by rfl))
  (pss_one (ps_ret (pe_callTy call_list_of (by rfl) T.list (by decide +kernel) (pa_cons (pe_slice sl_tupA (pv 0) (po_some pe_int) po_none) pa_nil))))
  pss_nil)
  (pss_one (ps_ret (pe_callTy call_list_of (by rfl) T.list (by decide +kernel) (pa_cons (pe_slice sl_tupA (pv 0) (po_some pe_int) po_none) pa_nil)))))))))), ?_⟩
    obtain ⟨ok, h0⟩ := hf.ok
    -- what is told: a new list
    have fin : ∀ {H1 : Hp} {p : Addr}, Same H H1 → H1 p = none → Q (.ref p) (upd H1 p (.lst us)) := fun s hp =>
      q _ us _ (s.tr (same_new hp)) (s.fresh hp) upd_same (hs.keep (s.tr (same_new hp)).tups)
    have hA : ∀ {H1 : Hp}, Same H H1 → H1 a = some (.tup xs) := fun s => s _ _ ha
    have s0 := same_refl H
    refine ⟨_, rfl, a, xs, 0, _, rfl, rfl, SqT.of ha, atI_nat (j := 0) h0, ?_⟩
    refine ⟨_, rfl, (by show 4 ≤ sizeLine; decide), fun p1 hp1 => ⟨p1, _, rfl, .inr (SqT.of upd_same), rfl, rfl, _, rfl, ite2 (fun c => ?_) (fun c1 => ?_)⟩⟩
    · have e : us = [] := by
        cases ok with
        | l1 | l2 | l3 => exact hf.2.1
        | nam => obtain ⟨_, _, _, e⟩ := hf; exact e
        | _ => exact absurd c (by decide +kernel)
      subst e
      exact ⟨Nat.zero_le _, fun p hp => fin (s0.tr (same_new hp1)) hp⟩
    have s1 := s0.tr (same_new (o := .tup [V.str "number", V.str "truth", V.str "words", V.str "name"]) hp1)
    refine ⟨_, rfl, rfl, _, rfl, ite2 (fun c => ?_) (fun c2 => ?_)⟩
    · cases ok with
      | call =>
        obtain ⟨x, b, rfl, rfl, hb⟩ := hf
        exact ⟨_, rfl, a, _, 3, _, rfl, rfl, SqT.of (hA s1), atI_nat (j := 3) rfl, b, _, rfl, .inr (SqT.of (s1 _ _ hb)), fun p hp => fin s1 hp⟩
      | _ => exact absurd c (by decide +kernel)
    refine ⟨_, rfl, rfl, _, rfl, ite2 (fun c => ?_) (fun c3 => ?_)⟩
    · cases ok with
      | list =>
        obtain ⟨b, rfl, rfl, hb⟩ := hf
        exact ⟨_, rfl, a, _, 2, _, rfl, rfl, SqT.of (hA s1), atI_nat (j := 2) rfl, b, _, rfl, .inr (SqT.of (s1 _ _ hb)), fun p hp => fin s1 hp⟩
      | _ => exact absurd c (by decide +kernel)
    refine ⟨_, rfl, rfl, _, rfl, ite2 (fun c => ?_) (fun c4 => ?_)⟩
    · cases ok with
      | each =>
        obtain ⟨x, y, z, rfl, rfl, rfl⟩ := hf
        refine ⟨_, rfl, 2, rfl, a, _, rfl, SqT.of (hA s1), fun w => absurd w (not_whole (k := 2) (hi := none) (by show 0 < 6; decide) (by decide)), fun _ p2 hp2 => ?_⟩
        refine ⟨p2, _, rfl, SqT.of (cut_at (n := 2) rfl), rfl, _, _, rfl, _, _, rfl, _, _, rfl, _, _, rfl, rfl, ?_⟩
        refine ⟨_, rfl, rfl, _, rfl, ite2 (fun _ => ?_) (fun z => absurd (decide_eq_true rfl) z)⟩
        exact (⟨_, rfl, _, rfl, (by show 2 ≤ sizeLine; decide), fun p hp => fin (s1.tr (same_new hp2)) hp⟩)
      | eachT =>
        obtain ⟨x, y, z, t, rfl, rfl, rfl⟩ := hf
        obtain ⟨b, rfl⟩ : ∃ b, t = .ref b := by
          cases hs with
          | cons _ h => cases h with
            | cons _ h => cases h with
              | cons h _ => cases h; exact ⟨_, rfl⟩
        refine ⟨_, rfl, 2, rfl, a, _, rfl, SqT.of (hA s1), fun w => absurd w (not_whole (k := 2) (hi := none) (by show 0 < 6; decide) (by decide)), fun _ p2 hp2 => ?_⟩
        refine ⟨p2, _, rfl, SqT.of (cut_at (n := 2) rfl), rfl, _, _, rfl, _, _, rfl, _, _, rfl, _, _, rfl, rfl, ?_⟩
        refine ⟨_, rfl, rfl, _, rfl, ite2 (fun z => absurd (of_decide_eq_true z) (fun z => nomatch z)) (fun _ => ?_)⟩
        exact (⟨_, rfl, _, rfl, _, rfl, (by show 3 ≤ sizeLine; decide), fun p hp => fin (s1.tr (same_new hp2)) hp⟩)
      | _ => exact absurd c (by decide +kernel)
    have nz : 0 < xs.length := by
      cases xs with
      | nil => cases h0
      | cons _ _ => exact Nat.succ_pos _
    refine ⟨_, rfl, (by show 3 ≤ sizeLine; decide), fun p3 hp3 => ⟨p3, _, rfl, .inr (SqT.of upd_same), rfl, rfl, _, rfl, ite2 (fun c => ?_) (fun c5 => ?_)⟩⟩
    · have e : xs.drop 3 = us := by
        cases ok with
        | own => obtain ⟨x, y, rfl, rfl, rfl⟩ := hf; rfl
        | sign => obtain ⟨x, y, z, rfl, rfl, rfl⟩ := hf; rfl
        | lett => obtain ⟨x, y, z, rfl, rfl, rfl⟩ := hf; rfl
        | _ => exact absurd c (by decide +kernel)
      have s3 := s1.tr (same_new (o := .tup [V.str "own", V.str "sign", V.str "let"]) hp3)
      refine ⟨_, rfl, 3, rfl, a, _, rfl, SqT.of (hA s3), fun w => absurd w (not_whole (k := 3) (hi := none) nz (by decide)), fun _ p2 hp2 => ?_⟩
      exact ⟨p2, _, rfl, .inr (SqT.of (cut_at (n := 3) e)), fun p hp => fin (s3.tr (same_new hp2)) hp⟩
    · have e : xs.drop 2 = us := by
        cases ok with
        | u1 | u2 => obtain ⟨x, rfl, rfl, rfl, _⟩ := hf; rfl
        | b1 | b2 | b3 => obtain ⟨x, y, rfl, rfl, rfl, _⟩ := hf; rfl
        | ite => obtain ⟨x, y, z, rfl, rfl, rfl⟩ := hf; rfl
        | l1 | l2 | l3 | nam => exact absurd (by decide +kernel) c1
        | call => exact absurd (by decide +kernel) c2
        | list => exact absurd (by decide +kernel) c3
        | each | eachT => exact absurd (by decide +kernel) c4
        | own | sign | lett => exact absurd (by decide +kernel) c5
      have s3 := s1.tr (same_new (o := .tup [V.str "own", V.str "sign", V.str "let"]) hp3)
      refine ⟨_, rfl, 2, rfl, a, _, rfl, SqT.of (hA s3), fun w => absurd w (not_whole (k := 2) (hi := none) nz (by decide)), fun _ p2 hp2 => ?_⟩
      exact ⟨p2, _, rfl, .inr (SqT.of (cut_at (n := 2) e)), fun p hp => fin (s3.tr (same_new hp2)) hp⟩
end
end Lf
namespace Lf
open PySem PySem.Spec PyProof.Rows L2
/-- the parts, each with what is given there -/
def zipG (k : Kd) (v : V) : List Tr → Nat → List Str → List (Tr × List Str)
  | [], _, _ => []
  | p :: r, i, g => (p, giv k i v g) :: zipG k v r (i + 1) g
theorem zipG_plain {k : Kd} {v : V} (h : ∀ i g, giv k i v g = g) : ∀ (ps : List Tr) (i : Nat) (g : List Str), zipG k v ps i g = ps.map fun p => (p, g)
  | [], _, _ => rfl
  | p :: r, i, g => by
    show (p, giv k i v g) :: zipG k v r (i + 1) g = _
    rw [h, zipG_plain h r]
    rfl
/-- a pair (tree, what is given) -/
def PairIs (H : Hp) (q : V) (t : Tr × List Str) : Prop := ∃ (b c : Addr) (u : V), q = .ref b ∧ H b = some (.tup [u, .ref c]) ∧ TrIs H u t.1 ∧ H c = some (.tup (t.2.map V.str))
theorem PairIs.keep {H H' : Hp} {q : V} {t : Tr × List Str} (h : PairIs H q t) (tu : Tups H H') : PairIs H' q t := by
  obtain ⟨b, c, u, e, h1, h2, h3⟩ := h
  exact ⟨b, c, u, e, tu _ _ h1, h2.keep tu, tu _ _ h3⟩
def PairsAre (H : Hp) : List V → List (Tr × List Str) → Prop
  | [], [] => True
  | q :: qs, t :: ts => PairIs H q t ∧ PairsAre H qs ts
  | _, _ => False
theorem PairsAre.keep {H H' : Hp} (tu : Tups H H') : ∀ {qs : List V} {ts : List (Tr × List Str)}, PairsAre H qs ts → PairsAre H' qs ts
  | [], [], _ => trivial
  | _ :: _, _ :: _, h => ⟨h.1.keep tu, PairsAre.keep tu h.2⟩
theorem PairsAre.len {H : Hp} : ∀ {qs : List V} {ts : List (Tr × List Str)}, PairsAre H qs ts → qs.length = ts.length
  | [], [], _ => rfl
  | _ :: _, _ :: _, h => congrArg (· + 1) h.2.len
theorem PairsAre.app {H : Hp} : ∀ {qs rs : List V} {ts us : List (Tr × List Str)}, PairsAre H qs ts → PairsAre H rs us → PairsAre H (qs ++ rs) (ts ++ us)
  | [], _, [], _, _, h => h
  | _ :: _, _, _ :: _, _, h, h' => ⟨h.1, h.2.app h'⟩
theorem PairsAre.snoc {H : Hp} : ∀ {qs : List V} {ts : List (Tr × List Str)} {q : V}, PairsAre H (qs ++ [q]) ts → ∃ us t, ts = us ++ [t] ∧ PairsAre H qs us ∧ PairIs H q t
  | [], [], _, h => h.elim
  | [], [t], _, h => ⟨[], t, rfl, trivial, h.1⟩
  | [], _ :: _ :: _, _, h => h.2.elim
  | _ :: _, [], _, h => h.elim
  | a :: r, t :: ts, q, h => by
    obtain ⟨us, z, rfl, h1, h2⟩ := PairsAre.snoc (qs := r) h.2
    exact ⟨t :: us, z, rfl, ⟨h.1, h1⟩, h2⟩
theorem PairsAre.rev {H : Hp} : ∀ {qs : List V} {ts : List (Tr × List Str)}, PairsAre H qs ts → PairsAre H qs.reverse ts.reverse
  | [], [], _ => trivial
  | q :: qs, t :: ts, h => by
    rw [List.reverse_cons, List.reverse_cons]
    exact h.2.rev.app ⟨h.1, trivial⟩
section
variable {P : Program} {w : World} {K : PySem.W.Frag} {mg : Str → Option Value} {base : Heap}
abbrev sGiven : Stmt := topS 4
theorem scGiven : FnScope ["tree", "given", "parts", "within", "part", "number"] ["tree", "given"] (defScope sGiven) := ⟨rfl, rfl, rfl, by decide +kernel, rfl, by decide +kernel, by decide +kernel⟩
def spGiven : Sp := fun vs H Q _ => ∃ (u : V) (g : Addr) (gs : List Str) (k : Kd) (n : Int) (v : V) (ps : List Tr), vs = [u, .ref g] ∧ TrIs H u (.node k n v ps) ∧ H g = some (.tup (gs.map V.str)) ∧ gs.length ≤ 1000 ∧ ps.length ≤ 100000 ∧
  ∀ (p : Addr) (qs : List V) (H' : Hp), Same H H' → H p = none → H' p = some (.lst qs) → PairsAre H' qs (zipG k v ps 0 gs) → Q (.ref p) H'
/-- the pairs made so far: over the parts us, those that have been gone through with what is given there -/
def GMade (D : Addr) (H0 : Hp) (us : List V) (zs : List (Tr × List Str)) (i : Nat) (H : Hp) : Prop := H0 D = none ∧ Same H0 H ∧ ∃ qs, H D = some (.lst qs) ∧ PairsAre H qs (zs.take i) ∧ qs.length = i
theorem GMade.more {D : Addr} {H0 H : Hp} {us : List V} {zs : List (Tr × List Str)} {i : Nat} {t : Tr × List Str} {u : V} {b c : Addr} (g : GMade D H0 us zs i H) (hi : i < 100000) (hz : zs[i]? = some t) (hb : H b = none) (ht : TrIs H u t.1) (hc : H c = some (.tup (t.2.map V.str))) :
    ∃ acc, (upd H b (.tup [u, .ref c])) D = some (.lst acc) ∧ acc.length < sizeLine ∧ GMade D H0 us zs (i + 1) (upd (upd H b (.tup [u, .ref c])) D (.lst (acc ++ [.ref b]))) := by
  obtain ⟨d0, s0, qs, e, pr, l⟩ := g
  have e' : (upd H b (.tup [u, .ref c])) D = some (.lst qs) := by rw [upd_ne (ne_of_none e hb)]; exact e
  have tu1 : Tups H (upd H b (.tup [u, .ref c])) := Tups.new hb
  have tu2 : Tups (upd H b (.tup [u, .ref c])) (upd (upd H b (.tup [u, .ref c])) D (.lst (qs ++ [.ref b]))) := Tups.mut e'
  refine ⟨qs, e', by rw [l]; exact Evl.sz_lt hi, d0, (s0.tr (same_new hb)).mutN d0, qs ++ [.ref b], upd_same, ?_, by rw [List.length_append, l]; rfl⟩
  have et : zs.take (i + 1) = zs.take i ++ [t] := by
    rw [List.take_add_one, hz]
    rfl
  rw [et]
  exact (pr.keep (tu1.trans tu2)).app ⟨⟨b, c, u, rfl, tu2 _ _ upd_same, ht.keep (tu1.trans tu2), tu2 _ _ (tu1 _ _ hc)⟩, trivial⟩
theorem zipG_get (k : Kd) (v : V) : ∀ (ps : List Tr) (j i : Nat) (g : List Str) (t : Tr), ps[i]? = some t → (zipG k v ps j g)[i]? = some (t, giv k (j + i) v g)
  | [], _, _, _, _, h => by simp at h
  | p :: r, j, 0, g, t, h => by
    have e : p = t := Option.some.inj h
    subst e
    rfl
  | p :: r, j, i + 1, g, t, h => by
    have q := zipG_get k v r (j + 1) i g t h
    show (zipG k v r (j + 1) g)[i]? = _
    rw [q, show j + 1 + i = j + (i + 1) by omega]
theorem zipG_len (k : Kd) (v : V) : ∀ (ps : List Tr) (j : Nat) (g : List Str), (zipG k v ps j g).length = ps.length
  | [], _, _ => rfl
  | p :: r, j, g => congrArg (· + 1) (zipG_len k v r (j + 1) g)
theorem map_snoc_str (gs : List Str) (x : Str) : (gs ++ [x]).map V.str = gs.map V.str ++ [.str x] := by
  rw [List.map_append]
  rfl
theorem ok_given {f : Addr} {fd : FuncData} (F : Fun K "given_parts" "given_parts" sGiven f fd) (T : Bs mg) (c_parts_of : Callee P w K mg base 1 "parts_of" ["tree"] spParts) : FnOk P w K mg base CX0 2 f fd ["tree", "given"] spGiven := by
  refine F.ok scGiven (fun vs H Q E h => ?_) (fun cdv A outer s H vs Q E hr h => ?_)
  · obtain ⟨u, g, gs, k, n, v, ps, rfl, _⟩ := h
    rfl
  · obtain ⟨u, g, gs, k, n, v, ps, rfl, hT, hg, hgl, hpl, q⟩ := h
    have nd := scGiven.nd
    refine ⟨_, (pss_cons (ps_set (i := 2) nd rfl (Or.inl rfl) (pe_own c_parts_of (hr.mono (by omega)) (by rfl) (pa_cons (pv 0) pa_nil)))
  (pss_cons (ps_if (pt_cmpR op_eq (pe_ix ix_tup (pv 0) pe_int (fun _ _ => rfl)) pe_str (nomark _))
  (pss_one (ps_ret (pe_lst (pa_cons (pe_tup (pa_cons (pe_ix ix_list (pv 2) pe_int (fun _ _ => rfl)) (pa_cons (pv 1) pa_nil))) (pa_cons (pe_tup (pa_cons (pe_ix ix_list (pv 2) pe_int (fun _ _ => rfl)) (pa_cons (pe_tup (StX.pa_star (pv 1) (pa_cons (pe_ix ix_tup (pv 0) pe_int (fun _ _ => rfl)) pa_nil))) pa_nil))) pa_nil)))))
  pss_nil)
  (pss_cons (ps_if (pt_cmpR op_eq (pe_ix ix_tup (pv 0) pe_int (fun _ _ => rfl)) pe_str (nomark _))
  (pss_cons (ps_set (i := 3) nd rfl (Or.inr rfl) (pe_tup (StX.pa_star (pv 1) (pa_cons (pe_ix ix_tup (pv 0) pe_int (fun _ _ => rfl)) pa_nil))))
  (pss_one (ps_ret (pe_lc (own := [("number", 5), ("part", 4)]) (g := gTup K 2 (gCons (gName 5) (gCons (gName 4) gNil))) (tt := tYes) rfl nd (pi_enum (by rfl) T.enumerate (pa_cons (pv 2) pa_nil)) (blkOk_by (own := [("number", 5), ("part", 4)]) (N := ["tree", "given", "parts", "within", "part", "number"]) (sc := defScope (topS 4)) (by decide +kernel)) (fun _ _ _ _ _ => (pg_tup rfl (pgs_cons (pg_name (i := 5) nd rfl (Or.inl rfl)) (pgs_cons (pg_name (i := 4) nd rfl (Or.inl rfl)) pgs_nil)))) (fun _ _ _ _ _ => pts_nil) (fun _ _ _ _ _ => (pe_tup (pa_cons (pv 4) (pa_cons (pe_ifExp (pt_cmpR op_eq (pv 5) pe_int (nomark _)) (pv 1) (pv 3)) pa_nil))))))))
  pss_nil)
  (pss_one (ps_ret (pe_lc (own := [("part", 4)]) (g := gName 4) (tt := tYes) rfl nd (pi_list (pv 2)) (blkOk_by (own := [("part", 4)]) (N := ["tree", "given", "parts", "within", "part", "number"]) (sc := defScope (topS 4)) (by decide +kernel)) (fun _ _ _ _ _ => (pg_name (i := 4) nd rfl (Or.inl rfl))) (fun _ _ _ _ _ => pts_nil) (fun _ _ _ _ _ => (pe_tup (pa_cons (pv 4) (pa_cons (pv 1) pa_nil)))))))))), ?_⟩
    refine ⟨u, rfl, u, k, n, v, ps, rfl, hT, fun p us H1 s1 hp e1 h1 => ?_⟩
    have hT1 := hT.keep s1.tups
    cases hT1 with
    | @mk a xs us' _ _ _ _ ha hf hs =>
    obtain ⟨ok, h0⟩ := hf.ok
    have hg1 := s1 _ _ hg
    refine ⟨_, rfl, a, xs, 0, _, rfl, rfl, SqT.of ha, atI_nat (j := 0) h0, rfl, _, rfl, ite2 (fun c => ?_) (fun c1 => ?_)⟩
    · -- let
      cases ok with
      | lett =>
        obtain ⟨x, y, z, rfl, rfl, rfl⟩ := hf
        obtain ⟨t0, t1, rfl⟩ := len2 (hs.len.symm.trans (show [y, z].length = 2 from rfl))
        obtain ⟨u0, u1, rfl⟩ := len2 (h1.len.trans (show [t0, t1].length = 2 from rfl))
        refine ⟨_, rfl, p, _, 0, u0, rfl, rfl, SqL.of e1, atI_nat (j := 0) rfl, .ref g, rfl, (by show 2 ≤ sizeLine; decide), fun b0 hb0 => ?_⟩
        have e2 : (upd H1 b0 (.tup [u0, .ref g])) p = some (.lst [u0, u1]) := by rw [upd_ne (ne_of_none e1 hb0)]; exact e1
        have tu0 : Tups H1 (upd H1 b0 (.tup [u0, .ref g])) := Tups.new hb0
        refine ⟨_, rfl, p, _, 1, u1, rfl, rfl, SqL.of e2, atI_nat (j := 1) rfl, .ref g, rfl, g, _, rfl, .inl (SqT.of (tu0 _ _ hg1)), .ref a, rfl, a, _, 2, _, rfl, rfl, SqT.of (tu0 _ _ ha), atI_nat (j := 2) rfl, ?_, fun b1 hb1 => ?_⟩
        · rw [List.length_append, List.length_map]
          have h2 := small1000 (n := 1) (by decide)
          have h3 := small1000 hgl
          show gs.length + 1 ≤ sizeLine
          omega
        have tu1 := tu0.trans (Tups.new (o := .tup (gs.map V.str ++ [.str x])) hb1)
        refine ⟨(by show 2 ≤ sizeLine; decide), fun b2 hb2 => ?_⟩
        have tu2 := tu1.trans (Tups.new (o := .tup [u1, .ref b1]) hb2)
        refine ⟨(by show 2 ≤ sizeLine; decide), fun r hr => ?_⟩
        have tu3 := tu2.trans (Tups.new (o := .lst [.ref b0, .ref b2]) hr)
        have sA : Same H _ := (((s1.tr (same_new (o := .tup [u0, .ref g]) hb0)).tr (same_new (o := .tup (gs.map V.str ++ [.str x])) hb1)).tr (same_new (o := .tup [u1, .ref b1]) hb2)).tr (same_new (o := .lst [.ref b0, .ref b2]) hr)
        refine q r _ _ sA ((((s1.tr (same_new (o := .tup [u0, .ref g]) hb0)).tr (same_new (o := .tup (gs.map V.str ++ [.str x])) hb1)).tr (same_new (o := .tup [u1, .ref b1]) hb2)).fresh hr) upd_same ?_
        cases h1 with
        | cons h1a h1b =>
        cases h1b with
        | cons h1b _ =>
        refine ⟨⟨b0, g, u0, rfl, ?_, h1a.keep tu3, tu3 _ _ hg1⟩, ⟨b2, b1, u1, rfl, ?_, h1b.keep tu3, ?_⟩, trivial⟩
        · exact (same_new (o := .lst [.ref b0, .ref b2]) hr) _ _ ((same_new (o := .tup [u1, .ref b1]) hb2) _ _ ((same_new (o := .tup (gs.map V.str ++ [.str x])) hb1) _ _ upd_same))
        · exact (same_new (o := .lst [.ref b0, .ref b2]) hr) _ _ upd_same
        · show _ = some (HO.tup ((gs ++ [x]).map V.str))
          rw [map_snoc_str]
          exact (same_new (o := .lst [.ref b0, .ref b2]) hr) _ _ ((same_new (o := .tup [u1, .ref b1]) hb2) _ _ upd_same)
      | _ => exact absurd c (by decide +kernel)
    refine ⟨_, rfl, a, xs, 0, _, rfl, rfl, SqT.of ha, atI_nat (j := 0) h0, rfl, _, rfl, ite2 (fun c => ?_) (fun c2 => ?_)⟩
    · -- each
      obtain ⟨x, rfl, hx3⟩ : ∃ x, v = .str x ∧ xs[3]? = some (.str x) := by
        cases ok with
        | each => obtain ⟨x, y, z, rfl, rfl, rfl⟩ := hf; exact ⟨x, rfl, rfl⟩
        | eachT => obtain ⟨x, y, z, t, rfl, rfl, rfl⟩ := hf; exact ⟨x, rfl, rfl⟩
        | _ => exact absurd c (by decide +kernel)
      have hgv : ∀ i, i ≤ 2 → giv k i (.str x) gs = if i = 1 then gs else (if k = .each ∧ i = 2 then gs else gs ++ [x]) := by
        intro i hi
        cases ok with
        | each => rcases i with _ | _ | _ | i <;> first | rfl | omega
        | eachT => rcases i with _ | _ | _ | i <;> first | rfl | omega
        | _ => exact absurd c (by decide +kernel)
      refine ⟨.ref g, rfl, g, _, rfl, .inl (SqT.of hg1), .ref a, rfl, a, _, 3, _, rfl, rfl, SqT.of ha, atI_nat (j := 3) hx3, ?_, fun b1 hb1 => ?_⟩
      · rw [List.length_append, List.length_map]
        have h2 := small1000 (n := 1) (by decide)
        have h3 := small1000 hgl
        show gs.length + 1 ≤ sizeLine
        omega
      have sb := same_new (o := HO.tup (gs.map V.str ++ [V.str x])) hb1
      have eb : (upd H1 b1 (.tup (gs.map V.str ++ [.str x]))) b1 = some (.tup ((gs ++ [x]).map V.str)) := by
        rw [map_snoc_str]
        exact upd_same
      refine ⟨_, rfl, p, us, rfl, SqL.of (sb _ _ e1), fun D hD => ?_⟩
      have sB := s1.tr sb
      have hgB := sb _ _ hg1
      have hh := h1.keep sb.tups
      refine lc_enum (xs := us) (GMade D _ us (zipG k (.str x) ps 0 gs)) ⟨hD, same_new hD, [], upd_same, trivial, rfl⟩ (fun i H3 gm => gm.2.1.seq (SqL.of (sb _ _ e1))) (fun i u0 T H3 hi hT gm => ?_) (fun H3 gm => ?_)
      · have hil : i < us.length := (List.getElem?_eq_some_iff.mp hi).1
        have hl3 : us.length ≤ 3 := by
          rw [h1.len, ← hs.len]
          cases ok with
          | each => obtain ⟨x, y, z, _, _, rfl⟩ := hf; exact (by decide : 2 ≤ 3)
          | eachT => obtain ⟨x, y, z, t, _, _, rfl⟩ := hf; exact Nat.le_refl 3
          | _ => exact absurd c (by decide +kernel)
        obtain ⟨t0, ht0, hu0⟩ := (hh.keep gm.2.1.tups).get hi
        have hz := zipG_get k (.str x) ps 0 i gs t0 ht0
        rw [Nat.zero_add, hgv i (by omega)] at hz
        have tuT : Tups H3 (upd H3 T (.tup [.int (i : Nat), u0])) := Tups.new hT
        have gm' : GMade D (upd H1 b1 (HO.tup (gs.map V.str ++ [V.str x]))) us (zipG k (.str x) ps 0 gs) i (upd H3 T (.tup [.int (i : Nat), u0])) := by
          obtain ⟨d0, s0, qs, e, pr, l⟩ := gm
          exact ⟨d0, s0.tr (same_new hT), qs, by rw [upd_ne (ne_of_none e hT)]; exact e, pr.keep tuT, l⟩
        have hgT := gm'.2.1 _ _ hgB
        have hbT := gm'.2.1 _ _ eb
        refine ⟨T, _, rfl, SqT.of upd_same, rfl, _, _, rfl, _, _, rfl, rfl, rfl, _, rfl, _, rfl, rfl, _, rfl, ite2 (fun ci => ?_) (fun ci => ?_)⟩
        · have ei : (i : Int) = 1 := V.int.inj (of_decide_eq_true ci)
          have ei' : i = 1 := by omega
          subst ei'
          exact ⟨_, rfl, (by show 2 ≤ sizeLine; decide), fun b hb => gm'.more (by omega) hz hb (hu0.keep tuT) (by rw [if_pos rfl]; exact hgT)⟩
        · have ei' : i ≠ 1 := fun e => ci (by rw [e]; exact decide_eq_true rfl)
          refine ⟨_, rfl, (by show 2 ≤ sizeLine; decide), fun b hb => gm'.more (by omega) hz hb (hu0.keep tuT) ?_⟩
          rw [if_neg ei']
          have n2 : ¬ (k = .each ∧ i = 2) := fun h => by
            obtain ⟨rfl, rfl⟩ := h
            obtain ⟨y, z, w', _, _, rfl⟩ := hf
            rw [h1.len, ← hs.len] at hil
            exact absurd hil (by show ¬ 2 < 2; decide)
          rw [if_neg n2]
          exact hbT
      · obtain ⟨d0, s0, qs, e, pr, l⟩ := gm
        refine q D qs H3 (sB.tr s0) (sB.fresh d0) e ?_
        rw [List.take_of_length_le] at pr
        · exact pr
        · rw [zipG_len, h1.len]
          exact Nat.le_refl _
    · -- all others
      have hgp : ∀ i g, giv k i v g = g := by
        intro i g
        cases ok with
        | lett => exact absurd (by decide +kernel) c1
        | each | eachT => exact absurd (by decide +kernel) c2
        | _ => rfl
      refine ⟨_, rfl, p, rfl, ⟨us, SqL.of e1⟩, fun D hD => ?_⟩
      refine lc_list (xs := us) (GMade D H1 us (zipG k v ps 0 gs)) ⟨hD, same_new hD, [], upd_same, trivial, rfl⟩ (fun i H3 _ gm => gm.2.1.seq (SqL.of e1)) (fun i u0 H3 hi gm => ?_) (fun H3 gm => ?_)
      · have hil : i < us.length := (List.getElem?_eq_some_iff.mp hi).1
        obtain ⟨t0, ht0, hu0⟩ := (h1.keep gm.2.1.tups).get hi
        have hz := zipG_get k v ps 0 i gs t0 ht0
        rw [hgp] at hz
        exact ⟨rfl, _, rfl, _, rfl, (by show 2 ≤ sizeLine; decide), fun b hb => gm.more (by rw [h1.len] at hil; omega) hz hb hu0 (gm.2.1 _ _ hg1)⟩
      · obtain ⟨d0, s0, qs, e, pr, l⟩ := gm
        refine q D qs H3 (s1.tr s0) (s1.fresh d0) e ?_
        rw [List.take_of_length_le] at pr
        · exact pr
        · rw [zipG_len, h1.len]
          exact Nat.le_refl _
end
end Lf
namespace Lf
open PySem PySem.Spec PyProof.Rows L2
/-! ### the stack -/
def sizeS : List (Tr × List Str) → Nat
  | [] => 0
  | t :: r => t.1.size + sizeS r
theorem sizeS_app (a b : List (Tr × List Str)) : sizeS (a ++ b) = sizeS a + sizeS b := by
  induction a with
  | nil => exact (Nat.zero_add _).symm
  | cons t r ih =>
    show t.1.size + sizeS (r ++ b) = t.1.size + sizeS r + sizeS b
    omega
theorem sizeS_rev (a : List (Tr × List Str)) : sizeS a.reverse = sizeS a := by
  induction a with
  | nil => rfl
  | cons t r ih =>
    rw [List.reverse_cons, sizeS_app, ih]
    show sizeS r + (t.1.size + 0) = t.1.size + sizeS r
    omega
theorem sizeS_zip (k : Kd) (v : V) : ∀ (ps : List Tr) (i : Nat) (g : List Str), sizeS (zipG k v ps i g) = sizeL ps
  | [], _, _ => rfl
  | p :: r, i, g => by
    show p.size + sizeS (zipG k v r (i + 1) g) = p.size + sizeL r
    rw [sizeS_zip k v r]
theorem size_pos : ∀ t : Tr, 0 < t.size
  | .node _ _ _ ps => Nat.succ_pos _
theorem len_sizeS : ∀ a : List (Tr × List Str), a.length ≤ sizeS a
  | [] => Nat.le_refl 0
  | t :: r => by
    have h1 := size_pos t.1
    have h2 := len_sizeS r
    show r.length + 1 ≤ t.1.size + sizeS r
    omega
theorem len_sizeL : ∀ a : List Tr, a.length ≤ sizeL a
  | [] => Nat.le_refl 0
  | t :: r => by
    have h1 := size_pos t
    have h2 := len_sizeL r
    show r.length + 1 ≤ t.size + sizeL r
    omega
/-- what a stack (its top last) will still meet -/
def metS (st : List (Tr × List Str)) : List Str := st.reverse.flatMap fun t => met t.1 t.2
theorem metS_snoc (st : List (Tr × List Str)) (t : Tr × List Str) : metS (st ++ [t]) = met t.1 t.2 ++ metS st := by
  unfold metS
  rw [List.reverse_append]
  rfl
theorem metL_zip (k : Kd) (v : V) : ∀ (ps : List Tr) (i : Nat) (g : List Str), (zipG k v ps i g).flatMap (fun t => met t.1 t.2) = metL k v ps i g
  | [], _, _ => rfl
  | p :: r, i, g => by
    show met p (giv k i v g) ++ (zipG k v r (i + 1) g).flatMap (fun t => met t.1 t.2) = met p (giv k i v g) ++ metL k v r (i + 1) g
    rw [metL_zip k v r]
theorem metS_parts (st : List (Tr × List Str)) (k : Kd) (v : V) (ps : List Tr) (g : List Str) : metS (st ++ (zipG k v ps 0 g).reverse) = metL k v ps 0 g ++ metS st := by
  unfold metS
  rw [List.reverse_append, List.reverse_reverse, List.flatMap_append, metL_zip]
theorem giv_len (k : Kd) (i : Nat) (v : V) (g : List Str) : (giv k i v g).length ≤ g.length + 1 := by
  unfold giv
  split <;> first | (rw [List.length_append]; exact Nat.le_refl _) | exact Nat.le_succ _
/-- how long what is given may grow -/
def Room' (st : List (Tr × List Str)) : Prop := ∀ t ∈ st, t.2.length + t.1.depth ≤ 1000
theorem room_zip {k : Kd} {v : V} {d : Nat} : ∀ (ps : List Tr) (i : Nat) (g : List Str), g.length + (depthL ps + 1) ≤ 1000 → ∀ t ∈ zipG k v ps i g, t.2.length + t.1.depth ≤ 1000
  | [], _, _, _, t, h => by cases h
  | p :: r, i, g, hd, t, h => by
    have e1 : depthL (p :: r) = max p.depth (depthL r) := rfl
    rcases List.mem_cons.mp h with rfl | h
    · have h1 := giv_len k i v g
      show (giv k i v g).length + p.depth ≤ 1000
      omega
    · exact room_zip (d := d) r (i + 1) g (by omega) t h
/-! ### the names as keys -/
def keysOf (ks : List Str) : List (Key × V) := ks.map fun x => (Sum.inr x, V.bl true)
theorem keysOf_val {x : Str} : ∀ ks : List Str, valV (keysOf ks) (Sum.inr x) = if x ∈ ks then some (.bl true) else none
  | [] => rfl
  | y :: r => by
    show valV ((Sum.inr y, V.bl true) :: keysOf r) (Sum.inr x) = _
    by_cases h : y = x
    · subst h
      rw [valV_pos rfl, if_pos (List.mem_cons_self ..)]
    · have hn : ¬ (Sum.inr y : Key) = Sum.inr x := fun e => h (Sum.inr.inj e)
      rw [valV_neg hn, keysOf_val r]
      by_cases hr : x ∈ r
      · rw [if_pos hr, if_pos (List.mem_cons_of_mem _ hr)]
      · rw [if_neg hr, if_neg]
        intro hm
        rcases List.mem_cons.mp hm with e | e
        · exact h e.symm
        · exact hr e
theorem keysOf_put (ks : List Str) (x : Str) : putK (keysOf ks) (Sum.inr x) (.bl true) = keysOf (if x ∈ ks then ks else ks ++ [x]) := by
  by_cases h : x ∈ ks
  · rw [if_pos h]
    unfold putK
    have e : ((keysOf ks).any fun kv => decide (kv.1 = Sum.inr x)) = true := by
      rw [valV_any, keysOf_val, if_pos h]
      rfl
    rw [if_pos e]
    unfold keysOf
    rw [List.map_map]
    refine List.map_congr_left fun y _ => ?_
    show (if (Sum.inr y : Key) = Sum.inr x then ((Sum.inr y : Key), V.bl true) else (Sum.inr y, V.bl true)) = _
    split <;> rfl
  · rw [if_neg h, putK_new]
    · unfold keysOf
      rw [List.map_append]
      rfl
    · rw [keysOf_val, if_neg h]
section
variable {P : Program} {w : World} {K : PySem.W.Frag} {mg : Str → Option Value} {base : Heap}
theorem inV_str {x : Str} {l : List Str} : inV (.str x) (l.map V.str) = true ↔ x ∈ l := by
  unfold inV
  rw [List.any_eq_true]
  constructor
  · rintro ⟨y, hy, e⟩
    obtain ⟨z, hz, rfl⟩ := List.mem_map.mp hy
    have e' : (z == x) = true := e
    rw [beq_iff_eq] at e'
    exact e' ▸ hz
  · intro h
    refine ⟨.str x, List.mem_map.mpr ⟨x, h, rfl⟩, ?_⟩
    show (x == x) = true
    exact beq_self_eq_true x
theorem flat_strs (l : List Str) : (l.map V.str).all flatV = true := by
  rw [List.all_eq_true]
  intro z hz
  obtain ⟨x, _, rfl⟩ := List.mem_map.mp hz
  rfl
abbrev sFree : Stmt := topS 3
theorem scFree : FnScope ["tree", "params", "names", "waiting", "part", "given"] ["tree", "params"] (defScope sFree) := ⟨rfl, rfl, rfl, by decide +kernel, rfl, by decide +kernel, by decide +kernel⟩
def spFree : Sp := fun vs H Q _ => ∃ (u : V) (g : Addr) (gs : List Str) (t : Tr), vs = [u, .ref g] ∧ TrIs H u t ∧ t.size ≤ 100000 ∧ H g = some (.tup (gs.map V.str)) ∧ gs.length + t.depth ≤ 1000 ∧
  ∀ (p : Addr) (H' : Hp), Same H H' → H p = none → H' p = some (.lst ((uniq [] (met t gs)).map V.str)) → Q (.ref p) H'
/-- between two turns -/
def FreeW (H0 : Hp) (a0 a1 : V) (nd wl : Addr) (all : List Str) (m : Nat) (σ : L2.St) (H : Hp) : Prop := ∃ (st : List (Tr × List Str)) (done : List Str) (qs : List V) (o4 o5 : Option V),
  σ = [some a0, some a1, some (.ref nd), some (.ref wl), o4, o5] ∧ m = sizeS st ∧ sizeS st ≤ 100000 ∧ Room' st ∧ Same H0 H ∧ H nd = some (.dK (keysOf (uniq [] done))) ∧ H wl = some (.lst qs) ∧ PairsAre H qs st ∧ done ++ metS st = all
theorem ok_free {f : Addr} {fd : FuncData} (F : Fun K "free" "free" sFree f fd) (T : Bs mg) (c_given_parts : Callee P w K mg base 2 "given_parts" ["tree", "given"] spGiven) : FnOk P w K mg base CX0 3 f fd ["tree", "params"] spFree := by
  refine F.ok scFree (fun vs H Q E h => ?_) (fun cdv A outer s H vs Q E hr h => ?_)
  · obtain ⟨u, g, gs, t, rfl, _⟩ := h
    rfl
  · obtain ⟨u, g, gs, t, rfl, hT, hsz, hg, hrm, q⟩ := h
    have nd_ := scFree.nd
    have nd := nd_
    refine ⟨_, (pss_cons (ps_set (i := 2) nd rfl (Or.inl rfl) pe_dnewK)
  (pss_cons (ps_set (i := 3) nd rfl (Or.inl rfl) (pe_lst (pa_cons (pe_tup (pa_cons (pv 0) (pa_cons (pv 1) pa_nil))) pa_nil)))
  (pss_cons (ps_while PassesOwn.never (pt_truth (pv 3) (by intro _; rfl))
  (pss_cons (ps_asg (pe_bm0 PySem.F.plainAttrs_list PySem.F.slot_list_pop PySem.F.type_list_pop mt_pop (pv 3)) (pg_tup rfl (pgs_cons (pg_name (i := 4) nd rfl (Or.inl rfl)) (pgs_cons (pg_name (i := 5) nd rfl (Or.inl rfl)) pgs_nil))))
  (Evl.pss_cut (ps_if (PW.pt (pw_and (pt_cmpR op_in_seq (pe_ix ix_tup (pv 4) pe_int (fun _ _ => rfl)) (pe_tup (pa_cons pe_str (pa_cons pe_str pa_nil))) (by rfl)) (pw_and1 (pt_cmpR op_notIn_seq (pe_ix ix_tup (pv 4) pe_int (fun _ _ => rfl)) (pv 5) (by rfl)))))
  (pss_one (ps_dput (hu_of hr) (pv 2) (pe_ix ix_tup (pv 4) pe_int (fun _ _ => rfl)) pe_bl rfl))
  pss_nil)
  (pss_one (ps_expr (pe_bm PySem.F.plainAttrs_list PySem.F.slot_list_extend PySem.F.type_list_extend mt_extend (pv 3) (pa_cons (pe_revL (pe_own c_given_parts (hr.mono (by omega)) (by rfl) (pa_cons (pv 4) (pa_cons (pv 5) pa_nil)))) pa_nil)))))))
  (pss_one (ps_ret (pe_callTy (call_listD rfl) (by rfl) T.list (by decide +kernel) (pa_cons (pv 2) pa_nil))))))), ?_⟩
    -- names, waiting
    intro dn hdn
    refine ⟨_, rfl, _, rfl, (by show 2 ≤ sizeLine; decide), fun b hb => ⟨(by show 1 ≤ sizeLine; decide), fun wl hwl => ?_⟩⟩
    have sA := same_new (o := .dK []) hdn
    have sB := same_new (o := .tup [u, .ref g]) hb
    have sC := same_new (o := .lst [.ref b]) hwl
    have hwl0 : H wl = none := (sA.tr sB).fresh hwl
    refine ⟨FreeW H u (.ref g) dn wl (met t gs), ⟨_, [(t, gs)], [], [.ref b], none, none, rfl, rfl, ?_, ?_, (sA.tr sB).tr sC, ?_, upd_same, ⟨⟨b, g, u, rfl, ?_, ?_, ?_⟩, trivial⟩, ?_⟩, fun m σ H1 hW => ?_⟩
    · show t.size + 0 ≤ 100000
      omega
    · intro z hz
      rw [List.mem_singleton.mp hz]
      exact hrm
    · exact sC _ _ (sB _ _ upd_same)
    · exact sC _ _ upd_same
    · exact hT.keep ((sA.tr sB).tr sC).tups
    · exact ((sA.tr sB).tr sC) _ _ hg
    · show [] ++ metS ([] ++ [(t, gs)]) = met t gs
      rw [metS_snoc]
      show met t gs ++ [] = met t gs
      rw [List.append_nil]
    · obtain ⟨st, done, qs, o4, o5, rfl, rfl, hs1, hR, s1, hd, hw, hp, ha_⟩ := hW
      refine ⟨_, rfl, _, .inl ⟨qs, SqL.of hw, rfl⟩, ite2 (fun ce => ?_) (fun ce => ?_)⟩
      · have hne : qs ≠ [] := fun e => by
          rw [e] at ce
          exact absurd ce (by decide)
        obtain ⟨qs, x, rfl⟩ : ∃ l y, qs = l ++ [y] := ⟨qs.dropLast, qs.getLast hne, (List.dropLast_concat_getLast hne).symm⟩
        obtain ⟨st, ⟨t1, g1⟩, rfl, hp1, b1, c1, u1, rfl, hb1, hT1, hc1⟩ := hp.snoc
        have hne1 : wl ≠ dn := fun e => by
          rw [e, hd] at hw
          cases hw
        have hs1' : sizeS st + (t1.size + 0) ≤ 100000 := by
          rw [sizeS_app] at hs1
          exact hs1
        refine ⟨FreeW H u (.ref g) dn wl (met t gs) |> fun W => fun σ' H' => ∃ m', m' < sizeS (st ++ [(t1, g1)]) ∧ W m' σ' H', fun σ' H' h => h, ?_⟩
        refine ⟨_, rfl, .inl ⟨rfl, _, SqL.of hw⟩, wl, _, .ref b1, rfl, rfl, hw, ?_, ?_⟩
        · rw [List.length_append]
          show (qs ++ [V.ref b1])[qs.length + 1 - 1]? = _
          rw [Nat.add_sub_cancel, List.getElem?_append_right (Nat.le_refl _), Nat.sub_self]
          rfl
        rw [List.dropLast_concat]
        have eW : ∀ {z : Addr} {o : HO}, z ≠ wl → H1 z = some o → (upd H1 wl (.lst qs)) z = some o := fun n e => by rw [upd_ne n]; exact e
        have nT : ∀ {z : Addr} {ys : List V}, H1 z = some (.tup ys) → z ≠ wl := fun e => ne_of e hw (by intro z; cases z)
        have tuW : Tups H1 (upd H1 wl (.lst qs)) := Tups.mut hw
        refine ⟨b1, [u1, .ref c1], rfl, SqT.of (tuW _ _ hb1), rfl, _, _, rfl, _, _, rfl, rfl, ?_⟩
        have hT2 := hT1.keep tuW
        generalize hH2 : (upd H1 wl (.lst qs)) = H2 at *
        have sH2 : Same H H2 := by
          rw [← hH2]
          exact s1.mutN hwl0
        have eW2 : H2 wl = some (.lst qs) := by
          rw [← hH2]
          exact upd_same
        have eD2 : H2 dn = some (.dK (keysOf (uniq [] done))) := eW hne1.symm hd
        have hp2 := hp1.keep tuW
        have hc2 := tuW _ _ hc1
        cases hT1 with
        | @mk a xs us k n v ps ha0 hf0 hs0 =>
        have ha := tuW _ _ ha0
        have hf := hf0.keep tuW
        obtain ⟨ok, h0⟩ := hf.ok
        -- the names, with this one
        refine ⟨fun σ' H' => σ' = [some u, some (.ref g), some (.ref dn), some (.ref wl), some (.ref a), some (.ref c1)] ∧ Same H H' ∧ Tups H2 H' ∧ H' wl = some (.lst qs) ∧ H' dn = some (.dK (keysOf (uniq [] (done ++ ownName k v g1)))), ?_, ?_⟩
        · refine ⟨_, rfl, a, xs, 0, _, rfl, rfl, SqT.of ha, atI_nat (j := 0) h0, (by show 2 ≤ sizeLine; decide), fun p1 hp1 => ⟨p1, _, rfl, .inr (SqT.of upd_same), rfl, rfl, _, rfl, ite2 (fun c => ?_) (fun c => ?_)⟩⟩
          · have tu1 : Tups H2 (upd H2 p1 (.tup [.str "name", .str "call"])) := Tups.new hp1
            have sn := same_new (o := .tup [.str "name", .str "call"]) hp1
            obtain ⟨x, rfl, hx2, ho⟩ : ∃ x, v = .str x ∧ xs[2]? = some (.str x) ∧ ownName k v g1 = if x ∈ g1 then [] else [x] := by
              cases ok with
              | nam => obtain ⟨x, rfl, rfl, rfl⟩ := hf; exact ⟨x, rfl, rfl, rfl⟩
              | call => obtain ⟨x, b', rfl, rfl, _⟩ := hf; exact ⟨x, rfl, rfl, rfl⟩
              | _ => exact absurd c (by decide +kernel)
            rw [ho]
            refine ⟨_, rfl, a, xs, 2, _, rfl, rfl, SqT.of (tu1 _ _ ha), atI_nat (j := 2) hx2, _, rfl, c1, _, rfl, .inr (SqT.of (tu1 _ _ hc2)), rfl, flat_strs g1, _, rfl, ite2 (fun c2 => ?_) (fun c2 => ?_)⟩
            · have hx : x ∉ g1 := fun hm => by
                have : inV (.str x) (g1.map V.str) = true := inV_str.mpr hm
                have c2' : (!inV (.str x) (g1.map V.str)) = true := c2
                rw [this] at c2'
                exact absurd c2' (by decide)
              rw [if_neg hx]
              refine ⟨_, rfl, _, rfl, a, xs, 2, _, rfl, rfl, SqT.of (tu1 _ _ ha), atI_nat (j := 2) hx2, dn, _, rfl, DPut.k (k := Sum.inr x) (sn _ _ eD2) ?_, rfl, ?_, ?_, ?_, ?_⟩
              · unfold keysOf
                rw [List.length_map]
                have h1 := uniq_len [] done
                have h2 : done.length ≤ (met t gs).length := by
                  rw [← ha_]
                  rw [List.length_append]
                  omega
                have h3 := met_len t gs
                have h4 : ([] : List Str).length = 0 := rfl
                have h5 : 100000 < sizeLine := by decide
                omega
              · exact (sH2.tr sn).mutN hdn
              · exact tu1.trans fun b' ys e => by rw [upd_ne (ne_of e (sn _ _ eD2) (by intro z; cases z))]; exact e
              · rw [upd_ne hne1]
                exact sn _ _ eW2
              · rw [upd_same, keysOf_put, uniq_app]
                rfl
            · have hx : x ∈ g1 := by
                by_cases hm : x ∈ g1
                · exact hm
                · refine absurd ?_ c2
                  have h1 : inV (.str x) (g1.map V.str) = false := by
                    cases e : inV (.str x) (g1.map V.str) with
                    | false => rfl
                    | true => exact absurd (inV_str.mp e) hm
                  show (!inV (.str x) (g1.map V.str)) = true
                  rw [h1]
                  rfl
              rw [if_pos hx, List.append_nil]
              exact ⟨rfl, sH2.tr sn, tu1, sn _ _ eW2, sn _ _ eD2⟩
          · have ho : ownName k v g1 = [] := by
              cases ok with
              | nam | call => exact absurd (by decide +kernel) c
              | _ => rfl
            have sn := same_new (o := .tup [.str "name", .str "call"]) hp1
            rw [ho, List.append_nil]
            refine iteF ?_
            exact ⟨rfl, sH2.tr sn, Tups.new hp1, sn _ _ eW2, sn _ _ eD2⟩
        · -- the parts onto the stack
          rintro σ' H3 ⟨rfl, s3, tu3, w3, d3⟩
          have hRt := hR (.node k n v ps, g1) (List.mem_append_right _ (List.mem_singleton.mpr rfl))
          have hdep : g1.length + (depthL ps + 1) ≤ 1000 := hRt
          have hsz1 : (Tr.node k n v ps).size = sizeL ps + 1 := rfl
          refine ⟨_, rfl, .inl ⟨rfl, _, SqL.of w3⟩, _, rfl, _, rfl, .ref a, c1, g1, k, n, v, ps, rfl, (hT2.keep tu3), tu3 _ _ hc2, by omega, ?_, fun p zs H4 s4 hp4 e4 pr4 => ?_⟩
          · have h1 := len_sizeL ps
            omega
          refine ⟨p, zs, rfl, SqL.of e4, fun p5 hp5 => ?_⟩
          have s45 := s4.tr (same_new (o := .lst zs.reverse) hp5)
          have w5 := s45 _ _ w3
          have hw5 : wl ≠ p5 := ne_of_none (s4 _ _ w3) hp5
          have zl : zs.length = ps.length := by rw [pr4.len, zipG_len]
          refine ⟨wl, p5, qs, zs.reverse, rfl, rfl, w5, upd_same, ?_, sizeS (st ++ (zipG k v ps 0 g1).reverse), ?_, st ++ (zipG k v ps 0 g1).reverse, done ++ ownName k v g1, qs ++ zs.reverse, _, _, rfl, rfl, ?_, ?_, (s3.tr s45).mutN hwl0, ?_, upd_same, ?_, ?_⟩
          · rw [List.length_reverse, zl, hp1.len]
            have h1 := len_sizeS st
            have h2 := len_sizeL ps
            have h5 : 200000 < sizeLine := by decide
            omega
          · rw [sizeS_app, sizeS_app, sizeS_rev, sizeS_zip]
            show sizeS st + sizeL ps < sizeS st + (sizeL ps + 1 + 0)
            omega
          · rw [sizeS_app, sizeS_rev, sizeS_zip]
            omega
          · intro z hz
            rcases List.mem_append.mp hz with hz | hz
            · exact hR z (List.mem_append_left _ hz)
            · exact room_zip (d := 0) ps 0 g1 hdep z (List.mem_reverse.mp hz)
          · rw [upd_ne hne1.symm]
            exact s45 _ _ d3
          · have tu5 : Tups H3 (upd (upd H4 p5 (.lst zs.reverse)) wl (.lst (qs ++ zs.reverse))) := s45.tups.trans (Tups.mut w5)
            have tu6 : Tups H4 (upd (upd H4 p5 (.lst zs.reverse)) wl (.lst (qs ++ zs.reverse))) := (Tups.new hp5).trans (Tups.mut w5)
            exact (hp2.keep (tu3.trans tu5)).app ((pr4.rev).keep tu6)
          · rw [metS_parts, List.append_assoc, ← List.append_assoc (ownName k v g1), ← ha_, metS_snoc]
            rfl
      · -- the end
        have hne : qs = [] := by
          cases qs with
          | nil => rfl
          | cons _ _ => exact absurd rfl ce
        subst hne
        have est : st = [] := by
          cases st with
          | nil => rfl
          | cons _ _ => exact hp.elim
        subst est
        have ed : done = met t gs := by
          rw [← ha_]
          exact (List.append_nil _).symm
        subst ed
        refine ⟨_, rfl, dn, _, rfl, .inl hd, fun p hp => ?_⟩
        refine q p _ (s1.tr (same_new hp)) (s1.fresh hp) ?_
        rw [upd_same]
        unfold keysOf
        rw [List.map_map]
        rfl
end
end Lf
namespace Lf
open PySem PySem.Spec PyProof.Rows L2
/-- what parts meet, the same given in all -/
def metA (ps : List Tr) (g : List Str) : List Str := ps.flatMap fun t => met t g
theorem metL_plain {k : Kd} {v : V} (h : ∀ i g, giv k i v g = g) : ∀ (ps : List Tr) (i : Nat) (g : List Str), metL k v ps i g = metA ps g
  | [], _, _ => rfl
  | p :: r, i, g => by
    show met p (giv k i v g) ++ metL k v r (i + 1) g = met p g ++ metA r g
    rw [h, metL_plain h r]
theorem metA_take {ps : List Tr} {i : Nat} {t : Tr} {g : List Str} (h : ps[i]? = some t) : metA (ps.take (i + 1)) g = metA (ps.take i) g ++ met t g := by
  unfold metA
  rw [List.take_add_one, h, List.flatMap_append]
  show _ ++ (met t g ++ []) = _
  rw [List.append_nil]
theorem metA_len (g : List Str) : ∀ ps : List Tr, (metA ps g).length ≤ sizeL ps
  | [] => Nat.le_refl 0
  | t :: r => by
    have h1 := met_len t g
    have h2 := metA_len g r
    show (met t g ++ metA r g).length ≤ t.size + sizeL r
    rw [List.length_append]
    omega
theorem sizeL_take : ∀ {ps : List Tr} {i : Nat} {t : Tr}, ps[i]? = some t → sizeL (ps.take i) + t.size ≤ sizeL ps
  | [], _, _, h => by simp at h
  | p :: r, 0, t, h => by
    have e : p = t := Option.some.inj h
    subst e
    show 0 + p.size ≤ p.size + sizeL r
    omega
  | p :: r, i + 1, t, h => by
    have q := sizeL_take (ps := r) (i := i) (t := t) h
    show p.size + sizeL (r.take i) + t.size ≤ p.size + sizeL r
    omega
section
variable {P : Program} {w : World} {K : PySem.W.Frag} {mg : Str → Option Value} {base : Heap}
abbrev sMet : Stmt := topS 13
theorem scMet : FnScope ["_law_tree_here", "_law_given", "_law_found", "_law_kind", "_law_one", "_law_more", "_law_parts"] ["_law_tree_here", "_law_given", "_law_found"] (defScope sMet) := ⟨rfl, rfl, rfl, by decide +kernel, rfl, by decide +kernel, by decide +kernel⟩
def spMet (d : Nat) : Sp := fun vs H Q _ => ∃ (u : V) (t : Tr) (g f : Addr) (gs old : List Str), vs = [u, .ref g, .ref f] ∧ TrIs H u t ∧ t.depth ≤ d ∧ H g = some (.lst (gs.map V.str)) ∧ gs.length + t.depth ≤ 1000 ∧
  H f = some (.lst (old.map V.str)) ∧ g ≠ f ∧ old.length + t.size ≤ 100000 ∧ ∀ H' : Hp, Kp f H H' → H' f = some (.lst ((old ++ met t gs).map V.str)) → Q .non H'
def spMetB (d : Nat) : Sp := fun vs H Q E => 1 ≤ d ∧ spMet (d - 1) vs H Q E
theorem step_met {k d : Nat} {f : Addr} {fd : FuncData} (F : Fun K "_law_met" "_law_met" sMet f fd) (T : Bs mg) (c__law_met : Callee P w K mg base k "_law_met" ["_law_tree_here", "_law_given", "_law_found"] (spMetB d)) :
    FnOk P w K mg base CX0 (k + 1) f fd ["_law_tree_here", "_law_given", "_law_found"] (spMet d) := by
  refine F.ok scMet (fun vs H Q E h => ?_) (fun cdv A outer s H vs Q E hr h => ?_)
  · obtain ⟨u, t, g, f, gs, old, rfl, _⟩ := h
    rfl
  · obtain ⟨u, t, g, fo, gs, old, rfl, hT, hd, hg, hgl, hf, hgf, hsz, q⟩ := h
    have nd := scMet.nd
    refine ⟨_, (pss_cons (ps_set (i := 3) nd rfl (Or.inl rfl) (pe_ix ix_tup (pv 0) pe_int (fun _ _ => rfl)))
  (pss_cons (ps_if (pt_cmpR op_in_seq (pv 3) (pe_tup (pa_cons pe_str (pa_cons pe_str pa_nil))) (by rfl))
  (Evl.pss_cut (ps_if (pt_cmpR op_notIn_seq (pe_ix ix_tup (pv 0) pe_int (fun _ _ => rfl)) (pv 1) (by rfl))
  (pss_one (ps_expr (pe_bm PySem.F.plainAttrs_list PySem.F.slot_list_append PySem.F.type_list_append mt_append (pv 2) (pa_cons (pe_ix ix_tup (pv 0) pe_int (fun _ _ => rfl)) pa_nil))))
  pss_nil)
  (pss_cons (ps_for PassesOwn.never rfl (pi_tup (pe_slice sl_tupA (pv 0) (po_some pe_int) po_none)) (pg_name (i := 4) nd rfl (Or.inl rfl))
  (pss_one (ps_for PassesOwn.never rfl (pi_tup (pv 4)) (pg_name (i := 5) nd rfl (Or.inl rfl))
  (pss_one (ps_expr (pe_own c__law_met (hr.mono (by omega)) (by rfl) (pa_cons (pv 5) (pa_cons (pv 1) (pa_cons (pv 2) pa_nil)))))))))
  (pss_one (ps_ret pe_non))))
  pss_nil)
  (pss_cons (ps_if (pt_cmpR op_eq (pv 3) pe_str (nomark _))
  (pss_cons (ps_expr (pe_own c__law_met (hr.mono (by omega)) (by rfl) (pa_cons (pe_ix ix_tup (pv 0) pe_int (fun _ _ => rfl)) (pa_cons (pv 1) (pa_cons (pv 2) pa_nil)))))
  (pss_cons (ps_expr (pe_own c__law_met (hr.mono (by omega)) (by rfl) (pa_cons (pe_ix ix_tup (pv 0) pe_int (fun _ _ => rfl)) (pa_cons (pe_op op_cat (pv 1) (pe_lst (pa_cons (pe_ix ix_tup (pv 0) pe_int (fun _ _ => rfl)) pa_nil))) (pa_cons (pv 2) pa_nil)))))
  (pss_one (ps_ret pe_non))))
  pss_nil)
  (pss_cons (ps_if (pt_cmpR op_eq (pv 3) pe_str (nomark _))
  (pss_cons (ps_expr (pe_own c__law_met (hr.mono (by omega)) (by rfl) (pa_cons (pe_ix ix_tup (pv 0) pe_int (fun _ _ => rfl)) (pa_cons (pe_op op_cat (pv 1) (pe_lst (pa_cons (pe_ix ix_tup (pv 0) pe_int (fun _ _ => rfl)) pa_nil))) (pa_cons (pv 2) pa_nil)))))
  (pss_cons (ps_expr (pe_own c__law_met (hr.mono (by omega)) (by rfl) (pa_cons (pe_ix ix_tup (pv 0) pe_int (fun _ _ => rfl)) (pa_cons (pv 1) (pa_cons (pv 2) pa_nil)))))
  (pss_cons (ps_if (pt_cmpR op_notN (pe_ix ix_tup (pv 0) pe_int (fun _ _ => rfl)) pe_non (nomark _))
  (pss_one (ps_expr (pe_own c__law_met (hr.mono (by omega)) (by rfl) (pa_cons (pe_ix ix_tup (pv 0) pe_int (fun _ _ => rfl)) (pa_cons (pe_op op_cat (pv 1) (pe_lst (pa_cons (pe_ix ix_tup (pv 0) pe_int (fun _ _ => rfl)) pa_nil))) (pa_cons (pv 2) pa_nil))))))
  pss_nil)
  (pss_one (ps_ret pe_non)))))
  pss_nil)
  (pss_cons (ps_set (i := 6) nd rfl (Or.inl rfl) (pe_slice sl_tupA (pv 0) (po_some pe_int) po_none))
  (Evl.pss_cut (ps_if (pt_cmpR op_eq (pv 3) pe_str (nomark _))
  (pss_one (ps_set (i := 6) nd rfl (Or.inl rfl) (pe_ix ix_tup (pv 0) pe_int (fun _ _ => rfl))))
  pss_nil)
  (pss_cons (ps_for PassesOwn.never rfl (pi_tup (pv 6)) (pg_name (i := 4) nd rfl (Or.inl rfl))
  (pss_one (ps_if (pt_val (pe_callB call_isi (by rfl) T.isinstance (by decide +kernel) (pa_cons (pv 4) (pa_cons (pe_bltn (v := V.ty "tuple") (u := Value.type "tuple") (by rfl) T.tuple (by decide +kernel) rfl) pa_nil))))
  (pss_one (ps_expr (pe_own c__law_met (hr.mono (by omega)) (by rfl) (pa_cons (pv 4) (pa_cons (pv 1) (pa_cons (pv 2) pa_nil))))))
  pss_nil)))
  (pss_one (ps_ret pe_non))))))))), ?_⟩
    cases hT with
    | @mk a xs us kd n v ps ha hfm hs =>
    obtain ⟨ok, h0⟩ := hfm.ok
    have hdep : depthL ps + 1 ≤ d := hd
    have hgl' : gs.length + (depthL ps + 1) ≤ 1000 := hgl
    have hsz' : old.length + (sizeL ps + 1) ≤ 100000 := hsz
    have big : 100000 < sizeLine := by decide
    -- a call for one part
    have sub : ∀ {H1 : Hp} {x : V} {t : Tr} {g1 : Addr} {gs1 old1 : List Str} {Q1 : VK} {E1 : XK}, TrIs H1 x t → t ∈ ps → H1 g1 = some (.lst (gs1.map V.str)) → gs1.length ≤ gs.length + 1 → H1 fo = some (.lst (old1.map V.str)) → g1 ≠ fo → old1.length + t.size ≤ 100000 →
        (∀ H2 : Hp, Kp fo H1 H2 → H2 fo = some (.lst ((old1 ++ met t gs1).map V.str)) → Q1 .non H2) → spMetB d [x, .ref g1, .ref fo] H1 Q1 E1 := fun ht hm hg1 hl hf1 hn hs1 k1 => by
      have h1 := le_depthL hm
      exact ⟨by omega, _, _, _, _, _, _, rfl, ht, by omega, hg1, by omega, hf1, hn, hs1, k1⟩
    refine ⟨_, rfl, a, xs, 0, _, rfl, rfl, SqT.of ha, atI_nat (j := 0) h0, ?_⟩
    refine ⟨_, rfl, (by show 2 ≤ sizeLine; decide), fun p1 hp1 => ⟨p1, _, rfl, .inr (SqT.of upd_same), rfl, rfl, _, rfl, ite2 (fun c => ?_) (fun c1 => ?_)⟩⟩
    · -- name, call
      have sn := same_new (o := .tup [.str "name", .str "call"]) hp1
      generalize hH1 : (upd H p1 (.tup [.str "name", .str "call"])) = H1 at *
      have ha := sn _ _ ha
      have hfm := hfm.keep sn.tups
      have hs := hs.keep sn.tups
      have hg := sn _ _ hg
      have hf := sn _ _ hf
      obtain ⟨x, rfl, hx2, ho⟩ : ∃ x, v = .str x ∧ xs[2]? = some (.str x) ∧ ownName kd v gs = if x ∈ gs then [] else [x] := by
        cases ok with
        | nam => obtain ⟨x, rfl, rfl, rfl⟩ := hfm; exact ⟨x, rfl, rfl, rfl⟩
        | call => obtain ⟨x, b', rfl, rfl, _⟩ := hfm; exact ⟨x, rfl, rfl, rfl⟩
        | _ => exact absurd c (by decide +kernel)
      have hgp : ∀ i g, giv kd i (.str x) g = g := by
        intro i g
        cases ok with
        | nam | call => rfl
        | _ => exact absurd c (by decide +kernel)
      have em : met (.node kd n (.str x) ps) gs = (if x ∈ gs then [] else [x]) ++ metA ps gs := by
        show ownName kd (.str x) gs ++ metL kd (.str x) ps 0 gs = _
        rw [ho, metL_plain hgp]
      have q2 : ∀ H' : Hp, Kp fo H1 H' → H' fo = some (.lst ((old ++ ((if x ∈ gs then [] else [x]) ++ metA ps gs)).map V.str)) → Q .non H' := fun H' k e => q H' (sn.kp.trans k) (by rw [em]; exact e)
      have ol : (if x ∈ gs then [] else [x] : List Str).length ≤ 1 := by
        split
        · exact Nat.zero_le _
        · exact Nat.le_refl _
      refine ⟨fun σ' H' => σ' = [some (.ref a), some (.ref g), some (.ref fo), some (.str (kname kd)), none, none, none] ∧ Kp fo H1 H' ∧ H' fo = some (.lst ((old ++ (if x ∈ gs then [] else [x])).map V.str)), ?_, ?_⟩
      · refine ⟨_, rfl, a, xs, 2, _, rfl, rfl, SqT.of ha, atI_nat (j := 2) hx2, _, rfl, g, _, rfl, .inl (SqL.of hg), rfl, flat_strs gs, _, rfl, ite2 (fun c2 => ?_) (fun c2 => ?_)⟩
        · have hx : x ∉ gs := fun hm => by
            have c2' : (!inV (.str x) (gs.map V.str)) = true := c2
            rw [inV_str.mpr hm] at c2'
            exact absurd c2' (by decide)
          rw [if_neg hx]
          refine ⟨_, rfl, .inl ⟨rfl, _, SqL.of hf⟩, _, rfl, a, xs, 2, _, rfl, rfl, SqT.of ha, atI_nat (j := 2) hx2, fo, _, _, rfl, rfl, hf, ?_, rfl, (Kp.refl fo H1).mut, ?_⟩
          · rw [List.length_map]
            omega
          · rw [upd_same, map_snoc_str]
        · have hx : x ∈ gs := by
            by_cases hm : x ∈ gs
            · exact hm
            · refine absurd ?_ c2
              have h1 : inV (.str x) (gs.map V.str) = false := by
                cases e : inV (.str x) (gs.map V.str) with
                | false => rfl
                | true => exact absurd (inV_str.mp e) hm
              show (!inV (.str x) (gs.map V.str)) = true
              rw [h1]
              rfl
          rw [if_pos hx, List.append_nil]
          exact ⟨rfl, Kp.refl fo H1, hf⟩
      rintro σ' H2 ⟨rfl, k2, f2⟩
      have nT : ∀ {z : Addr} {ys : List V}, H1 z = some (.tup ys) → z ≠ fo := fun e => ne_of e hf (by intro z; cases z)
      have tu2 := k2.tups hf
      have nz : 0 < xs.length := by
        cases xs with
        | nil => cases h0
        | cons _ _ => exact Nat.succ_pos _
      refine ⟨_, rfl, 3, rfl, a, xs, rfl, SqT.of (tu2 _ _ ha), fun w => absurd w (not_whole (k := 3) (hi := none) nz (by decide)), fun _ p2 hp2 => ?_⟩
      have s3 := same_new (o := HO.tup (cutV xs (some ((3 : Nat) : Int)) none)) hp2
      have f3 := s3 _ _ f2
      have hg3 := s3 _ _ (k2 _ _ hgf hg)
      have hs3 := hs.keep (tu2.trans s3.tups)
      cases ok with
      | nam =>
        obtain ⟨x', ex', rfl, rfl⟩ := hfm
        cases hs
        refine ⟨p2, rfl, ⟨_, SqT.of (cut_at (n := 3) rfl)⟩, for_tup (a := p2) (xs := []) (fun i σ H' => H' = upd H2 p2 (.tup (cutV _ (some ((3 : Nat) : Int)) none))) rfl (fun i σ H' _ e => by rw [e]; exact SqT.of (cut_at (n := 3) rfl)) (fun i z σ H' hz _ => by simp at hz) (fun σ H' e => ?_)⟩
        subst e
        refine q2 _ (k2.trans s3.kp) ?_
        rw [f3]
        show _ = some (HO.lst ((old ++ ((if x ∈ gs then [] else [x]) ++ [])).map V.str))
        rw [List.append_nil]
      | call =>
        obtain ⟨x', b, ex', rfl, hb⟩ := hfm
        have hb3 := s3 _ _ (tu2 _ _ hb)
        have e3 : (upd H2 p2 (HO.tup (cutV [.str "call", .int n, .str x, .ref b] (some ((3 : Nat) : Int)) none))) p2 = some (.tup [.ref b]) := cut_at (n := 3) rfl
        generalize (upd H2 p2 (HO.tup (cutV [.str "call", .int n, .str x, .ref b] (some ((3 : Nat) : Int)) none))) = H3 at *
        have nb : b ≠ fo := nT hb
        have np2 : p2 ≠ fo := ne_of e3 f3 (by intro z; cases z)
        have ng : g ≠ fo := hgf
        have k13 : Kp fo H1 H3 := k2.trans s3.kp
        refine ⟨p2, rfl, ⟨_, SqT.of e3⟩, for_tup (a := p2) (xs := [.ref b]) (fun i σ H' => (∃ y4 y5, σ = [some (.ref a), some (.ref g), some (.ref fo), some (.str (kname .call)), y4, y5, none]) ∧ Kp fo H3 H' ∧ H' fo = some (.lst ((old ++ ((if x ∈ gs then [] else [x]) ++ if i = 0 then [] else metA ps gs)).map V.str)))
          ⟨⟨none, none, rfl⟩, Kp.refl fo H3, ?_⟩ (fun i σ H' _ h => SqT.of (h.2.1 _ _ np2 e3)) (fun i z σ H' hz h => ?_) (fun σ H' h => ?_)⟩
        · rw [f3, if_pos rfl, List.append_nil]
        · obtain ⟨⟨y4, y5, rfl⟩, k4, f4⟩ := h
          have hi : i = 0 := by
            have := (List.getElem?_eq_some_iff.mp hz).1
            simp at this
            exact this
          subst hi
          have ez : z = .ref b := by simpa using hz.symm
          subst ez
          rw [if_pos rfl, List.append_nil] at f4
          refine ⟨_, rfl, b, rfl, ⟨_, SqT.of (k4 _ _ nb hb3)⟩, for_tup (a := b) (xs := us) (fun j σ H' => (∃ y5, σ = [some (.ref a), some (.ref g), some (.ref fo), some (.str (kname .call)), some (.ref b), y5, none]) ∧ Kp fo H3 H' ∧ H' fo = some (.lst ((old ++ ((if x ∈ gs then [] else [x]) ++ metA (ps.take j) gs)).map V.str)))
            ⟨⟨y5, rfl⟩, k4, ?_⟩ (fun j σ H' _ h => SqT.of (h.2.1 _ _ nb hb3)) (fun j z σ H' hz h => ?_) (fun σ H' h => ?_)⟩
          · rw [f4]
            show _ = some (HO.lst ((old ++ ((if x ∈ gs then [] else [x]) ++ [])).map V.str))
            rw [List.append_nil]
          · obtain ⟨⟨y5', rfl⟩, k5, f5⟩ := h
            obtain ⟨t0, ht0, hz0⟩ := (hs3.keep (k5.tups f3)).get hz
            have l1 := sizeL_take ht0
            have l2 := metA_len gs (ps.take j)
            refine ⟨_, rfl, _, rfl, _, rfl, sub hz0 (List.mem_of_getElem? ht0) (k5 _ _ ng hg3) (Nat.le_succ _) f5 ng ?_ fun H6 k6 f6 => ⟨⟨_, rfl⟩, k5.trans k6, ?_⟩⟩
            · rw [List.length_append, List.length_append]
              omega
            · rw [f6, metA_take ht0, List.append_assoc, List.append_assoc]
          · obtain ⟨⟨y5', rfl⟩, k5, f5⟩ := h
            refine ⟨⟨_, _, rfl⟩, k5, ?_⟩
            rw [f5, hs3.len, List.take_length]
            rfl
        · obtain ⟨⟨y4, y5, rfl⟩, k4, f4⟩ := h
          refine q2 _ (k13.trans k4) ?_
          rw [f4]
          rfl
      | _ => exact absurd c (by decide +kernel)
    have sn := same_new (o := .tup [.str "name", .str "call"]) hp1
    generalize hH1 : (upd H p1 (.tup [.str "name", .str "call"])) = H1 at *
    have ha := sn _ _ ha
    have hfm := hfm.keep sn.tups
    have hs := hs.keep sn.tups
    have hg := sn _ _ hg
    have hf := sn _ _ hf
    have q : ∀ H' : Hp, Kp fo H1 H' → H' fo = some (.lst ((old ++ met (.node kd n v ps) gs).map V.str)) → Q .non H' := fun H' k e => q H' (sn.kp.trans k) e
    have onm : ownName kd v gs = [] := by
      cases ok with
      | nam | call => exact absurd (by decide +kernel) c1
      | _ => rfl
    have em : met (.node kd n v ps) gs = metL kd v ps 0 gs := by
      show ownName kd v gs ++ metL kd v ps 0 gs = _
      rw [onm]
      rfl
    rw [em] at q
    refine ⟨_, rfl, rfl, _, rfl, ite2 (fun c => ?_) (fun c2 => ?_)⟩
    · -- let
      cases ok with
      | lett =>
        obtain ⟨x, y, z, rfl, rfl, rfl⟩ := hfm
        obtain ⟨t0, t1, rfl⟩ := len2 (hs.len.symm.trans (show [y, z].length = 2 from rfl))
        have e1 : sizeL [t0, t1] = t0.size + (t1.size + 0) := rfl
        have l0 := met_len t0 gs
        cases hs with
        | cons hs0 hs1 =>
        cases hs1 with
        | cons hs1 _ =>
        refine ⟨_, rfl, a, _, 3, _, rfl, rfl, SqT.of ha, atI_nat (j := 3) rfl, _, rfl, _, rfl, sub hs0 (List.mem_cons_self ..) hg (Nat.le_succ _) hf hgf (by omega) fun H2 k2 f2 => ?_⟩
        have ha2 := k2 _ _ (ne_of ha hf (by intro z; cases z)) ha
        have hg2 := k2 _ _ hgf hg
        have tu2 := k2.tups hf
        refine ⟨_, rfl, a, _, 4, _, rfl, rfl, SqT.of ha2, atI_nat (j := 4) rfl, _, rfl, _, rfl, a, _, 2, _, rfl, rfl, SqT.of ha2, atI_nat (j := 2) rfl, (by show 1 ≤ sizeLine; decide), fun b hb => ?_⟩
        refine ⟨g, b, _, _, rfl, rfl, (same_new hb) _ _ hg2, upd_same, ?_, fun b2 hb2 => ?_⟩
        · rw [List.length_map]
          show gs.length + 1 ≤ sizeLine
          omega
        have sb := (same_new (o := .lst [.str x]) hb).tr (same_new (o := .lst (gs.map V.str ++ [.str x])) hb2)
        refine ⟨_, rfl, sub (gs1 := gs ++ [x]) (hs1.keep (tu2.trans sb.tups)) (List.mem_cons_of_mem _ (List.mem_cons_self ..)) ?_ ?_ (sb _ _ f2) (fun e => ?_) ?_ fun H3 k3 f3 => ?_⟩
        · rw [map_snoc_str]
          exact upd_same
        · rw [List.length_append]
          exact Nat.le_refl _
        · rw [← e] at f2
          have := ne_of_none (H := upd H2 b (.lst [.str x])) (by exact (same_new hb) _ _ f2) hb2
          exact this rfl
        · rw [List.length_append]
          omega
        · refine q H3 ((k2.trans (sb.kp)).trans k3) ?_
          rw [f3, List.append_assoc]
          show some (HO.lst ((old ++ (met t0 gs ++ met t1 (gs ++ [x]))).map V.str)) = some (HO.lst ((old ++ (met t0 gs ++ (met t1 (gs ++ [x]) ++ []))).map V.str))
          rw [List.append_nil]
      | _ => exact absurd c (by decide +kernel)
    refine ⟨_, rfl, rfl, _, rfl, ite2 (fun c => ?_) (fun c3 => ?_)⟩
    · -- each
      have e0 : ∀ {t0 t1 : Tr} {r : List Tr}, sizeL (t0 :: t1 :: r) = t0.size + (t1.size + sizeL r) := rfl
      obtain ⟨x, y, z, zt, r, rfl, rfl, rfl, hk⟩ : ∃ x y z zt r, v = .str x ∧ xs = [.str "each", .int n, y, .str x, z, zt] ∧ us = y :: z :: r ∧ ((kd = .each ∧ zt = .non ∧ r = []) ∨ (kd = .eachT ∧ r = [zt])) := by
        cases ok with
        | each => obtain ⟨x, y, z, rfl, rfl, rfl⟩ := hfm; exact ⟨x, y, z, _, _, rfl, rfl, rfl, .inl ⟨rfl, rfl, rfl⟩⟩
        | eachT => obtain ⟨x, y, z, t, rfl, rfl, rfl⟩ := hfm; exact ⟨x, y, z, _, _, rfl, rfl, rfl, .inr ⟨rfl, rfl⟩⟩
        | _ => exact absurd c (by decide +kernel)
      cases hs with
      | @cons _ _ t0 _ hs0 hs1 =>
      cases hs1 with
      | @cons _ _ t1 ts hs1 hs2 =>
      have l0 := met_len t0 (gs ++ [x])
      have l1 := met_len t1 gs
      have eL := e0 (t0 := t0) (t1 := t1) (r := ts)
      have g1l : (gs ++ [x]).length ≤ gs.length + 1 := by
        rw [List.length_append]
        exact Nat.le_refl _
      -- the body
      refine ⟨_, rfl, a, _, 2, _, rfl, rfl, SqT.of ha, atI_nat (j := 2) rfl, _, rfl, _, rfl, a, _, 3, _, rfl, rfl, SqT.of ha, atI_nat (j := 3) rfl, (by show 1 ≤ sizeLine; decide), fun b hb => ?_⟩
      refine ⟨g, b, _, _, rfl, rfl, (same_new hb) _ _ hg, upd_same, ?_, fun b2 hb2 => ?_⟩
      · rw [List.length_map]
        show gs.length + 1 ≤ sizeLine
        omega
      have sb := (same_new (o := .lst [.str x]) hb).tr (same_new (o := .lst (gs.map V.str ++ [.str x])) hb2)
      have nb2 : b2 ≠ fo := fun e => (ne_of_none (H := upd H1 b (.lst [.str x])) ((same_new hb) _ _ hf) hb2) e.symm
      have eb2 : (upd (upd H1 b (.lst [.str x])) b2 (.lst (gs.map V.str ++ [.str x]))) b2 = some (.lst ((gs ++ [x]).map V.str)) := by
        rw [map_snoc_str]
        exact upd_same
      refine ⟨_, rfl, sub (gs1 := gs ++ [x]) (hs0.keep sb.tups) (List.mem_cons_self ..) eb2 g1l (sb _ _ hf) nb2 (by omega) fun H3 k3 f3 => ?_⟩
      have tu3 : Tups H1 H3 := sb.tups.trans (k3.tups (sb _ _ hf))
      have kk3 : Kp fo H1 H3 := sb.kp.trans k3
      have ha3 := tu3 _ _ ha
      have hg3 := kk3 _ _ hgf hg
      -- the source
      refine ⟨_, rfl, a, _, 4, _, rfl, rfl, SqT.of ha3, atI_nat (j := 4) rfl, _, rfl, _, rfl, sub (hs1.keep tu3) (List.mem_cons_of_mem _ (List.mem_cons_self ..)) hg3 (Nat.le_succ _) f3 hgf ?_ fun H4 k4 f4 => ?_⟩
      · rw [List.length_append]
        omega
      have tu4 := tu3.trans (k4.tups f3)
      have kk4 := kk3.trans k4
      have ha4 := tu4 _ _ ha
      have hg4 := kk4 _ _ hgf hg
      rcases hk with ⟨rfl, rfl, rfl⟩ | ⟨rfl, rfl⟩
      · cases hs2
        refine ⟨_, rfl, a, _, 5, _, rfl, rfl, SqT.of ha4, atI_nat (j := 5) rfl, rfl, _, rfl, ite2 (fun z => absurd z (by decide)) (fun _ => ?_)⟩
        refine q _ kk4 ?_
        rw [f4, List.append_assoc]
        show some (HO.lst ((old ++ (met t0 (gs ++ [x]) ++ met t1 gs)).map V.str)) = some (HO.lst ((old ++ (met t0 (gs ++ [x]) ++ (met t1 gs ++ []))).map V.str))
        rw [List.append_nil]
      · cases hs2 with
        | @cons _ _ t2 _ hs2 hs3 =>
        cases hs3
        have l2 := met_len t2 (gs ++ [x])
        have eL2 : sizeL [t2] = t2.size + 0 := rfl
        have nzt : zt ≠ .non := fun e => by
          subst e
          cases hs2
        refine ⟨_, rfl, a, _, 5, _, rfl, rfl, SqT.of ha4, atI_nat (j := 5) rfl, rfl, _, rfl, ite2 (fun _ => ?_) (fun z => absurd (by rw [decide_eq_false nzt]; rfl) z)⟩
        refine ⟨_, rfl, a, _, 5, _, rfl, rfl, SqT.of ha4, atI_nat (j := 5) rfl, _, rfl, _, rfl, a, _, 3, _, rfl, rfl, SqT.of ha4, atI_nat (j := 3) rfl, (by show 1 ≤ sizeLine; decide), fun b5 hb5 => ?_⟩
        refine ⟨g, b5, _, _, rfl, rfl, (same_new hb5) _ _ hg4, upd_same, ?_, fun b6 hb6 => ?_⟩
        · rw [List.length_map]
          show gs.length + 1 ≤ sizeLine
          omega
        have sb6 := (same_new (o := .lst [.str x]) hb5).tr (same_new (o := .lst (gs.map V.str ++ [.str x])) hb6)
        have nb6 : b6 ≠ fo := fun e => (ne_of_none (H := upd H4 b5 (.lst [.str x])) ((same_new hb5) _ _ f4) hb6) e.symm
        have eb6 : (upd (upd H4 b5 (.lst [.str x])) b6 (.lst (gs.map V.str ++ [.str x]))) b6 = some (.lst ((gs ++ [x]).map V.str)) := by
          rw [map_snoc_str]
          exact upd_same
        refine ⟨_, rfl, sub (gs1 := gs ++ [x]) (hs2.keep (tu4.trans sb6.tups)) (List.mem_cons_of_mem _ (List.mem_cons_of_mem _ (List.mem_cons_self ..))) eb6 g1l (sb6 _ _ f4) nb6 ?_ fun H7 k7 f7 => ?_⟩
        · rw [List.length_append, List.length_append]
          omega
        · refine q _ (kk4.trans (sb6.kp.trans k7)) ?_
          rw [f7, List.append_assoc, List.append_assoc]
          show some (HO.lst ((old ++ (met t0 (gs ++ [x]) ++ (met t1 gs ++ met t2 (gs ++ [x])))).map V.str)) = some (HO.lst ((old ++ (met t0 (gs ++ [x]) ++ (met t1 gs ++ (met t2 (gs ++ [x]) ++ [])))).map V.str))
          rw [List.append_nil]
    · -- all others
      have hgp : ∀ i g, giv kd i v g = g := by
        intro i g
        cases ok with
        | lett => exact absurd (by decide +kernel) c2
        | each | eachT => exact absurd (by decide +kernel) c3
        | _ => rfl
      rw [metL_plain hgp] at q
      have nz : 0 < xs.length := by
        cases xs with
        | nil => cases h0
        | cons _ _ => exact Nat.succ_pos _
      -- what is gone through: flat ones, then the parts
      obtain ⟨fl, hfl, hzs⟩ : ∃ fl : List V, (∀ z ∈ fl, Flat z) ∧ ((kd = .list ∧ fl = [] ∧ ∃ b, xs[2]? = some (.ref b) ∧ H1 b = some (.tup us)) ∨ (kd ≠ .list ∧ xs.drop 2 = fl ++ us)) := by
        cases ok with
        | l1 | l2 | l3 => obtain ⟨rfl, rfl, hv, _⟩ := hfm; exact ⟨[v], fun z hz => by rw [List.mem_singleton.mp hz]; exact hv, .inr ⟨fun z => (nomatch z), rfl⟩⟩
        | own => obtain ⟨x, y, rfl, rfl, rfl⟩ := hfm; exact ⟨[.str x], fun z hz => by rw [List.mem_singleton.mp hz]; exact .str x, .inr ⟨fun z => (nomatch z), rfl⟩⟩
        | sign => obtain ⟨x, y, z, rfl, rfl, rfl⟩ := hfm; exact ⟨[.str x], fun z hz => by rw [List.mem_singleton.mp hz]; exact .str x, .inr ⟨fun z => (nomatch z), rfl⟩⟩
        | u1 | u2 => obtain ⟨x, _, rfl, rfl, _⟩ := hfm; exact ⟨[], fun z hz => by simp at hz, .inr ⟨fun z => (nomatch z), rfl⟩⟩
        | b1 | b2 | b3 => obtain ⟨x, y, _, rfl, rfl, _⟩ := hfm; exact ⟨[], fun z hz => by simp at hz, .inr ⟨fun z => (nomatch z), rfl⟩⟩
        | ite => obtain ⟨x, y, z, _, rfl, rfl⟩ := hfm; exact ⟨[], fun z hz => by simp at hz, .inr ⟨fun z => (nomatch z), rfl⟩⟩
        | list => obtain ⟨b, _, rfl, hb⟩ := hfm; exact ⟨[], fun z hz => by simp at hz, .inl ⟨rfl, rfl, b, rfl, hb⟩⟩
        | nam | call => exact absurd (by decide +kernel) c1
        | lett => exact absurd (by decide +kernel) c2
        | each | eachT => exact absurd (by decide +kernel) c3
      refine ⟨_, rfl, 2, rfl, a, xs, rfl, SqT.of ha, fun w => absurd w (not_whole (k := 2) (hi := none) nz (by decide)), fun _ p2 hp2 => ?_⟩
      have s2 := same_new (o := HO.tup (cutV xs (some ((2 : Nat) : Int)) none)) hp2
      have e2 : (upd H1 p2 (HO.tup (cutV xs (some ((2 : Nat) : Int)) none))) p2 = some (.tup (xs.drop 2)) := cut_at (n := 2) rfl
      have ha2 := s2 _ _ ha
      have hg2 := s2 _ _ hg
      have hf2 := s2 _ _ hf
      have hs2 := hs.keep s2.tups
      have k2 : Kp fo H1 _ := s2.kp
      have hzs2 : ((kd = .list ∧ fl = [] ∧ ∃ b, xs[2]? = some (.ref b) ∧ (upd H1 p2 (HO.tup (cutV xs (some ((2 : Nat) : Int)) none))) b = some (.tup us)) ∨ (kd ≠ .list ∧ xs.drop 2 = fl ++ us)) := by
        rcases hzs with ⟨h1, h2, b, h3, h4⟩ | h
        · exact .inl ⟨h1, h2, b, h3, s2 _ _ h4⟩
        · exact .inr h
      generalize (upd H1 p2 (HO.tup (cutV xs (some ((2 : Nat) : Int)) none))) = H2 at *
      -- the tuple that is gone through
      refine ⟨fun σ' H' => H' = H2 ∧ ∃ b : Addr, σ' = [some (.ref a), some (.ref g), some (.ref fo), some (.str (kname kd)), none, none, some (.ref b)] ∧ H2 b = some (.tup (fl ++ us)), ?_, ?_⟩
      · refine ⟨_, rfl, rfl, _, rfl, ite2 (fun c => ?_) (fun c4 => ?_)⟩
        · rcases hzs2 with ⟨rfl, rfl, b, hx, hb⟩ | ⟨hn, _⟩
          · exact ⟨_, rfl, a, xs, 2, _, rfl, rfl, SqT.of ha2, atI_nat (j := 2) hx, rfl, b, rfl, hb⟩
          · cases ok with
            | list => exact absurd rfl hn
            | _ => exact absurd c (by decide +kernel)
        · rcases hzs2 with ⟨rfl, _, _⟩ | ⟨_, hd2⟩
          · exact absurd (by decide +kernel) c4
          · exact ⟨rfl, p2, rfl, by rw [← hd2]; exact e2⟩
      rintro σ' H' ⟨rfl, b, rfl, hb⟩
      have nb : b ≠ fo := ne_of hb hf2 (by intro z; cases z)
      refine ⟨_, rfl, b, rfl, ⟨_, SqT.of hb⟩, for_tup (a := b) (xs := fl ++ us) (fun j σ H3 => (∃ y4, σ = [some (.ref a), some (.ref g), some (.ref fo), some (.str (kname kd)), y4, none, some (.ref b)]) ∧ Kp fo H' H3 ∧ H3 fo = some (.lst ((old ++ metA (ps.take (j - fl.length)) gs).map V.str)))
        ⟨⟨none, rfl⟩, Kp.refl fo H', ?_⟩ (fun j σ H3 _ h => SqT.of (h.2.1 _ _ nb hb)) (fun j z σ H3 hz h => ?_) (fun σ H3 h => ?_)⟩
      · rw [hf2, Nat.zero_sub, List.take_zero]
        show some (HO.lst (old.map V.str)) = some (HO.lst ((old ++ []).map V.str))
        rw [List.append_nil]
      · obtain ⟨⟨y4, rfl⟩, k3, f3⟩ := h
        by_cases hj : j < fl.length
        · rw [List.getElem?_append_left hj] at hz
          have hfz := hfl z (List.mem_of_getElem? hz)
          have no : (Kp fo H' H3 ∧ H3 fo = some (.lst ((old ++ metA (ps.take (j + 1 - fl.length)) gs).map V.str))) := ⟨k3, by rw [f3, show j - fl.length = 0 by omega, show j + 1 - fl.length = 0 by omega]⟩
          cases hfz with
          | int i => exact ⟨_, rfl, _, _, _, _, false, rfl, .ty "tuple", .base (.int i), kit_ty (by decide +kernel), _, rfl, iteF ⟨⟨_, rfl⟩, no⟩⟩
          | bl i => exact ⟨_, rfl, _, _, _, _, false, rfl, .ty "tuple", .base (.bl i), kit_ty (by decide +kernel), _, rfl, iteF ⟨⟨_, rfl⟩, no⟩⟩
          | str i => exact ⟨_, rfl, _, _, _, _, false, rfl, .ty "tuple", .base (.str i), kit_ty (by decide +kernel), _, rfl, iteF ⟨⟨_, rfl⟩, no⟩⟩
        · rw [List.getElem?_append_right (by omega)] at hz
          obtain ⟨t0, ht0, hz0⟩ := (hs2.keep (k3.tups hf2)).get hz
          have l1 := sizeL_take ht0
          have l2 := metA_len gs (ps.take (j - fl.length))
          have hz1 := hz0
          cases hz1 with
          | @mk az xz uz _ _ _ _ haz _ _ =>
          refine ⟨_, rfl, _, _, _, _, true, rfl, .ty "tuple", .base (.tup haz), kit_ty (by decide +kernel), _, rfl, iteT ?_⟩
          refine ⟨_, rfl, _, rfl, _, rfl, sub hz0 (List.mem_of_getElem? ht0) (k3 _ _ hgf hg2) (Nat.le_succ _) f3 hgf ?_ fun H4 k4 f4 => ⟨⟨_, rfl⟩, k3.trans k4, ?_⟩⟩
          · rw [List.length_append]
            omega
          · rw [f4, show j + 1 - fl.length = j - fl.length + 1 by omega, metA_take ht0, List.append_assoc]
      · obtain ⟨⟨y4, rfl⟩, k3, f3⟩ := h
        refine q _ (k2.trans k3) ?_
        rw [f3, List.length_append, Nat.add_sub_cancel_left, hs2.len, List.take_length]
theorem ok_met {f : Addr} {fd : FuncData} (F : Fun K "_law_met" "_law_met" sMet f fd) (T : Bs mg) (g : mg "_law_met" = some (.ref f)) (b : Binds K fd ["_law_tree_here", "_law_given", "_law_found"] []) :
    ∀ d : Nat, FnOk P w K mg base CX0 (d + 1) f fd ["_law_tree_here", "_law_given", "_law_found"] (spMet d)
  | 0 => step_met (k := 0) F T ⟨f, fd, ⟨fun _ _ _ _ h => absurd h.1 (by decide), fun _ _ _ _ _ _ _ _ _ _ _ _ _ h => absurd h.1 (by decide)⟩, g, F.kp, b⟩
  | d + 1 => step_met (k := d + 1) F T ⟨f, fd, (ok_met F T g b d).imp fun _ _ _ _ h => h.2, g, F.kp, b⟩
end
end Lf
namespace Lf
open PySem PySem.Spec PyProof.Rows L2
theorem nodup_le : ∀ {l m : List Str}, l.Nodup → (∀ x ∈ l, x ∈ m) → l.length ≤ m.length
  | [], _, _, _ => Nat.zero_le _
  | x :: r, m, hn, hs => by
    have hx := hs x (List.mem_cons_self ..)
    have hn' := List.nodup_cons.mp hn
    have h := nodup_le (l := r) (m := m.erase x) hn'.2 fun y hy => (List.mem_erase_of_ne (fun e => hn'.1 (by rw [← e]; exact hy))).mpr (hs y (List.mem_cons_of_mem _ hy))
    rw [List.length_erase_of_mem hx] at h
    have := List.length_pos_of_mem hx
    show r.length + 1 ≤ m.length
    omega
/-! ### lists of texts as data -/
theorem strs_dp {K : PySem.W.Frag} {H : Hp} : ∀ l : List Str, DpAll K H (l.map V.str) (l.map PyData.str)
  | [] => .nil
  | x :: r => .cons (.str x) (strs_dp r)
theorem strs_lay : ∀ {l : List Str}, (∀ x ∈ l, SOk x) → PyData.canLayAll0 (l.map PyData.str) = true
  | [], _ => by simp [PyData.canLayAll0]
  | x :: r, h => by
    have h1 : PyData.canLay0 (.str x) = true := by
      simp only [PyData.canLay0]
      unfold PyData.strOk
      rw [← Array.all_toList, List.all_eq_true]
      exact fun c hc => decide_eq_true (h x (List.mem_cons_self ..) c hc)
    simp [PyData.canLayAll0, h1, strs_lay fun z hz => h z (List.mem_cons_of_mem _ hz)]
theorem strs_depth : ∀ l : List Str, PyData.depthAll (l.map PyData.str) ≤ 2
  | [] => by simp [PyData.depthAll]
  | x :: r => by
    have h1 := strs_depth r
    have h2 : PyData.depth (.str x) ≤ 1 := by simp [PyData.depth]
    simp only [List.map_cons, PyData.depthAll]
    omega
theorem strs_shaped {l : List Str} (h : ∀ x ∈ l, SOk x) : SeqAt.shaped (.list (l.map PyData.str)) = true := by
  have h1 := strs_depth l
  have h2 : PyData.depth (.list (l.map PyData.str)) ≤ 64 := by
    simp only [PyData.depth]
    omega
  unfold SeqAt.shaped
  rw [Bool.and_eq_true]
  refine ⟨?_, decide_eq_true h2⟩
  simp only [PyData.canLay0]
  exact strs_lay h
theorem strs_eqv (l : List Str) : PyData.eqv (.list (l.map PyData.str)) (.list (l.map PyData.str)) = true := by
  simp only [PyData.eqv]
  induction l with
  | nil => simp [PyData.eqvAll]
  | cons x r ih => simp [PyData.eqvAll, PyData.eqv, ih]
theorem uniq_ok {acc l : List Str} (h1 : ∀ x ∈ acc, SOk x) (h2 : ∀ x ∈ l, SOk x) : ∀ x ∈ uniq acc l, SOk x := fun x hx => by
  rcases (mem_uniq acc l).mp hx with h | h
  · exact h1 x h
  · exact h2 x h
section
variable {P : Program} {w : World} {K : PySem.W.Frag} {mg : Str → Option Value} {base : Heap}
abbrev sNames : Stmt := topS 11
theorem scNames : FnScope ["_law_tape_here", "_law_names_here", "_law_k", "_law_name_here"] ["_law_tape_here"] (defScope sNames) := ⟨rfl, rfl, rfl, by decide +kernel, rfl, by decide +kernel, by decide +kernel⟩
def spNames : Sp := fun vs H Q _ => ∃ a : Addr, vs = [.ref a] ∧ TapeAt H a ∧ ∀ (l : Addr) (ns : List Str) (H' : Hp), Kp a H H' → TapeAt H' a → H l = none → NamesAt H' l ns → Q (.ref l) H'
theorem ok_names {f : Addr} {fd : FuncData} (F : Fun K "_law_names" "_law_names" sNames f fd) (T : Bs mg) (c__law_digit : Callee P w K mg base 1 "_law_digit" ["_law_tape_here", "_law_many"] spDigit)
    (c__law_name : Callee P w K mg base 2 "_law_name" ["_law_tape_here"] spName) : FnOk P w K mg base CX0 3 f fd ["_law_tape_here"] spNames := by
  refine F.ok scNames (fun vs H Q E h => ?_) (fun cdv A outer s H vs Q E hr h => ?_)
  · obtain ⟨a, rfl, _⟩ := h
    rfl
  · obtain ⟨a, rfl, hT, q⟩ := h
    have nd := scNames.nd
    refine ⟨_, (pss_cons (ps_set (i := 1) nd rfl (Or.inr rfl) (pe_lst pa_nil))
  (pss_cons (ps_for PassesOwn.never rfl (pi_range1 (by rfl) T.range (pa_cons pe_int pa_nil)) (pg_name (i := 2) nd rfl (Or.inl rfl))
  (pss_cons (ps_set (i := 3) nd rfl (Or.inl rfl) (pe_own c__law_name (hr.mono (by omega)) (by rfl) (pa_cons (pv 0) pa_nil)))
  (pss_one (ps_if (pt_cmpR op_notIn_seq (pv 3) (pv 1) (by rfl))
  (pss_one (ps_expr (pe_bm PySem.F.plainAttrs_list PySem.F.slot_list_append PySem.F.type_list_append mt_append (pv 1) (pa_cons (pv 3) pa_nil))))
  pss_nil))))
  (pss_cons (ps_set (i := 1) nd rfl (Or.inr rfl) (pe_op op_cat (pv 1) (pe_lc (own := [("_law_name_here", 3)]) (g := gName 3) rfl nd (pi_list (pe_lst (pa_cons pe_str (pa_cons pe_str (pa_cons pe_str pa_nil))))) (blkOk_by (own := [("_law_name_here", 3)]) (N := ["_law_tape_here", "_law_names_here", "_law_k", "_law_name_here"]) (sc := defScope (topS 11)) (by decide +kernel)) (fun _ _ _ _ _ => (pg_name (i := 3) nd rfl (Or.inl rfl))) (fun _ _ _ _ _ => (pts_one (pt_cmpR (op_notIn_seq : OpR _ _ (rIn K true)) (pv 3) (pv 1) (by rfl)))) (fun _ _ _ _ _ => (pv 3)))))
  (pss_one (ps_ret (pe_slice sl_list (pv 1) po_none (po_some (pe_op op_add pe_int (pe_own c__law_digit (hr.mono (by omega)) (by rfl) (pa_cons (pv 0) (pa_cons pe_int pa_nil))))))))))), ?_⟩
    refine ⟨Nat.zero_le _, fun l hl => ?_⟩
    have hla : l ≠ a := hT.ne hl
    refine ⟨5, rfl, by decide, by decide, for_range (lo := 0) (n := 5) (fun i σ H' => ∃ (y2 y3 : Option V) (ns : List Str), σ = [some (.ref a), some (.ref l), y2, y3] ∧ Kp a H H' ∧ TapeAt H' a ∧ H' l = some (.lst (ns.map V.str)) ∧ ns.length ≤ i ∧ ∀ x ∈ ns, SOk x)
      ⟨none, none, [], rfl, (Kp.refl a H).new hl, hT.new hl, upd_same, Nat.le_refl 0, by simp⟩ (fun i σ H1 hi h => ?_) (fun σ H1 h => ?_)⟩
    · obtain ⟨y2, y3, ns, rfl, k1, t1, e1, l1, o1⟩ := h
      refine ⟨_, rfl, a, rfl, t1, fun x H2 k2 t2 _ hx => ?_⟩
      have e2 := k2 _ _ hla e1
      refine ⟨_, rfl, _, rfl, l, _, rfl, .inl (SqL.of e2), rfl, flat_strs ns, _, rfl, ite2 (fun c => ?_) (fun c => ?_)⟩
      · refine ⟨_, rfl, .inl ⟨rfl, _, SqL.of e2⟩, _, rfl, l, _, _, rfl, rfl, e2, ?_, _, _, ns ++ [x], rfl, (k1.trans k2).mutN hl, t2.mut hla, ?_, ?_, fun z hz => ?_⟩
        · rw [List.length_map]
          exact small1000 (by omega)
        · rw [upd_same, map_snoc_str]
        · rw [List.length_append]
          exact Nat.succ_le_succ l1
        · rcases List.mem_append.mp hz with hz | hz
          · exact o1 z hz
          · rw [List.mem_singleton.mp hz]
            exact hx
      · exact ⟨_, _, ns, rfl, k1.trans k2, t2, e2, Nat.le_succ_of_le l1, o1⟩
    · obtain ⟨y2, y3, ns, rfl, k1, t1, e1, l1, o1⟩ := h
      -- names + [..]
      refine ⟨_, rfl, (by show 3 ≤ sizeLine; decide), fun p hp => ?_⟩
      have s1 := same_new (o := .lst [.str "xa", .str "xb", .str "xc"]) hp
      refine ⟨p, rfl, ⟨_, SqL.of upd_same⟩, fun D hD => ?_⟩
      have hDl : D ≠ l := fun e => by
        rw [e, s1 _ _ e1] at hD
        cases hD
      refine lc_list (a := p) (xs := [.str "xa", .str "xb", .str "xc"]) (fun i H' => (upd H1 p (.lst [.str "xa", .str "xb", .str "xc"])) D = none ∧ Same (upd H1 p (.lst [.str "xa", .str "xb", .str "xc"])) H' ∧ H' D = some (.lst (((([("xa" : Str), "xb", "xc"]).take i).filter fun x => decide (x ∉ ns)).map V.str)))
        ⟨hD, same_new hD, upd_same⟩ (fun i H' _ h => h.2.1.seq (SqL.of upd_same)) (fun i z H' hz h => ?_) (fun H' h => ?_)
      · obtain ⟨d0, s2, eD⟩ := h
        obtain ⟨x, hx, rfl⟩ : ∃ x : Str, ([("xa" : Str), "xb", "xc"])[i]? = some x ∧ z = .str x := by
          rcases i with _ | _ | _ | i
          · exact ⟨_, rfl, (Option.some.inj hz).symm⟩
          · exact ⟨_, rfl, (Option.some.inj hz).symm⟩
          · exact ⟨_, rfl, (Option.some.inj hz).symm⟩
          · simp at hz
        have et : (([("xa" : Str), "xb", "xc"]).take (i + 1)).filter (fun x => decide (x ∉ ns)) = (([("xa" : Str), "xb", "xc"]).take i).filter (fun x => decide (x ∉ ns)) ++ (if x ∉ ns then [x] else []) := by
          rw [List.take_add_one, hx, List.filter_append]
          congr 1
          show ([x].filter fun x => decide (x ∉ ns)) = _
          by_cases hm : x ∈ ns
          · rw [List.filter_cons_of_neg (by simp [hm]), if_neg (fun z => z hm)]
            rfl
          · rw [List.filter_cons_of_pos (by simp [hm]), if_pos hm]
            rfl
        have ls : ((([("xa" : Str), "xb", "xc"]).take i).filter fun x => decide (x ∉ ns)).length ≤ 3 := by
          refine Nat.le_trans (List.length_filter_le _ _) ?_
          rw [List.length_take]
          exact Nat.min_le_right _ _
        refine ⟨rfl, _, rfl, _, rfl, l, _, rfl, .inl (SqL.of (s2 _ _ (s1 _ _ e1))), rfl, flat_strs ns, _, rfl, ite2 (fun c => ?_) (fun c => ?_)⟩
        · have hx' : x ∉ ns := fun hm => by
            have c' : (!inV (.str x) (ns.map V.str)) = true := c
            rw [inV_str.mpr hm] at c'
            exact absurd c' (by decide)
          refine ⟨_, rfl, _, eD, ?_, d0, s2.mutN d0, ?_⟩
          · rw [List.length_map]
            exact small1000 (by omega)
          · rw [upd_same, et, if_pos hx', map_snoc_str]
        · have hx' : x ∈ ns := by
            by_cases hm : x ∈ ns
            · exact hm
            · refine absurd ?_ c
              have h1 : inV (.str x) (ns.map V.str) = false := by
                cases e : inV (.str x) (ns.map V.str) with
                | false => rfl
                | true => exact absurd (inV_str.mp e) hm
              show (!inV (.str x) (ns.map V.str)) = true
              rw [h1]
              rfl
          refine ⟨d0, s2, ?_⟩
          rw [et, if_neg (fun z => z hx'), List.append_nil]
          exact eD
      · obtain ⟨d0, s2, eD⟩ := h
        have eD' : H' D = some (.lst ((([("xa" : Str), "xb", "xc"]).filter fun x => decide (x ∉ ns)).map V.str)) := eD
        have e2 := s2 _ _ (s1 _ _ e1)
        have k2 : Kp a H H' := k1.trans (s1.tr s2).kp
        have t2 : TapeAt H' a := by
          obtain ⟨u, v, e, r⟩ := t1
          exact ⟨u, v, s2 _ _ (s1 _ _ e), r⟩
        have lsm : ((([("xa" : Str), "xb", "xc"]).filter fun x => decide (x ∉ ns))).length ≤ 3 := List.length_filter_le _ _
        refine ⟨l, D, _, _, rfl, rfl, e2, eD', ?_, fun p2 hp2 => ?_⟩
        · rw [List.length_map, List.length_map]
          exact Nat.le_of_lt (small1000 (by omega))
        have s3 := same_new (o := .lst (ns.map V.str ++ ((([("xa" : Str), "xb", "xc"]).filter fun x => decide (x ∉ ns)).map V.str))) hp2
        have big : ∀ n : Int, n ≤ 1000 → n ≤ 10 ^ 60 := fun n hn => Int.le_trans hn (by decide +kernel)
        have t3 := t2.new (o := .lst (ns.map V.str ++ ((([("xa" : Str), "xb", "xc"]).filter fun x => decide (x ∉ ns)).map V.str))) hp2
        have hp2a : p2 ≠ a := t2.ne hp2
        refine ⟨_, rfl, .ref a, rfl, a, 3, rfl, t3, by decide, big _ (by decide), fun v H4 k4 t4 b0 b1 => ?_⟩
        have e5 := k4 _ _ hp2a upd_same
        obtain ⟨m, rfl⟩ := Int.eq_ofNat_of_zero_le b0
        refine ⟨3, (m : Int), rfl, rfl, 3 + (m : Int), rfl, p2, _, rfl, SqL.of e5, fun r hr => ?_⟩
        have kA : Kp a H H4 := (k2.trans s3.kp).trans k4
        have eL : cutV (ns.map V.str ++ ((([("xa" : Str), "xb", "xc"]).filter fun x => decide (x ∉ ns)).map V.str)) none (some (3 + (m : Int))) = ((ns ++ (([("xa" : Str), "xb", "xc"]).filter fun x => decide (x ∉ ns))).take (3 + m)).map V.str := by
          have e6 : (3 : Int) + (m : Int) = ((3 + m : Nat) : Int) := by omega
          rw [e6, cut_take, ← List.map_append, List.map_take]
        rw [eL]
        have l3 : 3 ≤ (ns ++ (([("xa" : Str), "xb", "xc"]).filter fun x => decide (x ∉ ns))).length := by
          refine nodup_le (l := [("xa" : Str), "xb", "xc"]) (by decide +kernel) fun x hx => ?_
          by_cases hm : x ∈ ns
          · exact List.mem_append_left _ hm
          · exact List.mem_append_right _ (List.mem_filter.mpr ⟨hx, decide_eq_true hm⟩)
        have l8 : (ns ++ (([("xa" : Str), "xb", "xc"]).filter fun x => decide (x ∉ ns))).length ≤ 8 := by
          rw [List.length_append]
          omega
        refine q r _ _ (kA.new hr) (t4.new hr) (kA.fresh hr (t4.ne hr)) ⟨upd_same, ?_, ?_, fun x hx => ?_⟩
        · rw [List.length_take]
          omega
        · rw [List.length_take]
          omega
        · rcases List.mem_append.mp (List.mem_of_mem_take hx) with hx | hx
          · exact o1 x hx
          · exact (by decide +kernel : ∀ x ∈ [("xa" : Str), "xb", "xc"], SOk x) x (List.mem_filter.mp hx).1
end
end Lf
namespace Lf
open PySem PySem.Spec PyProof.Rows L2
section
variable {P : Program} {w : World} {K : PySem.W.Frag} {mg : Str → Option Value} {base : Heap}
abbrev sLaw : Stmt := topS 14
theorem scLaw : FnScope ["_law_script", "_law_start", "_law_tape_here", "_law_turn", "_law_names_here", "_law_tree_here", "_law_params", "_law_met_here", "_law_due", "_law_again", "_law_found", "_law_k", "_law_name_here"] ["_law_script"] (defScope sLaw) := ⟨rfl, rfl, rfl, by decide +kernel, rfl, by decide +kernel, by decide +kernel⟩
def spLaw (K : PySem.W.Frag) : Sp := fun vs H Q _ => ∃ (a : Addr) (ns : List Int), vs = [.ref a] ∧ SqL K H a (ns.map V.int) ∧ ns.length ≤ 63 ∧ ∀ H', Q (.bl true) H'
theorem ok_law {f : Addr} {fd : FuncData} (F : Fun K "law" "law" sLaw f fd) (T : Bs mg) (c__law_digit : Callee P w K mg base 1 "_law_digit" ["_law_tape_here", "_law_many"] spDigit)
    (c__law_tape : Callee P w K mg base 1 "_law_tape" ["_law_script", "_law_start"] (spTape K)) (c__law_names : Callee P w K mg base 3 "_law_names" ["_law_tape_here"] spNames)
    (c__law_tree : Callee P w K mg base 8 "_law_tree" ["_law_tape_here", "_law_names_here", "_law_deep"] (spTree 5)) (c__law_met : Callee P w K mg base 8 "_law_met" ["_law_tree_here", "_law_given", "_law_found"] (spMet 6))
    (c_free : Callee P w K mg base 3 "free" ["tree", "params"] spFree) : FnOk P w K mg base CX0 9 f fd ["_law_script"] (spLaw K) := by
  refine F.ok scLaw (fun vs H Q E h => ?_) (fun cdv A outer s H vs Q E hr h => ?_)
  · obtain ⟨a, ns, rfl, _⟩ := h
    rfl
  · obtain ⟨sa, ns, rfl, hS, hlen, q⟩ := h
    have nd := scLaw.nd
    refine ⟨_, (pss_cons (ps_for PassesOwn.never rfl (pi_range1 (by rfl) T.range (pa_cons (pe_callB (call_max2 rfl) (by rfl) T.max (by decide +kernel) (pa_cons pe_int (pa_cons (pe_callB (call_min2 rfl) (by rfl) T.min (by decide +kernel) (pa_cons pe_int (pa_cons (pe_callB call_len_seq (by rfl) T.len PySem.boot_len (pa_cons (pv 0) pa_nil)) pa_nil))) pa_nil))) pa_nil)) (pg_name (i := 1) nd rfl (Or.inl rfl))
  (pss_cons (ps_set (i := 2) nd rfl (Or.inl rfl) (pe_own c__law_tape (hr.mono (by omega)) (by rfl) (pa_cons (pv 0) (pa_cons (pv 1) pa_nil))))
  (pss_one (ps_for PassesOwn.never rfl (pi_range1 (by rfl) T.range (pa_cons pe_int pa_nil)) (pg_name (i := 3) nd rfl (Or.inl rfl))
  (pss_cons (ps_set (i := 4) nd rfl (Or.inl rfl) (pe_own c__law_names (hr.mono (by omega)) (by rfl) (pa_cons (pv 2) pa_nil)))
  (pss_cons (ps_set (i := 5) nd rfl (Or.inl rfl) (pe_own c__law_tree (hr.mono (by omega)) (by rfl) (pa_cons (pv 2) (pa_cons (pv 4) (pa_cons (pe_own c__law_digit (hr.mono (by omega)) (by rfl) (pa_cons (pv 2) (pa_cons pe_int pa_nil))) pa_nil)))))
  (pss_cons (ps_set (i := 6) nd rfl (Or.inl rfl) (pe_callTy call_tuple_of (by rfl) T.tuple (by decide +kernel) (pa_cons (pe_slice sl_list (pv 4) po_none (po_some (pe_own c__law_digit (hr.mono (by omega)) (by rfl) (pa_cons (pv 2) (pa_cons pe_int pa_nil))))) pa_nil)))
  (pss_cons (ps_set (i := 7) nd rfl (Or.inr rfl) (pe_lst pa_nil))
  (pss_cons (ps_expr (pe_own c__law_met (hr.mono (by omega)) (by rfl) (pa_cons (pv 5) (pa_cons (pe_callTy call_list_of (by rfl) T.list (by decide +kernel) (pa_cons (pv 6) pa_nil)) (pa_cons (pv 7) pa_nil)))))
  (pss_cons (ps_setLc (i := 8) (own := [("_law_k", 11), ("_law_name_here", 12)]) (g := gTup K 2 (gCons (gName 11) (gCons (gName 12) gNil))) rfl nd rfl rfl (sw_true rfl rfl rfl (by decide +kernel)) (pi_enum (by rfl) T.enumerate (pa_cons (pv 7) pa_nil)) (blkOk_by (own := [("_law_k", 11), ("_law_name_here", 12)]) (N := ["_law_script", "_law_start", "_law_tape_here", "_law_turn", "_law_names_here", "_law_tree_here", "_law_params", "_law_met_here", "_law_due", "_law_again", "_law_found", "_law_k", "_law_name_here"]) (sc := defScope (topS 14)) (by decide +kernel)) (fun _ _ _ _ _ => (pg_tup rfl (pgs_cons (pg_name (i := 11) nd rfl (Or.inl rfl)) (pgs_cons (pg_name (i := 12) nd rfl (Or.inl rfl)) pgs_nil)))) (fun _ _ _ _ _ => (pts_one (pt_cmpR (op_notIn_seq : OpR _ _ (rIn K true)) (pv 12) (pe_slice (sl_list : SlR _ (rSlL K)) (pv 7) po_none (po_some (pv 11))) (by rfl)))) (fun _ _ _ _ _ => (pv 12)))
  (pss_one (ps_for PassesOwn.never rfl (pi_range1 (by rfl) T.range (pa_cons pe_int pa_nil)) (pg_name (i := 9) nd rfl (Or.inl rfl))
  (pss_cons (ps_set (i := 10) nd rfl (Or.inl rfl) (pe_own c_free (hr.mono (by omega)) (by rfl) (pa_cons (pv 5) (pa_cons (pv 6) pa_nil))))
  (pss_cons (ps_if (PW.pt (pw_or (pt_cmpR (op_neD hr.units) (pv 10) (pv 8) (nomark _)) (pw_or1 (pt_not (pt_val (pe_callB call_isi (by rfl) T.isinstance (by decide +kernel) (pa_cons (pv 10) (pa_cons (pe_bltn (v := V.ty "list") (u := Value.type "list") (by rfl) T.list (by decide +kernel) rfl) pa_nil))))))))
  (pss_one (ps_ret pe_bl))
  pss_nil)
  (pss_one (ps_expr (pe_bm PySem.F.plainAttrs_list PySem.F.slot_list_append PySem.F.type_list_append mt_append (pv 10) (pa_cons pe_str pa_nil))))))))))))))))))
  (pss_one (ps_ret pe_bl))), ?_⟩
    have big : ∀ n : Int, n ≤ 1000 → n ≤ 10 ^ 60 := fun n hn => Int.le_trans hn (by decide +kernel)
    refine ⟨.ref sa, rfl, sa, _, rfl, .inl hS, 5, _, rfl, 1, _, rfl, ?_⟩
    rw [List.length_map]
    generalize hm : (if (if ((ns.length : Nat) : Int) < 5 then ((ns.length : Nat) : Int) else 5) > 1 then (if ((ns.length : Nat) : Int) < 5 then ((ns.length : Nat) : Int) else 5) else 1) = m
    have hm1 : 1 ≤ m ∧ m ≤ 5 := by
      rw [← hm]
      constructor <;> (repeat' split) <;> omega
    refine ⟨m, rfl, by omega, by omega, for_range (lo := 0) (n := m.toNat) (fun i σ H' => (∃ y1 y2 y3 y4 y5 y6 y7 y8 y9 y10 y11 y12, σ = [some (.ref sa), y1, y2, y3, y4, y5, y6, y7, y8, y9, y10, y11, y12]) ∧ Same H H')
      ⟨⟨none, none, none, none, none, none, none, none, none, none, none, none, rfl⟩, same_refl H⟩ (fun i σ H1 hi h => ?_) (fun σ H1 h => q _)⟩
    obtain ⟨⟨y1, y2, y3, y4, y5, y6, y7, y8, y9, y10, y11, y12, rfl⟩, s1⟩ := h
    refine ⟨_, rfl, _, rfl, sa, ns, _, rfl, s1.seq hS, by omega, by omega, fun a H2 s2 ha t2 => ?_⟩
    have ha0 : H a = none := s1.fresh ha
    have s02 := s1.tr s2
    refine ⟨5, rfl, by decide, by decide, for_range (lo := 0) (n := 5) (fun i σ H' => (∃ y1 y3 y4 y5 y6 y7 y8 y9 y10 y11 y12, σ = [some (.ref sa), y1, some (.ref a), y3, y4, y5, y6, y7, y8, y9, y10, y11, y12]) ∧ Same H H' ∧ TapeAt H' a)
      ⟨⟨_, _, _, _, _, _, _, _, _, _, _, rfl⟩, s02, t2⟩ (fun j σ H3 hj h => ?_) (fun σ H3 h => ?_)⟩
    · obtain ⟨⟨z1, z3, z4, z5, z6, z7, z8, z9, z10, z11, z12, rfl⟩, s3, t3⟩ := h
      -- what keeps the tape apart keeps all of H
      have smt : ∀ {H' H'' : Hp}, Same H H' → Kp a H' H'' → Same H H'' := fun s k b o e => k b o (fun z => by rw [z, ha0] at e; cases e) (s b o e)
      refine ⟨_, rfl, a, rfl, t3, fun l nms H4 k4 t4 hl hN => ?_⟩
      have hla : l ≠ a := t3.ne hl
      have s4 := smt s3 k4
      refine ⟨_, rfl, _, rfl, .ref a, rfl, a, 6, rfl, t4, by decide, big _ (by decide), fun d H5 k5 t5 d0 d1 => ?_⟩
      have s5 := smt s4 k5
      refine ⟨a, l, nms, d, rfl, t5, ⟨k5 _ _ hla hN.1, hN.2⟩, hla, d0, by omega, fun u t H6 k6 t6 hu fi => ?_⟩
      have s6 := smt s5 k6
      have hN6 : H6 l = some (.lst (nms.map V.str)) := k6 _ _ hla (k5 _ _ hla hN.1)
      -- params
      refine ⟨_, rfl, .ref a, rfl, a, 5, rfl, t6, by decide, big _ (by decide), fun d2 H7 k7 t7 e0 e1 => ?_⟩
      have s7 := smt s6 k7
      have hN7 := k7 _ _ hla hN6
      obtain ⟨m2, rfl⟩ := Int.eq_ofNat_of_zero_le e0
      refine ⟨(m2 : Int), rfl, l, _, rfl, SqL.of hN7, fun p8 hp8 => ?_⟩
      rw [cut_take, ← List.map_take]
      have hu7 := hu.keep (t6.tups k7)
      generalize hgs : nms.take m2 = gs
      have gl : gs.length ≤ 10 := by
        rw [← hgs, List.length_take]
        have := hN.2.2.1
        omega
      refine ⟨p8, _, rfl, .inl ⟨SqL.of upd_same, fun g hg => ?_⟩⟩
      have sA := (same_new (o := .lst (gs.map V.str)) hp8).tr (same_new (o := .tup (gs.map V.str)) hg)
      have s9 := s7.tr sA
      have hu9 := hu7.keep sA.tups
      have t9 : TapeAt (upd (upd H7 p8 (.lst (gs.map V.str))) g (.tup (gs.map V.str))) a := by
        obtain ⟨u', v', e, r⟩ := t7
        exact ⟨u', v', sA _ _ e, r⟩
      have hg9 : (upd (upd H7 p8 (.lst (gs.map V.str))) g (.tup (gs.map V.str))) g = some (.tup (gs.map V.str)) := upd_same
      generalize (upd (upd H7 p8 (.lst (gs.map V.str))) g (.tup (gs.map V.str))) = H9 at *
      -- met
      refine ⟨Nat.zero_le _, fun fo hfo => ?_⟩
      have s10 := same_new (o := .lst []) hfo
      have hfo0 : H fo = none := s9.fresh hfo
      refine ⟨_, rfl, _, rfl, g, _, rfl, .inr (SqT.of (s10 _ _ hg9)), fun gl2 hgl2 => ?_⟩
      have s11 := same_new (o := .lst (gs.map V.str)) hgl2
      have hgf : gl2 ≠ fo := fun e => (ne_of_none (H := upd H9 fo (.lst [])) upd_same hgl2) e.symm
      have s911 := s10.tr s11
      refine ⟨_, rfl, u, t, gl2, fo, gs, [], rfl, hu9.keep s911.tups, fi.1, upd_same, ?_, s11 _ _ upd_same, hgf, ?_, fun H12 k12 f12 => ?_⟩
      · have := fi.1
        omega
      · have h1 := fi.2.1
        have h2 : (5 : Nat) ^ (5 + 1) = 15625 := by decide
        rw [h2] at h1
        show 0 + t.size ≤ 100000
        omega
      have f12' : H12 fo = some (.lst ((met t gs).map V.str)) := f12
      have s12 : Same H9 H12 := fun b o e => k12 b o (fun z => by rw [z, hfo] at e; cases e) (s911 b o e)
      have hu12 := hu9.keep s12.tups
      have hg12 := s12 _ _ hg9
      have mok := met_ok t gs fi.2.2
      have ml : (met t gs).length ≤ 15625 := by
        have h1 := met_len t gs
        have h2 := fi.2.1
        have h3 : (5 : Nat) ^ (5 + 1) = 15625 := by decide
        rw [h3] at h2
        omega
      -- due
      refine ⟨_, rfl, fo, _, rfl, SqL.of f12', fun D hD => ?_⟩
      have hDf : D ≠ fo := fun e => by
        rw [e, f12'] at hD
        cases hD
      refine lc_enum (a := fo) (xs := (met t gs).map V.str) (fun i H' => H12 D = none ∧ Same H12 H' ∧ H' D = some (.lst ((uniq [] ((met t gs).take i)).map V.str)))
        ⟨hD, same_new hD, upd_same⟩ (fun i H' h => h.2.1.seq (SqL.of f12')) (fun i z T' H' hz hT' h => ?_) (fun H' h => ?_)
      · obtain ⟨dn, sD, eD⟩ := h
        obtain ⟨x, hx, rfl⟩ : ∃ x : Str, (met t gs)[i]? = some x ∧ z = .str x := by
          rw [List.getElem?_map] at hz
          cases e : (met t gs)[i]? with
          | none => rw [e] at hz; cases hz
          | some x => rw [e] at hz; exact ⟨x, rfl, (Option.some.inj hz).symm⟩
        have sT := same_new (o := .tup [.int (i : Nat), .str x]) hT'
        have eDT := sT _ _ eD
        have eF := sT _ _ (sD _ _ f12')
        have et : uniq [] ((met t gs).take (i + 1)) = if x ∈ (met t gs).take i then uniq [] ((met t gs).take i) else uniq [] ((met t gs).take i) ++ [x] := by
          rw [List.take_add_one, hx, uniq_app]
          show (if x ∈ uniq [] ((met t gs).take i) then _ else _) = _
          by_cases hm : x ∈ (met t gs).take i
          · rw [if_pos hm, if_pos ((mem_uniq _ _).mpr (.inr hm))]
          · rw [if_neg hm, if_neg fun h => ?_]
            rcases (mem_uniq _ _).mp h with h | h
            · cases h
            · exact hm h
        have lu : (uniq [] ((met t gs).take i)).length ≤ 15625 := by
          have h1 := uniq_len [] ((met t gs).take i)
          have h2 : ((met t gs).take i).length ≤ (met t gs).length := by
            rw [List.length_take]
            exact Nat.min_le_right _ _
          have h3 : ([] : List Str).length = 0 := rfl
          omega
        refine ⟨T', _, rfl, SqT.of upd_same, rfl, _, _, rfl, _, _, rfl, rfl, rfl, _, rfl, _, rfl, _, rfl, (i : Int), rfl, fo, _, rfl, SqL.of eF, fun p13 hp13 => ?_⟩
        rw [cut_take, ← List.map_take]
        have s13 := same_new (o := .lst (((met t gs).take i).map V.str)) hp13
        refine ⟨p13, _, rfl, .inl (SqL.of upd_same), rfl, flat_strs _, _, rfl, ite2 (fun c => ?_) (fun c => ?_)⟩
        · have hx' : x ∉ (met t gs).take i := fun hm => by
            have c' : (!inV (.str x) (((met t gs).take i).map V.str)) = true := c
            rw [inV_str.mpr hm] at c'
            exact absurd c' (by decide)
          refine ⟨_, rfl, _, s13 _ _ eDT, ?_, dn, ((sD.tr sT).tr s13).mutN dn, ?_⟩
          · rw [List.length_map]
            exact Evl.sz_lt (by omega)
          · rw [upd_same, et, if_neg hx', map_snoc_str]
        · have hx' : x ∈ (met t gs).take i := by
            by_cases hm : x ∈ (met t gs).take i
            · exact hm
            · refine absurd ?_ c
              have h1 : inV (.str x) (((met t gs).take i).map V.str) = false := by
                cases e : inV (.str x) (((met t gs).take i).map V.str) with
                | false => rfl
                | true => exact absurd (inV_str.mp e) hm
              show (!inV (.str x) (((met t gs).take i).map V.str)) = true
              rw [h1]
              rfl
          refine ⟨dn, (sD.tr sT).tr s13, ?_⟩
          rw [et, if_pos hx']
          exact s13 _ _ eDT
      obtain ⟨dn, sD, eD⟩ := h
      rw [List.length_map, List.take_length] at eD
      have uok : ∀ x ∈ uniq [] (met t gs), SOk x := uniq_ok (fun x h => by cases h) mok
      have hu14 := hu12.keep sD.tups
      have hg14 := sD _ _ hg12
      have s14 : Same H H' := (s9.tr s12).tr sD
      have t14 : TapeAt H' a := by
        obtain ⟨u', v', e, r⟩ := t9
        exact ⟨u', v', sD _ _ (s12 _ _ e), r⟩
      -- free, twice
      refine ⟨2, rfl, by decide, by decide, for_range (lo := 0) (n := 2) (fun i σ H3 => (∃ y1 y3 y9 y10 y11 y12, σ = [some (.ref sa), y1, some (.ref a), y3, some (.ref l), some u, some (.ref g), some (.ref fo), some (.ref D), y9, y10, y11, y12]) ∧ Same H' H3)
        ⟨⟨_, _, _, _, _, _, rfl⟩, same_refl H'⟩ (fun i σ H3 hi h => ?_) (fun σ H3 h => ?_)⟩
      · obtain ⟨⟨w1, w3, w9, w10, w11, w12, rfl⟩, sL⟩ := h
        refine ⟨_, rfl, _, rfl, u, g, gs, t, rfl, hu14.keep sL.tups, ?_, sL _ _ hg14, ?_, fun p H4 s4' hp eP => ?_⟩
        · have h1 := fi.2.1
          have h2 : (5 : Nat) ^ (5 + 1) = 15625 := by decide
          rw [h2] at h1
          omega
        · have := fi.1
          omega
        refine ⟨_, rfl, _, rfl, .list ((uniq [] (met t gs)).map PyData.str), .list ((uniq [] (met t gs)).map PyData.str), .lst (SqL.of eP) (strs_dp _), .lst (SqL.of ((sL.tr s4') _ _ eD)) (strs_dp _), strs_shaped uok, strs_shaped uok, _, rfl, ?_⟩
        rw [strs_eqv]
        refine iteF ⟨_, rfl, _, _, _, _, true, rfl, .ty "list", .base (.lst eP), kit_ty (by decide +kernel), _, rfl, iteF ?_⟩
        have lu : (uniq [] (met t gs)).length ≤ 15625 := by
          have h1 := uniq_len [] (met t gs)
          have h3 : ([] : List Str).length = 0 := rfl
          omega
        refine ⟨_, rfl, .inl ⟨rfl, _, SqL.of eP⟩, p, _, _, rfl, rfl, eP, ?_, ⟨_, _, _, _, _, _, rfl⟩, (sL.tr s4').mutN (sL.fresh hp)⟩
        rw [List.length_map]
        exact Evl.sz_lt (by omega)
      · obtain ⟨⟨w1, w3, w9, w10, w11, w12, rfl⟩, sL⟩ := h
        refine ⟨⟨_, _, _, _, _, _, _, _, _, _, _, rfl⟩, s14.tr sL, ?_⟩
        obtain ⟨u', v', e, r⟩ := t14
        exact ⟨u', v', sL _ _ e, r⟩
    · obtain ⟨⟨z1, z3, z4, z5, z6, z7, z8, z9, z10, z11, z12, rfl⟩, s3, t3⟩ := h
      exact ⟨⟨_, _, _, _, _, _, _, _, _, _, _, _, rfl⟩, s3⟩
end
end Lf
namespace Lf
open PySem PySem.Spec PyProof.Rows L2
section
theorem all_mk {l : PySem.W.OpenLaw} {w : World} {K : PySem.W.Frag} {h : Heap} {mg : Str → Option Value} {fa : Addr} (X : K.In h) (G : h.Ns mainGlobals mg) (hfa : mg "law" = some (.ref fa))
    {od0 an0 : Option Addr} {sl0 : Array (Option Value)} {oc0 kV0 dc0 pm0 cd0 ct0 : Value} {f0 : Addr}
    {od1 an1 : Option Addr} {sl1 : Array (Option Value)} {oc1 kV1 dc1 pm1 cd1 ct1 : Value} {f1 : Addr}
    {od2 an2 : Option Addr} {sl2 : Array (Option Value)} {oc2 kV2 dc2 pm2 cd2 ct2 : Value} {f2 : Addr}
    {od3 an3 : Option Addr} {sl3 : Array (Option Value)} {oc3 kV3 dc3 pm3 cd3 ct3 : Value} {f3 : Addr}
    {od4 an4 : Option Addr} {sl4 : Array (Option Value)} {oc4 kV4 dc4 pm4 cd4 ct4 : Value} {f4 : Addr}
    {od5 an5 : Option Addr} {sl5 : Array (Option Value)} {oc5 kV5 dc5 pm5 cd5 ct5 : Value} {f5 : Addr}
    {od6 an6 : Option Addr} {sl6 : Array (Option Value)} {oc6 kV6 dc6 pm6 cd6 ct6 : Value} {f6 : Addr}
    {od7 an7 : Option Addr} {sl7 : Array (Option Value)} {oc7 kV7 dc7 pm7 cd7 ct7 : Value} {f7 : Addr}
    {od8 an8 : Option Addr} {sl8 : Array (Option Value)} {oc8 kV8 dc8 pm8 cd8 ct8 : Value} {f8 : Addr}
    {od9 an9 : Option Addr} {sl9 : Array (Option Value)} {oc9 kV9 dc9 pm9 cd9 ct9 : Value} {f9 : Addr}
    {od10 an10 : Option Addr} {sl10 : Array (Option Value)} {oc10 kV10 dc10 pm10 cd10 ct10 : Value} {f10 : Addr}
    (a0 : PySem.W.nsIn K mainGlobals "parts_of" = some (some (.ref f0))) (l0 : K.lookup f0 = some ⟨oc0, od0, .func (PySem.W.fnOf "parts_of" "parts_of" (defArgs (topS 1)) (defBody (topS 1)) (defScope (topS 1)) .none kV0 dc0 pm0 an0 cd0 ct0), sl0⟩) (c0 : PySem.W.codeIn K cd0 "parts_of" = true) (k0 : PySem.W.keepIn K (.ref f0) = true)
    (a1 : PySem.W.nsIn K mainGlobals "free" = some (some (.ref f1))) (l1 : K.lookup f1 = some ⟨oc1, od1, .func (PySem.W.fnOf "free" "free" (defArgs (topS 3)) (defBody (topS 3)) (defScope (topS 3)) .none kV1 dc1 pm1 an1 cd1 ct1), sl1⟩) (c1 : PySem.W.codeIn K cd1 "free" = true) (k1 : PySem.W.keepIn K (.ref f1) = true)
    (a2 : PySem.W.nsIn K mainGlobals "given_parts" = some (some (.ref f2))) (l2 : K.lookup f2 = some ⟨oc2, od2, .func (PySem.W.fnOf "given_parts" "given_parts" (defArgs (topS 4)) (defBody (topS 4)) (defScope (topS 4)) .none kV2 dc2 pm2 an2 cd2 ct2), sl2⟩) (c2 : PySem.W.codeIn K cd2 "given_parts" = true) (k2 : PySem.W.keepIn K (.ref f2) = true)
    (a3 : PySem.W.nsIn K mainGlobals "_law_tape" = some (some (.ref f3))) (l3 : K.lookup f3 = some ⟨oc3, od3, .func (PySem.W.fnOf "_law_tape" "_law_tape" (defArgs (topS 6)) (defBody (topS 6)) (defScope (topS 6)) .none kV3 dc3 pm3 an3 cd3 ct3), sl3⟩) (c3 : PySem.W.codeIn K cd3 "_law_tape" = true) (k3 : PySem.W.keepIn K (.ref f3) = true)
    (a4 : PySem.W.nsIn K mainGlobals "_law_digit" = some (some (.ref f4))) (l4 : K.lookup f4 = some ⟨oc4, od4, .func (PySem.W.fnOf "_law_digit" "_law_digit" (defArgs (topS 7)) (defBody (topS 7)) (defScope (topS 7)) .none kV4 dc4 pm4 an4 cd4 ct4), sl4⟩) (c4 : PySem.W.codeIn K cd4 "_law_digit" = true) (k4 : PySem.W.keepIn K (.ref f4) = true)
    (a5 : PySem.W.nsIn K mainGlobals "_law_name" = some (some (.ref f5))) (l5 : K.lookup f5 = some ⟨oc5, od5, .func (PySem.W.fnOf "_law_name" "_law_name" (defArgs (topS 8)) (defBody (topS 8)) (defScope (topS 8)) .none kV5 dc5 pm5 an5 cd5 ct5), sl5⟩) (c5 : PySem.W.codeIn K cd5 "_law_name" = true) (k5 : PySem.W.keepIn K (.ref f5) = true)
    (a6 : PySem.W.nsIn K mainGlobals "_law_closed_tree" = some (some (.ref f6))) (l6 : K.lookup f6 = some ⟨oc6, od6, .func (PySem.W.fnOf "_law_closed_tree" "_law_closed_tree" (defArgs (topS 9)) (defBody (topS 9)) (defScope (topS 9)) .none kV6 dc6 pm6 an6 cd6 ct6), sl6⟩) (c6 : PySem.W.codeIn K cd6 "_law_closed_tree" = true) (k6 : PySem.W.keepIn K (.ref f6) = true)
    (a7 : PySem.W.nsIn K mainGlobals "_law_tree" = some (some (.ref f7))) (l7 : K.lookup f7 = some ⟨oc7, od7, .func (PySem.W.fnOf "_law_tree" "_law_tree" (defArgs (topS 10)) (defBody (topS 10)) (defScope (topS 10)) .none kV7 dc7 pm7 an7 cd7 ct7), sl7⟩) (c7 : PySem.W.codeIn K cd7 "_law_tree" = true) (k7 : PySem.W.keepIn K (.ref f7) = true)
    (a8 : PySem.W.nsIn K mainGlobals "_law_names" = some (some (.ref f8))) (l8 : K.lookup f8 = some ⟨oc8, od8, .func (PySem.W.fnOf "_law_names" "_law_names" (defArgs (topS 11)) (defBody (topS 11)) (defScope (topS 11)) .none kV8 dc8 pm8 an8 cd8 ct8), sl8⟩) (c8 : PySem.W.codeIn K cd8 "_law_names" = true) (k8 : PySem.W.keepIn K (.ref f8) = true)
    (a9 : PySem.W.nsIn K mainGlobals "_law_met" = some (some (.ref f9))) (l9 : K.lookup f9 = some ⟨oc9, od9, .func (PySem.W.fnOf "_law_met" "_law_met" (defArgs (topS 13)) (defBody (topS 13)) (defScope (topS 13)) .none kV9 dc9 pm9 an9 cd9 ct9), sl9⟩) (c9 : PySem.W.codeIn K cd9 "_law_met" = true) (k9 : PySem.W.keepIn K (.ref f9) = true)
    (a10 : PySem.W.nsIn K mainGlobals "law" = some (some (.ref f10))) (l10 : K.lookup f10 = some ⟨oc10, od10, .func (PySem.W.fnOf "law" "law" (defArgs (topS 14)) (defBody (topS 14)) (defScope (topS 14)) .none kV10 dc10 pm10 an10 cd10 ct10), sl10⟩) (c10 : PySem.W.codeIn K cd10 "law" = true) (k10 : PySem.W.keepIn K (.ref f10) = true)
    (z0 : PySem.W.nsIn K mainGlobals "len" = some none)
    (z1 : PySem.W.nsIn K mainGlobals "range" = some none)
    (z2 : PySem.W.nsIn K mainGlobals "abs" = some none)
    (z3 : PySem.W.nsIn K mainGlobals "list" = some none)
    (z4 : PySem.W.nsIn K mainGlobals "tuple" = some none)
    (z5 : PySem.W.nsIn K mainGlobals "enumerate" = some none)
    (z6 : PySem.W.nsIn K mainGlobals "isinstance" = some none)
    (z7 : PySem.W.nsIn K mainGlobals "max" = some none)
    (z8 : PySem.W.nsIn K mainGlobals "min" = some none)
    : ∃ fd : FuncData, (∀ (s : Shared) (v : Value), BindsTo s fd ⟨[v], []⟩ [("_law_script", v)]) ∧ ∀ base : Heap, K.In base → base.Ns mainGlobals mg → FnOk l.prog w K mg base CX0 9 fa fd ["_law_script"] (spLaw K) := by
  have e := hfa.symm.trans (PySem.W.mg_of X G a10)
  cases e
  have T : Bs mg := ⟨PySem.W.mg_none_of X G z0, PySem.W.mg_none_of X G z1, PySem.W.mg_none_of X G z2, PySem.W.mg_none_of X G z3, PySem.W.mg_none_of X G z4, PySem.W.mg_none_of X G z5, PySem.W.mg_none_of X G z6, PySem.W.mg_none_of X G z7, PySem.W.mg_none_of X G z8⟩
  have F_parts_of := fun_mk (st := topS 1) l0 c0 k0
  have g_parts_of := PySem.W.mg_of X G a0
  have b_parts_of := F_parts_of.binds (ps := ["tree"]) fun _ _ _ _ _ _ us hl => match us, hl with | [_], _ => rfl
  have F_free := fun_mk (st := topS 3) l1 c1 k1
  have g_free := PySem.W.mg_of X G a1
  have b_free := F_free.binds (ps := ["tree", "params"]) fun _ _ _ _ _ _ us hl => match us, hl with | [_, _], _ => rfl
  have F_given_parts := fun_mk (st := topS 4) l2 c2 k2
  have g_given_parts := PySem.W.mg_of X G a2
  have b_given_parts := F_given_parts.binds (ps := ["tree", "given"]) fun _ _ _ _ _ _ us hl => match us, hl with | [_, _], _ => rfl
  have F__law_tape := fun_mk (st := topS 6) l3 c3 k3
  have g__law_tape := PySem.W.mg_of X G a3
  have b__law_tape := F__law_tape.binds (ps := ["_law_script", "_law_start"]) fun _ _ _ _ _ _ us hl => match us, hl with | [_, _], _ => rfl
  have F__law_digit := fun_mk (st := topS 7) l4 c4 k4
  have g__law_digit := PySem.W.mg_of X G a4
  have b__law_digit := F__law_digit.binds (ps := ["_law_tape_here", "_law_many"]) fun _ _ _ _ _ _ us hl => match us, hl with | [_, _], _ => rfl
  have F__law_name := fun_mk (st := topS 8) l5 c5 k5
  have g__law_name := PySem.W.mg_of X G a5
  have b__law_name := F__law_name.binds (ps := ["_law_tape_here"]) fun _ _ _ _ _ _ us hl => match us, hl with | [_], _ => rfl
  have F__law_closed_tree := fun_mk (st := topS 9) l6 c6 k6
  have g__law_closed_tree := PySem.W.mg_of X G a6
  have b__law_closed_tree := F__law_closed_tree.binds (ps := ["_law_tape_here", "_law_names_here"]) fun _ _ _ _ _ _ us hl => match us, hl with | [_, _], _ => rfl
  have F__law_tree := fun_mk (st := topS 10) l7 c7 k7
  have g__law_tree := PySem.W.mg_of X G a7
  have b__law_tree := F__law_tree.binds (ps := ["_law_tape_here", "_law_names_here", "_law_deep"]) fun _ _ _ _ _ _ us hl => match us, hl with | [_, _, _], _ => rfl
  have F__law_names := fun_mk (st := topS 11) l8 c8 k8
  have g__law_names := PySem.W.mg_of X G a8
  have b__law_names := F__law_names.binds (ps := ["_law_tape_here"]) fun _ _ _ _ _ _ us hl => match us, hl with | [_], _ => rfl
  have F__law_met := fun_mk (st := topS 13) l9 c9 k9
  have g__law_met := PySem.W.mg_of X G a9
  have b__law_met := F__law_met.binds (ps := ["_law_tree_here", "_law_given", "_law_found"]) fun _ _ _ _ _ _ us hl => match us, hl with | [_, _, _], _ => rfl
  have F_law := fun_mk (st := topS 14) l10 c10 k10
  have g_law := PySem.W.mg_of X G a10
  have b_law := F_law.binds (ps := ["_law_script"]) fun _ _ _ _ _ _ us hl => match us, hl with | [_], _ => rfl
  refine ⟨PySem.W.fnOf "law" "law" (defArgs (topS 14)) (defBody (topS 14)) (defScope (topS 14)) .none kV10 dc10 pm10 an10 cd10 ct10, fun s v => .of_eq rfl, fun base _ _ => ?_⟩
  have C_digit : Callee l.prog w K mg base 1 "_law_digit" ["_law_tape_here", "_law_many"] spDigit := ⟨_, _, ok_digit F__law_digit, g__law_digit, F__law_digit.kp, b__law_digit⟩
  have C_tape : Callee l.prog w K mg base 1 "_law_tape" ["_law_script", "_law_start"] (spTape K) := ⟨_, _, ok_tape F__law_tape T, g__law_tape, F__law_tape.kp, b__law_tape⟩
  have C_name : Callee l.prog w K mg base 2 "_law_name" ["_law_tape_here"] spName := ⟨_, _, ok_name F__law_name T C_digit, g__law_name, F__law_name.kp, b__law_name⟩
  have C_closed : Callee l.prog w K mg base 2 "_law_closed_tree" ["_law_tape_here", "_law_names_here"] spClosed := ⟨_, _, ok_closed F__law_closed_tree T C_digit, g__law_closed_tree, F__law_closed_tree.kp, b__law_closed_tree⟩
  have C_tree : Callee l.prog w K mg base 8 "_law_tree" ["_law_tape_here", "_law_names_here", "_law_deep"] (spTree 5) := ⟨_, _, ok_tree F__law_tree T C_digit C_closed g__law_tree b__law_tree 5, g__law_tree, F__law_tree.kp, b__law_tree⟩
  have C_names : Callee l.prog w K mg base 3 "_law_names" ["_law_tape_here"] spNames := ⟨_, _, ok_names F__law_names T C_digit C_name, g__law_names, F__law_names.kp, b__law_names⟩
  have C_met : Callee l.prog w K mg base 8 "_law_met" ["_law_tree_here", "_law_given", "_law_found"] (spMet 6) := ⟨_, _, (ok_met F__law_met T g__law_met b__law_met 6).mono (by decide), g__law_met, F__law_met.kp, b__law_met⟩
  have C_parts : Callee l.prog w K mg base 1 "parts_of" ["tree"] spParts := ⟨_, _, ok_parts F_parts_of T, g_parts_of, F_parts_of.kp, b_parts_of⟩
  have C_given : Callee l.prog w K mg base 2 "given_parts" ["tree", "given"] spGiven := ⟨_, _, ok_given F_given_parts T C_parts, g_given_parts, F_given_parts.kp, b_given_parts⟩
  have C_free : Callee l.prog w K mg base 3 "free" ["tree", "params"] spFree := ⟨_, _, ok_free F_free T C_given, g_free, F_free.kp, b_free⟩
  exact ok_law F_law T C_digit C_tape C_names C_tree C_met C_free
end
end Lf
open PySem PySem.W PyProof.Rows
set_option maxRecDepth 100000 in
set_option maxHeartbeats 0 in
theorem PySem.Challenge.cw_leafround_k26_names_that_are_free_holds : PySem.Challenge.rw_leafround_k26_names_that_are_free.Holds := by
  w_on; o_law; k_head; (case hw => w_witness2)
  k_fill
  refine L2.walk_of (l := PySem.Challenge.rw_leafround_k26_names_that_are_free) (n := 63) (k := 9) (x := "_law_script") (CX := fun _ => L2.CX0) (sp := fun w => Lf.spLaw _) rfl (by decide) rfl ⟨rfl, by decide, by decide⟩ (fun w h Y => PySem.W.kIn_of Y) ?F (fun _ _ a ns hl _ hS => ⟨a, ns, rfl, hS, hl, fun _ => rfl⟩) (fun _ _ _ _ _ h => h)
  case F =>
    intro w mg fa h KX G hmg
    refine' Lf.all_mk KX G hmg ?a0 ?l0 ?c0 ?k0 ?a1 ?l1 ?c1 ?k1 ?a2 ?l2 ?c2 ?k2 ?a3 ?l3 ?c3 ?k3 ?a4 ?l4 ?c4 ?k4 ?a5 ?l5 ?c5 ?k5 ?a6 ?l6 ?c6 ?k6 ?a7 ?l7 ?c7 ?k7 ?a8 ?l8 ?c8 ?k8 ?a9 ?l9 ?c9 ?k9 ?a10 ?l10 ?c10 ?k10 ?z0 ?z1 ?z2 ?z3 ?z4 ?z5 ?z6 ?z7 ?z8
    (case a0 => k_is); (case l0 => k_is); (case c0 => k_is); (case k0 => k_is); (case a1 => k_is); (case l1 => k_is); (case c1 => k_is); (case k1 => k_is); (case a2 => k_is); (case l2 => k_is); (case c2 => k_is); (case k2 => k_is); (case a3 => k_is); (case l3 => k_is); (case c3 => k_is); (case k3 => k_is); (case a4 => k_is); (case l4 => k_is); (case c4 => k_is); (case k4 => k_is); (case a5 => k_is); (case l5 => k_is); (case c5 => k_is); (case k5 => k_is); (case a6 => k_is); (case l6 => k_is); (case c6 => k_is); (case k6 => k_is); (case a7 => k_is); (case l7 => k_is); (case c7 => k_is); (case k7 => k_is); (case a8 => k_is); (case l8 => k_is); (case c8 => k_is); (case k8 => k_is); (case a9 => k_is); (case l9 => k_is); (case c9 => k_is); (case k9 => k_is); (case a10 => k_is); (case l10 => k_is); (case c10 => k_is); (case k10 => k_is); (case z0 => k_is); (case z1 => k_is); (case z2 => k_is); (case z3 => k_is); (case z4 => k_is); (case z5 => k_is); (case z6 => k_is); (case z7 => k_is); (case z8 => k_is)
