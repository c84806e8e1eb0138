import PyProof.Rows.All
import Wide.All
import OpenK.AllK
import Wide.FinOn
import HandS.ForMost
import HandS.Star
import HandS.Style
import HandS.Wide
import HandS.IsInst
import HandS.EndBits
import HandS.More
import HandS.TupAny
import HandS.Evl
import HandS.FStr
import HandS.StrMore
import HandS.Walk
import HandS.RaiseMore
import PySem.Challenge.RW_leafround_k86_answers_written
set_option Elab.async false
set_option linter.all false
set_option maxRecDepth 100000
namespace Lf
open PySem PySem.Spec PyProof.Rows L2

/-- an own def: where it stands, its promise, how it is called -/
def Callee (P : Program) (w : World) (K : PySem.W.Frag) (mg : Str → Option Value) (base : Heap) (k : Nat) (x : Str) (ps : List Str) (sp : Sp) : Prop :=
  ∃ (f : Addr) (fd : FuncData), FnOk P w K mg base CX0 k f fd ps sp ∧ mg x = some (.ref f) ∧ PySem.W.keepIn K (.ref f) = true ∧ Binds K fd ps []
section
variable {X : Cx} {k : Nat} {x : Str} {ps : List Str} {sp : Sp} {e : Expr} {es : List Expr} {t : TA} {p pos : Pos}
theorem pe_own (C : Callee X.prog X.w X.K X.mg X.base k x ps sp) (hr : Room k X.A) (hg : Gl X x) (ha : PA X (e :: es) t)
    (hdb : (x == ("__debug__" : Str)) = false := by decide) (he : starEach (e :: es) X.env = (false, eval e X.env) :: starEach es X.env := by rfl) (hpl : (backTo pos (starEach es X.env)).any (·.1) = false := by rfl) :
    PE X (.Call (.Name x p) (e :: es) [] pos) (tCall sp [] E0 t) := by
  obtain ⟨f, fd, F, hm, hk, hb⟩ := C
  exact pe_call F hr hg hm hk hb .nil pass0 ha hdb he hpl
end

/-- all but the object at a stays -/
def Kp (a : Addr) (H H' : Hp) : Prop := ∀ b o, b ≠ a → H b = some o → H' b = some o
theorem Kp.refl (a : Addr) (H : Hp) : Kp a H H := fun _ _ _ h => h
theorem Kp.trans {a : Addr} {H H1 H2 : Hp} (x : Kp a H H1) (y : Kp a H1 H2) : Kp a H H2 := fun b o n h => y b o n (x b o n h)
theorem Kp.new {a p : Addr} {H H' : Hp} {o : HO} (x : Kp a H H') (h : H' p = none) : Kp a H (upd H' p o) := fun b u n e => by
  rw [upd_ne (ne_of_none (x b u n e) h)]
  exact x b u n e
theorem Kp.mut {a : Addr} {H H' : Hp} {o : HO} (x : Kp a H H') : Kp a H (upd H' a o) := fun b u n e => by
  rw [upd_ne n]
  exact x b u n e
theorem Kp.seqL {K : PySem.W.Frag} {a p : Addr} {H H' : Hp} {xs : List V} (x : Kp a H H') (n : p ≠ a) (h : SqL K H p xs) : SqL K H' p xs := by
  rcases h with (h | ⟨o, h⟩) | h
  · exact .inl (.inl (x _ _ n h))
  · exact .inl (.inr ⟨o, x _ _ n h⟩)
  · exact .inr h

/-- the tape: two ints -/
def TapeAt (H : Hp) (a : Addr) : Prop := ∃ u v : Int, H a = some (.lst [.int u, .int v]) ∧ 0 ≤ u ∧ 0 ≤ v ∧ v < 2147483648
theorem TapeAt.keep {a b : Addr} {H H' : Hp} (h : TapeAt H a) (k : Kp b H H') (n : a ≠ b) : TapeAt H' a := by
  obtain ⟨u, v, e, r⟩ := h
  exact ⟨u, v, k _ _ n e, r⟩
theorem TapeAt.new {a p : Addr} {H : Hp} {o : HO} (h : TapeAt H a) (n : H p = none) : TapeAt (upd H p o) a := by
  obtain ⟨u, v, e, r⟩ := h
  exact ⟨u, v, by rw [upd_ne (ne_of_none e n)]; exact e, r⟩
def spDigit : Sp := fun vs H Q _ => ∃ (a : Addr) (n : Int), vs = [.ref a, .int n] ∧ TapeAt H a ∧ 0 < n ∧ n ≤ 10 ^ 60 ∧
  ∀ (v : Int) (H' : Hp), Kp a H H' → TapeAt H' a → 0 ≤ v → v < n → Q (.int v) H'
/-- an object that H does not know may change -/
theorem Kp.mutN {a p : Addr} {H H' : Hp} {o : HO} (x : Kp a H H') (h : H p = none) : Kp a H (upd H' p o) := fun b u n e => by
  rw [upd_ne (ne_of_none e h)]
  exact x b u n e
theorem Kp.fresh {a p : Addr} {H H' : Hp} (x : Kp a H H') (h : H' p = none) (n : p ≠ a) : H p = none := by
  cases e : H p with
  | none => rfl
  | some o =>
    rw [x p o n e] at h
    cases h
theorem Kp.get {a b : Addr} {H H' : Hp} {o : HO} (x : Kp a H H') (n : b ≠ a) (h : H b = some o) : H' b = some o := x b o n h
theorem TapeAt.ne {a p : Addr} {H : Hp} (h : TapeAt H a) (n : H p = none) : p ≠ a := fun e => by
  obtain ⟨u, v, h, _⟩ := h
  rw [e, h] at n
  cases n
theorem TapeAt.mut {a p : Addr} {H : Hp} {o : HO} (h : TapeAt H a) (n : p ≠ a) : TapeAt (upd H p o) a := by
  obtain ⟨u, v, e, r⟩ := h
  exact ⟨u, v, by rw [upd_ne n.symm]; exact e, r⟩
theorem atI_mem {α : Type} {xs : List α} {i : Int} (h0 : 0 ≤ i) (h1 : i < xs.length) : ∃ x, x ∈ xs ∧ atI xs i = some x := by
  obtain ⟨n, rfl⟩ := Int.eq_ofNat_of_zero_le h0
  have h : n < xs.length := by omega
  exact ⟨xs[n], List.getElem_mem h, atI_nat (List.getElem?_eq_getElem h)⟩
theorem str_len_append (x y : Str) : (x ++ y).length = x.length + y.length := by
  show (x.cps ++ y.cps).size = _
  rw [Array.size_append]
  rfl
theorem join_len (sep : Str) (hs : sep.length = 0) : ∀ ys : List Str, (Str.join sep ys).length = (ys.map (·.length)).sum
  | [] => rfl
  | [x] => by
    show x.length = x.length + 0
    omega
  | x :: y :: r => by
    show (x ++ sep ++ Str.join sep (y :: r)).length = x.length + ((y :: r).map (·.length)).sum
    rw [str_len_append, str_len_append, join_len sep hs (y :: r), hs]
    omega
theorem sum_ones : ∀ {ys : List Str}, (∀ y ∈ ys, y.length = 1) → (ys.map (·.length)).sum = ys.length
  | [], _ => rfl
  | y :: r, h => by
    rw [List.map_cons, List.sum_cons, h y (List.mem_cons_self ..), sum_ones fun z hz => h z (List.mem_cons_of_mem _ hz)]
    show 1 + r.length = r.length + 1
    omega
end Lf
namespace L2
open PySem
theorem Same.kp {a : Addr} {H H' : Hp} (s : Same H H') : Lf.Kp a H H' := fun b o _ h => s b o h
theorem same_new {H : Hp} {p : Addr} {o : HO} (h : H p = none) : Same H (upd H p o) := fun b x e => by
  rw [upd_ne (ne_of_none e h)]
  exact e
theorem Same.tr {H H1 H2 : Hp} (x : Same H H1) (y : Same H1 H2) : Same H H2 := fun b o h => y b o (x b o h)
theorem Same.fresh {H H' : Hp} {p : Addr} (s : Same H H') (h : H' p = none) : H p = none := by
  cases e : H p with
  | none => rfl
  | some o =>
    rw [s p o e] at h
    cases h
theorem Same.mutN {H H' : Hp} {p : Addr} {o : HO} (s : Same H H') (h : H p = none) : Same H (upd H' p o) := fun b u e => by
  rw [upd_ne (ne_of_none e h)]
  exact s b u e
theorem same_refl (H : Hp) : Same H H := fun _ _ h => h
end L2
namespace Lf
open PySem PySem.Spec PyProof.Rows L2
/-- a comprehension over enumerate(list): each turn's pair is a new tuple at T -/
theorem lc_enum {K : PySem.W.Frag} {a : Addr} {xs : List V} {g : TG} {tt : TT} {te : TE} {vs : List Nat} {σ : L2.St} {H1 : Hp} {D : Addr} {Qd : Hp → Prop} (Pv : Nat → Hp → Prop)
    (h0 : Pv 0 (upd H1 D (.lst []))) (hl : ∀ i H, Pv i H → SqL K H a xs)
    (hs : ∀ i x T H, xs[i]? = some x → H T = none → Pv i H → g (.ref T) (wipe σ vs) (upd H T (.tup [.int (i : Nat), x])) fun σ2 H2 => wipe σ2 vs = wipe σ vs ∧ tt σ2 H2 fun b H3 =>
      if b = true then te σ2 H3 fun y H4 => ∃ acc, H4 D = some (.lst acc) ∧ acc.length < sizeLine ∧ Pv (i + 1) (upd H4 D (.lst (acc ++ [y]))) else Pv (i + 1) H3)
    (hd : ∀ H, Pv xs.length H → Qd H) :
    ∃ W : Nat → Nat → Hp → Prop, (∃ m, W 0 m (upd H1 D (.lst []))) ∧ ∀ i m H, W i m H → ((Ite K a).stop i H ∧ Qd H) ∨
      ((Ite K a).go i H ∧ ∃ Nx : Hp → Prop, (∀ H', Nx H' → ∃ m', m' < m ∧ W (i + 1) m' H') ∧ ∀ x H', (Ite K a).yld i H x H' → g x (wipe σ vs) H' fun σ2 H2 => wipe σ2 vs = wipe σ vs ∧ tt σ2 H2 fun b H3 =>
        if b = true then te σ2 H3 fun y H4 => ∃ acc, H4 D = some (.lst acc) ∧ acc.length < sizeLine ∧ Nx (upd H4 D (.lst (acc ++ [y]))) else Nx H3) := by
  refine ⟨fun i m H => i + m = xs.length ∧ Pv i H, ⟨xs.length, Nat.zero_add _, h0⟩, fun i m H ⟨em, p⟩ => ?_⟩
  by_cases hi : i < xs.length
  · refine .inr ⟨⟨xs, xs[i], hl i H p, List.getElem?_eq_getElem hi⟩, Pv (i + 1), fun H' p' => ⟨m - 1, by omega, by omega, p'⟩, fun x H' y => ?_⟩
    obtain ⟨T, z, rfl, hT, rfl, hz⟩ := y
    exact hs i z T H (hz xs (hl i H p)) hT p
  · have e : i = xs.length := by omega
    exact .inl ⟨⟨xs, hl i H p, by omega⟩, hd H (e ▸ p)⟩
end Lf
namespace Lf
open PySem PySem.Spec PyProof.Rows L2
/-- signs that a text may hold -/
abbrev SOk (x : Str) : Prop := ∀ c ∈ x.cps.toList, c < 0x110000
theorem sok_append {x y : Str} (h1 : SOk x) (h2 : SOk y) : SOk (x ++ y) := fun c hc => by
  have e : (x ++ y).cps.toList = x.cps.toList ++ y.cps.toList := by
    show (x.cps ++ y.cps).toList = _
    rw [Array.toList_append]
  rw [e] at hc
  rcases List.mem_append.mp hc with h | h
  · exact h1 c h
  · exact h2 c h
theorem sok_join {sep : Str} (hs : SOk sep) : ∀ {ys : List Str}, (∀ y ∈ ys, SOk y) → SOk (Str.join sep ys)
  | [], _ => fun c hc => by
    have h : c ∈ ([] : List Nat) := hc
    cases h
  | [x], h => h x (List.mem_cons_self ..)
  | x :: y :: r, h => sok_append (sok_append (h x (List.mem_cons_self ..)) hs) (sok_join hs fun z hz => h z (List.mem_cons_of_mem _ hz))
end Lf
namespace Lf
open PySem PySem.Spec PyProof.Rows L2
theorem len_K {X : Cx} : CallR X (.builtin "len") (Evl.rLenS X.K) := call_len_seq
end Lf
namespace Lk
open PySem PySem.Spec PyProof.Rows L2 Lf
def topS (i : Nat) : Stmt := PySem.Challenge.pw_leafround_k86_answers_written.main.body.getD i (.Pass ⟨0, 0, 0, 0⟩)
/-- the built-ins stand -/
structure Bs (mg : Str → Option Value) : Prop where
  len : mg "len" = none
  range : mg "range" = none
  list : mg "list" = none
  tuple : mg "tuple" = none
  str : mg "str" = none
  int : mg "int" = none
/-! ### data that can be compared -/
def Lay (k : Nat) (d : PyData) : Prop := d.canLay0 = true ∧ d.depth ≤ k
theorem Lay.all {k : Nat} : ∀ {ds : List PyData}, (∀ d ∈ ds, Lay k d) → PyData.canLayAll0 ds = true ∧ PyData.depthAll ds ≤ k
  | [], _ => by
    simp [PyData.canLayAll0, PyData.depthAll]
  | d :: r, h => by
    have h1 := h d (List.mem_cons_self ..)
    have h2 := Lay.all fun z hz => h z (List.mem_cons_of_mem _ hz)
    simp only [PyData.canLayAll0, PyData.depthAll, h1.1, h2.1, Bool.and_self, true_and]
    exact Nat.max_le.mpr ⟨h1.2, h2.2⟩
theorem Lay.lst {k : Nat} {ds : List PyData} (h : ∀ d ∈ ds, Lay k d) : Lay (k + 1) (.list ds) := by
  have z := Lay.all h
  unfold Lay
  simp only [PyData.canLay0, PyData.depth]
  exact ⟨z.1, by omega⟩
theorem Lay.tup {k : Nat} {ds : List PyData} (h : ∀ d ∈ ds, Lay k d) : Lay (k + 1) (.tuple ds) := by
  have z := Lay.all h
  unfold Lay
  simp only [PyData.canLay0, PyData.depth]
  exact ⟨z.1, by omega⟩
theorem Lay.int {k : Nat} (i : Int) : Lay k (.int i) := by
  unfold Lay
  simp [PyData.canLay0, PyData.depth]
theorem Lay.str {k : Nat} {x : Str} (h : SOk x) : Lay k (.str x) := by
  unfold Lay
  refine ⟨?_, by simp [PyData.depth]⟩
  simp only [PyData.canLay0]
  unfold PyData.strOk
  rw [← Array.all_toList, List.all_eq_true]
  exact fun c hc => decide_eq_true (h c hc)
theorem Lay.shaped {k : Nat} {d : PyData} (h : Lay k d) (hk : k ≤ 64) : SeqAt.shaped d = true := by
  unfold SeqAt.shaped
  rw [Bool.and_eq_true]
  exact ⟨h.1, decide_eq_true (Nat.le_trans h.2 hk)⟩
/-! ### the dice -/
def DiceAt (l : Addr) (n : Nat) (H : Hp) (a : Addr) : Prop := ∃ (ns : List Int) (s : Nat) (u v : Int), H a = some (.lst [.ref l, .int (s : Int), .int u, .int v]) ∧ H l = some (.lst (ns.map V.int)) ∧ ns.length ≤ 63 ∧ s ≤ n ∧ l ≠ a
section
variable {l a p : Addr} {n m : Nat} {H H' : Hp} {o : HO}
theorem DiceAt.up (h : DiceAt l n H a) (hm : n ≤ m) : DiceAt l m H a := by
  obtain ⟨ns, s, u, v, e, el, hl, hs, hn⟩ := h
  exact ⟨ns, s, u, v, e, el, hl, by omega, hn⟩
theorem DiceAt.same (h : DiceAt l n H a) (k : Same H H') : DiceAt l n H' a := by
  obtain ⟨ns, s, u, v, e, el, hl, hs, hn⟩ := h
  exact ⟨ns, s, u, v, k _ _ e, k _ _ el, hl, hs, hn⟩
theorem DiceAt.new (h : DiceAt l n H a) (hp : H p = none) : DiceAt l n (upd H p o) a := h.same (same_new hp)
theorem DiceAt.ne (h : DiceAt l n H a) (hp : H p = none) : p ≠ a := fun e => by
  obtain ⟨ns, s, u, v, h, _⟩ := h
  rw [e, h] at hp
  cases hp
theorem DiceAt.nel (h : DiceAt l n H a) (hp : H p = none) : p ≠ l := fun e => by
  obtain ⟨ns, s, u, v, _, h, _⟩ := h
  rw [e, h] at hp
  cases hp
theorem DiceAt.mut (h : DiceAt l n H a) (h1 : p ≠ a) (h2 : p ≠ l) : DiceAt l n (upd H p o) a := by
  obtain ⟨ns, s, u, v, e, el, r⟩ := h
  exact ⟨ns, s, u, v, by rw [upd_ne h1.symm]; exact e, by rw [upd_ne h2.symm]; exact el, r⟩
end
/-- tuples stay -/
def Tups (H H' : Hp) : Prop := ∀ b xs, H b = some (.tup xs) → H' b = some (.tup xs)
theorem Tups.refl (H : Hp) : Tups H H := fun _ _ h => h
theorem Tups.trans {H H1 H2 : Hp} (x : Tups H H1) (y : Tups H1 H2) : Tups H H2 := fun b xs h => y b xs (x b xs h)
theorem Tups.new {H : Hp} {p : Addr} {o : HO} (h : H p = none) : Tups H (upd H p o) := fun b xs e => by
  rw [upd_ne (ne_of_none e h)]
  exact e
theorem Tups.mut {H : Hp} {p : Addr} {o : HO} {ys : List V} (h : H p = some (.lst ys)) : Tups H (upd H p o) := fun b xs e => by
  rw [upd_ne (ne_of e h (by intro z; cases z))]
  exact e
theorem DiceAt.tups {l a : Addr} {n : Nat} {H H' : Hp} (h : DiceAt l n H a) (k : Kp a H H') : Tups H H' := by
  obtain ⟨ns, s, u, v, e, _⟩ := h
  exact fun b ys h => k b _ (ne_of h e (by intro z; cases z)) h
def spRoll : Sp := fun vs H Q _ => ∃ (a l : Addr) (n : Nat) (m : Int), vs = [.ref a, .int m] ∧ DiceAt l n H a ∧ n ≤ 10 ^ 9 ∧ 0 < m ∧ m ≤ 10 ^ 60 ∧
  ∀ (v : Int) (H' : Hp), Kp a H H' → DiceAt l (n + 1) H' a → 0 ≤ v → v < m → Q (.int v) H'
section
variable {P : Program} {w : World} {K : PySem.W.Frag} {mg : Str → Option Value} {base : Heap}
abbrev sRoll : Stmt := topS 8
theorem scRoll : FnScope ["_law_dice", "_law_size", "_law_spot", "_law_cell_here", "_law_seed", "_law_rest"] ["_law_dice", "_law_size"] (defScope sRoll) := ⟨rfl, rfl, rfl, by decide +kernel, rfl, by decide +kernel, by decide +kernel⟩
theorem pow60 : (10 : Int) ^ 60 < 2 ^ 200 := by decide +kernel
theorem dpInts {K : PySem.W.Frag} {H : Hp} : ∀ ns : List Int, DpAll K H (ns.map V.int) (ns.map PyData.int)
  | [] => .nil
  | n :: ns => .cons (.int n) (dpInts ns)
theorem layInts (ns : List Int) : Lay 1 (.list (ns.map PyData.int)) := .lst (k := 0) fun d hd => by
  obtain ⟨n, _, rfl⟩ := List.mem_map.mp hd
  exact .int n
set_option maxHeartbeats 4000000 in
theorem ok_roll {f : Addr} {fd : FuncData} (F : Fun K "_law_roll" "_law_roll" sRoll f fd) (T : Bs mg) : FnOk P w K mg base CX0 1 f fd ["_law_dice", "_law_size"] spRoll := by
  refine F.ok scRoll (fun vs H Q E h => ?_) (fun cdv A outer s H vs Q E hr h => ?_)
  · obtain ⟨a, l, n, m, rfl, _⟩ := h
    rfl
  · obtain ⟨a, l, n, m, rfl, ⟨ns, sp, u, v, hT, hL, hl63, hsn, hla⟩, hn, hm, hm2, q⟩ := h
    have nd := scRoll.nd
    refine ⟨_, (Evl.pss_cut (ps_if (pt_cmpR op_eq (pe_ix ix_list (pv 0) pe_int (fun _ _ => rfl)) pe_int (nomark _))
  (pss_cons (ps_set (i := 2) nd rfl (Or.inl rfl) (pe_ix ix_list (pv 0) pe_int (fun _ _ => rfl)))
  (pss_cons (ps_asg (pe_op op_add (pv 2) pe_int) (pg_sub (pv 0) pe_int set_list))
  (pss_cons (ps_set (i := 3) nd rfl (Or.inl rfl) pe_int)
  (Evl.pss_cut (ps_if (pt_cmpR (op_neD hr.units) (pe_ix ix_list (pv 0) pe_int (fun _ _ => rfl)) (pe_lst pa_nil) (nomark _))
  (pss_one (ps_set (i := 3) nd rfl (Or.inl rfl) (pe_ix ix_list (pe_ix ix_list (pv 0) pe_int (fun _ _ => rfl)) (pe_op op_mod (pv 2) (pe_callB call_len_seq (by rfl) T.len PySem.boot_len (pa_cons (pe_ix ix_list (pv 0) pe_int (fun _ _ => rfl)) pa_nil))) (fun _ _ => rfl))))
  pss_nil)
  (pss_cons (ps_if (PW.pt (pw_or (pt_cmpR op_ge (pv 2) (pe_callB call_len_seq (by rfl) T.len PySem.boot_len (pa_cons (pe_ix ix_list (pv 0) pe_int (fun _ _ => rfl)) pa_nil)) (nomark _)) (pw_or1 (pt_cmpR op_lt (pv 3) (pe_op op_pow pe_int pe_int) (nomark _)))))
  (pss_cons (ps_set (i := 4) nd rfl (Or.inl rfl) (pe_op op_mod (pe_op op_mulW (pe_op op_add (pe_op op_mod (pv 3) pe_int) pe_int) (pe_op op_add (pe_op op_add (pe_op op_mulW (pv 2) (pv 2)) (pe_op op_mulW pe_int (pv 2))) pe_int)) pe_int))
  (pss_cons (ps_set (i := 4) nd rfl (Or.inl rfl) (pe_op op_mod (pe_op op_pow (pv 4) pe_int) pe_int))
  (pss_one (ps_ret (pe_op op_mod (pe_op op_fdivW (pe_op op_mod (pe_op op_add (pv 4) (pe_op op_mulW pe_int (pv 2))) pe_int) pe_int) (pv 1))))))
  pss_nil)
  (pss_cons (ps_asg pe_int (pg_sub (pv 0) pe_int set_list))
  (pss_one (ps_asg (pe_op op_sub (pv 3) (pe_op op_pow pe_int pe_int)) (pg_sub (pv 0) pe_int set_list)))))))))
  pss_nil)
  (pss_cons (ps_asg (pe_op op_sub (pe_ix ix_list (pv 0) pe_int (fun _ _ => rfl)) pe_int) (pg_sub (pv 0) pe_int set_list))
  (pss_cons (ps_set (i := 5) nd rfl (Or.inl rfl) (pe_ix ix_list (pv 0) pe_int (fun _ _ => rfl)))
  (pss_cons (ps_asg (pe_op op_fdivW (pv 5) (pv 1)) (pg_sub (pv 0) pe_int set_list))
  (pss_one (ps_ret (pe_op op_mod (pv 5) (pv 1)))))))), ?_⟩
    have mW : m.natAbs < 2 ^ 200 := by
      have h := pow60
      omega
    have e64 : (2 : Nat) ^ 64 = 18446744073709551616 := by decide
    have e40 : (2 : Nat) ^ 40 = 1099511627776 := by decide
    have cp : ∀ e : Int, 0 ≤ e → e ≤ 100 → CPow 10 e := fun e h0 h1 => ⟨h0, by omega, by decide⟩
    -- behind the first if
    refine ⟨fun σ' H' => ∃ (u' v' : Int) (s' : Nat) (x2 x3 : Option V), s' ≤ n + 1 ∧ Kp a H H' ∧ H' a = some (.lst [.ref l, .int (s' : Int), .int u', .int v']) ∧ H' l = some (.lst (ns.map V.int)) ∧ σ' = [some (.ref a), some (.int m), x2, x3, none, none], ?_, fun σ' H' hm' => ?_⟩
    · refine ⟨.ref a, rfl, a, _, 2, .int u, rfl, rfl, SqL.of hT, atI_nat (j := 2) rfl, rfl, _, rfl, ite2 (fun c => ?_) (fun c => ?_)⟩
      · refine ⟨.ref a, rfl, a, _, 1, .int (sp : Int), rfl, rfl, SqL.of hT, atI_nat (j := 1) rfl, ?_⟩
        refine ⟨_, rfl, (sp : Int), 1, rfl, rfl, .ref a, rfl, a, _, 1, 1, rfl, rfl, hT, rfl, ?_⟩
        have hT1 : (upd H a (.lst ([V.ref l, .int (sp : Int), .int u, .int v].set 1 (.int ((sp : Int) + 1))))) a = some (.lst [.ref l, .int ((sp + 1 : Nat) : Int), .int u, .int v]) := upd_same
        have hL1 : (upd H a (.lst ([V.ref l, .int (sp : Int), .int u, .int v].set 1 (.int ((sp : Int) + 1))))) l = some (.lst (ns.map V.int)) := by rw [upd_ne hla]; exact hL
        have k1 : Kp a H (upd H a (.lst ([V.ref l, .int (sp : Int), .int u, .int v].set 1 (.int ((sp : Int) + 1))))) := (Kp.refl a H).mut
        generalize (upd H a (.lst ([V.ref l, .int (sp : Int), .int u, .int v].set 1 (.int ((sp : Int) + 1))))) = H1 at hT1 hL1 k1 ⊢
        have cL : Dp K H1 (.ref l) (.list (ns.map PyData.int)) := .lst (SqL.of hL1) (dpInts ns)
        -- the cell
        refine ⟨fun σ' H' => ∃ c : Int, Kp a H H' ∧ H' a = some (.lst [.ref l, .int ((sp + 1 : Nat) : Int), .int u, .int v]) ∧ H' l = some (.lst (ns.map V.int)) ∧ σ' = [some (.ref a), some (.int m), some (.int (sp : Int)), some (.int c), none, none], ?_, fun σ' H' hc => ?_⟩
        · refine ⟨.ref a, rfl, a, _, 0, .ref l, rfl, rfl, SqL.of hT1, atI_nat (j := 0) rfl, (by show 0 ≤ sizeLine; decide), fun p hp => ?_⟩
          have s2 := same_new (o := .lst []) hp
          have hT2 := s2 _ _ hT1
          have hL2 := s2 _ _ hL1
          have k2 := k1.new (o := .lst []) hp
          have e2 : (upd H1 p (.lst [])) p = some (.lst []) := upd_same
          generalize upd H1 p (.lst []) = H2 at s2 hT2 hL2 k2 e2 ⊢
          refine ⟨.list (ns.map PyData.int), .list [], .lst (SqL.of hL2) (dpInts ns), .lst (SqL.of e2) .nil, (layInts ns).shaped (by decide), (Lay.lst (k := 0) (ds := []) (by simp)).shaped (by decide), _, rfl, ?_⟩
          cases ns with
          | nil =>
            refine iteF ?_
            exact ⟨0, k2, hT2, hL2, rfl⟩
          | cons z zs =>
            refine iteT ?_
            obtain ⟨x, hx, ex⟩ := atI_mem (xs := (z :: zs).map V.int) (i := (sp : Int) % (((z :: zs).map V.int).length : Nat)) (Int.emod_nonneg _ (by simp; omega)) (Int.emod_lt_of_pos _ (by simp))
            obtain ⟨y, hy, rfl⟩ := List.mem_map.mp hx
            refine ⟨.ref a, rfl, a, _, 0, .ref l, rfl, rfl, SqL.of hT2, atI_nat (j := 0) rfl, _, rfl, .ref a, rfl, a, _, 0, .ref l, rfl, rfl, SqL.of hT2, atI_nat (j := 0) rfl, l, _, rfl, .inl (SqL.of hL2), (sp : Int), _, rfl, rfl, (by simp), l, _, _, .int y, rfl, rfl, SqL.of hL2, ex, ?_⟩
            exact ⟨y, k2, hT2, hL2, rfl⟩
        · obtain ⟨c, k2, hT2, hL2, rfl⟩ := hc
          have fin : tSeq (tAsg (tC (.int 30)) (gSub (tVar 0) (tC (.int 2)) rSetL)) (tAsg (tOp (rI0 fun i j => V.int (i - j)) (tVar 3) (tOp (rI CPow fun i j => .int (i ^ j.toNat)) (tC (.int 10)) (tC (.int 18)))) (gSub (tVar 0) (tC (.int 3)) rSetL))
              { nx := fun σ' H' => ∃ (u' v' : Int) (s' : Nat) (x2 x3 : Option V), s' ≤ n + 1 ∧ Kp a H H' ∧ H' a = some (.lst [.ref l, .int (s' : Int), .int u', .int v']) ∧ H' l = some (.lst (ns.map V.int)) ∧ σ' = [some (.ref a), some (.int m), x2, x3, none, none], rt := Q } [some (.ref a), some (.int m), some (.int (sp : Int)), some (.int c), none, none] H' := by
            refine ⟨.ref a, rfl, a, _, 2, 2, rfl, rfl, hT2, rfl, ?_⟩
            have hT3 : (upd H' a (.lst ([V.ref l, .int ((sp + 1 : Nat) : Int), .int u, .int v].set 2 (.int 30)))) a = some (.lst [.ref l, .int ((sp + 1 : Nat) : Int), .int 30, .int v]) := upd_same
            refine ⟨_, rfl, 10, 18, rfl, rfl, cp _ (by decide) (by decide), c, _, rfl, rfl, .ref a, rfl, a, _, 3, 3, rfl, rfl, hT3, rfl, ?_⟩
            refine ⟨30, c - 10 ^ (Int.toNat 18), sp + 1, _, _, by omega, k2.mut.mut, ?_, ?_, rfl⟩
            · exact upd_same
            · rw [upd_ne hla, upd_ne hla]
              exact hL2
          have ret : ∀ D : Ends, D.rt = Q → tSeq (tAsg (tOp (rI (fun x j => 0 < j) fun i j => V.int (i % j)) (tOp (rI CMulW fun i j => V.int (i * j)) (tOp (rI0 fun i j => V.int (i + j)) (tOp (rI (fun x j => 0 < j) fun i j => V.int (i % j)) (tVar 3) (tC (V.int 999953))) (tC (V.int 37)))
              (tOp (rI0 fun i j => V.int (i + j)) (tOp (rI0 fun i j => V.int (i + j)) (tOp (rI CMulW fun i j => V.int (i * j)) (tVar 2) (tVar 2)) (tOp (rI CMulW fun i j => V.int (i * j)) (tC (V.int 79)) (tVar 2))) (tC (V.int 4001)))) (tC (V.int 1000003))) (gName 4))
              (tSeq (tAsg (tOp (rI (fun x j => 0 < j) fun i j => V.int (i % j)) (tOp (rI CPow fun i j => V.int (i ^ j.toNat)) (tVar 4) (tC (V.int 3))) (tC (V.int 998244353))) (gName 4))
                (tRet (tOp (rI (fun x j => 0 < j) fun i j => V.int (i % j)) (tOp (rI CDivW fun i j => V.int (i / j)) (tOp (rI (fun x j => 0 < j) fun i j => V.int (i % j)) (tOp (rI0 fun i j => V.int (i + j)) (tVar 4) (tOp (rI CMulW fun i j => V.int (i * j)) (tC (V.int 7109)) (tVar 2))) (tC (V.int 1000033))) (tC (V.int 2))) (tVar 1))))
              D [some (.ref a), some (.int m), some (.int (sp : Int)), some (.int c), none, none] H' := fun D hD => by
            have b0 : 0 ≤ c % 999953 := Int.emod_nonneg _ (by decide)
            have b1 : c % 999953 < 999953 := Int.emod_lt_of_pos _ (by decide)
            have hs0 : (0 : Int) ≤ sp := by omega
            have hs1 : (sp : Int) ≤ 10 ^ 9 := by omega
            have w1 : CMulW (sp : Int) sp := wide_mul (a := 40) (b := 40) (by omega) (by omega) (by decide) (by decide) (by decide)
            have w2 : CMulW 79 (sp : Int) := wide_mul (a := 40) (b := 40) (by decide) (by omega) (by decide) (by decide) (by decide)
            have w4 : CMulW 7109 (sp : Int) := wide_mul (a := 40) (b := 40) (by decide) (by omega) (by decide) (by decide) (by decide)
            have hss : (sp : Int) * sp ≤ 10 ^ 9 * 10 ^ 9 := Int.mul_le_mul hs1 hs1 hs0 (by decide)
            have hs2 : (0 : Int) ≤ (sp : Int) * sp := Int.mul_nonneg hs0 hs0
            have w3 : CMulW (c % 999953 + 37) ((sp : Int) * sp + 79 * sp + 4001) := wide_mul (a := 40) (b := 100) (by omega) (by omega) (by decide) (by decide) (by decide)
            refine ⟨_, rfl, c, 999953, rfl, rfl, (by show (0 : Int) < 999953; decide), _, 37, rfl, rfl, _, rfl, _, rfl, _, _, rfl, rfl, w1, _, rfl, 79, _, rfl, rfl, w2, _, _, rfl, rfl, _, 4001, rfl, rfl, _, _, rfl, rfl, w3, _, 1000003, rfl, rfl, (by show (0 : Int) < 1000003; decide), ?_⟩
            have c0 : 0 ≤ (c % 999953 + 37) * ((sp : Int) * sp + 79 * sp + 4001) % 1000003 := Int.emod_nonneg _ (by decide)
            have c1 : (c % 999953 + 37) * ((sp : Int) * sp + 79 * sp + 4001) % 1000003 < 1000003 := Int.emod_lt_of_pos _ (by decide)
            dsimp only
            generalize (c % 999953 + 37) * ((sp : Int) * sp + 79 * sp + 4001) % 1000003 = z at c0 c1 ⊢
            refine ⟨_, rfl, z, 3, rfl, rfl, ⟨by decide, by decide, by omega⟩, _, 998244353, rfl, rfl, (by show (0 : Int) < 998244353; decide), ?_⟩
            refine ⟨_, rfl, _, rfl, 7109, _, rfl, rfl, w4, _, _, rfl, rfl, _, 1000033, rfl, rfl, (by show (0 : Int) < 1000033; decide), _, 2, rfl, rfl, ⟨by decide, by decide⟩, _, rfl, _, m, rfl, rfl, hm, ?_⟩
            rw [hD]
            exact q _ _ k2 ⟨ns, sp + 1, u, v, hT2, hL2, hl63, by omega, hla⟩ (Int.emod_nonneg _ (by omega)) (Int.emod_lt_of_pos _ hm)
          refine ⟨_, rfl, .ref a, rfl, a, _, 0, .ref l, rfl, rfl, SqL.of hT2, atI_nat (j := 0) rfl, l, _, rfl, .inl (SqL.of hL2), (sp : Int), _, rfl, rfl, _, rfl, ite2 (fun _ => iteT (ret _ rfl)) (fun _ => ⟨_, rfl, 10, 18, rfl, rfl, cp _ (by decide) (by decide), c, _, rfl, rfl, _, rfl, ite2 (fun _ => ret _ rfl) (fun _ => fin)⟩)⟩
      · exact ⟨u, v, sp, none, none, by omega, Kp.refl a H, hT, hL, rfl⟩
    · obtain ⟨u', v', s', x2, x3, hs', k1, hT1, hL1, rfl⟩ := hm'
      refine ⟨.ref a, rfl, a, _, 2, .int u', rfl, rfl, SqL.of hT1, atI_nat (j := 2) rfl, u', 1, rfl, rfl, .ref a, rfl, a, _, 2, 2, rfl, rfl, hT1, rfl, ?_⟩
      have hT2 : (upd H' a (.lst ([V.ref l, .int (s' : Int), .int u', .int v'].set 2 (.int (u' - 1))))) a = some (.lst [.ref l, .int (s' : Int), .int (u' - 1), .int v']) := upd_same
      refine ⟨.ref a, rfl, a, _, 3, .int v', rfl, rfl, SqL.of hT2, atI_nat (j := 3) rfl, ?_⟩
      refine ⟨_, rfl, _, rfl, v', m, rfl, rfl, wide_div hm mW (by decide) (by decide), .ref a, rfl, a, _, 3, 3, rfl, rfl, hT2, rfl, ?_⟩
      refine ⟨_, rfl, _, rfl, v', m, rfl, rfl, hm, ?_⟩
      refine q _ _ k1.mut.mut ⟨ns, s', u' - 1, v' / m, upd_same, ?_, hl63, hs', hla⟩ (Int.emod_nonneg _ (by omega)) (Int.emod_lt_of_pos _ hm)
      rw [upd_ne hla, upd_ne hla]
      exact hL1
/-- one of some -/
def spPick (K : PySem.W.Frag) : Sp := fun vs H Q _ => ∃ (a l q : Addr) (n : Nat) (xs : List V), vs = [.ref a, .ref q] ∧ DiceAt l n H a ∧ n ≤ 10 ^ 9 ∧ q ≠ a ∧ SqL K H q xs ∧ 0 < xs.length ∧ xs.length ≤ 1000 ∧
  ∀ (i : Nat) (v : V) (H' : Hp), xs[i]? = some v → Kp a H H' → DiceAt l (n + 1) H' a → Q v H'
abbrev sPick : Stmt := topS 9
theorem scPick : FnScope ["_law_dice", "_law_some"] ["_law_dice", "_law_some"] (defScope sPick) := ⟨rfl, rfl, rfl, by decide +kernel, rfl, by decide +kernel, by decide +kernel⟩
theorem ok_pick {f : Addr} {fd : FuncData} (F : Fun K "_law_pick" "_law_pick" sPick f fd) (T : Bs mg) (c__law_roll : Callee P w K mg base 1 "_law_roll" ["_law_dice", "_law_size"] spRoll) : FnOk P w K mg base CX0 2 f fd ["_law_dice", "_law_some"] (spPick K) := by
  refine F.ok scPick (fun vs H Q E h => ?_) (fun cdv A outer s H vs Q E hr h => ?_)
  · obtain ⟨a, l, p, n, xs, rfl, _⟩ := h
    rfl
  · obtain ⟨a, l, p, n, xs, rfl, hF, hn, hne, hx, h0, h1, q⟩ := h
    have nd := scPick.nd
    refine ⟨_, (pss_one (ps_ret (pe_ix ix_list (pv 1) (pe_own c__law_roll (hr.mono (by decide)) (by rfl) (pa_cons (pv 0) (pa_cons (pe_callB call_len_seq (by rfl) T.len PySem.boot_len (pa_cons (pv 1) pa_nil)) pa_nil))) (fun _ _ => rfl)))), ?_⟩
    refine ⟨.ref p, rfl, .ref a, rfl, .ref p, rfl, p, _, rfl, .inl hx, a, l, n, _, rfl, hF, hn, by omega, Int.le_trans (b := 1000) (by omega) (by decide +kernel), fun v H1 k1 f1 v0 v1 => ?_⟩
    obtain ⟨j, rfl⟩ := Int.eq_ofNat_of_zero_le v0
    have hj : j < xs.length := by omega
    exact ⟨p, _, j, _, rfl, rfl, k1.seqL hne hx, atI_nat (List.getElem?_eq_getElem hj), q j _ _ (List.getElem?_eq_getElem hj) k1 f1⟩
end
end Lk
namespace Lk
open PySem PySem.Spec PyProof.Rows L2 Lf
section
variable {P : Program} {w : World} {K : PySem.W.Frag} {mg : Str → Option Value} {base : Heap}
theorem big {n : Int} (h : n ≤ 10 ^ 9) : n ≤ 10 ^ 60 := Int.le_trans h (by decide +kernel)
theorem ez : sizeLine = 16777216 := by decide +kernel
def spHand : Sp := fun vs H Q _ => ∃ (a l : Addr) (n : Nat), vs = [.ref a] ∧ DiceAt l n H a ∧ n + 9 ≤ 10 ^ 9 ∧ ∀ (x : Str) (H' : Hp), Kp a H H' → DiceAt l (n + 9) H' a → x.length ≤ 8 → SOk x → Q (.str x) H'
abbrev sHand : Stmt := topS 10
theorem scHand : FnScope ["_law_dice", "_law_name_here", "_law_k"] ["_law_dice"] (defScope sHand) := ⟨rfl, rfl, rfl, by decide +kernel, rfl, by decide +kernel, by decide +kernel⟩
theorem ok_hand {f : Addr} {fd : FuncData} (F : Fun K "_law_hand" "_law_hand" sHand f fd) (T : Bs mg) (c__law_roll : Callee P w K mg base 1 "_law_roll" ["_law_dice", "_law_size"] spRoll) : FnOk P w K mg base CX0 2 f fd ["_law_dice"] spHand := by
  refine F.ok scHand (fun vs H Q E h => ?_) (fun cdv A outer s H vs Q E hr h => ?_)
  · obtain ⟨a, l, n, rfl, _⟩ := h
    rfl
  · obtain ⟨a, l, n, rfl, hD, hn, q⟩ := h
    have nd := scHand.nd
    refine ⟨_, (pss_cons (ps_set (i := 1) nd rfl (Or.inl rfl) pe_str)
  (pss_cons (ps_for PassesOwn.never rfl (pi_range1 (by rfl) T.range (pa_cons (pe_op op_add pe_int (pe_own c__law_roll (hr.mono (by decide)) (by rfl) (pa_cons (pv 0) (pa_cons pe_int pa_nil)))) pa_nil)) (pg_name (i := 2) nd rfl (Or.inl rfl))
  (pss_one (ps_set (i := 1) nd rfl (Or.inl rfl) (pe_op op_add_str (pv 1) (pe_ix ix_str pe_str (pe_own c__law_roll (hr.mono (by decide)) (by rfl) (pa_cons (pv 0) (pa_cons pe_int pa_nil))) (fun _ _ => rfl))))))
  (pss_one (ps_ret (pv 1))))), ?_⟩
    refine ⟨.ref a, rfl, a, l, n, 8, rfl, hD, by omega, by decide, big (by decide), fun v H1 k1 d1 v0 v1 => ?_⟩
    have e0 : (Str.ofString "") = (⟨#[]⟩ : Str) := by decide +kernel
    refine ⟨1, v, rfl, rfl, 1 + v, rfl, by omega, by omega, for_range (lo := 0) (n := (1 + v).toNat) (fun i σ H' => ∃ (x : Str) (y : Option V), x.length = i ∧ SOk x ∧ Kp a H H' ∧ DiceAt l (n + 1 + i) H' a ∧ σ = [some (.ref a), some (.str x), y])
      ⟨_, _, by decide +kernel, by decide +kernel, k1, d1, rfl⟩ (fun i σ H2 hi h => ?_) (fun σ H2 h => ?_)⟩
    · obtain ⟨x, y, hx, hs, k2, d2, rfl⟩ := h
      refine ⟨_, rfl, .ref a, rfl, a, l, n + 1 + i, 26, rfl, d2, by omega, by decide, big (by decide), fun v4 H4 k4 d4 v40 v41 => ?_⟩
      obtain ⟨c, mc, ec⟩ := atI_mem (xs := (Str.ofString "abcdefghijklmnopqrstuvwxyz").cps.toList) v40 (by show v4 < 26; omega)
      refine ⟨_, v4, c, rfl, rfl, by decide +kernel, ec, _, _, rfl, rfl, ?_, ?_⟩
      · rw [hx, ez]
        show i + 1 ≤ 16777216
        omega
      refine ⟨_, _, ?_, sok_append hs ?_, k2.trans k4, d4.up (by omega), rfl⟩
      · rw [str_len_append, hx]
        rfl
      · intro z hz
        have e : z = c := List.mem_singleton.mp hz
        subst e
        exact (by decide +kernel : ∀ z ∈ (Str.ofString "abcdefghijklmnopqrstuvwxyz").cps.toList, z < 0x110000) z mc
    · obtain ⟨x, y, hx, hs, k2, d2, rfl⟩ := h
      exact ⟨_, rfl, q _ _ k2 (d2.up (by omega)) (by omega) hs⟩
def spSigns : Sp := fun vs H Q _ => ∃ (a l : Addr) (n m : Nat), vs = [.ref a, .int (m : Int)] ∧ DiceAt l n H a ∧ m ≤ 400 ∧ n + 1200 ≤ 10 ^ 9 ∧ ∀ (x : Str) (H' : Hp), Kp a H H' → DiceAt l (n + 1200) H' a → x.length ≤ 400 → Q (.str x) H'
abbrev sSigns : Stmt := topS 11
theorem scSigns : FnScope ["_law_dice", "_law_many", "_law_most", "_law_text", "_law_k", "_law_some"] ["_law_dice", "_law_many"] (defScope sSigns) := ⟨rfl, rfl, rfl, by decide +kernel, rfl, by decide +kernel, by decide +kernel⟩
theorem ok_signs {f : Addr} {fd : FuncData} (F : Fun K "_law_signs" "_law_signs" sSigns f fd) (T : Bs mg) (c__law_roll : Callee P w K mg base 1 "_law_roll" ["_law_dice", "_law_size"] spRoll)
    (c__law_pick : Callee P w K mg base 2 "_law_pick" ["_law_dice", "_law_some"] (spPick K)) : FnOk P w K mg base CX0 3 f fd ["_law_dice", "_law_many"] spSigns := by
  refine F.ok scSigns (fun vs H Q E h => ?_) (fun cdv A outer s H vs Q E hr h => ?_)
  · obtain ⟨a, l, n, m, rfl, _⟩ := h
    rfl
  · obtain ⟨a, l, n, m, rfl, hD, hm, hn, q⟩ := h
    have nd := scSigns.nd
    refine ⟨_, (pss_cons (ps_set (i := 2) nd rfl (Or.inl rfl) pe_str)
  (pss_cons (ps_set (i := 2) nd rfl (Or.inl rfl) (pe_op op_add_str (pv 2) pe_str))
  (pss_cons (ps_set (i := 3) nd rfl (Or.inl rfl) pe_str)
  (pss_cons (ps_for PassesOwn.never rfl (pi_range1 (by rfl) T.range (pa_cons (pv 1) pa_nil)) (pg_name (i := 4) nd rfl (Or.inl rfl))
  (pss_cons (ps_set (i := 5) nd rfl (Or.inl rfl) (pe_lst (pa_cons pe_str (pa_cons (pe_ix ix_str pe_str (pe_own c__law_roll (hr.mono (by decide)) (by rfl) (pa_cons (pv 0) (pa_cons pe_int pa_nil))) (fun _ _ => rfl)) (pa_cons (pe_ix ix_str (pv 2) (pe_own c__law_roll (hr.mono (by decide)) (by rfl) (pa_cons (pv 0) (pa_cons pe_int pa_nil))) (fun _ _ => rfl)) pa_nil)))))
  (pss_one (ps_set (i := 3) nd rfl (Or.inl rfl) (pe_op op_add_str (pv 3) (pe_own c__law_pick (hr.mono (by decide)) (by rfl) (pa_cons (pv 0) (pa_cons (pv 5) pa_nil))))))))
  (pss_one (ps_ret (pv 3))))))), ?_⟩
    refine ⟨_, rfl, _, _, rfl, rfl, by decide +kernel, ?_⟩
    have hml : ((Str.ofString " !\"#$&'()*+,-./0123456789:;<=>?@ABCDEFGHIJKLMNOPQRSTUVWXYZ[\\]^_`") ++ (Str.ofString "abcdefghijklmnopqrstuvwxyz{|}~")).cps.toList.length = 94 := by decide +kernel
    have hml2 : ((Str.ofString " !\"#$&'()*+,-./0123456789:;<=>?@ABCDEFGHIJKLMNOPQRSTUVWXYZ[\\]^_`") ++ (Str.ofString "abcdefghijklmnopqrstuvwxyz{|}~")).length ≤ sizeLine := by decide +kernel
    generalize ((Str.ofString " !\"#$&'()*+,-./0123456789:;<=>?@ABCDEFGHIJKLMNOPQRSTUVWXYZ[\\]^_`") ++ (Str.ofString "abcdefghijklmnopqrstuvwxyz{|}~")) = most at hml hml2 ⊢
    refine ⟨_, rfl, (m : Int), rfl, by omega, by omega, for_range (lo := 0) (n := m) (fun i σ H' => ∃ (x : Str) (y z : Option V), x.length = i ∧ Kp a H H' ∧ DiceAt l (n + 3 * i) H' a ∧ σ = [some (.ref a), some (.int (m : Int)), some (.str most), some (.str x), y, z])
      ⟨_, _, _, by decide +kernel, Kp.refl a H, hD, rfl⟩ (fun i σ H2 hi h => ?_) (fun σ H2 h => ?_)⟩
    · obtain ⟨x, y, z, hx, k2, d2, rfl⟩ := h
      refine ⟨.ref a, rfl, a, l, n + 3 * i, 8, rfl, d2, by omega, by decide, big (by decide), fun v4 H4 k4 d4 v40 v41 => ?_⟩
      obtain ⟨c, mc, ec⟩ := atI_mem (xs := (Str.ofString "xyz019+-").cps.toList) v40 (by show v4 < 8; omega)
      refine ⟨_, v4, c, rfl, rfl, by decide +kernel, ec, _, rfl, .ref a, rfl, a, l, n + 3 * i + 1, 94, rfl, d4, by omega, by decide, big (by decide), fun v5 H5 k5 d5 v50 v51 => ?_⟩
      obtain ⟨c', mc', ec'⟩ := atI_mem (xs := most.cps.toList) v50 (by rw [hml]; omega)
      refine ⟨_, v5, c', rfl, rfl, hml2, ec', (by show 3 ≤ sizeLine; decide), fun p hp => ?_⟩
      refine ⟨_, rfl, .ref a, rfl, .ref p, rfl, a, l, p, n + 3 * i + 1 + 1, _, rfl, d5.new hp, by omega, d5.ne hp, SqL.of upd_same, (by show 0 < 3; decide), (by show 3 ≤ 1000; decide), fun j v6 H6 hv k6 d6 => ?_⟩
      have k26 := (((k2.trans k4).trans k5).new hp).trans k6
      have hl : ∀ g : Str, g.length = 1 → x.length + g.length ≤ sizeLine ∧ (x ++ g).length = i + 1 := fun g hg => by
        rw [str_len_append, hx, hg, ez]
        exact ⟨by omega, rfl⟩
      have g1 : (Str.ofString " ").length = 1 := by decide +kernel
      rcases j with _ | _ | _ | j
      · cases Option.some.inj hv
        exact ⟨_, _, rfl, rfl, (hl _ g1).1, _, _, _, (hl _ g1).2, k26, d6.up (by omega), rfl⟩
      · cases Option.some.inj hv
        exact ⟨_, _, rfl, rfl, (hl ⟨#[c]⟩ rfl).1, _, _, _, (hl ⟨#[c]⟩ rfl).2, k26, d6.up (by omega), rfl⟩
      · cases Option.some.inj hv
        exact ⟨_, _, rfl, rfl, (hl ⟨#[c']⟩ rfl).1, _, _, _, (hl ⟨#[c']⟩ rfl).2, k26, d6.up (by omega), rfl⟩
      · cases hv
    · obtain ⟨x, y, z, hx, k2, d2, rfl⟩ := h
      exact ⟨_, rfl, q _ _ k2 (d2.up (by omega)) (by omega)⟩
/-- a cell: (hand, number) -/
def CellAt (H : Hp) (v : V) (h : Str) (k : Int) : Prop := ∃ p, v = .ref p ∧ H p = some (.tup [.str h, .int k]) ∧ h.length ≤ 8 ∧ SOk h ∧ 0 ≤ k ∧ k < 1000
theorem CellAt.keep {H H' : Hp} {v : V} {h : Str} {k : Int} (c : CellAt H v h k) (t : Tups H H') : CellAt H' v h k := by
  obtain ⟨p, e, hp, r⟩ := c
  exact ⟨p, e, t _ _ hp, r⟩
def cellD (h : Str) (k : Int) : PyData := .tuple [.str h, .int k]
theorem CellAt.dp {H : Hp} {v : V} {h : Str} {k : Int} (c : CellAt H v h k) : Dp K H v (cellD h k) := by
  obtain ⟨p, rfl, hp, r⟩ := c
  exact .tup (SqT.of hp) (.cons (.str _) (.cons (.int _) .nil))
theorem CellAt.shaped {H : Hp} {v : V} {h : Str} {k : Int} (c : CellAt H v h k) : SeqAt.shaped (cellD h k) = true := by
  obtain ⟨p, rfl, hp, h8, hs, _⟩ := c
  refine (Lay.tup (k := 0) fun d hd => ?_).shaped (by decide)
  simp only [List.mem_cons, List.not_mem_nil, or_false] at hd
  rcases hd with rfl | rfl
  · exact .str hs
  · exact .int _
def spCell : Sp := fun vs H Q _ => ∃ (a l : Addr) (n : Nat), vs = [.ref a] ∧ DiceAt l n H a ∧ n + 12 ≤ 10 ^ 9 ∧ ∀ (v : V) (h : Str) (k : Int) (H' : Hp), Kp a H H' → DiceAt l (n + 12) H' a → CellAt H' v h k → Q v H'
abbrev sCell : Stmt := topS 12
theorem scCell : FnScope ["_law_dice"] ["_law_dice"] (defScope sCell) := ⟨rfl, rfl, rfl, by decide +kernel, rfl, by decide +kernel, by decide +kernel⟩
theorem ok_cell {f : Addr} {fd : FuncData} (F : Fun K "_law_cell" "_law_cell" sCell f fd) (c__law_roll : Callee P w K mg base 1 "_law_roll" ["_law_dice", "_law_size"] spRoll)
    (c__law_pick : Callee P w K mg base 2 "_law_pick" ["_law_dice", "_law_some"] (spPick K)) (c__law_hand : Callee P w K mg base 2 "_law_hand" ["_law_dice"] spHand) : FnOk P w K mg base CX0 3 f fd ["_law_dice"] spCell := by
  refine F.ok scCell (fun vs H Q E h => ?_) (fun cdv A outer s H vs Q E hr h => ?_)
  · obtain ⟨a, l, n, rfl, _⟩ := h
    rfl
  · obtain ⟨a, l, n, rfl, hD, hn, q⟩ := h
    have nd := scCell.nd
    refine ⟨_, (pss_one (ps_ret (pe_tup (pa_cons (pe_own c__law_hand (hr.mono (by decide)) (by rfl) (pa_cons (pv 0) pa_nil)) (pa_cons (pe_own c__law_pick (hr.mono (by decide)) (by rfl) (pa_cons (pv 0) (pa_cons (pe_lst (pa_cons (pe_own c__law_roll (hr.mono (by decide)) (by rfl) (pa_cons (pv 0) (pa_cons pe_int pa_nil))) (pa_cons (pe_own c__law_roll (hr.mono (by decide)) (by rfl) (pa_cons (pv 0) (pa_cons pe_int pa_nil))) pa_nil))) pa_nil))) pa_nil))))), ?_⟩
    refine ⟨.ref a, rfl, a, l, n, rfl, hD, by omega, fun x H1 k1 d1 hx8 hxs => ?_⟩
    refine ⟨.ref a, rfl, .ref a, rfl, a, l, n + 9, 9, rfl, d1, by omega, by decide, big (by decide), fun v2 H2 k2 d2 v20 v21 => ?_⟩
    refine ⟨.ref a, rfl, a, l, n + 9 + 1, 1000, rfl, d2, by omega, by decide, big (by decide), fun v3 H3 k3 d3 v30 v31 => ?_⟩
    refine ⟨(by show 2 ≤ sizeLine; decide), fun p hp => ?_⟩
    refine ⟨a, l, p, n + 9 + 1 + 1, _, rfl, d3.new hp, by omega, d3.ne hp, SqL.of upd_same, (by show 0 < 2; decide), (by show 2 ≤ 1000; decide), fun j v4 H4 hv k4 d4 => ?_⟩
    have k14 := (((k1.trans k2).trans k3).new hp).trans k4
    have fin : ∀ k : Int, v4 = .int k → 0 ≤ k → k < 1000 → ∀ r, H4 r = none → Q (.ref r) (upd H4 r (.tup [.str x, v4])) := fun k e h0 h1 r hr => by
      subst e
      exact q _ x k _ (k14.new hr) (d4.new hr) ⟨r, rfl, upd_same, hx8, hxs, h0, h1⟩
    rcases j with _ | _ | j
    · exact ⟨(by show 2 ≤ sizeLine; decide), fin v2 (Option.some.inj hv).symm v20 (by omega)⟩
    · exact ⟨(by show 2 ≤ sizeLine; decide), fin v3 (Option.some.inj hv).symm v30 (by omega)⟩
    · cases hv
end
end Lk
namespace Lk
open PySem PySem.Spec PyProof.Rows L2 Lf
/-! ### answers -/
inductive An where
  | num (i : Int) | tru (b : Bool) | wrd (x : Str) | lst (l : List An) | frm (h : Str) (k : Int) | ring (h : Str) (k : Int) | flt (w h : Str) (k s : Int)
mutual
inductive AnIs (H : Hp) : V → An → Prop where
  | num {p : Addr} {i : Int} : H p = some (.tup [.str "number", .int i]) → AnIs H (.ref p) (.num i)
  | tru {p : Addr} {b : Bool} : H p = some (.tup [.str "truth", .bl b]) → AnIs H (.ref p) (.tru b)
  | wrd {p : Addr} {x : Str} : H p = some (.tup [.str "words", .str x]) → AnIs H (.ref p) (.wrd x)
  | lst {p q : Addr} {vs : List V} {l : List An} : H p = some (.tup [.str "list", .ref q]) → H q = some (.tup vs) → AnsIs H vs l → AnIs H (.ref p) (.lst l)
  | frm {p : Addr} {c : V} {h : Str} {k : Int} : H p = some (.tup [.str "fault", .str "from", c]) → CellAt H c h k → AnIs H (.ref p) (.frm h k)
  | ring {p : Addr} {c : V} {h : Str} {k : Int} : H p = some (.tup [.str "fault", .str "ring", c]) → CellAt H c h k → AnIs H (.ref p) (.ring h k)
  | flt {p : Addr} {c : V} {w h : Str} {k s : Int} : H p = some (.tup [.str "fault", .str w, c, .int s]) → CellAt H c h k → w ≠ "from" → w ≠ "ring" → AnIs H (.ref p) (.flt w h k s)
inductive AnsIs (H : Hp) : List V → List An → Prop where
  | nil : AnsIs H [] []
  | cons {v : V} {vs : List V} {x : An} {xs : List An} : AnIs H v x → AnsIs H vs xs → AnsIs H (v :: vs) (x :: xs)
end
mutual
theorem AnIs.keep {H H' : Hp} (t : Tups H H') : ∀ {v : V} {x : An}, AnIs H v x → AnIs H' v x
  | _, _, .num h => .num (t _ _ h)
  | _, _, .tru h => .tru (t _ _ h)
  | _, _, .wrd h => .wrd (t _ _ h)
  | _, _, .lst h h2 h3 => .lst (t _ _ h) (t _ _ h2) (h3.keep t)
  | _, _, .frm h c => .frm (t _ _ h) (c.keep t)
  | _, _, .ring h c => .ring (t _ _ h) (c.keep t)
  | _, _, .flt h c n1 n2 => .flt (t _ _ h) (c.keep t) n1 n2
theorem AnsIs.keep {H H' : Hp} (t : Tups H H') : ∀ {v : List V} {x : List An}, AnsIs H v x → AnsIs H' v x
  | _, _, .nil => .nil
  | _, _, .cons h1 h2 => .cons (h1.keep t) (h2.keep t)
end
theorem AnsIs.len {H : Hp} : ∀ {v : List V} {x : List An}, AnsIs H v x → v.length = x.length
  | _, _, .nil => rfl
  | _, _, .cons _ h2 => congrArg (· + 1) h2.len
theorem AnsIs.get {H : Hp} : ∀ {v : List V} {x : List An} {i : Nat} {u : V}, AnsIs H v x → v[i]? = some u → ∃ t, x[i]? = some t ∧ AnIs H u t
  | _, _, _, _, .nil, e => by simp at e
  | _, _, 0, _, .cons h1 _, e => by
    simp at e
    subst e
    exact ⟨_, rfl, h1⟩
  | _, _, i + 1, u, .cons _ h2, e => by
    obtain ⟨t, e1, h⟩ := AnsIs.get (i := i) h2 (by simpa using e)
    exact ⟨t, by simpa using e1, h⟩
theorem AnsIs.append {H : Hp} : ∀ {v u : List V} {x y : List An}, AnsIs H v x → AnsIs H u y → AnsIs H (v ++ u) (x ++ y)
  | _, _, _, _, .nil, h => h
  | _, _, _, _, .cons h1 h2, h => .cons h1 (h2.append h)
/-- how big -/
def Fit : Nat → An → Prop
  | _, .num i => i.natAbs ≤ 10 ^ 60
  | _, .tru _ => True
  | _, .wrd x => x.length ≤ 400
  | 0, .lst l => l = []
  | e + 1, .lst l => l.length ≤ 3 ∧ ∀ x ∈ l, Fit e x
  | _, .frm h k => h.length ≤ 8 ∧ 0 ≤ k ∧ k < 1000
  | _, .ring _ _ => True
  | _, .flt w h k s => w.length ≤ 7 ∧ h.length ≤ 8 ∧ 0 ≤ k ∧ k < 1000 ∧ 0 ≤ s ∧ s ≤ 1000
section
variable {P : Program} {w : World} {K : PySem.W.Frag} {mg : Str → Option Value} {base : Heap}
def spAns (e : Nat) : Sp := fun vs H Q _ => ∃ (a l : Addr) (n : Nat) (c : V) (h : Str) (k : Int) (len dp : Int), vs = [.ref a, c, .int len, .int dp] ∧ DiceAt l n H a ∧ CellAt H c h k ∧ 0 ≤ len ∧ len ≤ 1000 ∧ 0 ≤ dp ∧ 3 ≤ dp + e ∧ n + 1300 * 4 ^ e ≤ 10 ^ 9 ∧
  ∀ (v : V) (x : An) (H' : Hp), Kp a H H' → DiceAt l (n + 1300 * 4 ^ e) H' a → AnIs H' v x → Fit e x → Q v H'
def spBelow (e : Nat) : Sp := fun vs H Q E => 1 ≤ e ∧ spAns (e - 1) vs H Q E
abbrev sAns : Stmt := topS 13
theorem scAns : FnScope ["_law_dice", "_law_cell_here", "_law_length", "_law_deep", "_law_way", "_law_great", "_law_many", "_law_other", "_law_words", "_law_spot", "_law_k"] ["_law_dice", "_law_cell_here", "_law_length", "_law_deep"] (defScope sAns) := ⟨rfl, rfl, rfl, by decide +kernel, rfl, by decide +kernel, by decide +kernel⟩
set_option maxHeartbeats 4000000 in
theorem step_ans {k e : Nat} {f : Addr} {fd : FuncData} (F : Fun K "_law_answer" "_law_answer" sAns f fd) (T : Bs mg) (hk : 3 ≤ k) (c__law_roll : Callee P w K mg base 1 "_law_roll" ["_law_dice", "_law_size"] spRoll)
    (c__law_pick : Callee P w K mg base 2 "_law_pick" ["_law_dice", "_law_some"] (spPick K)) (c__law_signs : Callee P w K mg base 3 "_law_signs" ["_law_dice", "_law_many"] spSigns) (c__law_cell : Callee P w K mg base 3 "_law_cell" ["_law_dice"] spCell)
    (c__law_answer : Callee P w K mg base k "_law_answer" ["_law_dice", "_law_cell_here", "_law_length", "_law_deep"] (spBelow e)) : FnOk P w K mg base CX0 (k + 1) f fd ["_law_dice", "_law_cell_here", "_law_length", "_law_deep"] (spAns e) := by
  refine F.ok scAns (fun vs H Q E h => ?_) (fun cdv A outer s H vs Q E hr h => ?_)
  · obtain ⟨a, l, n, c, h, k, len, dp, rfl, _⟩ := h
    rfl
  · obtain ⟨a, l, n, c, ch, ck, len, dp, rfl, hD, hC, hlen0, hlen1, hd0, hd3, hn, q⟩ := h
    have nd := scAns.nd
    refine ⟨_, (pss_cons (ps_set (i := 4) nd rfl (Or.inl rfl) (pe_own c__law_roll (hr.mono (by omega)) (by rfl) (pa_cons (pv 0) (pa_cons pe_int pa_nil))))
  (pss_cons (ps_if (pt_cmpR op_lt (pv 4) pe_int (nomark _))
  (pss_cons (ps_set (i := 5) nd rfl (Or.inl rfl) (pe_op op_mulW (pe_own c__law_roll (hr.mono (by omega)) (by rfl) (pa_cons (pv 0) (pa_cons (pe_op op_pow pe_int pe_int) pa_nil))) (pe_op op_sub pe_int (pe_op op_mulW pe_int (pe_own c__law_roll (hr.mono (by omega)) (by rfl) (pa_cons (pv 0) (pa_cons pe_int pa_nil)))))))
  (pss_one (ps_ret (pe_tup (pa_cons pe_str (pa_cons (pe_own c__law_pick (hr.mono (by omega)) (by rfl) (pa_cons (pv 0) (pa_cons (pe_lst (pa_cons (pe_op op_sub (pe_own c__law_roll (hr.mono (by omega)) (by rfl) (pa_cons (pv 0) (pa_cons pe_int pa_nil))) pe_int) (pa_cons (pv 5) pa_nil))) pa_nil))) pa_nil))))))
  pss_nil)
  (pss_cons (ps_if (pt_cmpR op_eq (pv 4) pe_int (nomark _))
  (pss_one (ps_ret (pe_tup (pa_cons pe_str (pa_cons (pe_cmpR op_eq (pe_own c__law_roll (hr.mono (by omega)) (by rfl) (pa_cons (pv 0) (pa_cons pe_int pa_nil))) pe_int (nomark _)) pa_nil)))))
  pss_nil)
  (pss_cons (ps_if (pt_cmpR op_lt (pv 4) pe_int (nomark _))
  (pss_one (ps_ret (pe_tup (pa_cons pe_str (pa_cons (pe_own c__law_signs (hr.mono (by omega)) (by rfl) (pa_cons (pv 0) (pa_cons (pe_own c__law_pick (hr.mono (by omega)) (by rfl) (pa_cons (pv 0) (pa_cons (pe_lst (pa_cons pe_int (pa_cons pe_int (pa_cons pe_int (pa_cons pe_int pa_nil))))) pa_nil))) pa_nil))) pa_nil)))))
  pss_nil)
  (pss_cons (ps_if (PW.pt (pw_or (pt_cmpR op_lt (pv 4) pe_int (nomark _)) (pw_or1 (pt_cmpR op_gt (pv 3) pe_int (nomark _)))))
  (Evl.pss_cut (ps_set (i := 6) nd rfl (Or.inl rfl) (pe_ifExp (pt_cmpR op_lt (pv 3) pe_int (nomark _)) (pe_own c__law_roll (hr.mono (by omega)) (by rfl) (pa_cons (pv 0) (pa_cons pe_int pa_nil))) pe_int))
  (pss_one (ps_ret (pe_tup (pa_cons pe_str (pa_cons (pe_callTy call_tuple_of (by rfl) T.tuple (by decide +kernel) (pa_cons (pe_lc (own := [("_law_k", 10)]) (g := gName 10) (tt := tYes) rfl nd (pi_range1 (by rfl) T.range (pa_cons (pv 6) pa_nil)) (blkOk_by (own := [("_law_k", 10)]) (N := ["_law_dice", "_law_cell_here", "_law_length", "_law_deep", "_law_way", "_law_great", "_law_many", "_law_other", "_law_words", "_law_spot", "_law_k"]) (sc := defScope (topS 13)) (by decide +kernel)) (fun _ _ _ _ _ => (pg_name (i := 10) nd rfl (Or.inl rfl))) (fun _ _ _ _ _ => pts_nil) (fun _ _ _ _ _ => (pe_own c__law_answer (hr.mono (by omega)) (by rfl) (pa_cons (pv 0) (pa_cons (pv 1) (pa_cons (pv 2) (pa_cons (pe_op op_add (pv 3) pe_int) pa_nil))))))) pa_nil)) pa_nil))))))
  pss_nil)
  (pss_cons (ps_set (i := 7) nd rfl (Or.inl rfl) (pe_own c__law_pick (hr.mono (by omega)) (by rfl) (pa_cons (pv 0) (pa_cons (pe_lst (pa_cons (pv 1) (pa_cons (pv 1) (pa_cons (pe_own c__law_cell (hr.mono (by omega)) (by rfl) (pa_cons (pv 0) pa_nil)) pa_nil)))) pa_nil))))
  (pss_cons (ps_if (pt_cmpR op_eq (pe_own c__law_roll (hr.mono (by omega)) (by rfl) (pa_cons (pv 0) (pa_cons pe_int pa_nil))) pe_int (nomark _))
  (pss_one (ps_ret (pe_own c__law_pick (hr.mono (by omega)) (by rfl) (pa_cons (pv 0) (pa_cons (pe_lst (pa_cons (pe_tup (pa_cons pe_str (pa_cons pe_str (pa_cons (pe_own c__law_cell (hr.mono (by omega)) (by rfl) (pa_cons (pv 0) pa_nil)) pa_nil)))) (pa_cons (pe_tup (pa_cons pe_str (pa_cons pe_str (pa_cons (pv 1) pa_nil)))) pa_nil))) pa_nil)))))
  pss_nil)
  (pss_cons (ps_set (i := 8) nd rfl (Or.inl rfl) (pe_lst (pa_cons pe_str (pa_cons pe_str (pa_cons pe_str (pa_cons pe_str (pa_cons pe_str (pa_cons pe_str (pa_cons pe_str (pa_cons pe_str (pa_cons pe_str pa_nil)))))))))))
  (pss_cons (ps_set (i := 9) nd rfl (Or.inl rfl) (pe_own c__law_pick (hr.mono (by omega)) (by rfl) (pa_cons (pv 0) (pa_cons (pe_lst (pa_cons (pe_own c__law_roll (hr.mono (by omega)) (by rfl) (pa_cons (pv 0) (pa_cons (pe_op op_add (pv 2) pe_int) pa_nil))) (pa_cons (pv 2) (pa_cons pe_int pa_nil)))) pa_nil))))
  (pss_one (ps_ret (pe_tup (pa_cons pe_str (pa_cons (pe_own c__law_pick (hr.mono (by omega)) (by rfl) (pa_cons (pv 0) (pa_cons (pv 8) pa_nil))) (pa_cons (pv 7) (pa_cons (pv 9) pa_nil)))))))))))))))), ?_⟩
    have cp : ∀ e : Int, 0 ≤ e → e ≤ 100 → CPow 10 e := fun e h0 h1 => ⟨h0, by omega, by decide⟩
    obtain ⟨N, hN⟩ : ∃ N, N = 1300 * 4 ^ (e - 1) := ⟨_, rfl⟩
    have hN0 : 1300 ≤ N := by
      rw [hN]
      have : 0 < 4 ^ (e - 1) := Nat.pow_pos (by decide)
      omega
    have hN1 : 1300 * 4 ^ e ≥ N := by
      rw [hN]
      exact Nat.mul_le_mul_left _ (Nat.pow_le_pow_right (by decide) (by omega))
    have hN4 : 1 ≤ e → 1300 * 4 ^ e = 4 * N := fun h1 => by
      rw [hN]
      obtain ⟨e', rfl⟩ : ∃ e', e = e' + 1 := ⟨e - 1, by omega⟩
      rw [Nat.add_sub_cancel, Nat.pow_succ]
      omega
    have hcp8 := hC
    obtain ⟨pc, _, _, hc8, hcs, hck0, hck1⟩ := hcp8
    generalize hM : 1300 * 4 ^ e = M at hn q hN1 hN4
    -- the way
    refine ⟨.ref a, rfl, a, l, n, 9, rfl, hD, by omega, by decide, big (by decide), fun way H1 k1 d1 v0 v1 => ?_⟩
    refine ⟨_, rfl, way, 2, rfl, rfl, _, rfl, ite2 (fun _ => ?_) (fun _ => ⟨_, rfl, rfl, _, rfl, ite2 (fun _ => ?_) (fun _ => ⟨_, rfl, way, 5, rfl, rfl, _, rfl, ite2 (fun _ => ?_) (fun _ => ?_)⟩)⟩)⟩
    · -- a number
      refine ⟨.ref a, rfl, 10, 59, rfl, rfl, cp _ (by decide) (by decide), a, l, n + 1, 10 ^ (Int.toNat 59), rfl, d1, by omega, by decide +kernel, by decide +kernel, fun v2 H2 k2 d2 v20 v21 => ?_⟩
      refine ⟨.ref a, rfl, a, l, n + 2, 2, rfl, d2, by omega, by decide, big (by decide), fun v3 H3 k3 d3 v30 v31 => ?_⟩
      have w2 : CMulW 2 v3 := wide_mul (a := 40) (b := 40) (by decide) (by omega) (by decide) (by decide) (by decide)
      have v2W : v2.natAbs < 2 ^ 200 := by
        have h : (10 : Int) ^ (Int.toNat 59) < 2 ^ 200 := by decide +kernel
        omega
      have w3 : CMulW v2 (1 - 2 * v3) := wide_mul (a := 200) (b := 40) v2W (by omega) (by decide) (by decide) (by decide)
      refine ⟨2, v3, rfl, rfl, w2, 1, _, rfl, rfl, v2, _, rfl, rfl, w3, ?_⟩
      have hg : (v2 * (1 - 2 * v3)).natAbs ≤ 10 ^ 60 := by
        have h : (10 : Int) ^ (Int.toNat 59) ≤ 10 ^ 60 := by decide +kernel
        have h2 : ((10 ^ 60 : Nat) : Int) = 10 ^ 60 := by decide +kernel
        rcases (by omega : v3 = 0 ∨ v3 = 1) with rfl | rfl
        · rw [show v2 * (1 - 2 * 0) = v2 by omega]
          omega
        · rw [show v2 * (1 - 2 * 1) = - v2 by omega]
          omega
      dsimp only
      generalize v2 * (1 - 2 * v3) = gr at hg ⊢
      refine ⟨.ref a, rfl, .ref a, rfl, a, l, n + 3, 200, rfl, d3, by omega, by decide, big (by decide), fun v4 H4 k4 d4 v40 v41 => ?_⟩
      refine ⟨v4, 99, rfl, rfl, _, rfl, (by show 2 ≤ sizeLine; decide), fun p hp => ?_⟩
      refine ⟨a, l, p, n + 4, _, rfl, d4.new hp, by omega, d4.ne hp, SqL.of upd_same, (by show 0 < 2; decide), (by show 2 ≤ 1000; decide), fun j v5 H5 hv k5 d5 => ?_⟩
      have k15 := ((((k1.trans k2).trans k3).trans k4).new hp).trans k5
      have fin : ∀ i : Int, v5 = .int i → i.natAbs ≤ 10 ^ 60 → ∀ r, H5 r = none → Q (.ref r) (upd H5 r (.tup [.str "number", v5])) := fun i e hi r hr => by
        subst e
        exact q _ (.num i) _ (k15.new hr) ((d5.new hr).up (by omega)) (.num upd_same) (by cases e <;> exact hi)
      rcases j with _ | _ | j
      · exact ⟨(by show 2 ≤ sizeLine; decide), fin _ (Option.some.inj hv).symm (by omega)⟩
      · exact ⟨(by show 2 ≤ sizeLine; decide), fin _ (Option.some.inj hv).symm hg⟩
      · cases hv
    · -- a truth
      refine ⟨.ref a, rfl, a, l, n + 1, 2, rfl, d1, by omega, by decide, big (by decide), fun v2 H2 k2 d2 v20 v21 => ?_⟩
      refine ⟨rfl, (by show 2 ≤ sizeLine; decide), fun r hr => ?_⟩
      exact q _ (.tru _) _ ((k1.trans k2).new hr) ((d2.new hr).up (by omega)) (.tru upd_same) (by cases e <;> exact trivial)
    · -- words
      refine ⟨.ref a, rfl, .ref a, rfl, (by show 4 ≤ sizeLine; decide), fun p hp => ?_⟩
      refine ⟨a, l, p, n + 1, _, rfl, d1.new hp, by omega, d1.ne hp, SqL.of upd_same, (by show 0 < 4; decide), (by show 4 ≤ 1000; decide), fun j v4 H4 hv k4 d4 => ?_⟩
      have k14 := (k1.new hp).trans k4
      obtain ⟨m, rfl, hm⟩ : ∃ m : Nat, v4 = .int (m : Int) ∧ m ≤ 400 := by
        rcases j with _ | _ | _ | _ | j
        · exact ⟨0, (Option.some.inj hv).symm, by decide⟩
        · exact ⟨3, (Option.some.inj hv).symm, by decide⟩
        · exact ⟨40, (Option.some.inj hv).symm, by decide⟩
        · exact ⟨400, (Option.some.inj hv).symm, by decide⟩
        · cases hv
      refine ⟨a, l, n + 1 + 1, m, rfl, d4, hm, by omega, fun x H5 k5 d5 hx => ?_⟩
      refine ⟨(by show 2 ≤ sizeLine; decide), fun r hr => ?_⟩
      exact q _ (.wrd x) _ ((k14.trans k5).new hr) ((d5.new hr).up (by omega)) (.wrd upd_same) (by cases e <;> exact hx)
    · -- a list, a fault
      refine ⟨_, rfl, way, 7, rfl, rfl, _, rfl, ite2 (fun _ => iteT ?_) (fun _ => ⟨_, rfl, dp, 0, rfl, rfl, _, rfl, ite2 (fun _ => ?_) (fun _ => ?_)⟩)⟩
      iterate 2
        next =>
          refine ⟨fun σ' H' => ∃ m : Nat, m ≤ 3 ∧ (m = 0 ∨ dp < 3) ∧ Kp a H H' ∧ DiceAt l (n + 2) H' a ∧ σ' = [some (.ref a), some c, some (.int len), some (.int dp), some (.int way), none, some (.int (m : Int)), none, none, none, none], ?_, fun σ' H' hm' => ?_⟩
          · refine ⟨_, rfl, dp, 3, rfl, rfl, _, rfl, ite2 (fun c3 => ?_) (fun _ => ?_)⟩
            · have c3' : dp < 3 := of_decide_eq_true c3
              refine ⟨.ref a, rfl, a, l, n + 1, 4, rfl, d1, by omega, by decide, big (by decide), fun v2 H2 k2 d2 v20 v21 => ?_⟩
              obtain ⟨m, rfl⟩ := Int.eq_ofNat_of_zero_le v20
              exact ⟨m, by omega, .inr c3', k1.trans k2, d2, rfl⟩
            · exact ⟨0, by omega, .inl rfl, k1, d1.up (by omega), rfl⟩
          · obtain ⟨m, hm3, hm0, k2, d2, rfl⟩ := hm'
            refine ⟨_, rfl, (m : Int), rfl, by omega, by omega, fun D hD' => ?_⟩
            have hDa := d2.ne hD'
            have hDl := d2.nel hD'
            refine lc_range (lo := 0) (n := m) (fun i H3 => Kp a H' H3 ∧ DiceAt l (n + 2 + i * N) H3 a ∧ ∃ (vs : List V) (xs : List An), H3 D = some (.lst vs) ∧ AnsIs H3 vs xs ∧ vs.length = i ∧ ∀ x ∈ xs, Fit (e - 1) x)
              ⟨(Kp.refl a H').new hD', (d2.new hD').up (by omega), [], [], upd_same, .nil, rfl, by simp⟩ (fun i H3 hi p => ?_) (fun H3 p => ?_)
            · obtain ⟨k3, d3, vs, xs, e3, h3, l3, f3⟩ := p
              have hdp3 : dp < 3 := by omega
              have he1 : 1 ≤ e := by omega
              have hM4 := hN4 he1
              have hiN : i * N ≤ 2 * N := Nat.mul_le_mul_right _ (by omega)
              refine ⟨rfl, .ref a, rfl, _, rfl, _, rfl, _, rfl, dp, 1, rfl, rfl, he1, a, l, n + 2 + i * N, c, ch, ck, len, dp + 1, rfl, d3, hC.keep (hD.tups (k2.trans k3)), hlen0, hlen1, by omega, by omega, by rw [← hN]; omega, fun v x H4 k4 d4 hx hf => ?_⟩
              rw [← hN] at d4
              have e4 := k4 _ _ hDa e3
              have tu : Tups H4 (upd H4 D (.lst (vs ++ [v]))) := Tups.mut e4
              refine ⟨vs, e4, ?_, (k3.trans k4).mutN hD', (d4.mut hDa hDl).up (by rw [Nat.succ_mul]; omega), vs ++ [v], xs ++ [x], upd_same, ((h3.keep (d3.tups k4)).keep tu).append (.cons (hx.keep tu) .nil), by rw [List.length_append, l3]; rfl, fun z hz => ?_⟩
              · rw [l3, ez]
                omega
              · rcases List.mem_append.mp hz with hz | hz
                · exact f3 z hz
                · rw [List.mem_singleton.mp hz]
                  exact hf
            · obtain ⟨k3, d3, vs, xs, e3, h3, l3, f3⟩ := p
              refine ⟨D, vs, rfl, .inl ⟨SqL.of e3, fun t ht => ⟨(by show 2 ≤ sizeLine; decide), fun r hr => ?_⟩⟩⟩
              have tu : Tups H3 (upd (upd H3 t (.tup vs)) r (.tup [.str "list", .ref t])) := (Tups.new ht).trans (Tups.new hr)
              have et : (upd (upd H3 t (.tup vs)) r (.tup [.str "list", .ref t])) t = some (.tup vs) := by
                rw [upd_ne (ne_of_none upd_same hr)]
                exact upd_same
              have hml : m * N ≤ 3 * N := Nat.mul_le_mul_right _ hm3
              have hM5 : n + 2 + m * N ≤ n + M := by
                rcases hm0 with rfl | hm0
                · omega
                · have := hN4 (by omega)
                  omega
              refine q _ (.lst xs) _ (((k2.trans k3).new ht).new hr) (((d3.new ht).new hr).up hM5) (.lst upd_same et (h3.keep tu)) ?_
              have lx : xs.length = m := by rw [← h3.len, l3]
              cases e with
              | zero =>
                rcases hm0 with rfl | hm0
                · exact List.length_eq_zero_iff.mp lx
                · omega
              | succ e => exact ⟨by omega, f3⟩
      -- a fault
      refine ⟨.ref a, rfl, _, rfl, _, rfl, .ref a, rfl, a, l, n + 1, rfl, d1, by omega, fun v2 h2 q2 H2 k2 d2 c2 => ⟨(by show 3 ≤ sizeLine; decide), fun p hp => ?_⟩⟩
      refine ⟨a, l, p, n + 13, _, rfl, d2.new hp, by omega, d2.ne hp, SqL.of upd_same, (by show 0 < 3; decide), (by show 3 ≤ 1000; decide), fun j v3 H3 hv k3 d3 => ?_⟩
      have k13 := ((k1.trans k2).new hp).trans k3
      have t23 : Tups H2 H3 := (Tups.new hp).trans ((d2.new hp).tups k3)
      have hC3 : CellAt H3 c ch ck := hC.keep (hD.tups k13)
      obtain ⟨h3, q3, c3⟩ : ∃ h k, CellAt H3 v3 h k := by
        rcases j with _ | _ | _ | j
        · cases Option.some.inj hv
          exact ⟨_, _, hC3⟩
        · cases Option.some.inj hv
          exact ⟨_, _, hC3⟩
        · cases Option.some.inj hv
          exact ⟨_, _, c2.keep t23⟩
        · cases hv
      refine ⟨.ref a, rfl, a, l, n + 14, 4, rfl, d3, by omega, by decide, big (by decide), fun v4 H4 k4 d4 v40 v41 => ?_⟩
      have hC4 : CellAt H4 c ch ck := hC3.keep (d3.tups k4)
      have c4 := c3.keep (d3.tups k4)
      have k14 := k13.trans k4
      refine ⟨rfl, _, rfl, ite2 (fun _ => ?_) (fun _ => ?_)⟩
      · refine ⟨.ref a, rfl, .ref a, rfl, a, l, n + 15, rfl, d4, by omega, fun v5 h5 q5 H5 k5 d5 c5 => ⟨(by show 3 ≤ sizeLine; decide), fun p5 hp5 => ⟨_, rfl, (by show 3 ≤ sizeLine; decide), fun p6 hp6 => ⟨(by show 2 ≤ sizeLine; decide), fun p7 hp7 => ?_⟩⟩⟩⟩
        have d7 := ((d5.new (o := .tup [.str "fault", .str "from", v5]) hp5).new (o := .tup [.str "fault", .str "ring", c]) hp6).new (o := .lst [.ref p5, .ref p6]) hp7
        have e5 : (upd H5 p5 (.tup [.str "fault", .str "from", v5])) p5 = some (.tup [.str "fault", .str "from", v5]) := upd_same
        have e6 : (upd (upd H5 p5 (.tup [.str "fault", .str "from", v5])) p6 (.tup [.str "fault", .str "ring", c])) p6 = some (.tup [.str "fault", .str "ring", c]) := upd_same
        refine ⟨a, l, p7, n + 27, _, rfl, d7, by omega, (((d5.new hp5).new hp6).ne hp7), SqL.of upd_same, (by show 0 < 2; decide), (by show 2 ≤ 1000; decide), fun j v8 H8 hv8 k8 d8 => ?_⟩
        have t68 := (Tups.new (o := .lst [.ref p5, .ref p6]) hp7).trans (d7.tups k8)
        have t58 := (Tups.new (o := .tup [.str "fault", .str "ring", c]) hp6).trans t68
        have t48 := (Tups.new (o := .tup [.str "fault", .str "from", v5]) hp5).trans t58
        have k18 := (((((k14.trans k5).new (o := .tup [.str "fault", .str "from", v5]) hp5).new (o := .tup [.str "fault", .str "ring", c]) hp6)).new (o := .lst [.ref p5, .ref p6]) hp7).trans k8
        have b5 := c5
        obtain ⟨_, _, _, b58, _, b50, b51⟩ := b5
        rcases j with _ | _ | j
        · cases Option.some.inj hv8
          exact q _ (.frm h5 q5) _ k18 (d8.up (by omega)) (.frm (t58 _ _ e5) (c5.keep t48)) (by cases e <;> exact ⟨b58, b50, b51⟩)
        · cases Option.some.inj hv8
          exact q _ (.ring ch ck) _ k18 (d8.up (by omega)) (.ring (t68 _ _ e6) ((hC4.keep (d4.tups k5)).keep t48)) (by cases e <;> exact trivial)
        · cases hv8
      · refine ⟨(by show 9 ≤ sizeLine; decide), fun pw hpw => ?_⟩
        have d4w := d4.new (o := .lst [.str "kind", .str "nought", .str "index", .str "great", .str "steps", .str "deep", .str "nobody", .str "twice", .str "source"]) hpw
        have ew : (upd H4 pw (.lst [.str "kind", .str "nought", .str "index", .str "great", .str "steps", .str "deep", .str "nobody", .str "twice", .str "source"])) pw = some (.lst [.str "kind", .str "nought", .str "index", .str "great", .str "steps", .str "deep", .str "nobody", .str "twice", .str "source"]) := upd_same
        have hwa := d4.ne hpw
        have k14w := k14.new (o := .lst [.str "kind", .str "nought", .str "index", .str "great", .str "steps", .str "deep", .str "nobody", .str "twice", .str "source"]) hpw
        have c4w := c4.keep (Tups.new (o := .lst [.str "kind", .str "nought", .str "index", .str "great", .str "steps", .str "deep", .str "nobody", .str "twice", .str "source"]) hpw)
        generalize (upd H4 pw (.lst [V.str "kind", .str "nought", .str "index", .str "great", .str "steps", .str "deep", .str "nobody", .str "twice", .str "source"])) = H4w at d4w ew k14w c4w ⊢
        refine ⟨.ref a, rfl, .ref a, rfl, _, rfl, len, 1, rfl, rfl, a, l, n + 15, len + 1, rfl, d4w, by omega, by omega, big (by omega), fun v5 H5 k5 d5 v50 v51 => ⟨_, rfl, (by show 3 ≤ sizeLine; decide), fun p5 hp5 => ?_⟩⟩
        refine ⟨a, l, p5, n + 16, _, rfl, d5.new hp5, by omega, d5.ne hp5, SqL.of upd_same, (by show 0 < 3; decide), (by show 3 ≤ 1000; decide), fun j v6 H6 hv6 k6 d6 => ?_⟩
        have k46 := (k5.new hp5).trans k6
        obtain ⟨s6, rfl, s60, s61⟩ : ∃ s : Int, v6 = .int s ∧ 0 ≤ s ∧ s ≤ 1000 := by
          rcases j with _ | _ | _ | j
          · exact ⟨v5, (Option.some.inj hv6).symm, v50, by omega⟩
          · exact ⟨len, (Option.some.inj hv6).symm, hlen0, hlen1⟩
          · exact ⟨0, (Option.some.inj hv6).symm, by decide, by decide⟩
          · cases hv6
        refine ⟨.ref a, rfl, .ref pw, rfl, a, l, pw, n + 17, _, rfl, d6, by omega, hwa, SqL.of (k46 _ _ hwa ew), (by show 0 < 9; decide), (by show 9 ≤ 1000; decide), fun j7 v7 H7 hv7 k7 d7 => ?_⟩
        have c7 := (c4w.keep (d4w.tups k46)).keep (d6.tups k7)
        have b7 := c7
        obtain ⟨_, _, _, b78, _, b70, b71⟩ := b7
        obtain ⟨w, rfl, w7, wn1, wn2⟩ : ∃ w : Str, v7 = .str w ∧ w.length ≤ 7 ∧ w ≠ "from" ∧ w ≠ "ring" := by
          rcases j7 with _ | _ | _ | _ | _ | _ | _ | _ | _ | j7
          · exact ⟨_, (Option.some.inj hv7).symm, by decide +kernel, by decide +kernel, by decide +kernel⟩
          · exact ⟨_, (Option.some.inj hv7).symm, by decide +kernel, by decide +kernel, by decide +kernel⟩
          · exact ⟨_, (Option.some.inj hv7).symm, by decide +kernel, by decide +kernel, by decide +kernel⟩
          · exact ⟨_, (Option.some.inj hv7).symm, by decide +kernel, by decide +kernel, by decide +kernel⟩
          · exact ⟨_, (Option.some.inj hv7).symm, by decide +kernel, by decide +kernel, by decide +kernel⟩
          · exact ⟨_, (Option.some.inj hv7).symm, by decide +kernel, by decide +kernel, by decide +kernel⟩
          · exact ⟨_, (Option.some.inj hv7).symm, by decide +kernel, by decide +kernel, by decide +kernel⟩
          · exact ⟨_, (Option.some.inj hv7).symm, by decide +kernel, by decide +kernel, by decide +kernel⟩
          · exact ⟨_, (Option.some.inj hv7).symm, by decide +kernel, by decide +kernel, by decide +kernel⟩
          · cases hv7
        refine ⟨_, rfl, _, rfl, (by show 4 ≤ sizeLine; decide), fun r hr => ?_⟩
        exact q _ (.flt w h3 q3 s6) _ (((k14w.trans k46).trans k7).new hr) ((d7.new hr).up (by omega)) (.flt upd_same (c7.keep (Tups.new hr)) wn1 wn2) (by cases e <;> exact ⟨w7, b78, b70, b71, s60, s61⟩)
theorem ok_ans {f : Addr} {fd : FuncData} (F : Fun K "_law_answer" "_law_answer" sAns f fd) (T : Bs mg) (c__law_roll : Callee P w K mg base 1 "_law_roll" ["_law_dice", "_law_size"] spRoll)
    (c__law_pick : Callee P w K mg base 2 "_law_pick" ["_law_dice", "_law_some"] (spPick K)) (c__law_signs : Callee P w K mg base 3 "_law_signs" ["_law_dice", "_law_many"] spSigns) (c__law_cell : Callee P w K mg base 3 "_law_cell" ["_law_dice"] spCell)
    (g : mg "_law_answer" = some (.ref f)) (b : Binds K fd ["_law_dice", "_law_cell_here", "_law_length", "_law_deep"] []) : ∀ e : Nat, FnOk P w K mg base CX0 (e + 4) f fd ["_law_dice", "_law_cell_here", "_law_length", "_law_deep"] (spAns e)
  | 0 => step_ans (k := 3) F T (Nat.le_refl _) c__law_roll c__law_pick c__law_signs c__law_cell ⟨f, fd, ⟨fun _ _ _ _ h => absurd h.1 (by decide), fun _ _ _ _ _ _ _ _ _ _ _ _ _ h => absurd h.1 (by decide)⟩, g, F.kp, b⟩
  | e + 1 => step_ans (k := e + 4) F T (by omega) c__law_roll c__law_pick c__law_signs c__law_cell ⟨f, fd, (ok_ans F T c__law_roll c__law_pick c__law_signs c__law_cell g b e).imp fun _ _ _ _ h => h.2, g, F.kp, b⟩
end
end Lk
namespace Lk
open PySem PySem.Spec PyProof.Rows L2 Lf
theorem call_str_both {X : Cx} : CallR X (.type "str") (fun xs H Q => (∃ i : Int, xs = [.int i] ∧ i.natAbs.log2 < 1920 ∧ Q (.str (toString i)) H) ∨ ∃ a, xs = [.str a] ∧ Q (.str a) H) := by
  intro pins s σ H xs us Q I r h
  rcases h with h | h
  · exact call_str_int pins s σ H xs us Q I r h
  · exact SkE.call_str_str pins s σ H xs us Q I r h
/-! ### as written -/
def strI (i : Int) : Str := Str.ofString (toString i)
theorem strI_len {i : Int} (h : i.natAbs ≤ 10 ^ 60) : (strI i).length ≤ 62 := by
  have e := PySem.int_text_length_le10 (k := 61) (a := i) (by decide) (Nat.lt_of_le_of_lt h (by decide))
  unfold strI
  rw [PySem.ofString_length]
  omega
theorem log2_60 {i : Int} (h : i.natAbs ≤ 10 ^ 60) : i.natAbs.log2 < 1920 := by
  rcases Nat.eq_zero_or_pos i.natAbs with z | z
  · rw [z]
    decide
  · exact (Nat.log2_lt (by omega)).mpr (Nat.lt_of_le_of_lt h (by decide +kernel))
def nm (h : Str) (k : Int) : Str := h ++ ":" ++ strI k
mutual
def wr (ch : Str) (ck : Int) : An → Str
  | .num i => strI i
  | .tru b => if b = true then "true" else "false"
  | .wrd x => "'" ++ x ++ "'"
  | .lst l => "[" ++ Txt.join ", " (wrs ch ck l) ++ "]"
  | .frm h k => "from " ++ nm h k
  | .ring _ _ => "ring"
  | .flt w h k s => if PyData.eqv (cellD h k) (cellD ch ck) = true then w else w ++ " at " ++ strI s ++ " of " ++ nm h k
def wrs (ch : Str) (ck : Int) : List An → List Str
  | [] => []
  | x :: r => wr ch ck x :: wrs ch ck r
end
theorem wrs_map (ch : Str) (ck : Int) : ∀ l, wrs ch ck l = l.map (wr ch ck)
  | [] => rfl
  | x :: r => by
    unfold wrs
    rw [wrs_map ch ck r]
    rfl
theorem nm_len {h : Str} {k : Int} (h8 : h.length ≤ 8) (h0 : 0 ≤ k) (h1 : k < 1000) : (nm h k).length ≤ 71 := by
  have h2 := strI_len (i := k) (Nat.le_trans (m := 1000) (by omega) (by decide))
  have h3 : (Str.ofString ":").length = 1 := by decide +kernel
  unfold nm
  rw [str_len_append, str_len_append, h3]
  omega
theorem sum_le {m : Nat} : ∀ {ys : List Str}, (∀ y ∈ ys, y.length ≤ m) → (ys.map (·.length)).sum ≤ ys.length * m
  | [], _ => Nat.zero_le _
  | y :: r, h => by
    have h1 := h y (List.mem_cons_self ..)
    have h2 := sum_le fun z hz => h z (List.mem_cons_of_mem _ hz)
    rw [List.map_cons, List.sum_cons, List.length_cons, Nat.succ_mul]
    omega
theorem join_le (sep : Str) : ∀ ys : List Str, (Txt.join sep ys).length ≤ (ys.map (·.length)).sum + ys.length * sep.length := fun ys => by
  rw [TL.join_eq]
  induction ys with
  | nil => exact Nat.zero_le _
  | cons x r ih =>
    cases r with
    | nil =>
      show x.length ≤ _
      simp
    | cons y r =>
      show (x ++ sep ++ Str.join sep (y :: r)).length ≤ _
      rw [str_len_append, str_len_append, List.map_cons, List.sum_cons, List.length_cons, Nat.succ_mul]
      omega
theorem four_pos (e : Nat) : 1 ≤ 4 ^ e := Nat.pow_pos (by decide)
theorem wr_len (ch : Str) (ck : Int) : ∀ (e : Nat) (x : An), Fit e x → (wr ch ck x).length ≤ 480 * 4 ^ e := by
  have flt : ∀ (w h : Str) (k s : Int), w.length ≤ 7 ∧ h.length ≤ 8 ∧ 0 ≤ k ∧ k < 1000 ∧ 0 ≤ s ∧ s ≤ 1000 → (wr ch ck (.flt w h k s)).length ≤ 480 := fun w h k s f => by
    obtain ⟨f1, f2, f3, f4, f5, f6⟩ := f
    have h1 := nm_len f2 f3 f4
    have h2 := strI_len (i := s) (Nat.le_trans (m := 1000) (by omega) (by decide))
    have h3 : (Str.ofString " at ").length = 4 := by decide +kernel
    have h4 : (Str.ofString " of ").length = 4 := by decide +kernel
    unfold wr
    split
    · omega
    · rw [str_len_append, str_len_append, str_len_append, str_len_append, h3, h4]
      omega
  have frm : ∀ (h : Str) (k : Int), h.length ≤ 8 ∧ 0 ≤ k ∧ k < 1000 → (wr ch ck (.frm h k)).length ≤ 480 := fun h k f => by
    have h1 := nm_len f.1 f.2.1 f.2.2
    have h3 : (Str.ofString "from ").length = 5 := by decide +kernel
    unfold wr
    rw [str_len_append, h3]
    omega
  have num : ∀ i : Int, i.natAbs ≤ 10 ^ 60 → (wr ch ck (.num i)).length ≤ 480 := fun i h => by
    have := strI_len h
    unfold wr
    omega
  have tru : ∀ b : Bool, (wr ch ck (.tru b)).length ≤ 480 := fun b => by
    cases b
    · show (Str.ofString "false").length ≤ 480
      decide +kernel
    · show (Str.ofString "true").length ≤ 480
      decide +kernel
  have wrd : ∀ x : Str, x.length ≤ 400 → (wr ch ck (.wrd x)).length ≤ 480 := fun x h => by
    have h3 : (Str.ofString "'").length = 1 := by decide +kernel
    unfold wr
    rw [str_len_append, str_len_append, h3]
    omega
  have ring : ∀ (h : Str) (k : Int), (wr ch ck (.ring h k)).length ≤ 480 := fun h k => by
    show (Str.ofString "ring").length ≤ 480
    decide +kernel
  have b1 : (Str.ofString "[").length = 1 := by decide +kernel
  have b2 : (Str.ofString "]").length = 1 := by decide +kernel
  have b3 : (Str.ofString ", ").length = 2 := by decide +kernel
  intro e
  induction e with
  | zero =>
    intro x h
    cases x with
    | num i => exact num i h
    | tru b => exact tru b
    | wrd x => exact wrd x h
    | lst l =>
      have e : l = [] := h
      subst e
      show (Str.ofString "[" ++ Txt.join ", " [] ++ "]").length ≤ _
      decide +kernel
    | frm h' k => exact frm h' k h
    | ring h' k => exact ring h' k
    | flt w h' k s => exact flt w h' k s h
  | succ e ih =>
    intro x h
    have p4 := four_pos e
    have e4 : 4 ^ (e + 1) = 4 * 4 ^ e := by rw [Nat.pow_succ, Nat.mul_comm]
    rw [e4]
    have up : ∀ {m : Nat}, m ≤ 480 → m ≤ 480 * (4 * 4 ^ e) := fun h => by omega
    cases x with
    | num i => exact up (num i h)
    | tru b => exact up (tru b)
    | wrd x => exact up (wrd x h)
    | lst l =>
      obtain ⟨h3, hl⟩ := (h : l.length ≤ 3 ∧ ∀ x ∈ l, Fit e x)
      unfold wr
      rw [str_len_append, str_len_append, b1, b2, wrs_map]
      have j := join_le ", " (l.map (wr ch ck))
      have sm := sum_le (m := 480 * 4 ^ e) (ys := l.map (wr ch ck)) fun y hy => by
        obtain ⟨z, hz, rfl⟩ := List.mem_map.mp hy
        exact ih z (hl z hz)
      rw [List.length_map] at sm j
      rw [b3] at j
      have h4 : l.length * (480 * 4 ^ e) ≤ 3 * (480 * 4 ^ e) := Nat.mul_le_mul_right _ h3
      omega
    | frm h' k => exact up (frm h' k h)
    | ring h' k => exact up (ring h' k)
    | flt w h' k s => exact up (flt w h' k s h)
section
variable {P : Program} {w : World} {K : PySem.W.Frag} {mg : Str → Option Value} {base : Heap}
def isF : An → Bool
  | .frm _ _ => true
  | .ring _ _ => true
  | .flt _ _ _ _ => true
  | _ => false
def spIsF : Sp := fun vs H Q _ => ∃ (v : V) (x : An), vs = [v] ∧ AnIs H v x ∧ Q (.bl (isF x)) H
abbrev sIsF : Stmt := topS 1
theorem scIsF : FnScope ["answer"] ["answer"] (defScope sIsF) := ⟨rfl, rfl, rfl, by decide +kernel, rfl, by decide +kernel, by decide +kernel⟩
theorem ok_isF {f : Addr} {fd : FuncData} (F : Fun K "is_fault" "is_fault" sIsF f fd) : FnOk P w K mg base CX0 1 f fd ["answer"] spIsF := by
  refine F.ok scIsF (fun vs H Q E h => ?_) (fun cdv A outer s H vs Q E hr h => ?_)
  · obtain ⟨v, x, rfl, _⟩ := h
    rfl
  · obtain ⟨v, x, rfl, hx, q⟩ := h
    have nd := scIsF.nd
    refine ⟨_, (pss_one (ps_ret (pe_cmpR op_eq (pe_ix ix_tup (pv 0) pe_int (fun _ _ => rfl)) pe_str (nomark _)))), ?_⟩
    have go : ∀ (p : Addr) (z : Str) (xs : List V), v = .ref p → H p = some (.tup (.str z :: xs)) → decide (V.str z = V.str "fault") = isF x → tRet (tOp rEq (tOp (rIxT K) (tVar 0) (tC (V.int 0))) (tC (V.str "fault"))) { nx := fun x H' => Q V.non H', rt := Q } [some v] H := fun p z xs e hp hd => by
      subst e
      refine ⟨.ref p, rfl, p, _, 0, .str z, rfl, rfl, SqT.of hp, atI_nat (j := 0) rfl, rfl, ?_⟩
      rw [hd]
      exact q
    cases hx with
    | num h => exact go _ _ _ rfl h (show _ = false by decide +kernel)
    | tru h => exact go _ _ _ rfl h (show _ = false by decide +kernel)
    | wrd h => exact go _ _ _ rfl h (show _ = false by decide +kernel)
    | lst h h2 h3 => exact go _ _ _ rfl h (show _ = false by decide +kernel)
    | frm h c => exact go _ _ _ rfl h (show _ = true by decide +kernel)
    | ring h c => exact go _ _ _ rfl h (show _ = true by decide +kernel)
    | flt h c n1 n2 => exact go _ _ _ rfl h (show _ = true by decide +kernel)
def spNm : Sp := fun vs H Q _ => ∃ (v : V) (h : Str) (k : Int), vs = [v] ∧ CellAt H v h k ∧ ∀ H', Same H H' → Q (.str (nm h k)) H'
abbrev sNm : Stmt := topS 3
theorem scNm : FnScope ["name", "part"] ["name"] (defScope sNm) := ⟨rfl, rfl, rfl, by decide +kernel, rfl, by decide +kernel, by decide +kernel⟩
theorem ok_nm {f : Addr} {fd : FuncData} (F : Fun K "shown_name" "shown_name" sNm f fd) (T : Bs mg) : FnOk P w K mg base CX0 1 f fd ["name"] spNm := by
  refine F.ok scNm (fun vs H Q E h => ?_) (fun cdv A outer s H vs Q E hr h => ?_)
  · obtain ⟨v, x, k, rfl, _⟩ := h
    rfl
  · obtain ⟨v, x, k, rfl, hc, q⟩ := h
    have nd := scNm.nd
    refine ⟨_, (pss_cons (ps_if (pt_cmpR op_isN (pv 0) pe_non (nomark _))
  (pss_one (ps_ret pe_str))
  pss_nil)
  (pss_one (ps_ret (pe_join pe_str (pe_lc (own := [("part", 1)]) (g := gName 1) (tt := tYes) rfl nd (pi_tup (pv 0)) (blkOk_by (own := [("part", 1)]) (N := ["name", "part"]) (sc := defScope (topS 3)) (by decide +kernel)) (fun _ _ _ _ _ => (pg_name (i := 1) nd rfl (Or.inl rfl))) (fun _ _ _ _ _ => pts_nil) (fun _ _ _ _ _ => (pe_callTy call_str_both (by rfl) T.str (by decide +kernel) (pa_cons (pv 1) pa_nil)))))))), ?_⟩
    obtain ⟨p, rfl, hp, h8, hs, h0, h1⟩ := hc
    refine ⟨_, rfl, rfl, _, rfl, iteF ?_⟩
    refine ⟨⟨_, rfl⟩, .ref p, rfl, p, rfl, ⟨_, SqT.of hp⟩, fun D hD => ?_⟩
    refine lc_tup (xs := [.str x, .int k]) (fun i H' => Same H H' ∧ H' D = some (.lst ((([x, strI k] : List Str).take i).map V.str))) ⟨same_new hD, upd_same⟩ (fun i H' _ pp => SqT.of (pp.1 _ _ hp)) (fun i y H' hy pp => ?_) (fun H' pp => ?_)
    · obtain ⟨s1, e1⟩ := pp
      rcases i with _ | _ | i
      · cases Option.some.inj hy
        exact ⟨rfl, _, rfl, .inr ⟨x, rfl, _, e1, (by show 0 < sizeLine; decide), s1.mutN hD, upd_same⟩⟩
      · cases Option.some.inj hy
        exact ⟨rfl, _, rfl, .inl ⟨k, rfl, log2_60 (Nat.le_trans (m := 1000) (by omega) (by decide)), _, e1, (by show 1 < sizeLine; decide), s1.mutN hD, upd_same⟩⟩
      · cases hy
    · obtain ⟨s1, e1⟩ := pp
      have h2 := strI_len (i := k) (Nat.le_trans (m := 1000) (by omega) (by decide))
      have h3 : (Str.ofString ":").length = 1 := by decide +kernel
      refine ⟨_, D, [x, strI k], rfl, rfl, .inl (SqL.of e1), ?_, ?_⟩
      · show x.length + ((strI k).length + 0) + 2 * (Str.ofString ":").length ≤ 16777216
        omega
      · have e : Txt.join ":" [x, strI k] = nm x k := by
          rw [TL.join_eq]
          rfl
        rw [e]
        exact q _ s1
def spWF : Sp := fun vs H Q _ => ∃ (v c : V) (x : An) (ch : Str) (ck : Int), vs = [v, c] ∧ AnIs H v x ∧ CellAt H c ch ck ∧ isF x = true ∧ Fit 0 x ∧ ∀ H', Same H H' → Q (.str (wr ch ck x)) H'
abbrev sWF : Stmt := topS 6
theorem scWF : FnScope ["fault", "cell", "word", "source"] ["fault", "cell"] (defScope sWF) := ⟨rfl, rfl, rfl, by decide +kernel, rfl, by decide +kernel, by decide +kernel⟩
theorem ok_wf {f : Addr} {fd : FuncData} (F : Fun K "written_fault" "written_fault" sWF f fd) (T : Bs mg) (c_shown_name : Callee P w K mg base 1 "shown_name" ["name"] spNm) : FnOk P w K mg base CX0 2 f fd ["fault", "cell"] spWF := by
  refine F.ok scWF (fun vs H Q E h => ?_) (fun cdv A outer s H vs Q E hr h => ?_)
  · obtain ⟨v, c, x, ch, ck, rfl, _⟩ := h
    rfl
  · obtain ⟨v, c, x, ch, ck, rfl, hx, hc, hf, hfit, q⟩ := h
    have nd := scWF.nd
    refine ⟨_, (pss_cons (ps_asg (pe_slice sl_tupA (pv 0) (po_some pe_int) (po_some pe_int)) (pg_tup rfl (pgs_cons (pg_name (i := 2) nd rfl (Or.inl rfl)) (pgs_cons (pg_name (i := 3) nd rfl (Or.inl rfl)) pgs_nil))))
  (pss_cons (ps_if (pt_cmpR op_eq (pv 2) pe_str (nomark _))
  (pss_one (ps_ret (pe_op op_add_str pe_str (pe_own c_shown_name (hr.mono (by decide)) (by rfl) (pa_cons (pv 3) pa_nil)))))
  pss_nil)
  (pss_cons (ps_if (PW.pt (pw_and (pt_cmpR op_eq (pe_callB call_len_seq (by rfl) T.len PySem.boot_len (pa_cons (pv 0) pa_nil)) pe_int (nomark _)) (pw_and1 (pt_cmpR (op_neD hr.units) (pv 3) (pv 1) (nomark _)))))
  (pss_one (ps_ret (pe_joined (.cons (pe_fmt (pv 2)) (.cons pe_str (.cons (pe_fmt (pe_ix ix_tup (pv 0) pe_int (fun _ _ => rfl))) (.cons pe_str (.cons (pe_fmt (pe_own c_shown_name (hr.mono (by decide)) (by rfl) (pa_cons (pv 3) pa_nil))) .nil))))))))
  pss_nil)
  (pss_one (ps_ret (pv 2)))))), ?_⟩
    cases hx with
    | num h => cases hf
    | tru h => cases hf
    | wrd h => cases hf
    | lst h h2 h3 => cases hf
    | @frm p c' h k hp hc' =>
      refine ⟨_, rfl, 1, rfl, 3, rfl, p, _, rfl, SqT.of hp, fun z => absurd z.1 (show ¬ HT.sIx 3 0 (some 1) = 0 by decide), fun _ r hr => ⟨r, [.str "from", c'], rfl, SqT.of upd_same, rfl, _, _, rfl, _, _, rfl, rfl, ?_⟩⟩
      refine ⟨_, rfl, rfl, _, rfl, ite2 (fun _ => ?_) (fun n => absurd (decide_eq_true rfl) n)⟩
      have b3 : (Str.ofString "from ").length = 5 := by decide +kernel
      have b := nm_len hfit.1 hfit.2.1 hfit.2.2
      refine ⟨_, rfl, c', h, k, rfl, hc'.keep (Tups.new hr), fun H' s' => ⟨_, _, rfl, rfl, by rw [b3, ez]; omega, q _ ((same_new hr).tr s')⟩⟩
    | @ring p c' h k hp hc' =>
      refine ⟨_, rfl, 1, rfl, 3, rfl, p, _, rfl, SqT.of hp, fun z => absurd z.1 (show ¬ HT.sIx 3 0 (some 1) = 0 by decide), fun _ r hr => ⟨r, [.str "ring", c'], rfl, SqT.of upd_same, rfl, _, _, rfl, _, _, rfl, rfl, ?_⟩⟩
      refine ⟨_, rfl, rfl, _, rfl, ite2 (fun z => absurd z (by decide +kernel)) (fun _ => ?_)⟩
      have hp' := same_new (o := .tup (cutV [.str "fault", .str "ring", c'] (some 1) (some 3))) hr _ _ hp
      refine ⟨_, rfl, p, _, rfl, .inr (SqT.of hp'), rfl, _, rfl, ite2 (fun z => absurd z (show ¬ decide (V.int 3 = V.int 4) = true by decide)) (fun _ => iteF ?_)⟩
      exact ⟨_, rfl, q _ (same_new hr)⟩
    | @flt p c' w h k s hp hc' n1 n2 =>
      obtain ⟨f1, f2, f3, f4, f5, f6⟩ := hfit
      refine ⟨_, rfl, 1, rfl, 3, rfl, p, _, rfl, SqT.of hp, fun z => absurd z.1 (show ¬ HT.sIx 4 0 (some 1) = 0 by decide), fun _ r hr => ⟨r, [.str w, c'], rfl, SqT.of upd_same, rfl, _, _, rfl, _, _, rfl, rfl, ?_⟩⟩
      refine ⟨_, rfl, rfl, _, rfl, ite2 (fun z => absurd (V.str.inj (of_decide_eq_true z)) n1) (fun _ => ?_)⟩
      have s1 := same_new (o := .tup (cutV [.str "fault", .str w, c', .int s] (some 1) (some 3))) hr
      have hp' := s1 _ _ hp
      have hc1 := hc'.keep (Tups.new (o := .tup (cutV [.str "fault", .str w, c', .int s] (some 1) (some 3))) hr)
      have hc2 := hc.keep (Tups.new (o := .tup (cutV [.str "fault", .str w, c', .int s] (some 1) (some 3))) hr)
      generalize (upd H r (.tup (cutV [.str "fault", .str w, c', .int s] (some 1) (some 3)))) = H1 at s1 hp' hc1 hc2 ⊢
      refine ⟨_, rfl, p, _, rfl, .inr (SqT.of hp'), rfl, _, rfl, ite2 (fun _ => ?_) (fun z => absurd (show decide (V.int 4 = V.int 4) = true by decide) z)⟩
      have b := nm_len f2 f3 f4
      have bs := strI_len (i := s) (Nat.le_trans (m := 1000) (by omega) (by decide))
      have b3 : (Str.ofString " at ").length = 4 := by decide +kernel
      have b4 : (Str.ofString " of ").length = 4 := by decide +kernel
      have e0 : Str.empty ++ w = w := TL.ext_tl (by show (#[] ++ w.cps).toList = w.cps.toList; rw [Array.toList_append]; rfl)
      have l1 : (w ++ " at ").length ≤ 11 := by rw [str_len_append, b3]; omega
      have l2 : (w ++ " at " ++ strI s).length ≤ 73 := by rw [str_len_append]; omega
      have l3 : (w ++ " at " ++ strI s ++ " of ").length ≤ 77 := by rw [str_len_append, b4]; omega
      have l4 : (w ++ " at " ++ strI s ++ " of " ++ nm h k).length ≤ 148 := by rw [str_len_append]; omega
      refine ⟨_, rfl, _, rfl, cellD h k, cellD ch ck, hc1.dp, hc2.dp, hc1.shaped, hc2.shaped, _, rfl, ?_⟩
      have e1 : wr ch ck (.flt w h k s) = if PyData.eqv (cellD h k) (cellD ch ck) = true then w else w ++ " at " ++ strI s ++ " of " ++ nm h k := by
        unfold wr
        rfl
      rw [e1] at q
      cases hb : PyData.eqv (cellD h k) (cellD ch ck) with
      | true =>
        rw [hb, if_pos rfl] at q
        exact iteF ⟨_, rfl, q _ s1⟩
      | false =>
        rw [hb, if_neg Bool.false_ne_true] at q
        refine iteT ?_
        refine ⟨_, rfl, .inl ⟨w, rfl, by rw [ez]; omega, w, rfl, by rw [e0, ez]; omega, ?_⟩⟩
        rw [e0]
        refine ⟨_, rfl, by rw [ez]; omega, ?_⟩
        refine ⟨_, rfl, p, _, 3, .int s, rfl, rfl, SqT.of hp', atI_nat (j := 3) rfl, .inr ⟨s, rfl, log2_60 (Nat.le_trans (m := 1000) (by omega) (by decide)), strI s, rfl, by rw [ez]; omega, ?_⟩⟩
        refine ⟨_, rfl, by rw [ez]; omega, ?_⟩
        refine ⟨_, rfl, c', h, k, rfl, hc1, fun H' s' => .inl ⟨_, rfl, by rw [ez]; omega, _, rfl, by rw [ez]; omega, ?_⟩⟩
        exact q _ (s1.tr s')
end
end Lk
namespace Lk
open PySem PySem.Spec PyProof.Rows L2 Lf
section
variable {P : Program} {w : World} {K : PySem.W.Frag} {mg : Str → Option Value} {base : Heap}
def spWr (e : Nat) : Sp := fun vs H Q _ => ∃ (v c : V) (x : An) (ch : Str) (ck : Int), vs = [v, c] ∧ AnIs H v x ∧ CellAt H c ch ck ∧ e ≤ 3 ∧ Fit e x ∧ ∀ H', Same H H' → Q (.str (wr ch ck x)) H'
def spWrB (e : Nat) : Sp := fun vs H Q E => 1 ≤ e ∧ spWr (e - 1) vs H Q E
theorem fit0 {x : An} (hf : isF x = true) : ∀ {e : Nat}, Fit e x → Fit 0 x := fun {e} h => by
  cases x with
  | frm h' k => cases e <;> exact h
  | ring h' k => trivial
  | flt w h' k s => cases e <;> exact h
  | _ => cases hf
theorem same_tups {H H' : Hp} (s : Same H H') : Tups H H' := fun b xs h => s b _ h
theorem take_snoc {α : Type} {l : List α} {i : Nat} {x : α} (h : l[i]? = some x) : l.take (i + 1) = l.take i ++ [x] := by
  rw [List.take_succ, h]
  rfl
theorem step_wr {k e : Nat} {f : Addr} {fd : FuncData} (F : Fun K "written" "written" (topS 5) f fd) (T : Bs mg) (hk : 2 ≤ k) (c_is_fault : Callee P w K mg base 1 "is_fault" ["answer"] spIsF)
    (c_written_fault : Callee P w K mg base 2 "written_fault" ["fault", "cell"] spWF) (c_written : Callee P w K mg base k "written" ["answer", "cell"] (spWrB e)) : FnOk P w K mg base CX0 (k + 1) f fd ["answer", "cell"] (spWr e) := by
  have scW : FnScope ["answer", "cell", "kind", "worth", "item"] ["answer", "cell"] (defScope (topS 5)) := ⟨rfl, rfl, rfl, by decide +kernel, rfl, by decide +kernel, by decide +kernel⟩
  refine F.ok scW (fun vs H Q E h => ?_) (fun cdv A outer s H vs Q E hr h => ?_)
  · obtain ⟨v, c, x, ch, ck, rfl, _⟩ := h
    rfl
  · obtain ⟨v, c, x, ch, ck, rfl, hx, hc, he3, hfit, q⟩ := h
    have nd := scW.nd
    refine ⟨_, (pss_cons (ps_if (pt_val (pe_own c_is_fault (hr.mono (by omega)) (by rfl) (pa_cons (pv 0) pa_nil)))
  (pss_one (ps_ret (pe_own c_written_fault (hr.mono (by omega)) (by rfl) (pa_cons (pv 0) (pa_cons (pv 1) pa_nil)))))
  pss_nil)
  (pss_cons (ps_asg (pv 0) (pg_tup rfl (pgs_cons (pg_name (i := 2) nd rfl (Or.inl rfl)) (pgs_cons (pg_name (i := 3) nd rfl (Or.inl rfl)) pgs_nil))))
  (pss_cons (ps_if (pt_cmpR op_eq (pv 2) pe_str (nomark _))
  (pss_one (ps_ret (pe_op op_add_str (pe_op op_add_str pe_str (pe_join pe_str (pe_lc (own := [("item", 4)]) (g := gName 4) (tt := tYes) rfl nd (pi_tup (pv 3)) (blkOk_by (own := [("item", 4)]) (N := ["answer", "cell", "kind", "worth", "item"]) (sc := defScope (topS 5)) (by decide +kernel)) (fun _ _ _ _ _ => (pg_name (i := 4) nd rfl (Or.inl rfl))) (fun _ _ _ _ _ => pts_nil) (fun _ _ _ _ _ => (pe_own c_written (hr.mono (by omega)) (by rfl) (pa_cons (pv 4) (pa_cons (pv 1) pa_nil))))))) pe_str)))
  pss_nil)
  (pss_cons (ps_if (pt_cmpR op_eq (pv 2) pe_str (nomark _))
  (pss_one (ps_ret (pe_ifExp (pt_val (pv 3)) pe_str pe_str)))
  pss_nil)
  (pss_one (ps_ret (pe_ifExp (pt_cmpR op_eq (pv 2) pe_str (nomark _)) (pe_op op_add_str (pe_op op_add_str pe_str (pv 3)) pe_str) (pe_callTy call_str_int (by rfl) T.str (by decide +kernel) (pa_cons (pv 3) pa_nil))))))))), ?_⟩
    refine ⟨_, rfl, v, x, rfl, hx, _, rfl, ite2 (fun hf => ?_) (fun hf => ?_)⟩
    · exact ⟨_, rfl, _, rfl, v, c, x, ch, ck, rfl, hx, hc, hf, fit0 hf hfit, q⟩
    have wl := wr_len ch ck
    have b1 : (Str.ofString "[").length = 1 := by decide +kernel
    have b2 : (Str.ofString "]").length = 1 := by decide +kernel
    have b3 : (Str.ofString ", ").length = 2 := by decide +kernel
    have b4 : (Str.ofString "'").length = 1 := by decide +kernel
    cases hx with
    | frm h c' => exact absurd rfl hf
    | ring h c' => exact absurd rfl hf
    | flt h c' n1 n2 => exact absurd rfl hf
    | @num p i hp =>
      have hi : i.natAbs ≤ 10 ^ 60 := by cases e <;> exact hfit
      refine ⟨_, rfl, p, _, rfl, SqT.of hp, rfl, _, _, rfl, _, _, rfl, rfl, ?_⟩
      refine ⟨_, rfl, rfl, _, rfl, ite2 (fun z => absurd z (by decide +kernel)) (fun _ => ?_)⟩
      refine ⟨_, rfl, rfl, _, rfl, ite2 (fun z => absurd z (by decide +kernel)) (fun _ => ?_)⟩
      refine ⟨_, rfl, rfl, _, rfl, ite2 (fun z => absurd z (by decide +kernel)) (fun _ => ?_)⟩
      exact ⟨_, rfl, i, rfl, log2_60 hi, q _ (same_refl H)⟩
    | @tru p b hp =>
      refine ⟨_, rfl, p, _, rfl, SqT.of hp, rfl, _, _, rfl, _, _, rfl, rfl, ?_⟩
      refine ⟨_, rfl, rfl, _, rfl, ite2 (fun z => absurd z (by decide +kernel)) (fun _ => ?_)⟩
      refine ⟨_, rfl, rfl, _, rfl, ite2 (fun _ => ?_) (fun z => absurd (decide_eq_true rfl) z)⟩
      refine ⟨_, rfl, b, rfl, ?_⟩
      cases b with
      | true => exact iteT (q _ (same_refl H))
      | false => exact iteF (q _ (same_refl H))
    | @wrd p x hp =>
      have hi : x.length ≤ 400 := by cases e <;> exact hfit
      refine ⟨_, rfl, p, _, rfl, SqT.of hp, rfl, _, _, rfl, _, _, rfl, rfl, ?_⟩
      refine ⟨_, rfl, rfl, _, rfl, ite2 (fun z => absurd z (by decide +kernel)) (fun _ => ?_)⟩
      refine ⟨_, rfl, rfl, _, rfl, ite2 (fun z => absurd z (by decide +kernel)) (fun _ => ?_)⟩
      refine ⟨_, rfl, rfl, _, rfl, ite2 (fun _ => ?_) (fun z => absurd (decide_eq_true rfl) z)⟩
      exact ⟨_, rfl, _, _, rfl, rfl, by rw [b4, ez]; omega, _, _, rfl, rfl, by rw [str_len_append, b4, ez]; omega, q _ (same_refl H)⟩
    | @lst p t ys l hp ht ha =>
      refine ⟨_, rfl, p, _, rfl, SqT.of hp, rfl, _, _, rfl, _, _, rfl, rfl, ?_⟩
      refine ⟨_, rfl, rfl, _, rfl, ite2 (fun _ => ?_) (fun z => absurd (decide_eq_true rfl) z)⟩
      have hl3 : l.length ≤ 3 ∧ (l ≠ [] → 1 ≤ e) ∧ ∀ x ∈ l, Fit (e - 1) x := by
        cases e with
        | zero =>
          have z : l = [] := hfit
          subst z
          exact ⟨by decide, fun h => absurd rfl h, by simp⟩
        | succ e => exact ⟨hfit.1, fun _ => by omega, hfit.2⟩
      refine ⟨⟨_, rfl⟩, .ref t, rfl, t, rfl, ⟨_, SqT.of ht⟩, fun D hD => ?_⟩
      refine lc_tup (xs := ys) (fun i H' => Same H H' ∧ H' D = some (.lst (((l.map (wr ch ck)).take i).map V.str))) ⟨same_new hD, upd_same⟩ (fun i H' _ pp => SqT.of (pp.1 _ _ ht)) (fun i y H' hy pp => ?_) (fun H' pp => ?_)
      · obtain ⟨s1, e1⟩ := pp
        obtain ⟨z, hz, az⟩ := ha.get hy
        have hm : z ∈ l := List.mem_of_getElem? hz
        refine ⟨rfl, _, rfl, _, rfl, hl3.2.1 (List.ne_nil_of_mem hm), y, c, z, ch, ck, rfl, az.keep (same_tups s1), hc.keep (same_tups s1), by omega, hl3.2.2 z hm, fun H5 s5 => ?_⟩
        refine ⟨_, s5 _ _ e1, ?_, (s1.tr s5).mutN hD, ?_⟩
        · rw [List.length_map, List.length_take, ez]
          have := List.length_map (f := wr ch ck) (as := l)
          omega
        · rw [upd_same, take_snoc (x := wr ch ck z) (by rw [List.getElem?_map, hz]; rfl), List.map_append]
          rfl
      · obtain ⟨s1, e1⟩ := pp
        rw [ha.len, List.take_of_length_le (by rw [List.length_map]; omega)] at e1
        have j := join_le ", " (l.map (wr ch ck))
        have p4 : 4 ^ (e - 1) ≤ 4 ^ 3 := Nat.pow_le_pow_right (by decide) (by omega)
        have sm := sum_le (m := 480 * 4 ^ (e - 1)) (ys := l.map (wr ch ck)) fun y hy => by
          obtain ⟨z, hz, rfl⟩ := List.mem_map.mp hy
          exact wl _ z (hl3.2.2 z hz)
        rw [b3] at j
        rw [List.length_map] at sm j
        have h4 : l.length * (480 * 4 ^ (e - 1)) ≤ 3 * (480 * 4 ^ 3) := Nat.mul_le_mul hl3.1 (by omega)
        refine ⟨_, D, l.map (wr ch ck), rfl, rfl, .inl (SqL.of e1), ?_, ?_⟩
        · rw [List.length_map, b3]
          omega
        refine ⟨_, _, rfl, rfl, by rw [b1, ez]; omega, _, _, rfl, rfl, by rw [str_len_append, b1, b2, ez]; omega, ?_⟩
        have e2 : wr ch ck (.lst l) = "[" ++ Txt.join ", " (l.map (wr ch ck)) ++ "]" := by
          unfold wr
          rw [wrs_map]
        rw [← e2]
        exact q _ s1
theorem ok_wr {f : Addr} {fd : FuncData} (F : Fun K "written" "written" (topS 5) f fd) (T : Bs mg) (c_is_fault : Callee P w K mg base 1 "is_fault" ["answer"] spIsF)
    (c_written_fault : Callee P w K mg base 2 "written_fault" ["fault", "cell"] spWF) (g : mg "written" = some (.ref f)) (b : Binds K fd ["answer", "cell"] []) : ∀ e : Nat, FnOk P w K mg base CX0 (e + 3) f fd ["answer", "cell"] (spWr e)
  | 0 => step_wr (k := 2) F T (Nat.le_refl _) c_is_fault c_written_fault ⟨f, fd, ⟨fun _ _ _ _ h => absurd h.1 (by decide), fun _ _ _ _ _ _ _ _ _ _ _ _ _ h => absurd h.1 (by decide)⟩, g, F.kp, b⟩
  | e + 1 => step_wr (k := e + 3) F T (by omega) c_is_fault c_written_fault ⟨f, fd, (ok_wr F T c_is_fault c_written_fault g b e).imp fun _ _ _ _ h => h.2, g, F.kp, b⟩
/-- the law's own -/
def spLNm : Sp := fun vs H Q _ => ∃ (v : V) (h : Str) (k : Int), vs = [v] ∧ CellAt H v h k ∧ Q (.str (nm h k)) H
abbrev sLNm : Stmt := topS 14
theorem scLNm : FnScope ["_law_cell_here"] ["_law_cell_here"] (defScope sLNm) := ⟨rfl, rfl, rfl, by decide +kernel, rfl, by decide +kernel, by decide +kernel⟩
theorem ok_lnm {f : Addr} {fd : FuncData} (F : Fun K "_law_name" "_law_name" sLNm f fd) (T : Bs mg) : FnOk P w K mg base CX0 1 f fd ["_law_cell_here"] spLNm := by
  refine F.ok scLNm (fun vs H Q E h => ?_) (fun cdv A outer s H vs Q E hr h => ?_)
  · obtain ⟨v, x, k, rfl, _⟩ := h
    rfl
  · obtain ⟨v, x, k, rfl, hc, q⟩ := h
    have nd := scLNm.nd
    refine ⟨_, (pss_one (ps_ret (pe_op op_add_str (pe_op op_add_str (pe_ix ix_tup (pv 0) pe_int (fun _ _ => rfl)) pe_str) (pe_callTy call_str_int (by rfl) T.str (by decide +kernel) (pa_cons (pe_ix ix_tup (pv 0) pe_int (fun _ _ => rfl)) pa_nil))))), ?_⟩
    obtain ⟨p, rfl, hp, h8, hs, h0, h1⟩ := hc
    have h2 := strI_len (i := k) (Nat.le_trans (m := 1000) (by omega) (by decide))
    have h3 : (Str.ofString ":").length = 1 := by decide +kernel
    refine ⟨_, rfl, p, _, 0, .str x, rfl, rfl, SqT.of hp, atI_nat (j := 0) rfl, _, _, rfl, rfl, by rw [h3, ez]; omega, _, rfl, p, _, 1, .int k, rfl, rfl, SqT.of hp, atI_nat (j := 1) rfl, k, rfl, log2_60 (Nat.le_trans (m := 1000) (by omega) (by decide)), _, strI k, rfl, rfl, by rw [str_len_append, h3, ez]; omega, ?_⟩
    exact q
theorem app_assoc (x y z : Str) : x ++ y ++ z = x ++ (y ++ z) := TL.ext_tl (by rw [TL.tl_append, TL.tl_append, TL.tl_append, TL.tl_append, List.append_assoc])
theorem app_empty (x : Str) : x ++ "" = x := TL.ext_tl (by
  rw [TL.tl_append]
  have e : TL.tl "" = [] := by decide +kernel
  rw [e, List.append_nil])
set_option maxHeartbeats 4000000 in
theorem step_lwr {k e : Nat} {f : Addr} {fd : FuncData} (F : Fun K "_law_written" "_law_written" (topS 15) f fd) (T : Bs mg) (hk : 1 ≤ k) (c__law_name : Callee P w K mg base 1 "_law_name" ["_law_cell_here"] spLNm)
    (c__law_written : Callee P w K mg base k "_law_written" ["_law_answer_here", "_law_cell_here"] (spWrB e)) : FnOk P w K mg base CX0 (k + 1) f fd ["_law_answer_here", "_law_cell_here"] (spWr e) := by
  have scW : FnScope ["_law_answer_here", "_law_cell_here", "_law_kind", "_law_one"] ["_law_answer_here", "_law_cell_here"] (defScope (topS 15)) := ⟨rfl, rfl, rfl, by decide +kernel, rfl, by decide +kernel, by decide +kernel⟩
  refine F.ok scW (fun vs H Q E h => ?_) (fun cdv A outer s H vs Q E hr h => ?_)
  · obtain ⟨v, c, x, ch, ck, rfl, _⟩ := h
    rfl
  · obtain ⟨v, c, x, ch, ck, rfl, hx, hc, he3, hfit, q⟩ := h
    have nd := scW.nd
    refine ⟨_, (pss_cons (ps_set (i := 2) nd rfl (Or.inl rfl) (pe_ix ix_tup (pv 0) pe_int (fun _ _ => rfl)))
  (pss_cons (ps_if (pt_cmpR op_eq (pv 2) pe_str (nomark _))
  (pss_cons (ps_if (pt_cmpR op_in_seq (pe_ix ix_tup (pv 0) pe_int (fun _ _ => rfl)) (pe_tup (pa_cons pe_str (pa_cons pe_str pa_nil))) (by rfl))
  (pss_one (ps_ret (pe_op op_add_str (pe_ix ix_tup (pv 0) pe_int (fun _ _ => rfl)) (pe_ix ix_list (pe_lst (pa_cons (pe_op op_add_str pe_str (pe_own c__law_name (hr.mono (by omega)) (by rfl) (pa_cons (pe_ix ix_tup (pv 0) pe_int (fun _ _ => rfl)) pa_nil))) (pa_cons pe_str pa_nil))) (pe_callTy call_int1 (by rfl) T.int (by decide +kernel) (pa_cons (pe_cmpR op_eq (pe_ix ix_tup (pv 0) pe_int (fun _ _ => rfl)) pe_str (nomark _)) pa_nil)) (fun _ _ => rfl)))))
  pss_nil)
  (pss_cons (ps_if (pt_cmpR (op_eqD hr.units) (pe_ix ix_tup (pv 0) pe_int (fun _ _ => rfl)) (pv 1) (nomark _))
  (pss_one (ps_ret (pe_ix ix_tup (pv 0) pe_int (fun _ _ => rfl))))
  pss_nil)
  (pss_one (ps_ret (pe_op op_add_str (pe_op op_add_str (pe_op op_add_str (pe_op op_add_str (pe_ix ix_tup (pv 0) pe_int (fun _ _ => rfl)) pe_str) (pe_callTy call_str_int (by rfl) T.str (by decide +kernel) (pa_cons (pe_ix ix_tup (pv 0) pe_int (fun _ _ => rfl)) pa_nil))) pe_str) (pe_own c__law_name (hr.mono (by omega)) (by rfl) (pa_cons (pe_ix ix_tup (pv 0) pe_int (fun _ _ => rfl)) pa_nil)))))))
  pss_nil)
  (pss_cons (ps_if (pt_cmpR op_eq (pv 2) pe_str (nomark _))
  (pss_one (ps_ret (pe_ix ix_list (pe_lst (pa_cons pe_str (pa_cons pe_str pa_nil))) (pe_callTy call_int1 (by rfl) T.int (by decide +kernel) (pa_cons (pe_ix ix_tup (pv 0) pe_int (fun _ _ => rfl)) pa_nil)) (fun _ _ => rfl))))
  pss_nil)
  (pss_cons (ps_if (pt_cmpR op_eq (pv 2) pe_str (nomark _))
  (pss_one (ps_ret (pe_op op_add_str (pe_op op_add_str pe_str (pe_ix ix_tup (pv 0) pe_int (fun _ _ => rfl))) pe_str)))
  pss_nil)
  (pss_cons (ps_if (pt_cmpR op_eq (pv 2) pe_str (nomark _))
  (pss_one (ps_ret (pe_op op_add_str (pe_op op_add_str pe_str (pe_join pe_str (pe_lc (own := [("_law_one", 3)]) (g := gName 3) (tt := tYes) rfl nd (pi_tup (pe_ix ix_tup (pv 0) pe_int (fun _ _ => rfl))) (blkOk_by (own := [("_law_one", 3)]) (N := ["_law_answer_here", "_law_cell_here", "_law_kind", "_law_one"]) (sc := defScope (topS 15)) (by decide +kernel)) (fun _ _ _ _ _ => (pg_name (i := 3) nd rfl (Or.inl rfl))) (fun _ _ _ _ _ => pts_nil) (fun _ _ _ _ _ => (pe_own c__law_written (hr.mono (by omega)) (by rfl) (pa_cons (pv 3) (pa_cons (pv 1) pa_nil))))))) pe_str)))
  pss_nil)
  (pss_one (ps_ret (pe_callTy call_str_int (by rfl) T.str (by decide +kernel) (pa_cons (pe_ix ix_tup (pv 0) pe_int (fun _ _ => rfl)) pa_nil))))))))), ?_⟩
    have wl := wr_len ch ck
    have b1 : (Str.ofString "[").length = 1 := by decide +kernel
    have b2 : (Str.ofString "]").length = 1 := by decide +kernel
    have b3 : (Str.ofString ", ").length = 2 := by decide +kernel
    have b4 : (Str.ofString "'").length = 1 := by decide +kernel
    cases hx with
    | @frm p c' h k hp hc' =>
      refine ⟨_, rfl, p, _, 0, _, rfl, rfl, SqT.of hp, atI_nat (j := 0) rfl, ?_⟩
      refine ⟨_, rfl, rfl, _, rfl, ite2 (fun _ => ?_) (fun z => absurd (decide_eq_true rfl) z)⟩
      have ff := fit0 (x := .frm h k) rfl hfit
      have b := nm_len ff.1 ff.2.1 ff.2.2
      have b5 : (Str.ofString " ").length = 1 := by decide +kernel
      have b6 : (Str.ofString "from").length = 4 := by decide +kernel
      refine ⟨_, rfl, p, _, 1, _, rfl, rfl, SqT.of hp, atI_nat (j := 1) rfl, (by show 2 ≤ sizeLine; decide), fun r hr => ?_⟩
      have s1 := same_new (o := .tup [.str "from", .str "ring"]) hr
      have e1 : (upd H r (.tup [.str "from", .str "ring"])) r = some (.tup [.str "from", .str "ring"]) := upd_same
      generalize (upd H r (.tup [V.str "from", .str "ring"])) = H1 at s1 e1 ⊢
      have hp1 := s1 _ _ hp
      have hc1 := hc'.keep (same_tups s1)
      refine ⟨r, _, rfl, .inr (SqT.of e1), rfl, rfl, _, rfl, ite2 (fun _ => ?_) (fun z => absurd (by decide +kernel) z)⟩
      refine ⟨_, rfl, p, _, 1, _, rfl, rfl, SqT.of hp1, atI_nat (j := 1) rfl, _, rfl, p, _, 2, _, rfl, rfl, SqT.of hp1, atI_nat (j := 2) rfl, c', h, k, rfl, hc1, _, _, rfl, rfl, by rw [b5, ez]; omega, (by show 2 ≤ sizeLine; decide), fun l hl => ?_⟩
      have s2 := same_new (o := .lst [.str (" " ++ nm h k), .str ""]) hl
      refine ⟨_, rfl, p, _, 1, _, rfl, rfl, SqT.of (s2 _ _ hp1), atI_nat (j := 1) rfl, rfl, .inr ⟨_, rfl, l, _, 0, .str (" " ++ nm h k), rfl, ?_, SqL.of upd_same, atI_nat (j := 0) rfl, _, _, rfl, rfl, by rw [str_len_append, b5, b6, ez]; omega, ?_⟩⟩
      · have z : decide (V.str "from" = V.str "ring") = false := by decide +kernel
        rw [z]
        rfl
      · have e3 : (Str.ofString "from") ++ (" " ++ nm h k) = wr ch ck (.frm h k) := by
          rw [← app_assoc]
          have z : (Str.ofString "from") ++ " " = "from " := by decide +kernel
          rw [z]
          unfold wr
          rfl
        rw [e3]
        exact q _ (s1.tr s2)
    | @ring p c' h k hp hc' =>
      obtain ⟨_, _, _, b8, _, b0', b1'⟩ := id hc'
      have b := nm_len b8 b0' b1'
      have b5 : (Str.ofString " ").length = 1 := by decide +kernel
      have b6 : (Str.ofString "ring").length = 4 := by decide +kernel
      have b7 : (Str.ofString "").length = 0 := by decide +kernel
      refine ⟨_, rfl, p, _, 0, _, rfl, rfl, SqT.of hp, atI_nat (j := 0) rfl, ?_⟩
      refine ⟨_, rfl, rfl, _, rfl, ite2 (fun _ => ?_) (fun z => absurd (decide_eq_true rfl) z)⟩
      refine ⟨_, rfl, p, _, 1, _, rfl, rfl, SqT.of hp, atI_nat (j := 1) rfl, (by show 2 ≤ sizeLine; decide), fun r hr => ?_⟩
      have s1 := same_new (o := .tup [.str "from", .str "ring"]) hr
      have e1 : (upd H r (.tup [.str "from", .str "ring"])) r = some (.tup [.str "from", .str "ring"]) := upd_same
      generalize (upd H r (.tup [V.str "from", .str "ring"])) = H1 at s1 e1 ⊢
      have hp1 := s1 _ _ hp
      have hc1 := hc'.keep (same_tups s1)
      refine ⟨r, _, rfl, .inr (SqT.of e1), rfl, rfl, _, rfl, ite2 (fun _ => ?_) (fun z => absurd (by decide +kernel) z)⟩
      refine ⟨_, rfl, p, _, 1, _, rfl, rfl, SqT.of hp1, atI_nat (j := 1) rfl, _, rfl, p, _, 2, _, rfl, rfl, SqT.of hp1, atI_nat (j := 2) rfl, c', h, k, rfl, hc1, _, _, rfl, rfl, by rw [b5, ez]; omega, (by show 2 ≤ sizeLine; decide), fun l hl => ?_⟩
      have s2 := same_new (o := .lst [.str (" " ++ nm h k), .str ""]) hl
      refine ⟨_, rfl, p, _, 1, _, rfl, rfl, SqT.of (s2 _ _ hp1), atI_nat (j := 1) rfl, rfl, .inr ⟨_, rfl, l, _, 1, .str "", rfl, ?_, SqL.of upd_same, atI_nat (j := 1) rfl, _, _, rfl, rfl, by rw [b6, b7]; decide, ?_⟩⟩
      · rw [decide_eq_true rfl]
        rfl
      · rw [app_empty]
        exact q _ (s1.tr s2)
    | @flt p c' w h k s hp hc' n1 n2 =>
      have ff := fit0 (x := .flt w h k s) rfl hfit
      obtain ⟨f1, f2, f3, f4, f5, f6⟩ := ff
      have b := nm_len f2 f3 f4
      have bs := strI_len (i := s) (Nat.le_trans (m := 1000) (by omega) (by decide))
      have c3 : (Str.ofString " at ").length = 4 := by decide +kernel
      have c4 : (Str.ofString " of ").length = 4 := by decide +kernel
      refine ⟨_, rfl, p, _, 0, _, rfl, rfl, SqT.of hp, atI_nat (j := 0) rfl, ?_⟩
      refine ⟨_, rfl, rfl, _, rfl, ite2 (fun _ => ?_) (fun z => absurd (decide_eq_true rfl) z)⟩
      refine ⟨_, rfl, p, _, 1, _, rfl, rfl, SqT.of hp, atI_nat (j := 1) rfl, (by show 2 ≤ sizeLine; decide), fun r hr => ?_⟩
      have s1 := same_new (o := .tup [.str "from", .str "ring"]) hr
      have e1 : (upd H r (.tup [.str "from", .str "ring"])) r = some (.tup [.str "from", .str "ring"]) := upd_same
      generalize (upd H r (.tup [V.str "from", .str "ring"])) = H1 at s1 e1 ⊢
      have hp1 := s1 _ _ hp
      have hc1 := hc'.keep (same_tups s1)
      have hc2 := hc.keep (same_tups s1)
      refine ⟨r, _, rfl, .inr (SqT.of e1), rfl, rfl, _, rfl, ite2 (fun z => absurd z ?_) (fun _ => ?_)⟩
      · intro z
        have z' : ((Str.ofString "from") == w || ((Str.ofString "ring") == w || false)) = true := z
        rw [Bool.or_false, Bool.or_eq_true, beq_iff_eq, beq_iff_eq] at z'
        rcases z' with z' | z'
        · exact n1 z'.symm
        · exact n2 z'.symm
      refine ⟨_, rfl, p, _, 2, _, rfl, rfl, SqT.of hp1, atI_nat (j := 2) rfl, _, rfl, cellD h k, cellD ch ck, hc1.dp, hc2.dp, hc1.shaped, hc2.shaped, _, rfl, ?_⟩
      have e2 : wr ch ck (.flt w h k s) = if PyData.eqv (cellD h k) (cellD ch ck) = true then w else w ++ " at " ++ strI s ++ " of " ++ nm h k := by
        unfold wr
        rfl
      rw [e2] at q
      refine ite2 (fun hb => ?_) (fun hb => ?_)
      · rw [if_pos hb] at q
        exact ⟨_, rfl, p, _, 1, _, rfl, rfl, SqT.of hp1, atI_nat (j := 1) rfl, q _ s1⟩
      · rw [if_neg hb] at q
        refine ⟨_, rfl, p, _, 1, _, rfl, rfl, SqT.of hp1, atI_nat (j := 1) rfl, _, _, rfl, rfl, by rw [c3, ez]; omega, _, rfl, p, _, 3, .int s, rfl, rfl, SqT.of hp1, atI_nat (j := 3) rfl, s, rfl, log2_60 (Nat.le_trans (m := 1000) (by omega) (by decide)), _, strI s, rfl, rfl, by rw [str_len_append, c3, ez]; omega, ?_⟩
        refine ⟨_, _, rfl, rfl, by rw [str_len_append, str_len_append, c3, c4, ez]; omega, ?_⟩
        refine ⟨_, rfl, p, _, 2, _, rfl, rfl, SqT.of hp1, atI_nat (j := 2) rfl, c', h, k, rfl, hc1, _, _, rfl, rfl, by rw [str_len_append, str_len_append, str_len_append, c3, c4, ez]; omega, ?_⟩
        exact q _ s1
    | @num p i hp =>
      have hi : i.natAbs ≤ 10 ^ 60 := by cases e <;> exact hfit
      refine ⟨_, rfl, p, _, 0, _, rfl, rfl, SqT.of hp, atI_nat (j := 0) rfl, ?_⟩
      refine ⟨_, rfl, rfl, _, rfl, ite2 (fun z => absurd z (by decide +kernel)) (fun _ => ?_)⟩
      refine ⟨_, rfl, rfl, _, rfl, ite2 (fun z => absurd z (by decide +kernel)) (fun _ => ?_)⟩
      refine ⟨_, rfl, rfl, _, rfl, ite2 (fun z => absurd z (by decide +kernel)) (fun _ => ?_)⟩
      refine ⟨_, rfl, rfl, _, rfl, ite2 (fun z => absurd z (by decide +kernel)) (fun _ => ?_)⟩
      exact ⟨_, rfl, p, _, 1, .int i, rfl, rfl, SqT.of hp, atI_nat (j := 1) rfl, i, rfl, log2_60 hi, q _ (same_refl H)⟩
    | @tru p b hp =>
      refine ⟨_, rfl, p, _, 0, _, rfl, rfl, SqT.of hp, atI_nat (j := 0) rfl, ?_⟩
      refine ⟨_, rfl, rfl, _, rfl, ite2 (fun z => absurd z (by decide +kernel)) (fun _ => ?_)⟩
      refine ⟨_, rfl, rfl, _, rfl, ite2 (fun _ => ?_) (fun z => absurd (decide_eq_true rfl) z)⟩
      refine ⟨(by show 2 ≤ sizeLine; decide), fun l hl => ?_⟩
      have s2 := same_new (o := .lst [.str "false", .str "true"]) hl
      refine ⟨_, rfl, p, _, 1, .bl b, rfl, rfl, SqT.of (s2 _ _ hp), atI_nat (j := 1) rfl, .inr ⟨_, rfl, ?_⟩⟩
      cases b with
      | true => exact ⟨l, _, 1, .str "true", rfl, rfl, SqL.of upd_same, atI_nat (j := 1) rfl, q _ s2⟩
      | false => exact ⟨l, _, 0, .str "false", rfl, rfl, SqL.of upd_same, atI_nat (j := 0) rfl, q _ s2⟩
    | @wrd p x hp =>
      have hi : x.length ≤ 400 := by cases e <;> exact hfit
      refine ⟨_, rfl, p, _, 0, _, rfl, rfl, SqT.of hp, atI_nat (j := 0) rfl, ?_⟩
      refine ⟨_, rfl, rfl, _, rfl, ite2 (fun z => absurd z (by decide +kernel)) (fun _ => ?_)⟩
      refine ⟨_, rfl, rfl, _, rfl, ite2 (fun z => absurd z (by decide +kernel)) (fun _ => ?_)⟩
      refine ⟨_, rfl, rfl, _, rfl, ite2 (fun _ => ?_) (fun z => absurd (decide_eq_true rfl) z)⟩
      exact ⟨_, rfl, p, _, 1, .str x, rfl, rfl, SqT.of hp, atI_nat (j := 1) rfl, _, _, rfl, rfl, by rw [b4, ez]; omega, _, _, rfl, rfl, by rw [str_len_append, b4, ez]; omega, q _ (same_refl H)⟩
    | @lst p t ys l hp ht ha =>
      refine ⟨_, rfl, p, _, 0, _, rfl, rfl, SqT.of hp, atI_nat (j := 0) rfl, ?_⟩
      refine ⟨_, rfl, rfl, _, rfl, ite2 (fun z => absurd z (by decide +kernel)) (fun _ => ?_)⟩
      refine ⟨_, rfl, rfl, _, rfl, ite2 (fun z => absurd z (by decide +kernel)) (fun _ => ?_)⟩
      refine ⟨_, rfl, rfl, _, rfl, ite2 (fun z => absurd z (by decide +kernel)) (fun _ => ?_)⟩
      refine ⟨_, rfl, rfl, _, rfl, ite2 (fun _ => ?_) (fun z => absurd (decide_eq_true rfl) z)⟩
      have hl3 : l.length ≤ 3 ∧ (l ≠ [] → 1 ≤ e) ∧ ∀ x ∈ l, Fit (e - 1) x := by
        cases e with
        | zero =>
          have z : l = [] := hfit
          subst z
          exact ⟨by decide, fun h => absurd rfl h, by simp⟩
        | succ e => exact ⟨hfit.1, fun _ => by omega, hfit.2⟩
      refine ⟨⟨_, rfl⟩, .ref p, rfl, p, _, 1, .ref t, rfl, rfl, SqT.of hp, atI_nat (j := 1) rfl, t, rfl, ⟨_, SqT.of ht⟩, fun D hD => ?_⟩
      refine lc_tup (xs := ys) (fun i H' => Same H H' ∧ H' D = some (.lst (((l.map (wr ch ck)).take i).map V.str))) ⟨same_new hD, upd_same⟩ (fun i H' _ pp => SqT.of (pp.1 _ _ ht)) (fun i y H' hy pp => ?_) (fun H' pp => ?_)
      · obtain ⟨s1, e1⟩ := pp
        obtain ⟨z, hz, az⟩ := ha.get hy
        have hm : z ∈ l := List.mem_of_getElem? hz
        refine ⟨rfl, _, rfl, _, rfl, hl3.2.1 (List.ne_nil_of_mem hm), y, c, z, ch, ck, rfl, az.keep (same_tups s1), hc.keep (same_tups s1), by omega, hl3.2.2 z hm, fun H5 s5 => ?_⟩
        refine ⟨_, s5 _ _ e1, ?_, (s1.tr s5).mutN hD, ?_⟩
        · rw [List.length_map, List.length_take, ez]
          have := List.length_map (f := wr ch ck) (as := l)
          omega
        · rw [upd_same, take_snoc (x := wr ch ck z) (by rw [List.getElem?_map, hz]; rfl), List.map_append]
          rfl
      · obtain ⟨s1, e1⟩ := pp
        rw [ha.len, List.take_of_length_le (by rw [List.length_map]; omega)] at e1
        have j := join_le ", " (l.map (wr ch ck))
        have p4 : 4 ^ (e - 1) ≤ 4 ^ 3 := Nat.pow_le_pow_right (by decide) (by omega)
        have sm := sum_le (m := 480 * 4 ^ (e - 1)) (ys := l.map (wr ch ck)) fun y hy => by
          obtain ⟨z, hz, rfl⟩ := List.mem_map.mp hy
          exact wl _ z (hl3.2.2 z hz)
        rw [b3] at j
        rw [List.length_map] at sm j
        have h4 : l.length * (480 * 4 ^ (e - 1)) ≤ 3 * (480 * 4 ^ 3) := Nat.mul_le_mul hl3.1 (by omega)
        refine ⟨_, D, l.map (wr ch ck), rfl, rfl, .inl (SqL.of e1), ?_, ?_⟩
        · rw [List.length_map, b3]
          omega
        refine ⟨_, _, rfl, rfl, by rw [b1, ez]; omega, _, _, rfl, rfl, by rw [str_len_append, b1, b2, ez]; omega, ?_⟩
        have e2 : wr ch ck (.lst l) = "[" ++ Txt.join ", " (l.map (wr ch ck)) ++ "]" := by
          unfold wr
          rw [wrs_map]
        rw [← e2]
        exact q _ s1
theorem ok_lwr {f : Addr} {fd : FuncData} (F : Fun K "_law_written" "_law_written" (topS 15) f fd) (T : Bs mg) (c__law_name : Callee P w K mg base 1 "_law_name" ["_law_cell_here"] spLNm)
    (g : mg "_law_written" = some (.ref f)) (b : Binds K fd ["_law_answer_here", "_law_cell_here"] []) : ∀ e : Nat, FnOk P w K mg base CX0 (e + 2) f fd ["_law_answer_here", "_law_cell_here"] (spWr e)
  | 0 => step_lwr (k := 1) F T (Nat.le_refl _) c__law_name ⟨f, fd, ⟨fun _ _ _ _ h => absurd h.1 (by decide), fun _ _ _ _ _ _ _ _ _ _ _ _ _ h => absurd h.1 (by decide)⟩, g, F.kp, b⟩
  | e + 1 => step_lwr (k := e + 2) F T (by omega) c__law_name ⟨f, fd, (ok_lwr F T c__law_name g b e).imp fun _ _ _ _ h => h.2, g, F.kp, b⟩
end
end Lk
namespace Lk
open PySem PySem.Spec PyProof.Rows L2 Lf
section
variable {P : Program} {w : World} {K : PySem.W.Frag} {mg : Str → Option Value} {base : Heap}
theorem cut_take (xs : List V) (n : Nat) : cutV xs none (some (n : Int)) = xs.take n := by
  unfold cutV
  rw [HT.sIx_none, HT.sIx_nat, List.drop_zero, Nat.sub_zero]
  rcases Nat.le_total n xs.length with h | h
  · rw [Nat.min_eq_left h]
  · rw [Nat.min_eq_right h, List.take_of_length_le h, List.take_of_length_le (Nat.le_refl _)]
theorem AnIs.head {H : Hp} {v : V} {x : An} (h : AnIs H v x) : ∃ p z xs, v = .ref p ∧ H p = some (.tup (.str z :: xs)) ∧ ((z = "list" ∧ ∃ q ys l, x = .lst l ∧ xs = [.ref q] ∧ H q = some (.tup ys) ∧ AnsIs H ys l) ∨ z ≠ "list") := by
  cases h with
  | num h => exact ⟨_, _, _, rfl, h, .inr (by decide +kernel)⟩
  | tru h => exact ⟨_, _, _, rfl, h, .inr (by decide +kernel)⟩
  | wrd h => exact ⟨_, _, _, rfl, h, .inr (by decide +kernel)⟩
  | lst h h2 h3 => exact ⟨_, _, _, rfl, h, .inl ⟨rfl, _, _, _, rfl, rfl, h2, h3⟩⟩
  | frm h c => exact ⟨_, _, _, rfl, h, .inr (by decide +kernel)⟩
  | ring h c => exact ⟨_, _, _, rfl, h, .inr (by decide +kernel)⟩
  | flt h c n1 n2 => exact ⟨_, _, _, rfl, h, .inr (by decide +kernel)⟩
theorem Fit.up : ∀ {e : Nat} {x : An}, Fit e x → Fit (e + 1) x := fun {e} => by
  induction e with
  | zero =>
    intro x h
    cases x with
    | lst l =>
      have z : l = [] := h
      subst z
      exact ⟨by decide, by simp⟩
    | _ => exact h
  | succ e ih =>
    intro x h
    cases x with
    | lst l => exact ⟨h.1, fun y hy => ih (h.2 y hy)⟩
    | _ => exact h
def spLaw (K : PySem.W.Frag) : Sp := fun vs H Q _ => ∃ (a : Addr) (ns : List Int), vs = [.ref a] ∧ SqL K H a (ns.map V.int) ∧ ns.length ≤ 63 ∧ ∀ H', Q (.bl true) H'
abbrev sLaw : Stmt := topS 16
theorem scLaw : FnScope ["_law_script", "_law_dice", "_law_turn", "_law_cell_here", "_law_answer_here", "_law_parts", "_law_one"] ["_law_script"] (defScope sLaw) := ⟨rfl, rfl, rfl, by decide +kernel, rfl, by decide +kernel, by decide +kernel⟩
set_option maxHeartbeats 4000000 in
theorem ok_law {f : Addr} {fd : FuncData} (F : Fun K "law" "law" sLaw f fd) (T : Bs mg) (c__law_roll : Callee P w K mg base 1 "_law_roll" ["_law_dice", "_law_size"] spRoll) (c__law_cell : Callee P w K mg base 3 "_law_cell" ["_law_dice"] spCell)
    (c__law_answer : Callee P w K mg base 7 "_law_answer" ["_law_dice", "_law_cell_here", "_law_length", "_law_deep"] (spAns 3)) (c_written : Callee P w K mg base 6 "written" ["answer", "cell"] (spWr 3)) (c__law_written : Callee P w K mg base 5 "_law_written" ["_law_answer_here", "_law_cell_here"] (spWr 3)) :
    FnOk P w K mg base CX0 8 f fd ["_law_script"] (spLaw K) := by
  refine F.ok scLaw (fun vs H Q E h => ?_) (fun cdv A outer s H vs Q E hr h => ?_)
  · obtain ⟨a, ns, rfl, _⟩ := h
    rfl
  · obtain ⟨a, ns, rfl, hS, hl63, q⟩ := h
    have nd := scLaw.nd
    refine ⟨_, (pss_cons (ps_set (i := 1) nd rfl (Or.inl rfl) (pe_lst (pa_cons (pe_callTy call_list_of (by rfl) T.list (by decide +kernel) (pa_cons (pe_slice sl_list (pv 0) po_none (po_some pe_int)) pa_nil)) (pa_cons pe_int (pa_cons pe_int (pa_cons pe_int pa_nil))))))
  (pss_cons (ps_for PassesOwn.never rfl (pi_range1 (by rfl) T.range (pa_cons pe_int pa_nil)) (pg_name (i := 2) nd rfl (Or.inl rfl))
  (pss_cons (ps_set (i := 3) nd rfl (Or.inr rfl) (pe_own c__law_cell (hr.mono (by decide)) (by rfl) (pa_cons (pv 1) pa_nil)))
  (pss_cons (ps_set (i := 4) nd rfl (Or.inl rfl) (pe_own c__law_answer (hr.mono (by decide)) (by rfl) (pa_cons (pv 1) (pa_cons (pv 3) (pa_cons pe_int (pa_cons (pe_own c__law_roll (hr.mono (by decide)) (by rfl) (pa_cons (pv 1) (pa_cons pe_int pa_nil))) pa_nil))))))
  (pss_cons (ps_if (pt_cmpR op_ne (pe_own c_written (hr.mono (by decide)) (by rfl) (pa_cons (pv 4) (pa_cons (pv 3) pa_nil))) (pe_own c__law_written (hr.mono (by decide)) (by rfl) (pa_cons (pv 4) (pa_cons (pv 3) pa_nil))) (nomark _))
  (pss_one (ps_ret pe_bl))
  pss_nil)
  (pss_one (ps_if (pt_cmpR op_eq (pe_ix ix_tup (pv 4) pe_int (fun _ _ => rfl)) pe_str (nomark _))
  (pss_cons (ps_setLc (i := 5) (own := [("_law_one", 6)]) (g := gName 6) (tt := tYes) rfl nd rfl rfl (sw_true rfl rfl rfl (by decide +kernel)) (pi_tup (pe_ix ix_tup (pv 4) pe_int (fun _ _ => rfl))) (blkOk_by (own := [("_law_one", 6)]) (N := ["_law_script", "_law_dice", "_law_turn", "_law_cell_here", "_law_answer_here", "_law_parts", "_law_one"]) (sc := defScope (topS 16)) (by decide +kernel)) (fun _ _ _ _ _ => (pg_name (i := 6) nd rfl (Or.inl rfl))) (fun _ _ _ _ _ => pts_nil) (fun _ _ _ _ _ => (pe_own c_written (hr.mono (by decide)) (by rfl) (pa_cons (pv 6) (pa_cons (pv 3) pa_nil)))))
  (pss_one (ps_if (pt_cmpR op_ne (pe_own c_written (hr.mono (by decide)) (by rfl) (pa_cons (pv 4) (pa_cons (pv 3) pa_nil))) (pe_op op_add_str (pe_op op_add_str pe_str (pe_join pe_str (pv 5))) pe_str) (nomark _))
  (pss_one (ps_ret pe_bl))
  pss_nil)))
  pss_nil))))))
  (pss_one (ps_ret (pe_and (pe_cmpR op_eq (pe_own c_written (hr.mono (by decide)) (by rfl) (pa_cons (pe_tup (pa_cons pe_str (pa_cons (pe_tup pa_nil) pa_nil))) (pa_cons (pe_tup (pa_cons pe_str (pa_cons pe_int pa_nil))) pa_nil))) pe_str (nomark _)) (pe_one (pe_cmpR op_eq (pe_own c_written (hr.mono (by decide)) (by rfl) (pa_cons (pe_tup (pa_cons pe_str (pa_cons pe_str pa_nil))) (pa_cons (pe_tup (pa_cons pe_str (pa_cons pe_int pa_nil))) pa_nil))) pe_str (nomark _)))))))), ?_⟩
    refine ⟨.ref a, rfl, 63, rfl, a, _, rfl, hS, fun p0 hp0 => ?_⟩
    have e63 : cutV (ns.map V.int) none (some 63) = (ns.take 63).map V.int := by
      rw [show (63 : Int) = ((63 : Nat) : Int) from rfl, cut_take, List.map_take]
    rw [e63]
    refine ⟨p0, _, rfl, .inl (SqL.of upd_same), fun l hl => ⟨(by show 4 ≤ sizeLine; decide), fun d hd => ?_⟩⟩
    have el : (upd (upd (upd H p0 (.lst ((ns.take 63).map V.int))) l (.lst ((ns.take 63).map V.int))) d (.lst [.ref l, .int 0, .int 0, .int 0])) l = some (.lst ((ns.take 63).map V.int)) := by
      rw [upd_ne (ne_of_none upd_same hd)]
      exact upd_same
    have hD : DiceAt l 0 (upd (upd (upd H p0 (.lst ((ns.take 63).map V.int))) l (.lst ((ns.take 63).map V.int))) d (.lst [.ref l, .int 0, .int 0, .int 0])) d :=
      ⟨ns.take 63, 0, 0, 0, upd_same, el, by rw [List.length_take]; omega, Nat.le_refl _, ne_of_none upd_same hd⟩
    generalize (upd (upd (upd H p0 (.lst ((ns.take 63).map V.int))) l (.lst ((ns.take 63).map V.int))) d (.lst [V.ref l, .int 0, .int 0, .int 0])) = H0 at hD ⊢
    refine ⟨10, rfl, by decide, by decide, for_range (lo := 0) (n := 10) (fun i σ H' => ∃ y2 y3 y4 y5 y6, DiceAt l (i * 83213) H' d ∧ σ = [some (.ref a), some (.ref d), y2, y3, y4, y5, y6]) ⟨_, _, _, _, _, hD, rfl⟩ (fun i σ H1 hi h => ?_) (fun σ H1 h => ?_)⟩
    · obtain ⟨y2, y3, y4, y5, y6, d1, rfl⟩ := h
      refine ⟨_, rfl, d, l, i * 83213, rfl, d1, by omega, fun c ch ck H2 k2 d2 c2 => ?_⟩
      refine ⟨_, rfl, _, rfl, _, rfl, d, l, i * 83213 + 12, 2, rfl, d2, by omega, by decide, big (by decide), fun v3 H3 k3 d3 v30 v31 => ?_⟩
      refine ⟨d, l, i * 83213 + 12 + 1, c, ch, ck, 30, v3, rfl, d3, c2.keep (d2.tups k3), by decide, by decide, v30, by omega, by omega, fun v x H4 k4 d4 hx hf => ?_⟩
      have c4 := (c2.keep (d2.tups k3)).keep (d3.tups k4)
      refine ⟨_, rfl, _, rfl, v, c, x, ch, ck, rfl, hx, c4, by decide, hf, fun H5 s5 => ⟨_, rfl, _, rfl, v, c, x, ch, ck, rfl, hx.keep (same_tups s5), c4.keep (same_tups s5), by decide, hf, fun H6 s6 => ⟨rfl, _, rfl, ite2 (fun z => absurd z (by simp)) (fun _ => ?_)⟩⟩⟩
      have s46 := s5.tr s6
      have hx6 := hx.keep (same_tups s46)
      have c6 := c4.keep (same_tups s46)
      have d6 : DiceAt l ((i + 1) * 83213) H6 d := (d4.same s46).up (by omega)
      obtain ⟨p, z, xs, rfl, hp, hz⟩ := hx6.head
      refine ⟨_, rfl, p, _, 0, _, rfl, rfl, SqT.of hp, atI_nat (j := 0) rfl, rfl, _, rfl, ?_⟩
      rcases hz with ⟨rfl, t, ys, ls, rfl, rfl, ht, ha⟩ | hz
      · refine ite2 (fun _ => ?_) (fun n => absurd (decide_eq_true rfl) n)
        refine ⟨_, rfl, p, _, 1, .ref t, rfl, rfl, SqT.of hp, atI_nat (j := 1) rfl, t, rfl, ⟨_, SqT.of ht⟩, fun D hD' => ?_⟩
        have hfl : ls.length ≤ 3 ∧ ∀ z ∈ ls, Fit 2 z := hf
        have wl := wr_len ch ck
        refine lc_tup (xs := ys) (fun i H' => Same H6 H' ∧ H' D = some (.lst (((ls.map (wr ch ck)).take i).map V.str))) ⟨same_new hD', upd_same⟩ (fun i H' _ pp => SqT.of (pp.1 _ _ ht)) (fun j y H' hy pp => ?_) (fun H' pp => ?_)
        · obtain ⟨s1, e1⟩ := pp
          obtain ⟨z, hz, az⟩ := ha.get hy
          have hm : z ∈ ls := List.mem_of_getElem? hz
          refine ⟨rfl, _, rfl, _, rfl, y, c, z, ch, ck, rfl, az.keep (same_tups s1), c6.keep (same_tups s1), by decide, (hfl.2 z hm).up, fun H7 s7 => ?_⟩
          refine ⟨_, s7 _ _ e1, ?_, (s1.tr s7).mutN hD', ?_⟩
          · rw [List.length_map, List.length_take, ez]
            have := List.length_map (f := wr ch ck) (as := ls)
            omega
          · rw [upd_same, take_snoc (x := wr ch ck z) (by rw [List.getElem?_map, hz]; rfl), List.map_append]
            rfl
        · obtain ⟨s1, e1⟩ := pp
          rw [ha.len, List.take_of_length_le (by rw [List.length_map]; omega)] at e1
          have b1 : (Str.ofString "[").length = 1 := by decide +kernel
          have b2 : (Str.ofString "]").length = 1 := by decide +kernel
          have b3 : (Str.ofString ", ").length = 2 := by decide +kernel
          have j := join_le ", " (ls.map (wr ch ck))
          have sm := sum_le (m := 480 * 4 ^ 2) (ys := ls.map (wr ch ck)) fun y hy => by
            obtain ⟨z, hz, rfl⟩ := List.mem_map.mp hy
            exact wl _ z (hfl.2 z hz)
          rw [b3] at j
          rw [List.length_map] at sm j
          have h4 : ls.length * (480 * 4 ^ 2) ≤ 3 * (480 * 4 ^ 2) := Nat.mul_le_mul_right _ hfl.1
          refine ⟨_, rfl, _, rfl, .ref p, c, .lst ls, ch, ck, rfl, hx6.keep (same_tups s1), c6.keep (same_tups s1), by decide, hf, fun H7 s7 => ?_⟩
          refine ⟨⟨_, rfl⟩, _, rfl, _, D, ls.map (wr ch ck), rfl, rfl, .inl (SqL.of (s7 _ _ e1)), ?_, ?_⟩
          · rw [List.length_map, b3]
            omega
          refine ⟨_, _, rfl, rfl, by rw [b1, ez]; omega, _, _, rfl, rfl, by rw [str_len_append, b1, b2, ez]; omega, rfl, _, rfl, ?_⟩
          have e2 : wr ch ck (.lst ls) = "[" ++ Txt.join ", " (ls.map (wr ch ck)) ++ "]" := by
            unfold wr
            rw [wrs_map]
          rw [← e2]
          refine ite2 (fun z => absurd z (by simp)) (fun _ => ?_)
          exact ⟨_, _, _, _, _, d6.same (s1.tr s7), rfl⟩
      · refine ite2 (fun n => absurd (V.str.inj (of_decide_eq_true n)) hz) (fun _ => ?_)
        exact ⟨_, _, _, _, _, d6, rfl⟩
    · obtain ⟨y2, y3, y4, y5, y6, d1, rfl⟩ := h
      refine ⟨(by show 0 ≤ sizeLine; decide), fun t ht => ⟨(by show 2 ≤ sizeLine; decide), fun p hp => ⟨(by show 2 ≤ sizeLine; decide), fun c hc => ?_⟩⟩⟩
      have s1 := same_new (o := .tup []) ht
      have s2 := same_new (o := .tup [.str "list", .ref t]) hp
      have s3 := same_new (o := .tup [.str "a", .int 0]) hc
      have ca : ∀ {H' : Hp}, H' c = some (.tup [.str "a", .int 0]) → CellAt H' (.ref c) "a" 0 := fun h => ⟨c, rfl, h, by decide +kernel, by decide +kernel, by decide, by decide⟩
      refine ⟨.ref p, .ref c, .lst [], "a", 0, rfl, .lst (s3 _ _ upd_same) (s3 _ _ (s2 _ _ upd_same)) .nil, ca upd_same, by decide, ⟨by decide, by simp⟩, fun H2 k2 => ?_⟩
      have e1 : wr "a" 0 (.lst []) = "[]" := by decide +kernel
      have e2 : wr "a" 0 (.wrd "") = "''" := by decide +kernel
      rw [e1]
      refine ⟨rfl, _, rfl, ite2 (fun _ => ?_) (fun z => absurd (decide_eq_true rfl) z)⟩
      refine ⟨(by show 2 ≤ sizeLine; decide), fun p2 hp2 => ⟨(by show 2 ≤ sizeLine; decide), fun c2 hc2 => ?_⟩⟩
      have s4 := same_new (o := .tup [.str "words", .str ""]) hp2
      have s5 := same_new (o := .tup [.str "a", .int 0]) hc2
      have ca : ∀ {H' : Hp}, H' c2 = some (.tup [.str "a", .int 0]) → CellAt H' (.ref c2) "a" 0 := fun h => ⟨c2, rfl, h, by decide +kernel, by decide +kernel, by decide, by decide⟩
      refine ⟨.ref p2, .ref c2, .wrd "", "a", 0, rfl, .wrd (s5 _ _ upd_same), ca upd_same, by decide, (show (Str.ofString "").length ≤ 400 by decide +kernel), fun H3 k3 => ?_⟩
      rw [e2]
      refine ⟨rfl, ?_⟩
      rw [decide_eq_true rfl]
      exact q _
end
end Lk
namespace Lk
open PySem PySem.Spec PyProof.Rows L2 Lf
section
theorem all_mk {l : PySem.W.OpenLaw} {w : World} {K : PySem.W.Frag} {h : Heap} {mg : Str → Option Value} {fa : Addr} (X : K.In h) (G : h.Ns mainGlobals mg) (hfa : mg "law" = some (.ref fa))
    {od0 an0 : Option Addr} {sl0 : Array (Option Value)} {oc0 kV0 dc0 pm0 cd0 ct0 : Value} {f0 : Addr}
    {od1 an1 : Option Addr} {sl1 : Array (Option Value)} {oc1 kV1 dc1 pm1 cd1 ct1 : Value} {f1 : Addr}
    {od2 an2 : Option Addr} {sl2 : Array (Option Value)} {oc2 kV2 dc2 pm2 cd2 ct2 : Value} {f2 : Addr}
    {od3 an3 : Option Addr} {sl3 : Array (Option Value)} {oc3 kV3 dc3 pm3 cd3 ct3 : Value} {f3 : Addr}
    {od4 an4 : Option Addr} {sl4 : Array (Option Value)} {oc4 kV4 dc4 pm4 cd4 ct4 : Value} {f4 : Addr}
    {od5 an5 : Option Addr} {sl5 : Array (Option Value)} {oc5 kV5 dc5 pm5 cd5 ct5 : Value} {f5 : Addr}
    {od6 an6 : Option Addr} {sl6 : Array (Option Value)} {oc6 kV6 dc6 pm6 cd6 ct6 : Value} {f6 : Addr}
    {od7 an7 : Option Addr} {sl7 : Array (Option Value)} {oc7 kV7 dc7 pm7 cd7 ct7 : Value} {f7 : Addr}
    {od8 an8 : Option Addr} {sl8 : Array (Option Value)} {oc8 kV8 dc8 pm8 cd8 ct8 : Value} {f8 : Addr}
    {od9 an9 : Option Addr} {sl9 : Array (Option Value)} {oc9 kV9 dc9 pm9 cd9 ct9 : Value} {f9 : Addr}
    {od10 an10 : Option Addr} {sl10 : Array (Option Value)} {oc10 kV10 dc10 pm10 cd10 ct10 : Value} {f10 : Addr}
    {od11 an11 : Option Addr} {sl11 : Array (Option Value)} {oc11 kV11 dc11 pm11 cd11 ct11 : Value} {f11 : Addr}
    {od12 an12 : Option Addr} {sl12 : Array (Option Value)} {oc12 kV12 dc12 pm12 cd12 ct12 : Value} {f12 : Addr}
    (a0 : PySem.W.nsIn K mainGlobals "is_fault" = some (some (.ref f0))) (l0 : K.lookup f0 = some ⟨oc0, od0, .func (PySem.W.fnOf "is_fault" "is_fault" (defArgs (topS 1)) (defBody (topS 1)) (defScope (topS 1)) .none kV0 dc0 pm0 an0 cd0 ct0), sl0⟩) (c0 : PySem.W.codeIn K cd0 "is_fault" = true) (k0 : PySem.W.keepIn K (.ref f0) = true)
    (a1 : PySem.W.nsIn K mainGlobals "shown_name" = some (some (.ref f1))) (l1 : K.lookup f1 = some ⟨oc1, od1, .func (PySem.W.fnOf "shown_name" "shown_name" (defArgs (topS 3)) (defBody (topS 3)) (defScope (topS 3)) .none kV1 dc1 pm1 an1 cd1 ct1), sl1⟩) (c1 : PySem.W.codeIn K cd1 "shown_name" = true) (k1 : PySem.W.keepIn K (.ref f1) = true)
    (a2 : PySem.W.nsIn K mainGlobals "written" = some (some (.ref f2))) (l2 : K.lookup f2 = some ⟨oc2, od2, .func (PySem.W.fnOf "written" "written" (defArgs (topS 5)) (defBody (topS 5)) (defScope (topS 5)) .none kV2 dc2 pm2 an2 cd2 ct2), sl2⟩) (c2 : PySem.W.codeIn K cd2 "written" = true) (k2 : PySem.W.keepIn K (.ref f2) = true)
    (a3 : PySem.W.nsIn K mainGlobals "written_fault" = some (some (.ref f3))) (l3 : K.lookup f3 = some ⟨oc3, od3, .func (PySem.W.fnOf "written_fault" "written_fault" (defArgs (topS 6)) (defBody (topS 6)) (defScope (topS 6)) .none kV3 dc3 pm3 an3 cd3 ct3), sl3⟩) (c3 : PySem.W.codeIn K cd3 "written_fault" = true) (k3 : PySem.W.keepIn K (.ref f3) = true)
    (a4 : PySem.W.nsIn K mainGlobals "_law_roll" = some (some (.ref f4))) (l4 : K.lookup f4 = some ⟨oc4, od4, .func (PySem.W.fnOf "_law_roll" "_law_roll" (defArgs (topS 8)) (defBody (topS 8)) (defScope (topS 8)) .none kV4 dc4 pm4 an4 cd4 ct4), sl4⟩) (c4 : PySem.W.codeIn K cd4 "_law_roll" = true) (k4 : PySem.W.keepIn K (.ref f4) = true)
    (a5 : PySem.W.nsIn K mainGlobals "_law_pick" = some (some (.ref f5))) (l5 : K.lookup f5 = some ⟨oc5, od5, .func (PySem.W.fnOf "_law_pick" "_law_pick" (defArgs (topS 9)) (defBody (topS 9)) (defScope (topS 9)) .none kV5 dc5 pm5 an5 cd5 ct5), sl5⟩) (c5 : PySem.W.codeIn K cd5 "_law_pick" = true) (k5 : PySem.W.keepIn K (.ref f5) = true)
    (a6 : PySem.W.nsIn K mainGlobals "_law_hand" = some (some (.ref f6))) (l6 : K.lookup f6 = some ⟨oc6, od6, .func (PySem.W.fnOf "_law_hand" "_law_hand" (defArgs (topS 10)) (defBody (topS 10)) (defScope (topS 10)) .none kV6 dc6 pm6 an6 cd6 ct6), sl6⟩) (c6 : PySem.W.codeIn K cd6 "_law_hand" = true) (k6 : PySem.W.keepIn K (.ref f6) = true)
    (a7 : PySem.W.nsIn K mainGlobals "_law_signs" = some (some (.ref f7))) (l7 : K.lookup f7 = some ⟨oc7, od7, .func (PySem.W.fnOf "_law_signs" "_law_signs" (defArgs (topS 11)) (defBody (topS 11)) (defScope (topS 11)) .none kV7 dc7 pm7 an7 cd7 ct7), sl7⟩) (c7 : PySem.W.codeIn K cd7 "_law_signs" = true) (k7 : PySem.W.keepIn K (.ref f7) = true)
    (a8 : PySem.W.nsIn K mainGlobals "_law_cell" = some (some (.ref f8))) (l8 : K.lookup f8 = some ⟨oc8, od8, .func (PySem.W.fnOf "_law_cell" "_law_cell" (defArgs (topS 12)) (defBody (topS 12)) (defScope (topS 12)) .none kV8 dc8 pm8 an8 cd8 ct8), sl8⟩) (c8 : PySem.W.codeIn K cd8 "_law_cell" = true) (k8 : PySem.W.keepIn K (.ref f8) = true)
    (a9 : PySem.W.nsIn K mainGlobals "_law_answer" = some (some (.ref f9))) (l9 : K.lookup f9 = some ⟨oc9, od9, .func (PySem.W.fnOf "_law_answer" "_law_answer" (defArgs (topS 13)) (defBody (topS 13)) (defScope (topS 13)) .none kV9 dc9 pm9 an9 cd9 ct9), sl9⟩) (c9 : PySem.W.codeIn K cd9 "_law_answer" = true) (k9 : PySem.W.keepIn K (.ref f9) = true)
    (a10 : PySem.W.nsIn K mainGlobals "_law_name" = some (some (.ref f10))) (l10 : K.lookup f10 = some ⟨oc10, od10, .func (PySem.W.fnOf "_law_name" "_law_name" (defArgs (topS 14)) (defBody (topS 14)) (defScope (topS 14)) .none kV10 dc10 pm10 an10 cd10 ct10), sl10⟩) (c10 : PySem.W.codeIn K cd10 "_law_name" = true) (k10 : PySem.W.keepIn K (.ref f10) = true)
    (a11 : PySem.W.nsIn K mainGlobals "_law_written" = some (some (.ref f11))) (l11 : K.lookup f11 = some ⟨oc11, od11, .func (PySem.W.fnOf "_law_written" "_law_written" (defArgs (topS 15)) (defBody (topS 15)) (defScope (topS 15)) .none kV11 dc11 pm11 an11 cd11 ct11), sl11⟩) (c11 : PySem.W.codeIn K cd11 "_law_written" = true) (k11 : PySem.W.keepIn K (.ref f11) = true)
    (a12 : PySem.W.nsIn K mainGlobals "law" = some (some (.ref f12))) (l12 : K.lookup f12 = some ⟨oc12, od12, .func (PySem.W.fnOf "law" "law" (defArgs (topS 16)) (defBody (topS 16)) (defScope (topS 16)) .none kV12 dc12 pm12 an12 cd12 ct12), sl12⟩) (c12 : PySem.W.codeIn K cd12 "law" = true) (k12 : PySem.W.keepIn K (.ref f12) = true)
    (z0 : PySem.W.nsIn K mainGlobals "len" = some none)
    (z1 : PySem.W.nsIn K mainGlobals "range" = some none)
    (z2 : PySem.W.nsIn K mainGlobals "list" = some none)
    (z3 : PySem.W.nsIn K mainGlobals "tuple" = some none)
    (z4 : PySem.W.nsIn K mainGlobals "str" = some none)
    (z5 : PySem.W.nsIn K mainGlobals "int" = some none)
    : ∃ fd : FuncData, (∀ (s : Shared) (v : Value), BindsTo s fd ⟨[v], []⟩ [("_law_script", v)]) ∧ ∀ base : Heap, K.In base → base.Ns mainGlobals mg → FnOk l.prog w K mg base CX0 8 fa fd ["_law_script"] (spLaw K) := by
  have e := hfa.symm.trans (PySem.W.mg_of X G a12)
  cases e
  have T : Bs mg := ⟨PySem.W.mg_none_of X G z0, PySem.W.mg_none_of X G z1, PySem.W.mg_none_of X G z2, PySem.W.mg_none_of X G z3, PySem.W.mg_none_of X G z4, PySem.W.mg_none_of X G z5⟩
  have F_is_fault := fun_mk (st := topS 1) l0 c0 k0
  have g_is_fault := PySem.W.mg_of X G a0
  have b_is_fault := F_is_fault.binds (ps := ["answer"]) fun _ _ _ _ _ _ us hl => match us, hl with | [_], _ => rfl
  have F_shown_name := fun_mk (st := topS 3) l1 c1 k1
  have g_shown_name := PySem.W.mg_of X G a1
  have b_shown_name := F_shown_name.binds (ps := ["name"]) fun _ _ _ _ _ _ us hl => match us, hl with | [_], _ => rfl
  have F_written := fun_mk (st := topS 5) l2 c2 k2
  have g_written := PySem.W.mg_of X G a2
  have b_written := F_written.binds (ps := ["answer", "cell"]) fun _ _ _ _ _ _ us hl => match us, hl with | [_, _], _ => rfl
  have F_written_fault := fun_mk (st := topS 6) l3 c3 k3
  have g_written_fault := PySem.W.mg_of X G a3
  have b_written_fault := F_written_fault.binds (ps := ["fault", "cell"]) fun _ _ _ _ _ _ us hl => match us, hl with | [_, _], _ => rfl
  have F__law_roll := fun_mk (st := topS 8) l4 c4 k4
  have g__law_roll := PySem.W.mg_of X G a4
  have b__law_roll := F__law_roll.binds (ps := ["_law_dice", "_law_size"]) fun _ _ _ _ _ _ us hl => match us, hl with | [_, _], _ => rfl
  have F__law_pick := fun_mk (st := topS 9) l5 c5 k5
  have g__law_pick := PySem.W.mg_of X G a5
  have b__law_pick := F__law_pick.binds (ps := ["_law_dice", "_law_some"]) fun _ _ _ _ _ _ us hl => match us, hl with | [_, _], _ => rfl
  have F__law_hand := fun_mk (st := topS 10) l6 c6 k6
  have g__law_hand := PySem.W.mg_of X G a6
  have b__law_hand := F__law_hand.binds (ps := ["_law_dice"]) fun _ _ _ _ _ _ us hl => match us, hl with | [_], _ => rfl
  have F__law_signs := fun_mk (st := topS 11) l7 c7 k7
  have g__law_signs := PySem.W.mg_of X G a7
  have b__law_signs := F__law_signs.binds (ps := ["_law_dice", "_law_many"]) fun _ _ _ _ _ _ us hl => match us, hl with | [_, _], _ => rfl
  have F__law_cell := fun_mk (st := topS 12) l8 c8 k8
  have g__law_cell := PySem.W.mg_of X G a8
  have b__law_cell := F__law_cell.binds (ps := ["_law_dice"]) fun _ _ _ _ _ _ us hl => match us, hl with | [_], _ => rfl
  have F__law_answer := fun_mk (st := topS 13) l9 c9 k9
  have g__law_answer := PySem.W.mg_of X G a9
  have b__law_answer := F__law_answer.binds (ps := ["_law_dice", "_law_cell_here", "_law_length", "_law_deep"]) fun _ _ _ _ _ _ us hl => match us, hl with | [_, _, _, _], _ => rfl
  have F__law_name := fun_mk (st := topS 14) l10 c10 k10
  have g__law_name := PySem.W.mg_of X G a10
  have b__law_name := F__law_name.binds (ps := ["_law_cell_here"]) fun _ _ _ _ _ _ us hl => match us, hl with | [_], _ => rfl
  have F__law_written := fun_mk (st := topS 15) l11 c11 k11
  have g__law_written := PySem.W.mg_of X G a11
  have b__law_written := F__law_written.binds (ps := ["_law_answer_here", "_law_cell_here"]) fun _ _ _ _ _ _ us hl => match us, hl with | [_, _], _ => rfl
  have F_law := fun_mk (st := topS 16) l12 c12 k12
  have g_law := PySem.W.mg_of X G a12
  have b_law := F_law.binds (ps := ["_law_script"]) fun _ _ _ _ _ _ us hl => match us, hl with | [_], _ => rfl
  refine ⟨PySem.W.fnOf "law" "law" (defArgs (topS 16)) (defBody (topS 16)) (defScope (topS 16)) .none kV12 dc12 pm12 an12 cd12 ct12, fun s v => .of_eq rfl, fun base _ _ => ?_⟩
  have C_roll : Callee l.prog w K mg base 1 "_law_roll" ["_law_dice", "_law_size"] spRoll := ⟨_, _, ok_roll F__law_roll T, g__law_roll, F__law_roll.kp, b__law_roll⟩
  have C_pick : Callee l.prog w K mg base 2 "_law_pick" ["_law_dice", "_law_some"] (spPick K) := ⟨_, _, ok_pick F__law_pick T C_roll, g__law_pick, F__law_pick.kp, b__law_pick⟩
  have C_hand : Callee l.prog w K mg base 2 "_law_hand" ["_law_dice"] spHand := ⟨_, _, ok_hand F__law_hand T C_roll, g__law_hand, F__law_hand.kp, b__law_hand⟩
  have C_signs : Callee l.prog w K mg base 3 "_law_signs" ["_law_dice", "_law_many"] spSigns := ⟨_, _, ok_signs F__law_signs T C_roll C_pick, g__law_signs, F__law_signs.kp, b__law_signs⟩
  have C_cell : Callee l.prog w K mg base 3 "_law_cell" ["_law_dice"] spCell := ⟨_, _, ok_cell F__law_cell C_roll C_pick C_hand, g__law_cell, F__law_cell.kp, b__law_cell⟩
  have C_ans : Callee l.prog w K mg base 7 "_law_answer" ["_law_dice", "_law_cell_here", "_law_length", "_law_deep"] (spAns 3) := ⟨_, _, ok_ans F__law_answer T C_roll C_pick C_signs C_cell g__law_answer b__law_answer 3, g__law_answer, F__law_answer.kp, b__law_answer⟩
  have C_isF : Callee l.prog w K mg base 1 "is_fault" ["answer"] spIsF := ⟨_, _, ok_isF F_is_fault, g_is_fault, F_is_fault.kp, b_is_fault⟩
  have C_nm : Callee l.prog w K mg base 1 "shown_name" ["name"] spNm := ⟨_, _, ok_nm F_shown_name T, g_shown_name, F_shown_name.kp, b_shown_name⟩
  have C_wf : Callee l.prog w K mg base 2 "written_fault" ["fault", "cell"] spWF := ⟨_, _, ok_wf F_written_fault T C_nm, g_written_fault, F_written_fault.kp, b_written_fault⟩
  have C_wr : Callee l.prog w K mg base 6 "written" ["answer", "cell"] (spWr 3) := ⟨_, _, ok_wr F_written T C_isF C_wf g_written b_written 3, g_written, F_written.kp, b_written⟩
  have C_lnm : Callee l.prog w K mg base 1 "_law_name" ["_law_cell_here"] spLNm := ⟨_, _, ok_lnm F__law_name T, g__law_name, F__law_name.kp, b__law_name⟩
  have C_lwr : Callee l.prog w K mg base 5 "_law_written" ["_law_answer_here", "_law_cell_here"] (spWr 3) := ⟨_, _, ok_lwr F__law_written T C_lnm g__law_written b__law_written 3, g__law_written, F__law_written.kp, b__law_written⟩
  exact ok_law F_law T C_roll C_cell C_ans C_wr C_lwr
end
end Lk
open PySem PySem.W PyProof.Rows
set_option maxRecDepth 100000 in
set_option maxHeartbeats 0 in
theorem PySem.Challenge.cw_leafround_k86_answers_written_holds : PySem.Challenge.rw_leafround_k86_answers_written.Holds := by
  w_on; o_law; k_head; (case hw => w_witness2)
  k_fill
  refine L2.walk_of (l := PySem.Challenge.rw_leafround_k86_answers_written) (n := 63) (k := 8) (x := "_law_script") (CX := fun _ => L2.CX0) (sp := fun w => Lk.spLaw _) rfl (by decide) rfl ⟨rfl, by decide, by decide⟩ (fun w h Y => PySem.W.kIn_of Y) ?F (fun _ _ a ns hl _ hS => ⟨a, ns, rfl, hS, hl, fun _ => rfl⟩) (fun _ _ _ _ _ h => h)
  case F =>
    intro w mg fa h KX G hmg
    refine' Lk.all_mk KX G hmg ?a0 ?l0 ?c0 ?k0 ?a1 ?l1 ?c1 ?k1 ?a2 ?l2 ?c2 ?k2 ?a3 ?l3 ?c3 ?k3 ?a4 ?l4 ?c4 ?k4 ?a5 ?l5 ?c5 ?k5 ?a6 ?l6 ?c6 ?k6 ?a7 ?l7 ?c7 ?k7 ?a8 ?l8 ?c8 ?k8 ?a9 ?l9 ?c9 ?k9 ?a10 ?l10 ?c10 ?k10 ?a11 ?l11 ?c11 ?k11 ?a12 ?l12 ?c12 ?k12 ?z0 ?z1 ?z2 ?z3 ?z4 ?z5
    (case a0 => k_is); (case l0 => k_is); (case c0 => k_is); (case k0 => k_is); (case a1 => k_is); (case l1 => k_is); (case c1 => k_is); (case k1 => k_is); (case a2 => k_is); (case l2 => k_is); (case c2 => k_is); (case k2 => k_is); (case a3 => k_is); (case l3 => k_is); (case c3 => k_is); (case k3 => k_is); (case a4 => k_is); (case l4 => k_is); (case c4 => k_is); (case k4 => k_is); (case a5 => k_is); (case l5 => k_is); (case c5 => k_is); (case k5 => k_is); (case a6 => k_is); (case l6 => k_is); (case c6 => k_is); (case k6 => k_is); (case a7 => k_is); (case l7 => k_is); (case c7 => k_is); (case k7 => k_is); (case a8 => k_is); (case l8 => k_is); (case c8 => k_is); (case k8 => k_is); (case a9 => k_is); (case l9 => k_is); (case c9 => k_is); (case k9 => k_is); (case a10 => k_is); (case l10 => k_is); (case c10 => k_is); (case k10 => k_is); (case a11 => k_is); (case l11 => k_is); (case c11 => k_is); (case k11 => k_is); (case a12 => k_is); (case l12 => k_is); (case c12 => k_is); (case k12 => k_is); (case z0 => k_is); (case z1 => k_is); (case z2 => k_is); (case z3 => k_is); (case z4 => k_is); (case z5 => k_is)
