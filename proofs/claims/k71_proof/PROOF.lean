import PyProof.Rows.All
import Wide.All
import OpenK.AllK
import Wide.FinOn
import HandS.ForMost
import HandS.Star
import HandS.Style
import HandS.Wide
import HandS.IsInst
import HandS.EndBits
import HandS.More
import HandS.TupAny
import HandS.Evl
import HandS.FStr
import HandS.StrMore
import HandS.Codes
import HandS.Walk
import KE.IntTextLaws
import HandS.MakeKwOnly
import HandS.Defaults
import HandS.Steps
import KE.GoesEnumKw
import HandS.Iter
import HandS.Comp
import HandS.WordsExc
import HandS.Exc
import HandS.ExcOwn
import HandS.Lambda
import HandS.ExcIs
import PySem.Challenge.RW_leafround_k71_whole_writes_and_falls
set_option Elab.async false
set_option linter.all false
set_option maxRecDepth 100000
namespace Lf
open PySem PySem.Spec PyProof.Rows L2

/-- an own def: where it stands, its promise, how it is called -/
def Callee (P : Program) (w : World) (K : PySem.W.Frag) (mg : Str → Option Value) (base : Heap) (k : Nat) (x : Str) (ps : List Str) (sp : Sp) : Prop :=
  ∃ (f : Addr) (fd : FuncData), FnOk P w K mg base CX0 k f fd ps sp ∧ mg x = some (.ref f) ∧ PySem.W.keepIn K (.ref f) = true ∧ Binds K fd ps []
section
variable {X : Cx} {k : Nat} {x : Str} {ps : List Str} {sp : Sp} {e : Expr} {es : List Expr} {t : TA} {p pos : Pos}
theorem pe_own (C : Callee X.prog X.w X.K X.mg X.base k x ps sp) (hr : Room k X.A) (hg : Gl X x) (ha : PA X (e :: es) t)
    (hdb : (x == ("__debug__" : Str)) = false := by decide) (he : starEach (e :: es) X.env = (false, eval e X.env) :: starEach es X.env := by rfl) (hpl : (backTo pos (starEach es X.env)).any (·.1) = false := by rfl) :
    PE X (.Call (.Name x p) (e :: es) [] pos) (tCall sp [] E0 t) := by
  obtain ⟨f, fd, F, hm, hk, hb⟩ := C
  exact pe_call F hr hg hm hk hb .nil pass0 ha hdb he hpl
end

/-- all but the object at a stays -/
def Kp (a : Addr) (H H' : Hp) : Prop := ∀ b o, b ≠ a → H b = some o → H' b = some o
theorem Kp.refl (a : Addr) (H : Hp) : Kp a H H := fun _ _ _ h => h
theorem Kp.trans {a : Addr} {H H1 H2 : Hp} (x : Kp a H H1) (y : Kp a H1 H2) : Kp a H H2 := fun b o n h => y b o n (x b o n h)
theorem Kp.new {a p : Addr} {H H' : Hp} {o : HO} (x : Kp a H H') (h : H' p = none) : Kp a H (upd H' p o) := fun b u n e => by
  rw [upd_ne (ne_of_none (x b u n e) h)]
  exact x b u n e
theorem Kp.mut {a : Addr} {H H' : Hp} {o : HO} (x : Kp a H H') : Kp a H (upd H' a o) := fun b u n e => by
  rw [upd_ne n]
  exact x b u n e
theorem Kp.seqL {K : PySem.W.Frag} {a p : Addr} {H H' : Hp} {xs : List V} (x : Kp a H H') (n : p ≠ a) (h : SqL K H p xs) : SqL K H' p xs := by
  rcases h with (h | ⟨o, h⟩) | h
  · exact .inl (.inl (x _ _ n h))
  · exact .inl (.inr ⟨o, x _ _ n h⟩)
  · exact .inr h

/-- the tape: two ints -/
def TapeAt (H : Hp) (a : Addr) : Prop := ∃ u v : Int, H a = some (.lst [.int u, .int v]) ∧ 0 ≤ u ∧ 0 ≤ v ∧ v < 2147483648
theorem TapeAt.keep {a b : Addr} {H H' : Hp} (h : TapeAt H a) (k : Kp b H H') (n : a ≠ b) : TapeAt H' a := by
  obtain ⟨u, v, e, r⟩ := h
  exact ⟨u, v, k _ _ n e, r⟩
theorem TapeAt.new {a p : Addr} {H : Hp} {o : HO} (h : TapeAt H a) (n : H p = none) : TapeAt (upd H p o) a := by
  obtain ⟨u, v, e, r⟩ := h
  exact ⟨u, v, by rw [upd_ne (ne_of_none e n)]; exact e, r⟩
def spDigit : Sp := fun vs H Q _ => ∃ (a : Addr) (n : Int), vs = [.ref a, .int n] ∧ TapeAt H a ∧ 0 < n ∧ n ≤ 10 ^ 60 ∧
  ∀ (v : Int) (H' : Hp), Kp a H H' → TapeAt H' a → 0 ≤ v → v < n → Q (.int v) H'
/-- an object that H does not know may change -/
theorem Kp.mutN {a p : Addr} {H H' : Hp} {o : HO} (x : Kp a H H') (h : H p = none) : Kp a H (upd H' p o) := fun b u n e => by
  rw [upd_ne (ne_of_none e h)]
  exact x b u n e
theorem Kp.fresh {a p : Addr} {H H' : Hp} (x : Kp a H H') (h : H' p = none) (n : p ≠ a) : H p = none := by
  cases e : H p with
  | none => rfl
  | some o =>
    rw [x p o n e] at h
    cases h
theorem Kp.get {a b : Addr} {H H' : Hp} {o : HO} (x : Kp a H H') (n : b ≠ a) (h : H b = some o) : H' b = some o := x b o n h
theorem TapeAt.ne {a p : Addr} {H : Hp} (h : TapeAt H a) (n : H p = none) : p ≠ a := fun e => by
  obtain ⟨u, v, h, _⟩ := h
  rw [e, h] at n
  cases n
theorem TapeAt.mut {a p : Addr} {H : Hp} {o : HO} (h : TapeAt H a) (n : p ≠ a) : TapeAt (upd H p o) a := by
  obtain ⟨u, v, e, r⟩ := h
  exact ⟨u, v, by rw [upd_ne n.symm]; exact e, r⟩
theorem atI_mem {α : Type} {xs : List α} {i : Int} (h0 : 0 ≤ i) (h1 : i < xs.length) : ∃ x, x ∈ xs ∧ atI xs i = some x := by
  obtain ⟨n, rfl⟩ := Int.eq_ofNat_of_zero_le h0
  have h : n < xs.length := by omega
  exact ⟨xs[n], List.getElem_mem h, atI_nat (List.getElem?_eq_getElem h)⟩
theorem str_len_append (x y : Str) : (x ++ y).length = x.length + y.length := by
  show (x.cps ++ y.cps).size = _
  rw [Array.size_append]
  rfl
theorem join_len (sep : Str) (hs : sep.length = 0) : ∀ ys : List Str, (Str.join sep ys).length = (ys.map (·.length)).sum
  | [] => rfl
  | [x] => by
    show x.length = x.length + 0
    omega
  | x :: y :: r => by
    show (x ++ sep ++ Str.join sep (y :: r)).length = x.length + ((y :: r).map (·.length)).sum
    rw [str_len_append, str_len_append, join_len sep hs (y :: r), hs]
    omega
theorem sum_ones : ∀ {ys : List Str}, (∀ y ∈ ys, y.length = 1) → (ys.map (·.length)).sum = ys.length
  | [], _ => rfl
  | y :: r, h => by
    rw [List.map_cons, List.sum_cons, h y (List.mem_cons_self ..), sum_ones fun z hz => h z (List.mem_cons_of_mem _ hz)]
    show 1 + r.length = r.length + 1
    omega
end Lf
namespace L2
open PySem
theorem Same.kp {a : Addr} {H H' : Hp} (s : Same H H') : Lf.Kp a H H' := fun b o _ h => s b o h
theorem same_new {H : Hp} {p : Addr} {o : HO} (h : H p = none) : Same H (upd H p o) := fun b x e => by
  rw [upd_ne (ne_of_none e h)]
  exact e
theorem Same.tr {H H1 H2 : Hp} (x : Same H H1) (y : Same H1 H2) : Same H H2 := fun b o h => y b o (x b o h)
theorem Same.fresh {H H' : Hp} {p : Addr} (s : Same H H') (h : H' p = none) : H p = none := by
  cases e : H p with
  | none => rfl
  | some o =>
    rw [s p o e] at h
    cases h
theorem Same.mutN {H H' : Hp} {p : Addr} {o : HO} (s : Same H H') (h : H p = none) : Same H (upd H' p o) := fun b u e => by
  rw [upd_ne (ne_of_none e h)]
  exact s b u e
theorem same_refl (H : Hp) : Same H H := fun _ _ h => h
end L2
namespace Lf
open PySem PySem.Spec PyProof.Rows L2
/-- a comprehension over enumerate(list): each turn's pair is a new tuple at T -/
theorem lc_enum {K : PySem.W.Frag} {a : Addr} {xs : List V} {g : TG} {tt : TT} {te : TE} {vs : List Nat} {σ : L2.St} {H1 : Hp} {D : Addr} {Qd : Hp → Prop} (Pv : Nat → Hp → Prop)
    (h0 : Pv 0 (upd H1 D (.lst []))) (hl : ∀ i H, Pv i H → SqL K H a xs)
    (hs : ∀ i x T H, xs[i]? = some x → H T = none → Pv i H → g (.ref T) (wipe σ vs) (upd H T (.tup [.int (i : Nat), x])) fun σ2 H2 => wipe σ2 vs = wipe σ vs ∧ tt σ2 H2 fun b H3 =>
      if b = true then te σ2 H3 fun y H4 => ∃ acc, H4 D = some (.lst acc) ∧ acc.length < sizeLine ∧ Pv (i + 1) (upd H4 D (.lst (acc ++ [y]))) else Pv (i + 1) H3)
    (hd : ∀ H, Pv xs.length H → Qd H) :
    ∃ W : Nat → Nat → Hp → Prop, (∃ m, W 0 m (upd H1 D (.lst []))) ∧ ∀ i m H, W i m H → ((Ite K a).stop i H ∧ Qd H) ∨
      ((Ite K a).go i H ∧ ∃ Nx : Hp → Prop, (∀ H', Nx H' → ∃ m', m' < m ∧ W (i + 1) m' H') ∧ ∀ x H', (Ite K a).yld i H x H' → g x (wipe σ vs) H' fun σ2 H2 => wipe σ2 vs = wipe σ vs ∧ tt σ2 H2 fun b H3 =>
        if b = true then te σ2 H3 fun y H4 => ∃ acc, H4 D = some (.lst acc) ∧ acc.length < sizeLine ∧ Nx (upd H4 D (.lst (acc ++ [y]))) else Nx H3) := by
  refine ⟨fun i m H => i + m = xs.length ∧ Pv i H, ⟨xs.length, Nat.zero_add _, h0⟩, fun i m H ⟨em, p⟩ => ?_⟩
  by_cases hi : i < xs.length
  · refine .inr ⟨⟨xs, xs[i], hl i H p, List.getElem?_eq_getElem hi⟩, Pv (i + 1), fun H' p' => ⟨m - 1, by omega, by omega, p'⟩, fun x H' y => ?_⟩
    obtain ⟨T, z, rfl, hT, rfl, hz⟩ := y
    exact hs i z T H (hz xs (hl i H p)) hT p
  · have e : i = xs.length := by omega
    exact .inl ⟨⟨xs, hl i H p, by omega⟩, hd H (e ▸ p)⟩
end Lf
namespace Lf
open PySem PySem.Spec PyProof.Rows L2
/-- signs that a text may hold -/
abbrev SOk (x : Str) : Prop := ∀ c ∈ x.cps.toList, c < 0x110000
theorem sok_append {x y : Str} (h1 : SOk x) (h2 : SOk y) : SOk (x ++ y) := fun c hc => by
  have e : (x ++ y).cps.toList = x.cps.toList ++ y.cps.toList := by
    show (x.cps ++ y.cps).toList = _
    rw [Array.toList_append]
  rw [e] at hc
  rcases List.mem_append.mp hc with h | h
  · exact h1 c h
  · exact h2 c h
theorem sok_join {sep : Str} (hs : SOk sep) : ∀ {ys : List Str}, (∀ y ∈ ys, SOk y) → SOk (Str.join sep ys)
  | [], _ => fun c hc => by
    have h : c ∈ ([] : List Nat) := hc
    cases h
  | [x], h => h x (List.mem_cons_self ..)
  | x :: y :: r, h => sok_append (sok_append (h x (List.mem_cons_self ..)) hs) (sok_join hs fun z hz => h z (List.mem_cons_of_mem _ hz))
end Lf
namespace Lf
open PySem PySem.Spec PyProof.Rows L2
theorem len_K {X : Cx} : CallR X (.builtin "len") (Evl.rLenS X.K) := call_len_seq
end Lf
namespace Lr
open PySem PySem.Spec PyProof.Rows L2 Lf
abbrev tl := TL.tl
abbrev numL := TL.numL
abbrev joinL := TL.joinL
/-- a text of these signs -/
def S (l : List Nat) : Str := ⟨l.toArray⟩
theorem tl_S (l : List Nat) : tl (S l) = l := rfl
theorem S_tl (x : Str) : S (tl x) = x := TL.mk_tl x
theorem S_len (l : List Nat) : (S l).length = l.length := rfl
theorem len_tl (x : Str) : x.length = (tl x).length := TL.len_tl x
theorem S_append (a b : List Nat) : S a ++ S b = S (a ++ b) := TL.ext_tl (TL.tl_append _ _)
theorem S_num (n : Nat) : Str.ofString (toString ((n : Nat) : Int)) = S (numL n) := TL.ext_tl (TL.tl_num n)
theorem S_inj {a b : List Nat} (h : S a = S b) : a = b := congrArg tl h
theorem S_join (y : List Nat) (ps : List (List Nat)) : Txt.join (S y) (ps.map S) = S (joinL y ps) := by
  refine TL.ext_tl ?_
  rw [TL.join_eq, TL.tl_join, List.map_map]
  have e : (TL.tl ∘ S) = (id : List Nat → List Nat) := rfl
  rw [e, List.map_id]
  rfl
theorem split_S (x : Str) (c : Nat) (hc : c < 256) : Txt.split x (S [c]) = (TL.spl [c] 0 [] (tl x)).map S := by
  refine TL.map_tl_inj ?_
  rw [TL.split_spl x (S [c]) (by show [c] ≠ []; simp) (TL.kind_ok (by simp [S, hc])), List.map_map]
  have e : (TL.tl ∘ S) = (id : List Nat → List Nat) := rfl
  rw [e, List.map_id]
  rfl
/-! ### the first place of a sign -/
def ix (c : Nat) : List Nat → Option Nat
  | [] => none
  | d :: r => if d = c then some 0 else (ix c r).map (· + 1)
theorem ix_none {c : Nat} : ∀ {l : List Nat}, c ∉ l → ix c l = none
  | [], _ => rfl
  | d :: r, h => by
    unfold ix
    rw [if_neg (fun e : d = c => h (by rw [e]; exact List.mem_cons_self ..)), ix_none fun m => h (List.mem_cons_of_mem _ m)]
    rfl
theorem ix_at {c : Nat} : ∀ {a r : List Nat}, c ∉ a → ix c (a ++ c :: r) = some a.length
  | [], r, _ => by
    show (if c = c then some 0 else _) = some 0
    rw [if_pos rfl]
  | d :: a, r, h => by
    show (if d = c then some 0 else (ix c (a ++ c :: r)).map (· + 1)) = some (a.length + 1)
    rw [if_neg (fun e : d = c => h (by rw [e]; exact List.mem_cons_self ..)), ix_at fun m => h (List.mem_cons_of_mem _ m)]
    rfl
theorem ix_some {c : Nat} : ∀ {l : List Nat} {k : Nat}, ix c l = some k → k < l.length ∧ ∃ r, l = l.take k ++ c :: r ∧ c ∉ l.take k
  | [], k, h => by cases h
  | d :: l, k, h => by
    unfold ix at h
    by_cases e : d = c
    · rw [if_pos e] at h
      cases h
      exact ⟨by simp, l, by simp [e], by simp⟩
    · rw [if_neg e] at h
      cases h2 : ix c l with
      | none => rw [h2] at h; cases h
      | some j =>
        rw [h2] at h
        cases h
        obtain ⟨h3, r, h4, h5⟩ := ix_some h2
        refine ⟨by simpa using h3, r, ?_, ?_⟩
        · show d :: l = (d :: l.take j) ++ c :: r
          rw [List.cons_append, ← h4]
        · show c ∉ d :: l.take j
          intro m
          rcases List.mem_cons.mp m with m | m
          · exact e m.symm
          · exact h5 m
open Builtin.Str StrLaws in
theorem occ_full (s sub : Str) (hi : Nat) : ∀ (l : List Nat) (st : Array Nat × Nat), 1 ≤ st.fst.size → (forIn l st (occBody s sub hi 1)).run.fst = st.fst
  | [], _, _ => rfl
  | a :: l, st, h => by
    rw [List.forIn_cons]
    unfold occBody
    rw [if_neg (fun c => by have := c.1.1.1; omega)]
    exact occ_full s sub hi l (st.fst, st.snd) h
open Builtin.Str StrLaws in
theorem occ_ix (x : Str) (c hi : Nat) (hhi : hi ≤ x.length) : ∀ (n a free : Nat), free ≤ a → n = hi + 1 - a →
    (forIn (List.range' a n) ((#[] : Array Nat), free) (occBody x ⟨#[c]⟩ hi 1)).run.fst.toList = (match ix c (((tl x).drop a).take (hi - a)) with | some k => [a + k] | none => [])
  | 0, a, free, hf, hn => by
    have e : hi - a = 0 := by omega
    rw [e, List.take_zero]
    rfl
  | n + 1, a, free, hf, hn => by
    rw [List.range'_succ, List.forIn_cons]
    unfold occBody
    by_cases ha : a < hi
    · have hl : a < (tl x).length := by rw [← len_tl]; omega
      have ed : ((tl x).drop a).take (hi - a) = (tl x)[a] :: ((tl x).drop (a + 1)).take (hi - (a + 1)) := by
        rw [List.drop_eq_getElem_cons hl, show hi - a = (hi - (a + 1)) + 1 by omega, List.take_succ_cons]
      rw [ed]
      unfold ix
      by_cases hc : (tl x)[a] = c
      · have h1 := (subAt_one x c a).mpr (by rw [List.getElem?_eq_getElem hl]; exact congrArg some hc)
        have h2 : ((((#[] : Array Nat), free).fst.size < 1 ∧ ((#[] : Array Nat), free).snd ≤ a) ∧ a + (⟨#[c]⟩ : Str).length ≤ hi) ∧ subAt x ⟨#[c]⟩ a = true := ⟨⟨⟨by simp, hf⟩, ha⟩, h1.2⟩
        rw [if_pos h2, if_pos hc]
        have h3 := occ_full x ⟨#[c]⟩ hi (List.range' (a + 1) n) ((#[] : Array Nat).push a, a + (⟨#[c]⟩ : Str).length) (by simp)
        show (forIn (List.range' (a + 1) n) ((#[] : Array Nat).push a, a + (⟨#[c]⟩ : Str).length) (occBody x ⟨#[c]⟩ hi 1)).run.fst.toList = [a + 0]
        rw [h3]
        rfl
      · have h2 : ¬ (((((#[] : Array Nat), free).fst.size < 1 ∧ ((#[] : Array Nat), free).snd ≤ a) ∧ a + (⟨#[c]⟩ : Str).length ≤ hi) ∧ subAt x ⟨#[c]⟩ a = true) := fun h => by
          have h3 : a + (⟨#[c]⟩ : Str).length ≤ x.length := Nat.le_trans h.1.2 hhi
          have h1 := (subAt_one x c a).mp ⟨h3, h.2⟩
          rw [List.getElem?_eq_getElem hl] at h1
          exact hc (Option.some.inj h1)
        rw [if_neg h2, if_neg hc]
        have ih := occ_ix x c hi hhi n (a + 1) free (by omega) (by omega)
        show (forIn (List.range' (a + 1) n) ((#[] : Array Nat), free) (occBody x ⟨#[c]⟩ hi 1)).run.fst.toList = _
        rw [ih]
        cases ix c (((tl x).drop (a + 1)).take (hi - (a + 1))) with
        | none => rfl
        | some k =>
          show [a + 1 + k] = [a + (k + 1)]
          congr 1
          omega
    · have e : hi - a = 0 := by omega
      have h2 : ¬ (((((#[] : Array Nat), free).fst.size < 1 ∧ ((#[] : Array Nat), free).snd ≤ a) ∧ a + (⟨#[c]⟩ : Str).length ≤ hi) ∧ subAt x ⟨#[c]⟩ a = true) := fun h => by
        have h3 : a + 1 ≤ hi := h.1.2
        omega
      rw [if_neg h2, e, List.take_zero]
      have ih := occ_ix x c hi hhi n (a + 1) free (by omega) (by omega)
      show (forIn (List.range' (a + 1) n) ((#[] : Array Nat), free) (occBody x ⟨#[c]⟩ hi 1)).run.fst.toList = _
      rw [ih, show hi - (a + 1) = 0 by omega, List.take_zero]
      rfl
theorem find_ix (x : Str) (c a m : Nat) (ha : a ≤ x.length) : Txt.findIn x ⟨#[c]⟩ (a : Int) ((a + m : Nat) : Int) = (match ix c (((tl x).drop a).take m) with | some k => ((a + k : Nat) : Int) | none => -1) := by
  unfold Txt.findIn
  have e1 : fromIndex x.length (a : Int) = a := by
    unfold fromIndex
    rw [if_neg (by omega)]
    omega
  have e2 : toIndexW x.length ((a + m : Nat) : Int) = min (a + m) x.length := by
    unfold toIndexW
    rw [if_neg (by omega)]
    omega
  rw [e1, e2, StrLaws.occ_eq, occ_ix x c _ (Nat.min_le_right _ _) _ a a (Nat.le_refl _) rfl]
  have e3 : ((tl x).drop a).take (min (a + m) x.length - a) = ((tl x).drop a).take m := by
    have hl : ((tl x).drop a).length = x.length - a := by rw [List.length_drop, ← len_tl]
    rcases Nat.le_total (a + m) x.length with h | h
    · rw [Nat.min_eq_left h, Nat.add_sub_cancel_left]
    · rw [Nat.min_eq_right h, List.take_of_length_le (by omega), List.take_of_length_le (by omega)]
  rw [e3]
  cases ix c (((tl x).drop a).take m) <;> rfl
/-! ### slices -/
theorem cutS_nat (x : Str) (a b : Nat) : cutS x (some (a : Int)) (some (b : Int)) = S (((tl x).drop a).take (b - a)) := by
  refine TL.ext_tl ?_
  show ((tl x).drop (HT.sIx x.length 0 (some (a : Int)))).take (HT.sIx x.length x.length (some (b : Int)) - HT.sIx x.length 0 (some (a : Int))) = ((tl x).drop a).take (b - a)
  rw [HT.sIx_nat, HT.sIx_nat]
  have hl := len_tl x
  rcases Nat.le_total a x.length with h | h
  · rw [Nat.min_eq_left h]
    rcases Nat.le_total b x.length with h' | h'
    · rw [Nat.min_eq_left h']
    · rw [Nat.min_eq_right h', List.take_of_length_le (by rw [List.length_drop]; omega), List.take_of_length_le (by rw [List.length_drop]; omega)]
  · rw [Nat.min_eq_right h, List.drop_of_length_le (by omega), List.drop_of_length_le (by omega), List.take_nil, List.take_nil]
/-! ### numbers written and read -/
def Dig (c : Nat) : Prop := 48 ≤ c ∧ c ≤ 57
instance (c : Nat) : Decidable (Dig c) := inferInstanceAs (Decidable (_ ∧ _))
def numOk (l : List Nat) : Prop := l ≠ [] ∧ (∀ c ∈ l, Dig c) ∧ l.length ≤ 60 ∧ (l.head? = some 48 → l = [48])
instance (l : List Nat) : Decidable (numOk l) := inferInstanceAs (Decidable (_ ∧ _))
def numIn (l : List Nat) : Option Nat := if numOk l then some (NumText.digitsVal l) else none
theorem numL_head {n : Nat} (h : (numL n).head? = some 48) : n = 0 := by
  induction n using Nat.strongRecOn with
  | _ n ih =>
    by_cases h1 : n < 10
    · rw [show numL n = [48 + n] from TL.numL_lt h1] at h
      simp at h
      exact h
    · rw [show numL n = numL (n / 10) ++ [48 + n % 10] from TL.numL_step (by omega)] at h
      have h2 : (numL (n / 10)).head? = some 48 := by
        cases e : numL (n / 10) with
        | nil => exact absurd e (TL.numL_ne _)
        | cons c r =>
          rw [e] at h
          exact h
      have := ih (n / 10) (by omega) h2
      omega
theorem numOk_num {n : Nat} (h : n < 10 ^ 60) : numOk (numL n) := by
  refine ⟨TL.numL_ne n, fun c hc => ?_, TL.numL_len (by decide) h, fun e => ?_⟩
  · exact TL.numL_digits n c hc
  · rw [numL_head e]
    exact TL.numL_lt (by decide)
theorem numIn_num {n : Nat} (h : n < 10 ^ 60) : numIn (numL n) = some n := by
  unfold numIn
  rw [if_pos (numOk_num h), show NumText.digitsVal (numL n) = n from TL.numL_val n]
theorem digitsVal_snoc (l : List Nat) (c : Nat) : NumText.digitsVal (l ++ [c]) = NumText.digitsVal l * 10 + (c - 48) := by
  unfold NumText.digitsVal
  rw [List.foldl_append]
  rfl
/-- the number's signs are all that reads as it -/
theorem numL_back : ∀ (k : Nat) (l : List Nat), l.length = k → l ≠ [] → (∀ c ∈ l, Dig c) → (l.head? = some 48 → l = [48]) → l = numL (NumText.digitsVal l)
  | 0, l, h, hn, _, _ => absurd (List.length_eq_zero_iff.mp h) hn
  | k + 1, l, h, hn, hd, h0 => by
    obtain ⟨l', c, rfl⟩ : ∃ l' c, l = l' ++ [c] := ⟨l.dropLast, l.getLast hn, (List.dropLast_concat_getLast hn).symm⟩
    have hc : Dig c := hd c (by simp)
    unfold Dig at hc
    have hl : l'.length = k := by simpa using h
    rw [digitsVal_snoc]
    by_cases e : l' = []
    · subst e
      have e2 : NumText.digitsVal [] = 0 := rfl
      rw [e2, Nat.zero_mul, Nat.zero_add, show numL (c - 48) = [48 + (c - 48)] from TL.numL_lt (by omega)]
      simp
      omega
    · have hh : l'.head? ≠ some 48 := fun z => by
        have : (l' ++ [c]).head? = some 48 := by
          rw [List.head?_append, z]
          rfl
        have e2 := congrArg List.length (h0 this)
        simp at e2
        exact e e2
      have ih := numL_back k l' hl e (fun d hd' => hd d (by simp [hd'])) (fun z => absurd z hh)
      have hpos : 0 < NumText.digitsVal l' := by
        rcases Nat.eq_zero_or_pos (NumText.digitsVal l') with z | z
        · rw [z] at ih
          rw [ih, show numL 0 = [48] from TL.numL_lt (by decide)] at hh
          exact absurd rfl hh
        · exact z
      have h10 : 10 ≤ NumText.digitsVal l' * 10 + (c - 48) := by omega
      rw [show numL (NumText.digitsVal l' * 10 + (c - 48)) = _ from TL.numL_step h10]
      have e3 : (NumText.digitsVal l' * 10 + (c - 48)) / 10 = NumText.digitsVal l' := by omega
      have e4 : (NumText.digitsVal l' * 10 + (c - 48)) % 10 = c - 48 := by omega
      rw [e3, e4]
      have e5 : TL.numL (NumText.digitsVal l') = l' := ih.symm
      rw [e5, show 48 + (c - 48) = c by omega]
theorem numIn_some {l : List Nat} {n : Nat} (h : numIn l = some n) : l = numL n ∧ numOk l := by
  unfold numIn at h
  by_cases c : numOk l
  · rw [if_pos c] at h
    cases h
    exact ⟨numL_back _ l rfl c.1 c.2.1 c.2.2.2, c⟩
  · rw [if_neg c] at h
    cases h
theorem digitsVal_lt : ∀ (k : Nat) (l : List Nat), l.length = k → (∀ c ∈ l, Dig c) → NumText.digitsVal l < 10 ^ k
  | 0, l, h, _ => by
    rw [List.length_eq_zero_iff.mp h]
    decide
  | k + 1, l, h, hd => by
    have hn : l ≠ [] := fun e => by rw [e] at h; cases h
    obtain ⟨l', c, rfl⟩ : ∃ l' c, l = l' ++ [c] := ⟨l.dropLast, l.getLast hn, (List.dropLast_concat_getLast hn).symm⟩
    have hc : Dig c := hd c (by simp)
    unfold Dig at hc
    have ih := digitsVal_lt k l' (by simpa using h) (fun d hd' => hd d (by simp [hd']))
    rw [digitsVal_snoc, Nat.pow_succ]
    omega
theorem numIn_lt {l : List Nat} {n : Nat} (h : numIn l = some n) : n < 10 ^ 60 := by
  have ⟨_, c⟩ := numIn_some h
  unfold numIn at h
  rw [if_pos c] at h
  cases h
  exact Nat.lt_of_lt_of_le (digitsVal_lt _ l rfl c.2.1) (Nat.pow_le_pow_right (by decide) c.2.2.1)
theorem log2_num {n : Nat} (h : n < 10 ^ 60) : ((n : Int)).natAbs.log2 < 1920 := by
  have e : ((n : Int)).natAbs = n := rfl
  rw [e]
  rcases Nat.eq_zero_or_pos n with z | z
  · rw [z]
    decide
  · exact (Nat.log2_lt (by omega)).mpr (Nat.lt_trans h (by decide +kernel))
/-! ### the mirror -/
def chkL (l : List Nat) : Nat := l.foldl (fun c x => (33 * c + x) % 1000003) 7
def upto (l : List Nat) (a c : Nat) : Option Nat × Nat :=
  match ix c ((l.drop a).take 61) with
  | some k => (numIn ((l.drop a).take k), a + k + 1)
  | none => (none, a)
def signOk (c : Nat) : Prop := 32 ≤ c ∧ c ≤ 126
instance (c : Nat) : Decidable (signOk c) := inferInstanceAs (Decidable (_ ∧ _))
def rowOk (r : List Nat) : Prop := r ≠ [] ∧ ∀ c ∈ r, signOk c
instance (r : List Nat) : Decidable (rowOk r) := inferInstanceAs (Decidable (_ ∧ _))
def headL (n m : Nat) (body : List Nat) : List Nat := numL n ++ [32] ++ numL m ++ [58] ++ body
def recAt (l : List Nat) (a : Nat) : Option (Nat × List (List Nat) × Nat) :=
  match (upto l a 32).1, (upto l (upto l a 32).2 58).1, (upto l (upto l (upto l a 32).2 58).2 61).1 with
  | some n, some m, some k =>
    let b := (upto l (upto l (upto l a 32).2 58).2 61).2
    if (l.drop (b + m)).take 1 = [10] then
      let body := (l.drop b).take m
      let rows := TL.spl [10] 0 [] body
      if (∀ r ∈ rows, rowOk r) ∧ k = chkL (headL n m body) then some (n, rows, b + m + 1) else none
    else none
  | _, _, _ => none
def recFin (l : List Nat) : Option Nat → Option Nat → Option Nat → Nat → Option (Nat × List (List Nat) × Nat)
  | some n, some m, some k, b => if (l.drop (b + m)).take 1 = [10] then
      if (∀ r ∈ TL.spl [10] 0 [] ((l.drop b).take m), rowOk r) ∧ k = chkL (headL n m ((l.drop b).take m)) then some (n, TL.spl [10] 0 [] ((l.drop b).take m), b + m + 1) else none
    else none
  | _, _, _, _ => none
theorem recAt_eq {l : List Nat} {a a1 a2 a3 : Nat} {o1 o2 o3 : Option Nat} (e1 : upto l a 32 = (o1, a1)) (e2 : upto l a1 58 = (o2, a2)) (e3 : upto l a2 61 = (o3, a3)) : recAt l a = recFin l o1 o2 o3 a3 := by
  unfold recAt
  rw [e1, e2, e3]
  cases o1 <;> cases o2 <;> cases o3 <;> rfl
def runL (l : List Nat) : Nat → Nat → Nat → List (List (List Nat)) × Nat
  | 0, _, a => ([], a)
  | f + 1, n, a => match recAt l a with
    | some (n', rows, b) => if n' = n then (rows :: (runL l f (n + 1) b).1, (runL l f (n + 1) b).2) else ([], a)
    | none => ([], a)
def parseL (l : List Nat) : Option Nat × List (List (List Nat)) × Nat :=
  match recAt l 0 with
  | none => (none, [], 0)
  | some (n, _, _) => (some n, (runL l (l.length + 1) n 0).1, (runL l (l.length + 1) n 0).2)
def recL (n : Nat) (rows : List (List Nat)) : List Nat :=
  numL n ++ [32] ++ numL (joinL [10] rows).length ++ [58] ++ numL (chkL (headL n (joinL [10] rows).length (joinL [10] rows))) ++ [61] ++ joinL [10] rows ++ [10]
theorem upto_le {l : List Nat} {a c : Nat} (h : a ≤ l.length) : (upto l a c).2 ≤ l.length ∧ a ≤ (upto l a c).2 := by
  unfold upto
  split
  · rename_i k e
    obtain ⟨h1, _⟩ := ix_some e
    have h2 : ((l.drop a).take 61).length ≤ l.length - a := by
      rw [List.length_take, List.length_drop]
      omega
    constructor
    · show a + k + 1 ≤ l.length
      omega
    · show a ≤ a + k + 1
      omega
  · exact ⟨h, Nat.le_refl _⟩
theorem upto_num {l : List Nat} {a c n : Nat} (h : (upto l a c).1 = some n) : n < 10 ^ 60 := by
  unfold upto at h
  split at h
  · exact numIn_lt h
  · cases h
theorem chk_lt (l : List Nat) : chkL l < 1000003 := by
  unfold chkL
  rcases List.eq_nil_or_concat l with rfl | ⟨l', c, rfl⟩
  · decide
  · rw [List.concat_eq_append, List.foldl_append]
    exact Nat.mod_lt _ (by decide)
theorem recAt_up {l : List Nat} {a n b : Nat} {rows : List (List Nat)} (ha : a ≤ l.length) (h : recAt l a = some (n, rows, b)) : a < b ∧ b ≤ l.length := by
  unfold recAt at h
  have h1 := upto_le (c := 32) ha
  have h2 := upto_le (c := 58) h1.1
  have h3 := upto_le (c := 61) h2.1
  split at h
  · rename_i n m k e1 e2 e3
    dsimp only at h
    split at h
    · rename_i e4
      split at h
      · cases h
        have h5 : (upto l (upto l (upto l a 32).2 58).2 61).2 + m < l.length := by
          refine Nat.lt_of_not_le fun hge => ?_
          rw [List.drop_of_length_le hge] at e4
          cases e4
        exact ⟨by omega, by omega⟩
      · cases h
    · cases h
  · cases h
theorem recAt_num {l : List Nat} {a n b : Nat} {rows : List (List Nat)} (h : recAt l a = some (n, rows, b)) : n < 10 ^ 60 := by
  unfold recAt at h
  split at h
  · rename_i n m k e1 e2 e3
    dsimp only at h
    split at h
    · split at h
      · cases h
        unfold upto at e1
        split at e1
        · exact numIn_lt e1
        · cases e1
      · cases h
    · cases h
  · cases h
/-- the pieces are no longer than the whole -/
theorem spl_len {c : Nat} : ∀ (l : List Nat) (k : Nat) (acc : List Nat), (TL.spl [c] k acc l).length ≤ l.length + 1 ∧ ∀ r ∈ TL.spl [c] k acc l, r.length ≤ acc.length + l.length
  | [], k, acc => by
    rw [TL.spl_nil]
    exact ⟨by simp, fun r hr => by rw [List.mem_singleton.mp hr]; omega⟩
  | d :: l, 0, acc => by
    cases h : TL.pre [c] (d :: l) with
    | true =>
      rw [TL.spl_hit h, show [c].length - 1 = 0 from rfl]
      have ih := spl_len (c := c) l 0 []
      refine ⟨by rw [List.length_cons, List.length_cons]; omega, fun r hr => ?_⟩
      rcases List.mem_cons.mp hr with rfl | hr
      · omega
      · have := ih.2 r hr
        simp only [List.length_cons, List.length_nil] at this ⊢
        omega
    | false =>
      rw [TL.spl_miss h]
      have ih := spl_len (c := c) l 0 (acc ++ [d])
      refine ⟨by simp only [List.length_cons]; omega, fun r hr => ?_⟩
      have := ih.2 r hr
      simp only [List.length_append, List.length_cons, List.length_nil] at this ⊢
      omega
  | d :: l, k + 1, acc => by
    have ih := spl_len (c := c) l k acc
    show (TL.spl [c] k acc l).length ≤ _ ∧ ∀ r ∈ TL.spl [c] k acc l, _
    exact ⟨by simp only [List.length_cons]; omega, fun r hr => by have := ih.2 r hr; simp only [List.length_cons]; omega⟩
end Lr
namespace Lr
open PySem PySem.Spec PyProof.Rows L2 Lf
def topS (i : Nat) : Stmt := PySem.Challenge.pw_leafround_k71_whole_writes_and_falls.main.body.getD i (.Pass ⟨0, 0, 0, 0⟩)
/-- the built-ins stand -/
structure Bs (mg : Str → Option Value) : Prop where
  len : mg "len" = none
  range : mg "range" = none
  abs : mg "abs" = none
  list : mg "list" = none
  tuple : mg "tuple" = none
  enumerate : mg "enumerate" = none
  isinstance : mg "isinstance" = none
  max : mg "max" = none
  min : mg "min" = none
  all : mg "all" = none
  ord : mg "ord" = none
  str : mg "str" = none
  int : mg "int" = none
  bool : mg "bool" = none
  g_FIGURES_MOST : ∃ t, mg "FIGURES_MOST" = some (.int 60 t)
section
variable {P : Program} {w : World} {K : PySem.W.Frag} {mg : Str → Option Value} {base : Heap}
abbrev sNum : Stmt := topS 5
theorem scNum : FnScope ["word"] ["word"] (defScope sNum) := ⟨rfl, rfl, rfl, by decide +kernel, rfl, by decide +kernel, by decide +kernel⟩
def optV : Option Nat → V
  | some n => .int (n : Int)
  | none => .non
def spNum : Sp := fun vs H Q _ => ∃ x : Str, vs = [.str x] ∧ x.length ≤ 1000000 ∧ Q (optV (numIn (tl x))) H
/-- signs that are digits, below 128 -/
theorem dig_ascii : ∀ c, c < 128 → Unicode.isDigit c = decide (Dig c) := by
  have h : (List.range 128).all (fun c => Unicode.isDigit c == decide (Dig c)) = true := by decide +kernel
  intro c hc
  exact eq_of_beq (List.all_eq_true.mp h c (List.mem_range.mpr hc))
theorem ascii_iff (x : Str) : Txt.isascii x = true ↔ ∀ c ∈ tl x, c < 128 := by
  unfold Txt.isascii
  rw [← Array.all_toList, List.all_eq_true]
  exact ⟨fun h c hc => of_decide_eq_true (h c hc), fun h c hc => decide_eq_true (h c hc)⟩
theorem digit_iff {x : Str} (ha : ∀ c ∈ tl x, c < 128) : Txt.isdigit x = true ↔ tl x ≠ [] ∧ ∀ c ∈ tl x, Dig c := by
  unfold Txt.isdigit
  rw [Bool.and_eq_true, ← Array.all_toList, List.all_eq_true]
  refine and_congr ?_ ⟨fun h c hc => of_decide_eq_true ((dig_ascii c (ha c hc)) ▸ h c hc), fun h c hc => (dig_ascii c (ha c hc)).trans (decide_eq_true (h c hc))⟩
  rw [decide_eq_true_eq]
  have e := len_tl x
  constructor
  · intro h z
    rw [z] at e
    rw [e] at h
    exact Nat.lt_irrefl _ h
  · intro h
    rw [e]
    exact List.length_pos_iff.mpr h
theorem str1 (x : Str) (c : Nat) : (x = ⟨#[c]⟩) ↔ tl x = [c] := ⟨fun h => by rw [h], fun h => TL.ext_tl h⟩
theorem z0 : ("0" : Str) = ⟨#[48]⟩ := by decide +kernel
theorem ok_num {f : Addr} {fd : FuncData} (F : Fun K "number_in" "number_in" sNum f fd) (T : Bs mg) : FnOk P w K mg base CX0 1 f fd ["word"] spNum := by
  refine F.ok scNum (fun vs H Q E h => ?_) (fun cdv A outer s H vs Q E hr h => ?_)
  · obtain ⟨x, rfl, _⟩ := h
    rfl
  · obtain ⟨x, rfl, hx, q⟩ := h
    have nd := scNum.nd
    refine ⟨_, (pss_cons (ps_if (PW.pt (pw_or (pt_not (pt_val (pe_m0 PySem.F.slot_str_isascii PySem.F.type_str_isascii mt_isascii (pv 0)))) (pw_or (pt_not (pt_val (pe_m0 PySem.F.slot_str_isdigit PySem.F.type_str_isdigit mt_isdigit (pv 0)))) (pw_or1 (pt_cmpR op_gt (pe_callB call_len_str (by rfl) T.len PySem.boot_len (pa_cons (pv 0) pa_nil)) pe_int (nomark _))))))
  (pss_one (ps_ret pe_non))
  pss_nil)
  (pss_cons (ps_if (PW.pt (pw_and (pt_cmpR op_eq (pe_ix ix_str (pv 0) pe_int (fun _ _ => rfl)) pe_str (nomark _)) (pw_and1 (pt_cmpR op_ne (pv 0) pe_str (nomark _)))))
  (pss_one (ps_ret pe_non))
  pss_nil)
  (pss_one (ps_ret (pe_callTy call_int_str (by rfl) T.int (by decide +kernel) (pa_cons (pv 0) pa_nil)))))), ?_⟩
    have no : ¬ numOk (tl x) → Q V.non H := fun c => by
      unfold numIn at q
      rw [if_neg c] at q
      exact q
    have hz : x.length ≤ sizeLine := Nat.le_trans hx (by decide)
    refine ⟨.str x, rfl, ⟨x, rfl⟩, x, rfl, rfl, trivial, _, rfl, ite2 (fun c => iteT (no fun o => ?_)) (fun c1 => ?_)⟩
    · have h2 : Txt.isascii x = true := (ascii_iff x).mpr fun d hd => by
        have := o.2.1 d hd
        unfold Dig at this
        omega
      rw [h2] at c
      cases c
    have ha : ∀ c ∈ tl x, c < 128 := (ascii_iff x).mp (by simpa using c1)
    refine ⟨.str x, rfl, ⟨x, rfl⟩, x, rfl, rfl, trivial, _, rfl, ite2 (fun c => iteT (no fun o => ?_)) (fun c2 => ?_)⟩
    · have h2 : Txt.isdigit x = true := (digit_iff ha).mpr ⟨o.1, o.2.1⟩
      rw [h2] at c
      cases c
    have hd := (digit_iff ha).mp (by simpa using c2)
    refine ⟨.str x, rfl, x, rfl, hz, _, _, rfl, rfl, _, rfl, ite2 (fun c => no fun o => ?_) (fun c3 => ?_)⟩
    · have h1 := of_decide_eq_true c
      have h2 := o.2.2.1
      rw [← len_tl] at h2
      omega
    have h60 : (tl x).length ≤ 60 := by
      have h1 : ¬ (60 < ((x.length : Nat) : Int)) := fun z => c3 (decide_eq_true z)
      rw [← len_tl]
      omega
    obtain ⟨d, r, e⟩ : ∃ d r, tl x = d :: r := by
      cases e : tl x with
      | nil => exact absurd e hd.1
      | cons d r => exact ⟨d, r, rfl⟩
    have last : (d = 48 → r = []) → Q (.int ((NumText.digitsVal (tl x) : Nat) : Int)) H := fun o => by
      have ok : numOk (tl x) := ⟨hd.1, hd.2, h60, fun z => by
        rw [e] at z ⊢
        have z' : d = 48 := by simpa using z
        rw [z', o z']⟩
      unfold numIn at q
      rw [if_pos ok] at q
      exact q
    have hv : intText? x = some ((NumText.digitsVal (tl x) : Nat) : Int) := intText_digits (fun c hc => hd.2 c hc) hd.1 (by rw [len_tl]; omega)
    have fin : (d = 48 → r = []) → tRet (tCB (fun xs H Q => ∃ a n, xs = [V.str a] ∧ intText? a = some n ∧ a.length ≤ 640 ∧ Q (V.int n) H) (tCons (tVar 0) tNil)) { nx := fun x H' => Q V.non H', rt := Q } [some (.str x)] H :=
      fun o => ⟨.str x, rfl, x, _, rfl, hv, by rw [len_tl]; omega, last o⟩
    have e0 : atI x.cps.toList 0 = some d := by
      have z : x.cps.toList = d :: r := e
      rw [z]
      exact atI_nat (j := 0) rfl
    refine ⟨.str x, rfl, x, 0, d, rfl, rfl, hz, e0, rfl, _, rfl, ite2 (fun c => ?_) (fun c => iteF (fin fun z => ?_))⟩
    · have hd48 : d = 48 := by
        have z := of_decide_eq_true c
        rw [z0] at z
        injection z with z
        have z2 := congrArg tl z
        simpa using z2
      refine ⟨.str x, rfl, rfl, _, rfl, ite2 (fun c => no fun o => ?_) (fun c => fin fun _ => ?_)⟩
      · have e2 := o.2.2.2 (by rw [e, hd48]; rfl)
        have e3 : x = "0" := by rw [z0]; exact (str1 x 48).mpr e2
        rw [e3] at c
        have c' : (!decide (V.str "0" = V.str "0")) = true := c
        rw [decide_eq_true rfl] at c'
        cases c'
      · have c' : decide (V.str x = V.str "0") = true := by simpa using c
        have z := of_decide_eq_true c'
        rw [z0] at z
        injection z with z
        have z2 := (str1 x 48).mp z
        rw [e] at z2
        injection z2
    · refine absurd ?_ c
      rw [z, z0]
      exact decide_eq_true rfl
abbrev sChk : Stmt := topS 8
theorem scChk : FnScope ["text", "check", "sign"] ["text"] (defScope sChk) := ⟨rfl, rfl, rfl, by decide +kernel, rfl, by decide +kernel, by decide +kernel⟩
def spChk : Sp := fun vs H Q _ => ∃ x : Str, vs = [.str x] ∧ Q (.int ((chkL (tl x) : Nat) : Int)) H
theorem ok_chk {f : Addr} {fd : FuncData} (F : Fun K "check_of" "check_of" sChk f fd) (T : Bs mg) : FnOk P w K mg base CX0 1 f fd ["text"] spChk := by
  refine F.ok scChk (fun vs H Q E h => ?_) (fun cdv A outer s H vs Q E hr h => ?_)
  · obtain ⟨x, rfl, _⟩ := h
    rfl
  · obtain ⟨x, rfl, q⟩ := h
    have nd := scChk.nd
    refine ⟨_, (pss_cons (ps_set (i := 1) nd rfl (Or.inl rfl) pe_int)
  (pss_cons (ps_for PassesOwn.never rfl (pi_str (pv 0)) (pg_name (i := 2) nd rfl (Or.inl rfl))
  (pss_one (ps_set (i := 1) nd rfl (Or.inl rfl) (pe_op op_mod (pe_op op_add (pe_op op_mulW pe_int (pv 1)) (pe_callB call_ord (by rfl) T.ord (by decide +kernel) (pa_cons (pv 2) pa_nil))) pe_int))))
  (pss_one (ps_ret (pv 1))))), ?_⟩
    refine ⟨.str x, rfl, x, rfl, ?_⟩
    refine for_it walk_str (fun i σ H' => H' = H ∧ ∃ y, σ = [some (.str x), some (.int ((((tl x).take i).foldl (fun c x => (33 * c + x) % 1000003) 7 : Nat) : Int)), y]) ⟨rfl, _, rfl⟩ (fun _ _ _ _ _ => trivial) (fun i v σ H1 H2 hi p y => ?_) (fun σ H1 p => ?_)
    · obtain ⟨rfl, y0, rfl⟩ := p
      obtain ⟨rfl, c, hc, rfl⟩ := y
      have hc' : (tl x)[i]? = some c := by
        have := hc
        rw [← Array.getElem?_toList] at this
        exact this
      have et : (tl x).take (i + 1) = (tl x).take i ++ [c] := by
        rw [List.take_add_one, hc']
        rfl
      generalize hg : ((tl x).take i).foldl (fun c x => (33 * c + x) % 1000003) 7 = g
      have hgl : g < 1000003 := by
        rw [← hg]
        exact chk_lt _
      have w1 : CMulW 33 (g : Int) := wide_mul (a := 32) (b := 32) (by decide) (by omega) (by decide) (by decide) (by decide)
      refine ⟨_, rfl, 33, (g : Int), rfl, rfl, w1, .str ⟨#[c]⟩, rfl, ⟨#[c]⟩, rfl, rfl, _, _, rfl, rfl, _, 1000003, rfl, rfl, (by show (0 : Int) < 1000003; decide), ?_⟩
      refine ⟨rfl, some (.str ⟨#[c]⟩), ?_⟩
      rw [et, List.foldl_append, hg]
      have e3 : (33 * (g : Int) + ((c : Nat) : Int)) % 1000003 = (((33 * g + c) % 1000003 : Nat) : Int) := by omega
      show [some (V.str x), some (V.int ((33 * (g : Int) + ((c : Nat) : Int)) % 1000003)), some (V.str ⟨#[c]⟩)] = _
      rw [e3]
      rfl
    · obtain ⟨rfl, y0, rfl⟩ := p
      refine ⟨_, rfl, ?_⟩
      rw [List.take_of_length_le (by rw [Array.length_toList]; exact Nat.le_refl _)]
      exact q

abbrev sUnt : Stmt := topS 12
theorem scUnt : FnScope ["log", "at", "closing", "end"] ["log", "at", "closing"] (defScope sUnt) := ⟨rfl, rfl, rfl, by decide +kernel, rfl, by decide +kernel, by decide +kernel⟩
def spUnt : Sp := fun vs H Q _ => ∃ (x : Str) (a c : Nat), vs = [.str x, .int (a : Int), .str ⟨#[c]⟩] ∧ x.length ≤ 1000000 ∧ a ≤ x.length ∧
  ∀ p H', Same H H' → H p = none → H' p = some (.tup [optV (upto (tl x) a c).1, .int (((upto (tl x) a c).2 : Nat) : Int)]) → Q (.ref p) H'
theorem ok_unt {f : Addr} {fd : FuncData} (F : Fun K "number_until" "number_until" sUnt f fd) (T : Bs mg) (c_number_in : Callee P w K mg base 1 "number_in" ["word"] spNum) : FnOk P w K mg base CX0 2 f fd ["log", "at", "closing"] spUnt := by
  refine F.ok scUnt (fun vs H Q E h => ?_) (fun cdv A outer s H vs Q E hr h => ?_)
  · obtain ⟨x, a, c, rfl, _⟩ := h
    rfl
  · obtain ⟨x, a, c, rfl, hx, ha, q⟩ := h
    have nd := scUnt.nd
    obtain ⟨tFig, hFig⟩ := T.g_FIGURES_MOST
    refine ⟨_, (pss_cons (ps_set (i := 3) nd rfl (Or.inl rfl) (pe_bm PySem.F.plainAttrs_str PySem.F.slot_str_find PySem.F.type_str_find mt_find4 (pv 0) (pa_cons (pv 2) (pa_cons (pv 1) (pa_cons (pe_op op_add (pe_op op_add (pv 1) (pe_glob (v := V.int 60) rfl hFig ⟨_, rfl⟩)) pe_int) pa_nil)))))
  (pss_one (ps_ret (pe_ifExp (pt_cmpR op_lt (pv 3) pe_int (nomark _)) (pe_tup (pa_cons pe_non (pa_cons (pv 1) pa_nil))) (pe_tup (pa_cons (pe_own c_number_in (hr.mono (by decide)) (by rfl) (pa_cons (pe_slice sl_str (pv 0) (po_some (pv 1)) (po_some (pv 3))) pa_nil)) (pa_cons (pe_op op_add (pv 3) pe_int) pa_nil))))))), ?_⟩
    have e61 : (a : Int) + 60 + 1 = ((a + 61 : Nat) : Int) := by omega
    refine ⟨.str x, rfl, rfl, .str ⟨#[c]⟩, rfl, .int a, rfl, .int a, rfl, (a : Int), 60, rfl, rfl, _, 1, rfl, rfl, x, ⟨#[c]⟩, (a : Int), _, rfl, rfl, ?_⟩
    rw [e61, find_ix x c a 61 ha]
    unfold upto at q
    cases e : ix c (((tl x).drop a).take 61) with
    | none =>
      rw [e] at q
      refine ⟨.int (-1), rfl, -1, 0, rfl, rfl, _, rfl, iteT ?_⟩
      refine ⟨.int a, rfl, (by show 2 ≤ sizeLine; decide), fun p hp => q p _ (same_new hp) hp upd_same⟩
    | some k =>
      rw [e] at q
      obtain ⟨hk, r, hr1, hr2⟩ := ix_some e
      have hk2 : k < 61 := by
        rw [List.length_take] at hk
        omega
      have hk3 : a + k < x.length := by
        rw [List.length_take, List.length_drop, ← len_tl] at hk
        omega
      have e2 : (decide (((a + k : Nat) : Int) < 0)) = false := decide_eq_false (by omega)
      refine ⟨.int ((a + k : Nat) : Int), rfl, ((a + k : Nat) : Int), 0, rfl, rfl, _, rfl, ?_⟩
      rw [e2]
      refine iteF ?_
      refine ⟨.str x, rfl, .int a, rfl, (a : Int), rfl, .int ((a + k : Nat) : Int), rfl, ((a + k : Nat) : Int), rfl, x, rfl, Nat.le_trans hx (by decide), ?_⟩
      have e3 : cutS x (some (a : Int)) (some ((a + k : Nat) : Int)) = S (((tl x).drop a).take k) := by
        rw [cutS_nat, Nat.add_sub_cancel_left]
      rw [e3]
      refine ⟨_, rfl, ?_, .int ((a + k : Nat) : Int), rfl, ((a + k : Nat) : Int), 1, rfl, rfl, (by show 2 ≤ sizeLine; decide), fun p hp => q p _ (same_new hp) hp upd_same⟩
      rw [S_len, List.length_take]
      omega
abbrev sRow : Stmt := topS 13
theorem scRow : FnScope ["row", "sign"] ["row"] (defScope sRow) := ⟨rfl, rfl, rfl, by decide +kernel, rfl, by decide +kernel, by decide +kernel⟩
def spRow : Sp := fun vs H Q _ => ∃ (x : Str), vs = [.str x] ∧ x.length ≤ 1000000 ∧
  ∀ H', Same H H' → Q (.bl (decide (rowOk (tl x)))) H'
theorem zb : (" " : Str) = ⟨#[32]⟩ := by decide +kernel
theorem zt : ("~" : Str) = ⟨#[126]⟩ := by decide +kernel
theorem zn : ("\n" : Str) = S [10] := by decide +kernel
theorem zc : (":" : Str) = S [58] := by decide +kernel
theorem ze : ("=" : Str) = S [61] := by decide +kernel
theorem le1 (a b : Nat) : (!decide ((⟨#[b]⟩ : Str).cps.toList < (⟨#[a]⟩ : Str).cps.toList)) = decide (a ≤ b) := by
  have h : (([b] : List Nat) < [a]) ↔ b < a := by
    rw [List.cons_lt_cons_iff]
    constructor
    · rintro (h | ⟨_, h⟩)
      · exact h
      · exact absurd h (List.not_lt_nil _)
    · exact .inl
  rw [Bool.eq_iff_iff, Bool.not_eq_true', decide_eq_false_iff_not, decide_eq_true_eq]
  show ¬ (([b] : List Nat) < [a]) ↔ a ≤ b
  rw [h]
  omega
theorem ok_row {f : Addr} {fd : FuncData} (F : Fun K "is_row" "is_row" sRow f fd) (T : Bs mg) : FnOk P w K mg base CX0 1 f fd ["row"] spRow := by
  refine F.ok scRow (fun vs H Q E h => ?_) (fun cdv A outer s H vs Q E hr h => ?_)
  · obtain ⟨x, rfl, _⟩ := h
    rfl
  · obtain ⟨x, rfl, hx, q⟩ := h
    have nd := scRow.nd
    refine ⟨_, (pss_one (ps_ret (pe_and (pe_cmpR op_ne (pv 0) pe_str (nomark _)) (pe_one (pe_callB (cr_all rfl) (by rfl) T.all (by decide +kernel) (pa_cons (pe_lc (own := [("sign", 1)]) (g := gName 1) (tt := tYes) rfl nd (pi_str (pv 0)) (blkOk_by (own := [("sign", 1)]) (N := ["row", "sign"]) (sc := defScope (topS 13)) (by decide +kernel)) (fun _ _ _ _ _ => (pg_name (i := 1) nd rfl (Or.inl rfl))) (fun _ _ _ _ _ => pts_nil) (fun _ _ _ _ _ => (pe_chain op_le_str op_le_str pe_str (pv 1) pe_str))) pa_nil)))))), ?_⟩
    refine ⟨.str x, rfl, rfl, _, rfl, ite2 (fun c => ?_) (fun c => ?_)⟩
    · have hne : tl x ≠ [] := fun z => by
        have z2 : x = "" := TL.ext_tl (z.trans (by decide +kernel))
        rw [z2] at c
        have c' : (!decide (V.str "" = V.str "")) = true := c
        rw [decide_eq_true rfl] at c'
        cases c'
      refine ⟨.str x, rfl, x, rfl, fun D hD => ?_⟩
      refine lc_it walk_str (fun i H' => Same H H' ∧ H' D = some (.lst (((tl x).take i).map fun c => V.bl (decide (signOk c))))) ⟨same_new hD, upd_same⟩ (fun _ _ _ _ => trivial) (fun i v H1 H2 hi p y => ?_) (fun H1 p => ?_)
      · obtain ⟨s1, e1⟩ := p
        obtain ⟨rfl, c, hc, rfl⟩ := y
        have hc' : (tl x)[i]? = some c := by
          have := hc
          rw [← Array.getElem?_toList] at this
          exact this
        have et : (tl x).take (i + 1) = (tl x).take i ++ [c] := by
          rw [List.take_add_one, hc']
          rfl
        have step : ∀ b : Bool, b = decide (signOk c) → ∃ acc, H2 D = some (.lst acc) ∧ acc.length < sizeLine ∧ (Same H (upd H2 D (.lst (acc ++ [V.bl b]))) ∧ (upd H2 D (.lst (acc ++ [V.bl b]))) D = some (.lst (((tl x).take (i + 1)).map fun c => V.bl (decide (signOk c))))) := fun b hb => by
          refine ⟨_, e1, ?_, s1.mutN hD, ?_⟩
          · rw [List.length_map, List.length_take, ← len_tl]
            exact Nat.lt_of_le_of_lt (Nat.le_trans (Nat.min_le_right _ _) hx) (by decide)
          · rw [upd_same, et, List.map_append, hb]
            rfl
        refine ⟨rfl, .str ⟨#[c]⟩, rfl, _, _, rfl, rfl, _, rfl, ite2 (fun c1 => ?_) (fun c1 => ?_)⟩
        · have h1 : 32 ≤ c := by
            have z := c1
            rw [zb, le1] at z
            exact of_decide_eq_true z
          refine ⟨_, _, rfl, rfl, ?_⟩
          refine step _ ?_
          rw [zt, show (!decide ((⟨#[126]⟩ : Str).cps.toList < (⟨#[c]⟩ : Str).cps.toList)) = decide (c ≤ 126) from le1 c 126]
          rw [Bool.eq_iff_iff, decide_eq_true_eq, decide_eq_true_eq]
          exact ⟨fun h => ⟨h1, h⟩, fun h => h.2⟩
        · have h1 : ¬ 32 ≤ c := fun h => c1 (by rw [zb, le1]; exact decide_eq_true h)
          refine step _ ?_
          symm
          exact decide_eq_false fun h => h1 h.1
      · obtain ⟨s1, e1⟩ := p
        rw [List.take_of_length_le (by rw [Array.length_toList]; exact Nat.le_refl _)] at e1
        refine ⟨D, (tl x).map fun c => decide (signOk c), rfl, SqL.of (by rw [e1, List.map_map]; rfl), ?_⟩
        have z := q _ s1
        have e2 : ((tl x).map fun c => decide (signOk c)).all id = decide (rowOk (tl x)) := by
          rw [Bool.eq_iff_iff, List.all_map, List.all_eq_true, decide_eq_true_eq]
          exact ⟨fun h => ⟨hne, fun c hc => of_decide_eq_true (h c hc)⟩, fun h c hc => decide_eq_true (h.2 c hc)⟩
        rw [e2]
        exact z
    · have c' : decide (V.str x = V.str "") = true := by simpa using c
      have z := of_decide_eq_true c'
      injection z with z
      have e2 : decide (rowOk (tl x)) = false := decide_eq_false fun h => h.1 (by rw [z]; decide +kernel)
      have z := q H (same_refl H)
      rw [e2] at z
      exact z

section
variable {ts : List TE} {l m : List Nat} {σ : L2.St} {H : Hp} {Q : Str → Hp → Prop}
theorem S_e : Str.empty = S [] := rfl
theorem jsC {x : Str} (hx : x = S m) (hl : l.length + m.length ≤ sizeLine) (h : tJs ts (S (l ++ m)) σ H Q) : tJs (tC (.str x) :: ts) (S l) σ H Q := by
  subst hx
  exact ⟨_, rfl, by rw [S_append, S_len, List.length_append]; exact hl, by rw [S_append]; exact h⟩
theorem jsN {i : Nat} (n : Nat) (hσ : σ[i]? = some (some (.int (n : Int)))) (hn : n < 10 ^ 60) (hl : l.length + 60 ≤ sizeLine) (h : tJs ts (S (l ++ numL n)) σ H Q) : tJs (tFmt (tVar i) :: ts) (S l) σ H Q :=
  ⟨_, hσ, .inr ⟨_, rfl, log2_num hn, _, rfl, by
    rw [S_num, S_append, S_len, List.length_append]
    have : (numL n).length ≤ 60 := TL.numL_len (by decide) hn
    omega, by rw [S_num, S_append]; exact h⟩⟩
theorem jsV {i : Nat} (hσ : σ[i]? = some (some (.str (S m)))) (hl : l.length + m.length ≤ sizeLine) (h : tJs ts (S (l ++ m)) σ H Q) : tJs (tFmt (tVar i) :: ts) (S l) σ H Q :=
  ⟨_, hσ, .inl ⟨_, rfl, by rw [S_len]; omega, _, rfl, by rw [S_append, S_len, List.length_append]; exact hl, by rw [S_append]; exact h⟩⟩
theorem jsL {i : Nat} (hσ : σ[i]? = some (some (.str (S m)))) (hm : m.length ≤ sizeLine) (hl : l.length + 60 ≤ sizeLine) (h : tJs ts (S (l ++ numL m.length)) σ H Q) :
    tJs (tFmt (tCB (fun xs H Q => ∃ z, xs = [V.str z] ∧ z.length ≤ sizeLine ∧ Q (V.int ((z.length : Nat) : Int)) H) (tCons (tVar i) tNil)) :: ts) (S l) σ H Q := by
  have h60 : m.length < 10 ^ 60 := Nat.lt_of_le_of_lt hm (by decide)
  refine ⟨_, hσ, _, rfl, hm, .inr ⟨_, rfl, log2_num h60, _, rfl, ?_, ?_⟩⟩
  · rw [S_len, S_num, S_append, S_len, List.length_append]
    have : (numL m.length).length ≤ 60 := TL.numL_len (by decide) h60
    omega
  · rw [S_len, S_num, S_append]
    exact h
end
theorem joinL_len (y : List Nat) : ∀ ps : List (List Nat), (joinL y ps).length ≤ (ps.map List.length).sum + ps.length * y.length
  | [] => Nat.zero_le _
  | [p] => by
    show p.length ≤ _
    simp
  | p :: q :: r => by
    have h := joinL_len y (q :: r)
    show (p ++ (y ++ joinL y (q :: r))).length ≤ _
    rw [List.length_append, List.length_append, List.map_cons, List.sum_cons, List.length_cons, Nat.succ_mul]
    omega
abbrev sRec : Stmt := topS 9
theorem scRec : FnScope ["number", "rows", "body", "check"] ["number", "rows"] (defScope sRec) := ⟨rfl, rfl, rfl, by decide +kernel, rfl, by decide +kernel, by decide +kernel⟩
def rowV (rows : List (List Nat)) : List V := rows.map fun r => V.str (S r)
def spRec (K : PySem.W.Frag) : Sp := fun vs H Q _ => ∃ (n : Nat) (a : Addr) (rows : List (List Nat)), vs = [.int (n : Int), .ref a] ∧ n < 10 ^ 60 ∧ SqL K H a (rowV rows) ∧ (rows.map List.length).sum + rows.length ≤ 100000 ∧
  Q (.str (S (recL n rows))) H
theorem ok_rec {f : Addr} {fd : FuncData} (F : Fun K "record" "record" sRec f fd) (T : Bs mg) (c_check_of : Callee P w K mg base 1 "check_of" ["text"] spChk) : FnOk P w K mg base CX0 2 f fd ["number", "rows"] (spRec K) := by
  refine F.ok scRec (fun vs H Q E h => ?_) (fun cdv A outer s H vs Q E hr h => ?_)
  · obtain ⟨n, a, rows, rfl, _⟩ := h
    rfl
  · obtain ⟨n, a, rows, rfl, hn, ha, hl, q⟩ := h
    have nd := scRec.nd
    refine ⟨_, (pss_cons (ps_set (i := 2) nd rfl (Or.inl rfl) (pe_join pe_str (pv 1)))
  (pss_cons (ps_set (i := 3) nd rfl (Or.inl rfl) (pe_own c_check_of (hr.mono (by decide)) (by rfl) (pa_cons (pe_joined (.cons (pe_fmt (pv 0)) (.cons pe_str (.cons (pe_fmt (pe_callB call_len_str (by rfl) T.len PySem.boot_len (pa_cons (pv 2) pa_nil))) (.cons pe_str (.cons (pe_fmt (pv 2)) .nil)))))) pa_nil)))
  (pss_one (ps_ret (pe_joined (.cons (pe_fmt (pv 0)) (.cons pe_str (.cons (pe_fmt (pe_callB call_len_str (by rfl) T.len PySem.boot_len (pa_cons (pv 2) pa_nil))) (.cons pe_str (.cons (pe_fmt (pv 3)) (.cons pe_str (.cons (pe_fmt (pv 2)) (.cons pe_str .nil))))))))))))), ?_⟩
    have hb := joinL_len [10] rows
    have hb' : (joinL [10] rows).length ≤ 100000 := by
      rw [show [10].length = 1 from rfl] at hb
      omega
    have e24 : sizeLine = 16777216 := by decide +kernel
    refine ⟨⟨_, rfl⟩, .ref a, rfl, _, a, rows.map S, rfl, rfl, .inl (by rw [List.map_map]; exact ha), ?_, ?_⟩
    · rw [List.map_map, List.length_map, zn, S_len]
      show (rows.map List.length).sum + rows.length * 1 ≤ 16777216
      omega
    · rw [zn, S_join]
      have h1 : (numL n).length ≤ 60 := TL.numL_len (by decide) hn
      have h2 : (numL (joinL [10] rows).length).length ≤ 60 := TL.numL_len (by decide) (Nat.lt_of_le_of_lt hb' (by decide))
      have hc := chk_lt (headL n (joinL [10] rows).length (joinL [10] rows))
      have h3 : (numL (chkL (headL n (joinL [10] rows).length (joinL [10] rows)))).length ≤ 60 := TL.numL_len (by decide) (Nat.lt_trans hc (by decide))
      refine jsN n rfl hn (by decide) (jsC zb (by simp only [List.length_append, List.length_nil, List.length_cons]; omega) (jsL rfl (by omega) (by simp only [List.length_append, List.length_nil, List.length_cons]; omega)
        (jsC zc (by simp only [List.length_append, List.length_nil, List.length_cons]; omega) (jsV rfl (by simp only [List.length_append, List.length_nil, List.length_cons]; omega) ?_))))
      refine ⟨_, rfl, ?_⟩
      rw [tl_S]
      refine jsN n rfl hn (by decide) (jsC zb (by simp only [List.length_append, List.length_nil, List.length_cons]; omega) (jsL rfl (by omega) (by simp only [List.length_append, List.length_nil, List.length_cons]; omega)
        (jsC zc (by simp only [List.length_append, List.length_nil, List.length_cons]; omega) (jsN (chkL (headL n (joinL [10] rows).length (joinL [10] rows))) ?_ (Nat.lt_trans hc (by decide)) (by simp only [List.length_append, List.length_nil, List.length_cons]; omega)
          (jsC ze ?_ (jsV rfl ?_ (jsC rfl ?_ ?_)))))))
      · rfl
      · simp only [List.length_append, List.length_nil, List.length_cons]
        omega
      · simp only [List.length_append, List.length_nil, List.length_cons]
        omega
      · simp only [List.length_append, List.length_nil, List.length_cons]
        omega
      · exact q

/-! ### one record read -/
def rowsAt (H : Hp) (p : Addr) (rows : List (List Nat)) : Prop := H p = some (.lst (rowV rows))
abbrev sRat : Stmt := topS 11
theorem scRat : FnScope ["log", "at", "number", "at_length", "length", "at_check", "check", "at_body", "end", "body", "rows", "row"] ["log", "at"] (defScope sRat) := ⟨rfl, rfl, rfl, by decide +kernel, rfl, by decide +kernel, by decide +kernel⟩
def spRat : Sp := fun vs H Q _ => ∃ (x : Str) (a : Nat), vs = [.str x, .int (a : Int)] ∧ x.length ≤ 1000000 ∧ a ≤ x.length ∧
  ((recAt (tl x) a = none → ∀ H', Same H H' → Q .non H') ∧
   ∀ n rows b, recAt (tl x) a = some (n, rows, b) → ∀ p r H', Same H H' → H p = none → H r = none → H' r = some (.lst (rowV rows)) → H' p = some (.tup [.int (n : Nat), .ref r, .int (b : Nat)]) → Q (.ref p) H')
set_option maxHeartbeats 4000000 in
theorem ok_rat {f : Addr} {fd : FuncData} (F : Fun K "record_at" "record_at" sRat f fd) (T : Bs mg) (c_check_of : Callee P w K mg base 1 "check_of" ["text"] spChk)
    (c_number_until : Callee P w K mg base 2 "number_until" ["log", "at", "closing"] spUnt) (c_is_row : Callee P w K mg base 1 "is_row" ["row"] spRow) : FnOk P w K mg base CX0 3 f fd ["log", "at"] spRat := by
  refine F.ok scRat (fun vs H Q E h => ?_) (fun cdv A outer s H vs Q E hr h => ?_)
  · obtain ⟨x, a, rfl, _⟩ := h
    rfl
  · obtain ⟨x, a, rfl, hx, ha, q1, q2⟩ := h
    have nd := scRat.nd
    refine ⟨_, (pss_cons (ps_asg (pe_own c_number_until (hr.mono (by decide)) (by rfl) (pa_cons (pv 0) (pa_cons (pv 1) (pa_cons pe_str pa_nil)))) (pg_tup rfl (pgs_cons (pg_name (i := 2) nd rfl (Or.inl rfl)) (pgs_cons (pg_name (i := 3) nd rfl (Or.inl rfl)) pgs_nil))))
  (pss_cons (ps_asg (pe_own c_number_until (hr.mono (by decide)) (by rfl) (pa_cons (pv 0) (pa_cons (pv 3) (pa_cons pe_str pa_nil)))) (pg_tup rfl (pgs_cons (pg_name (i := 4) nd rfl (Or.inl rfl)) (pgs_cons (pg_name (i := 5) nd rfl (Or.inl rfl)) pgs_nil))))
  (pss_cons (ps_asg (pe_own c_number_until (hr.mono (by decide)) (by rfl) (pa_cons (pv 0) (pa_cons (pv 5) (pa_cons pe_str pa_nil)))) (pg_tup rfl (pgs_cons (pg_name (i := 6) nd rfl (Or.inl rfl)) (pgs_cons (pg_name (i := 7) nd rfl (Or.inl rfl)) pgs_nil))))
  (pss_cons (ps_if (PW.pt (pw_or (pt_cmpR op_isN (pv 2) pe_non (nomark _)) (pw_or (pt_cmpR op_isN (pv 4) pe_non (nomark _)) (pw_or1 (pt_cmpR op_isN (pv 6) pe_non (nomark _))))))
  (pss_one (ps_ret pe_non))
  pss_nil)
  (pss_cons (ps_set (i := 8) nd rfl (Or.inl rfl) (pe_op op_add (pv 7) (pv 4)))
  (pss_cons (ps_if (pt_cmpR op_ne (pe_slice sl_str (pv 0) (po_some (pv 8)) (po_some (pe_op op_add (pv 8) pe_int))) pe_str (nomark _))
  (pss_one (ps_ret pe_non))
  pss_nil)
  (pss_cons (ps_set (i := 9) nd rfl (Or.inl rfl) (pe_slice sl_str (pv 0) (po_some (pv 7)) (po_some (pv 8))))
  (pss_cons (ps_set (i := 10) nd rfl (Or.inl rfl) (pe_split (pv 9) pe_str))
  (pss_cons (ps_if (PW.pt (pw_or (pt_not (pt_val (pe_callB (cr_all rfl) (by rfl) T.all (by decide +kernel) (pa_cons (pe_lc (own := [("row", 11)]) (g := gName 11) (tt := tYes) rfl nd (pi_list (pv 10)) (blkOk_by (own := [("row", 11)]) (N := ["log", "at", "number", "at_length", "length", "at_check", "check", "at_body", "end", "body", "rows", "row"]) (sc := defScope (topS 11)) (by decide +kernel)) (fun _ _ _ _ _ => (pg_name (i := 11) nd rfl (Or.inl rfl))) (fun _ _ _ _ _ => pts_nil) (fun _ _ _ _ _ => (pe_own c_is_row (hr.mono (by decide)) (by rfl) (pa_cons (pv 11) pa_nil)))) pa_nil)))) (pw_or1 (pt_cmpR op_ne (pv 6) (pe_own c_check_of (hr.mono (by decide)) (by rfl) (pa_cons (pe_joined (.cons (pe_fmt (pv 2)) (.cons pe_str (.cons (pe_fmt (pv 4)) (.cons pe_str (.cons (pe_fmt (pv 9)) .nil)))))) pa_nil)) (nomark _)))))
  (pss_one (ps_ret pe_non))
  pss_nil)
  (pss_one (ps_ret (pe_tup (pa_cons (pv 2) (pa_cons (pv 10) (pa_cons (pe_op op_add (pv 8) pe_int) pa_nil))))))))))))))), ?_⟩
    obtain ⟨o1, a1, e1⟩ : ∃ o1 a1, upto (tl x) a 32 = (o1, a1) := ⟨_, _, rfl⟩
    obtain ⟨o2, a2, e2⟩ : ∃ o2 a2, upto (tl x) a1 58 = (o2, a2) := ⟨_, _, rfl⟩
    obtain ⟨o3, a3, e3⟩ : ∃ o3 a3, upto (tl x) a2 61 = (o3, a3) := ⟨_, _, rfl⟩
    have u1 := upto_le (l := tl x) (c := 32) (a := a) (by rw [← len_tl]; exact ha)
    rw [e1] at u1
    have u2 := upto_le (c := 58) u1.1
    rw [e2] at u2
    have u3 := upto_le (c := 61) u2.1
    rw [e3] at u3
    rw [← len_tl] at u1 u2 u3
    have ez : sizeLine = 16777216 := by decide +kernel
    have hz : x.length ≤ sizeLine := by omega
    have b1 : ∀ n, o1 = some n → n < 10 ^ 60 := fun n h => upto_num (by rw [e1]; exact h)
    have b2 : ∀ n, o2 = some n → n < 10 ^ 60 := fun n h => upto_num (by rw [e2]; exact h)
    rw [recAt_eq e1 e2 e3] at q1 q2
    refine ⟨.str x, rfl, .int a, rfl, x, a, 32, rfl, hx, ha, fun p1 H1 s1 n1 f1 => ?_⟩
    rw [e1] at f1
    refine ⟨p1, _, rfl, SqT.of f1, rfl, _, _, rfl, _, _, rfl, rfl, ?_⟩
    refine ⟨.str x, rfl, .int a1, rfl, x, a1, 58, rfl, hx, u1.1, fun p2 H2 s2 n2 f2 => ?_⟩
    rw [e2] at f2
    refine ⟨p2, _, rfl, SqT.of f2, rfl, _, _, rfl, _, _, rfl, rfl, ?_⟩
    refine ⟨.str x, rfl, .int a2, rfl, x, a2, 61, rfl, hx, u2.1, fun p3 H3 s3 n3 f3 => ?_⟩
    rw [e3] at f3
    refine ⟨p3, _, rfl, SqT.of f3, rfl, _, _, rfl, _, _, rfl, rfl, ?_⟩
    have s03 : Same H H3 := (s1.tr s2).tr s3
    clear e1 e2 e3 f1 f2 f3 n1 n2 n3
    cases o1 with
    | none => exact ⟨.non, rfl, rfl, _, rfl, iteT (iteT (q1 rfl _ s03))⟩
    | some n =>
    cases o2 with
    | none => exact ⟨.int n, rfl, rfl, _, rfl, iteF ⟨.non, rfl, rfl, _, rfl, iteT (iteT (q1 rfl _ s03))⟩⟩
    | some m =>
    cases o3 with
    | none => exact ⟨.int n, rfl, rfl, _, rfl, iteF ⟨.int m, rfl, rfl, _, rfl, iteF ⟨.non, rfl, rfl, _, rfl, iteT (q1 rfl _ s03)⟩⟩⟩
    | some k =>
    refine ⟨.int n, rfl, rfl, _, rfl, iteF ⟨.int m, rfl, rfl, _, rfl, iteF ⟨.int k, rfl, rfl, _, rfl, iteF ?_⟩⟩⟩
    refine ⟨.int a3, rfl, .int m, rfl, (a3 : Int), (m : Int), rfl, rfl, ?_⟩
    have em : (a3 : Int) + (m : Int) = ((a3 + m : Nat) : Int) := by omega
    have em1 : ((a3 + m : Nat) : Int) + 1 = ((a3 + m + 1 : Nat) : Int) := by omega
    dsimp only
    rw [em]
    refine ⟨.str x, rfl, .int ((a3 + m : Nat) : Int), rfl, ((a3 + m : Nat) : Int), rfl, .int ((a3 + m : Nat) : Int), rfl, ((a3 + m : Nat) : Int), 1, rfl, rfl, _, rfl, x, rfl, hz, ?_⟩
    dsimp only
    rw [em1, cutS_nat, zn, show a3 + m + 1 - (a3 + m) = 1 by omega]
    refine ⟨rfl, _, rfl, ite2 (fun c => q1 ?_ _ s03) (fun c => ?_)⟩
    · have c' : ((tl x).drop (a3 + m)).take 1 ≠ [10] := fun z => by
        rw [z, decide_eq_true rfl] at c
        cases c
      show (if _ then _ else none) = none
      rw [if_neg c']
    have c1 : ((tl x).drop (a3 + m)).take 1 = [10] := by
      have c' : decide (V.str (S (((tl x).drop (a3 + m)).take 1)) = V.str (S [10])) = true := by simpa using c
      have z := of_decide_eq_true c'
      injection z with z
      exact S_inj z
    have r0 : recFin (tl x) (some n) (some m) (some k) a3 = if (∀ r ∈ TL.spl [10] 0 [] (((tl x).drop a3).take m), rowOk r) ∧ k = chkL (headL n m (((tl x).drop a3).take m)) then some (n, TL.spl [10] 0 [] (((tl x).drop a3).take m), a3 + m + 1) else none := if_pos c1
    rw [r0] at q1 q2
    refine ⟨.str x, rfl, .int a3, rfl, (a3 : Int), rfl, .int ((a3 + m : Nat) : Int), rfl, ((a3 + m : Nat) : Int), rfl, x, rfl, hz, ?_⟩
    rw [cutS_nat, Nat.add_sub_cancel_left]
    generalize hB : ((tl x).drop a3).take m = B at q1 q2 ⊢
    have hBl : B.length ≤ 1000000 := by
      rw [← hB, List.length_take, List.length_drop, ← len_tl]
      omega
    refine ⟨.str (S B), rfl, ⟨_, rfl⟩, S B, S [10], rfl, rfl, rfl, by rw [S_len]; omega, fun D hD => ?_⟩
    rw [split_S _ _ (by decide), tl_S]
    generalize hR : TL.spl [10] 0 [] B = R at q1 q2 ⊢
    have eR : (R.map S).map V.str = rowV R := by
      rw [List.map_map]
      rfl
    rw [eR]
    have s04 : Same H (upd H3 D (.lst (rowV R))) := s03.tr (same_new hD)
    generalize hH4 : upd H3 D (.lst (rowV R)) = H4 at s04 ⊢
    have hD4 : H4 D = some (.lst (rowV R)) := by
      rw [← hH4]
      exact upd_same
    have hRl : R.length ≤ 1000001 ∧ ∀ r ∈ R, r.length ≤ 1000000 := by
      rw [← hR]
      have z := spl_len (c := 10) B 0 []
      exact ⟨by omega, fun r hr => by have := z.2 r hr; simp at this; omega⟩
    refine ⟨.ref D, rfl, D, rfl, ⟨_, SqL.of hD4⟩, fun D2 hD2 => ?_⟩
    refine lc_list (xs := rowV R) (fun i H' => Same H4 H' ∧ H' D2 = some (.lst ((R.take i).map fun r => V.bl (decide (rowOk r))))) ⟨same_new hD2, upd_same⟩ (fun i H' _ p => SqL.of (p.1 _ _ hD4)) (fun i v H5 hv p => ?_) (fun H5 p => ?_)
    · obtain ⟨s5, e5⟩ := p
      have hi : i < R.length := by
        have := (List.getElem?_eq_some_iff.mp hv).1
        simpa [rowV] using this
      have ev : v = V.str (S R[i]) := by
        have z : (rowV R)[i]? = some (V.str (S R[i])) := by simp [rowV, hi]
        rw [z] at hv
        exact (Option.some.inj hv).symm
      subst ev
      refine ⟨rfl, _, rfl, _, rfl, by rw [S_len]; exact hRl.2 _ (List.getElem_mem hi), fun H6 s6 => ⟨_, s6 _ _ e5, ?_, (s5.tr s6).mutN hD2, ?_⟩⟩
      · rw [List.length_map, List.length_take]
        omega
      · rw [upd_same, List.take_add_one, List.getElem?_eq_getElem hi, tl_S, List.map_append]
        rfl
    · obtain ⟨s5, e5⟩ := p
      rw [show (rowV R).length = R.length by simp [rowV], List.take_length] at e5
      have s05 := s04.tr s5
      refine ⟨D2, R.map fun r => decide (rowOk r), rfl, SqL.of (by rw [e5, List.map_map]; rfl), _, rfl, ite2 (fun c => iteT (q1 ?_ _ s05)) (fun c => ?_)⟩
      · rw [if_neg]
        intro z
        have z2 : (R.map fun r => decide (rowOk r)).all id = true := by
          rw [List.all_map, List.all_eq_true]
          exact fun r hr => decide_eq_true (z.1 r hr)
        rw [z2] at c
        cases c
      have c2 : ∀ r ∈ R, rowOk r := by
        have c' : (R.map fun r => decide (rowOk r)).all id = true := by simpa using c
        rw [List.all_map, List.all_eq_true] at c'
        exact fun r hr => of_decide_eq_true (c' r hr)
      have hn := b1 n rfl
      have hm := b2 m rfl
      have h1 : (numL n).length ≤ 60 := TL.numL_len (by decide) hn
      have h2 : (numL m).length ≤ 60 := TL.numL_len (by decide) hm
      refine ⟨.int k, rfl, ?_⟩
      refine jsN n rfl hn (by decide) (jsC zb (by simp only [List.length_append, List.length_nil, List.length_cons]; omega) (jsN m rfl hm (by simp only [List.length_append, List.length_nil, List.length_cons]; omega)
        (jsC zc (by simp only [List.length_append, List.length_nil, List.length_cons]; omega) (jsV (m := B) rfl (by simp only [List.length_append, List.length_nil, List.length_cons]; omega) ?_))))
      refine ⟨_, rfl, rfl, _, rfl, ite2 (fun c => q1 ?_ _ s05) (fun c => ?_)⟩
      · rw [if_neg]
        intro z
        have z2 := z.2
        rw [tl_S] at c
        rw [z2] at c
        have c' : (!decide (V.int ((chkL (headL n m B) : Nat) : Int) = V.int ((chkL (headL n m B) : Nat) : Int))) = true := c
        rw [decide_eq_true rfl] at c'
        cases c'
      have c3 : k = chkL (headL n m B) := by
        rw [tl_S] at c
        have c' : decide (V.int ((k : Nat) : Int) = V.int ((chkL (headL n m B) : Nat) : Int)) = true := by
          have c2 : ¬ (!decide (V.int ((k : Nat) : Int) = V.int ((chkL (headL n m B) : Nat) : Int))) = true := c
          simpa using c2
        have z := of_decide_eq_true c'
        injection z with z
        exact Int.ofNat_inj.mp z
      rw [if_pos ⟨c2, c3⟩] at q2
      refine ⟨.int n, rfl, .ref D, rfl, .int ((a3 + m : Nat) : Int), rfl, ((a3 + m : Nat) : Int), 1, rfl, rfl, (by show 3 ≤ sizeLine; decide), fun p hp => ?_⟩
      dsimp only
      rw [em1]
      refine q2 _ _ _ rfl p D _ (s05.tr (same_new hp)) (s05.fresh hp) (s03.fresh hD) ?_ upd_same
      rw [upd_ne (ne_of_none (s5 _ _ hD4) hp)]
      exact s5 _ _ hD4
end
end Lr
namespace Lr
open PySem PySem.Spec PyProof.Rows L2 Lf
section
variable {P : Program} {w : World} {K : PySem.W.Frag} {mg : Str → Option Value} {base : Heap}
/-- the lists of rows at their addresses, new ones -/
def RowsAll (H0 : Hp) (r : Addr) (H : Hp) : List Addr → List (List (List Nat)) → Prop
  | [], [] => True
  | q :: qs, x :: xs => (H0 q = none ∧ q ≠ r ∧ H q = some (.lst (rowV x))) ∧ RowsAll H0 r H qs xs
  | _, _ => False
theorem RowsAll.keep {H0 H H' : Hp} {r : Addr} (k : ∀ q o, H0 q = none → q ≠ r → H q = some o → H' q = some o) : ∀ {qs : List Addr} {xs : List (List (List Nat))}, RowsAll H0 r H qs xs → RowsAll H0 r H' qs xs
  | [], [], _ => trivial
  | _ :: _, _ :: _, ⟨⟨h1, h2, h3⟩, h4⟩ => ⟨⟨h1, h2, k _ _ h1 h2 h3⟩, h4.keep k⟩
  | [], _ :: _, h => h.elim
  | _ :: _, [], h => h.elim
theorem RowsAll.snoc {H0 H : Hp} {r q : Addr} {x : List (List Nat)} (h1 : H0 q = none) (h2 : q ≠ r) (h3 : H q = some (.lst (rowV x))) : ∀ {qs : List Addr} {xs : List (List (List Nat))}, RowsAll H0 r H qs xs → RowsAll H0 r H (qs ++ [q]) (xs ++ [x])
  | [], [], _ => ⟨⟨h1, h2, h3⟩, trivial⟩
  | _ :: _, _ :: _, ⟨h, h4⟩ => ⟨h, RowsAll.snoc h1 h2 h3 h4⟩
  | [], _ :: _, h => h.elim
  | _ :: _, [], h => h.elim
theorem RowsAll.len {H0 H : Hp} {r : Addr} : ∀ {qs : List Addr} {xs : List (List (List Nat))}, RowsAll H0 r H qs xs → qs.length = xs.length
  | [], [], _ => rfl
  | _ :: _, _ :: _, ⟨_, h⟩ => congrArg (· + 1) h.len
  | [], _ :: _, h => h.elim
  | _ :: _, [], h => h.elim
/-- what stands at the loop's head -/
def Jst (l : List Nat) (fst : Option Nat) (rs : List (List (List Nat))) (a : Nat) : Prop :=
  (fst = none ∧ rs = [] ∧ a = 0) ∨ ∃ f fuel, fst = some f ∧ l.length + 1 ≤ fuel + a ∧ parseL l = (some f, rs ++ (runL l fuel (f + rs.length) a).1, (runL l fuel (f + rs.length) a).2)
theorem Jst.end_none {l : List Nat} {fst : Option Nat} {rs : List (List (List Nat))} {a : Nat} (j : Jst l fst rs a) (ha : a ≤ l.length) (h : recAt l a = none) : parseL l = (fst, rs, a) := by
  rcases j with ⟨rfl, rfl, rfl⟩ | ⟨f, fuel, rfl, h1, h2⟩
  · unfold parseL
    rw [h]
  · rw [h2]
    obtain ⟨g, rfl⟩ : ∃ g, fuel = g + 1 := ⟨fuel - 1, by omega⟩
    unfold runL
    rw [h]
    simp
theorem Jst.end_other {l : List Nat} {f : Nat} {rs : List (List (List Nat))} {rw' : List (List Nat)} {a n b : Nat} (j : Jst l (some f) rs a) (ha : a ≤ l.length) (h : recAt l a = some (n, rw', b)) (hne : n ≠ f + rs.length) : parseL l = (some f, rs, a) := by
  rcases j with ⟨h0, _, _⟩ | ⟨f', fuel, h0, h1, h2⟩
  · cases h0
  · cases h0
    rw [h2]
    obtain ⟨g, rfl⟩ : ∃ g, fuel = g + 1 := ⟨fuel - 1, by omega⟩
    unfold runL
    rw [h]
    dsimp only
    rw [if_neg hne]
    simp
theorem Jst.first {l : List Nat} {rs : List (List (List Nat))} {a n b : Nat} {rw' : List (List Nat)} (j : Jst l none rs a) (h : recAt l a = some (n, rw', b)) : Jst l (some n) rs a := by
  rcases j with ⟨_, rfl, rfl⟩ | ⟨f', fuel, h0, h1, h2⟩
  · refine .inr ⟨n, l.length + 1, rfl, by omega, ?_⟩
    unfold parseL
    rw [h]
    simp
  · cases h0
theorem Jst.step {l : List Nat} {f a b : Nat} {rs : List (List (List Nat))} {rw' : List (List Nat)} (j : Jst l (some f) rs a) (ha : a ≤ l.length) (h : recAt l a = some (f + rs.length, rw', b)) : Jst l (some f) (rs ++ [rw']) b := by
  rcases j with ⟨h0, _, _⟩ | ⟨f', fuel, h0, h1, h2⟩
  · cases h0
  · cases h0
    obtain ⟨g, rfl⟩ : ∃ g, fuel = g + 1 := ⟨fuel - 1, by omega⟩
    have hb := recAt_up ha h
    refine .inr ⟨f, g, rfl, by omega, ?_⟩
    rw [h2]
    have er : runL l (g + 1) (f + rs.length) a = (rw' :: (runL l g (f + rs.length + 1) b).1, (runL l g (f + rs.length + 1) b).2) := by
      show (match recAt l a with
        | some (n', rows, b) => if n' = f + rs.length then (rows :: (runL l g (f + rs.length + 1) b).1, (runL l g (f + rs.length + 1) b).2) else ([], a)
        | none => ([], a)) = _
      rw [h]
      exact if_pos rfl
    rw [er, List.length_append, List.append_assoc]
    rfl
abbrev sPar : Stmt := topS 10
theorem scPar : FnScope ["log", "first", "records", "at", "found", "number", "rows", "behind"] ["log"] (defScope sPar) := ⟨rfl, rfl, rfl, by decide +kernel, rfl, by decide +kernel, by decide +kernel⟩
def spPar : Sp := fun vs H Q _ => ∃ (x : Str), vs = [.str x] ∧ x.length ≤ 1000000 ∧
  ∀ p r qs H', Same H H' → H p = none → H r = none → p ≠ r → H' p = some (.tup [optV (parseL (tl x)).1, .ref r, .int (((parseL (tl x)).2.2 : Nat) : Int)]) → H' r = some (.lst (qs.map V.ref)) → RowsAll H r H' qs (parseL (tl x)).2.1 → Q (.ref p) H'
def ParInv (x : Str) (H0 : Hp) (σ : L2.St) (H : Hp) : Prop := ∃ (fst : Option Nat) (rs : List (List (List Nat))) (r : Addr) (qs : List Addr) (a : Nat) (fv : V) (s5 s6 s7 : Option V),
  σ = [some (.str x), some (optV fst), some (.ref r), some (.int (a : Int)), some fv, s5, s6, s7] ∧ Same H0 H ∧ H0 r = none ∧ H r = some (.lst (qs.map V.ref)) ∧ RowsAll H0 r H qs rs ∧ a ≤ x.length ∧ rs.length ≤ a ∧ Jst (tl x) fst rs a ∧
  ((fv = .non ∧ recAt (tl x) a = none) ∨ ∃ n rows b p q, fv = .ref p ∧ recAt (tl x) a = some (n, rows, b) ∧ H p = some (.tup [.int (n : Nat), .ref q, .int (b : Nat)]) ∧ H q = some (.lst (rowV rows)) ∧ H0 q = none ∧ q ≠ r)
theorem ParInv.mk0 {x : Str} {H0 H : Hp} {fst : Option Nat} {rs : List (List (List Nat))} {r : Addr} {qs : List Addr} {a : Nat} {s5 s6 s7 : Option V}
    (h1 : Same H0 H) (h2 : H0 r = none) (h3 : H r = some (.lst (qs.map V.ref))) (h4 : RowsAll H0 r H qs rs) (h5 : a ≤ x.length) (h6 : rs.length ≤ a) (h7 : Jst (tl x) fst rs a) :
    (recAt (tl x) a = none → ∀ H', Same H H' → ParInv x H0 [some (.str x), some (optV fst), some (.ref r), some (.int (a : Int)), some .non, s5, s6, s7] H') ∧
    ∀ n rows b, recAt (tl x) a = some (n, rows, b) → ∀ p q H', Same H H' → H p = none → H q = none → H' q = some (.lst (rowV rows)) → H' p = some (.tup [.int (n : Nat), .ref q, .int (b : Nat)]) →
      ParInv x H0 [some (.str x), some (optV fst), some (.ref r), some (.int (a : Int)), some (.ref p), s5, s6, s7] H' :=
  ⟨fun e H' s => ⟨fst, rs, r, qs, a, .non, s5, s6, s7, rfl, h1.tr s, h2, s _ _ h3, h4.keep fun q o _ _ h => s q o h, h5, h6, h7, .inl ⟨rfl, e⟩⟩,
   fun n rows b e p q H' s hp hq eq ep => ⟨fst, rs, r, qs, a, .ref p, s5, s6, s7, rfl, h1.tr s, h2, s _ _ h3, h4.keep fun q o _ _ h => s q o h, h5, h6, h7, .inr ⟨n, rows, b, p, q, rfl, e, ep, eq, h1.fresh hq, fun z => by rw [z, h3] at hq; cases hq⟩⟩⟩
def parMu (x : Str) : L2.St → Hp → Nat := fun σ _ => match (σ[3]? : Option (Option V)) with
  | some (some (V.int a)) => x.length + 1 - a.toNat
  | _ => 0
set_option maxHeartbeats 4000000 in
theorem ok_par {f : Addr} {fd : FuncData} (F : Fun K "parsed" "parsed" sPar f fd) (T : Bs mg) (c_record_at : Callee P w K mg base 3 "record_at" ["log", "at"] spRat) : FnOk P w K mg base CX0 4 f fd ["log"] spPar := by
  refine F.ok scPar (fun vs H Q E h => ?_) (fun cdv A outer s H vs Q E hr h => ?_)
  · obtain ⟨x, rfl, _⟩ := h
    rfl
  · obtain ⟨x, rfl, hx, q⟩ := h
    have nd := scPar.nd
    refine ⟨_, (pss_cons (ps_par3 (i := 1) (j := 2) (l := 3) (by rfl) nd rfl rfl rfl (by decide) (by decide) (by decide) rfl rfl rfl (pa_cons pe_non (pa_cons (pe_lst pa_nil) (pa_cons pe_int pa_nil))) (by rfl))
  (Evl.pss_cut (ps_set (i := 4) nd rfl (Or.inl rfl) (pe_own c_record_at (hr.mono (by decide)) (by rfl) (pa_cons (pv 0) (pa_cons pe_int pa_nil))))
  (pss_cons (ps_while PassesOwn.never (pt_cmpR op_notN (pv 4) pe_non (nomark _))
  (pss_cons (ps_asg (pv 4) (pg_tup rfl (pgs_cons (pg_name (i := 5) nd rfl (Or.inl rfl)) (pgs_cons (pg_name (i := 6) nd rfl (Or.inl rfl)) (pgs_cons (pg_name (i := 7) nd rfl (Or.inl rfl)) pgs_nil)))))
  (Evl.pss_cut (ps_if (pt_cmpR op_isN (pv 1) pe_non (nomark _))
  (pss_one (ps_set (i := 1) nd rfl (Or.inl rfl) (pv 5)))
  pss_nil)
  (pss_cons (ps_if (pt_cmpR op_ne (pv 5) (pe_op op_add (pv 1) (pe_callB call_len_seq (by rfl) T.len PySem.boot_len (pa_cons (pv 2) pa_nil))) (nomark _))
  (pss_one ps_break)
  pss_nil)
  (pss_cons (ps_expr (pe_bm PySem.F.plainAttrs_list PySem.F.slot_list_append PySem.F.type_list_append mt_append (pv 2) (pa_cons (pv 6) pa_nil)))
  (pss_cons (ps_set (i := 3) nd rfl (Or.inl rfl) (pv 7))
  (pss_one (ps_set (i := 4) nd rfl (Or.inl rfl) (pe_own c_record_at (hr.mono (by decide)) (by rfl) (pa_cons (pv 0) (pa_cons (pv 3) pa_nil)))))))))))
  (pss_one (ps_ret (pe_tup (pa_cons (pv 1) (pa_cons (pv 2) (pa_cons (pv 3) pa_nil))))))))), ?_⟩
    refine ⟨(by show 0 ≤ sizeLine; decide), fun r hr0 => ⟨_, _, _, rfl, ?_⟩⟩
    have s1 : Same H (upd H r (.lst [])) := same_new hr0
    have e1 : (upd H r (.lst [])) r = some (.lst []) := upd_same
    generalize (upd H r (.lst [])) = H1 at s1 e1
    refine ⟨ParInv x H, ⟨.str x, rfl, x, 0, rfl, hx, Nat.zero_le _, ParInv.mk0 (fst := none) (rs := []) (qs := []) s1 hr0 e1 trivial (Nat.zero_le _) (Nat.zero_le _) (.inl ⟨rfl, rfl, rfl⟩)⟩, fun σ H2 hI => ?_⟩
    have fin : ∀ (fst : Option Nat) (rs : List (List (List Nat))) (r : Addr) (qs : List Addr) (a : Nat) (fv s5 s6 s7) (H' : Hp), Same H H' → H r = none → H' r = some (.lst (qs.map V.ref)) → RowsAll H r H' qs rs → parseL (tl x) = (fst, rs, a) →
        tRet (tTup (tCons (tVar 1) (tCons (tVar 2) (tCons (tVar 3) tNil)))) { nx := fun x H' => Q V.non H', rt := Q } [some (.str x), some (optV fst), some (.ref r), some (.int (a : Int)), some fv, s5, s6, s7] H' := by
      intro fst rs r qs a fv s5 s6 s7 H' h1 h2 h3 h4 h5
      rw [h5] at q
      refine ⟨_, rfl, _, rfl, _, rfl, (by show 3 ≤ sizeLine; decide), fun p hp => q p r qs _ (h1.tr (same_new hp)) (h1.fresh hp) h2 (fun z => by rw [z, h3] at hp; cases hp) upd_same ?_ ?_⟩
      · rw [upd_ne (ne_of_none h3 hp)]
        exact h3
      · exact h4.keep fun q o _ _ h => by rw [upd_ne (ne_of_none h hp)]; exact h
    refine while_by (ParInv x H) (parMu x) hI (fun σ H3 hP => ?_) (fun σ H Q Q' hq h => ?_)
    · obtain ⟨fst, rs, r, qs, a, fv, s5, s6, s7, rfl, h1, h2, h3, h4, h5, h6, h7, h8⟩ := hP
      have ha : a ≤ (tl x).length := by rw [← len_tl]; exact h5
      rcases h8 with ⟨rfl, e0⟩ | ⟨n, rows, b, p, q0, rfl, e0, ep, eq, hq0, hqr⟩
      · exact ⟨_, rfl, rfl, _, rfl, iteF (fin _ _ _ _ _ _ _ _ _ _ h1 h2 h3 h4 (h7.end_none ha e0))⟩
      · have hb := recAt_up ha e0
        rw [← len_tl] at hb
        refine ⟨_, rfl, rfl, _, rfl, iteT ?_⟩
        refine ⟨_, rfl, p, _, rfl, SqT.of ep, rfl, _, _, rfl, _, _, rfl, _, _, rfl, rfl, ?_⟩
        refine ⟨fun σ' H' => H' = H3 ∧ ∃ f, Jst (tl x) (some f) rs a ∧ σ' = [some (.str x), some (.int (f : Nat)), some (.ref r), some (.int (a : Int)), some (.ref p), some (.int (n : Nat)), some (.ref q0), some (.int (b : Nat))], ?_, fun σ' H' hm => ?_⟩
        · cases fst with
          | none => exact ⟨_, rfl, rfl, _, rfl, iteT ⟨_, rfl, rfl, n, h7.first e0, rfl⟩⟩
          | some f => exact ⟨.int f, rfl, rfl, _, rfl, iteF ⟨rfl, f, h7, rfl⟩⟩
        · obtain ⟨rfl, f, hJ, rfl⟩ := hm
          have hlen := h4.len
          refine ⟨_, rfl, .int f, rfl, .ref r, rfl, r, _, rfl, .inl (SqL.of h3), (f : Int), _, rfl, rfl, rfl, _, rfl, ?_⟩
          have el : ((f : Nat) : Int) + (((qs.map V.ref).length : Nat) : Int) = ((f + rs.length : Nat) : Int) := by
            rw [List.length_map, hlen]
            omega
          have eq2 : n = f + rs.length → V.int ((n : Nat) : Int) = V.int ((f : Int) + (((qs.map V.ref).length : Nat) : Int)) := fun z => by rw [el, z]
          refine ite2 (fun c => ?_) (fun c => ?_)
          · refine fin _ _ _ _ _ _ _ _ _ _ h1 h2 h3 h4 (hJ.end_other ha e0 fun z => ?_)
            have c' : (!decide (V.int ((n : Nat) : Int) = V.int ((f : Int) + (((qs.map V.ref).length : Nat) : Int)))) = true := c
            rw [decide_eq_true (eq2 z)] at c'
            cases c'
          · have c1 : n = f + rs.length := by
              have c0 : ¬ (!decide (V.int ((n : Nat) : Int) = V.int ((f : Int) + (((qs.map V.ref).length : Nat) : Int)))) = true := c
              have c' : decide (V.int ((n : Nat) : Int) = V.int ((f : Int) + (((qs.map V.ref).length : Nat) : Int))) = true := by
                cases hh : decide (V.int ((n : Nat) : Int) = V.int ((f : Int) + (((qs.map V.ref).length : Nat) : Int))) with
                | true => rfl
                | false => rw [hh] at c0; exact absurd rfl c0
              have z := of_decide_eq_true c'
              injection z with z
              rw [el] at z
              exact Int.ofNat_inj.mp z
            subst c1
            refine ⟨.ref r, rfl, .inl ⟨rfl, _, SqL.of h3⟩, .ref q0, rfl, r, _, _, rfl, rfl, h3, ?_, ?_⟩
            · rw [List.length_map, hlen]
              exact Nat.lt_of_le_of_lt (Nat.le_trans (Nat.le_trans h6 h5) hx) (by decide)
            · refine ⟨.int b, rfl, .str x, rfl, .int b, rfl, x, b, rfl, hx, hb.2, ?_⟩
              have keep : ∀ q o, H q = none → q ≠ r → H' q = some o → (upd H' r (.lst (qs.map V.ref ++ [V.ref q0]))) q = some o := fun q o _ hne h => by
                rw [upd_ne hne]
                exact h
              have z := ParInv.mk0 (x := x) (H0 := H) (H := upd H' r (.lst (qs.map V.ref ++ [V.ref q0]))) (fst := some f) (rs := rs ++ [rows]) (r := r) (qs := qs ++ [q0]) (a := b) (s5 := some (.int ((f + rs.length : Nat) : Int))) (s6 := some (.ref q0)) (s7 := some (.int (b : Nat)))
                (h1.mutN h2) h2 (by rw [upd_same, List.map_append]; rfl) ((h4.keep keep).snoc hq0 hqr (keep _ _ hq0 hqr eq)) hb.2 (by rw [List.length_append]; show rs.length + 1 ≤ b; omega) (hJ.step ha e0)
              refine ⟨fun e H5 s5 => ⟨z.1 e H5 s5, ?_⟩, fun n' rows' b' e p' q' H5 s5 hp' hq' eq' ep' => ⟨z.2 n' rows' b' e p' q' H5 s5 hp' hq' eq' ep', ?_⟩⟩
              · show x.length + 1 - b < x.length + 1 - a
                omega
              · show x.length + 1 - b < x.length + 1 - a
                omega
    · obtain ⟨v, h1, h2, k, h3, h4⟩ := h
      exact ⟨v, h1, h2, k, h3, hq _ _ h4⟩
end
end Lr
namespace Lr
open PySem PySem.Spec PyProof.Rows L2 Lf
section
variable {X : Cx} {k : Nat} {x : Str} {ps : List Str} {sp : Sp} {p pos : Pos}
theorem pe_own0 (C : Callee X.prog X.w X.K X.mg X.base k x ps sp) (hr : Room k X.A) (hg : Gl X x)
    (hdb : (x == ("__debug__" : Str)) = false := by decide) : PE X (.Call (.Name x p) [] [] pos) (tCall sp [] E0 tNil) := by
  obtain ⟨f, fd, F, hm, hk, hb⟩ := C
  exact pe_call0 F hr hg hm hk hb .nil pass0 hdb
end
/-- the feed: two ints -/
def FeedAt (H : Hp) (a : Addr) : Prop := ∃ u v : Int, H a = some (.lst [.int u, .int v]) ∧ 0 ≤ u ∧ 0 ≤ v ∧ v < 2305843009213693951
theorem FeedAt.keep {a b : Addr} {H H' : Hp} (h : FeedAt H a) (k : Kp b H H') (n : a ≠ b) : FeedAt H' a := by
  obtain ⟨u, v, e, r⟩ := h
  exact ⟨u, v, k _ _ n e, r⟩
theorem FeedAt.same {a : Addr} {H H' : Hp} (h : FeedAt H a) (k : Same H H') : FeedAt H' a := by
  obtain ⟨u, v, e, r⟩ := h
  exact ⟨u, v, k _ _ e, r⟩
theorem FeedAt.new {a p : Addr} {H : Hp} {o : HO} (h : FeedAt H a) (n : H p = none) : FeedAt (upd H p o) a := h.same (same_new n)
theorem FeedAt.ne {a p : Addr} {H : Hp} (h : FeedAt H a) (n : H p = none) : p ≠ a := fun e => by
  obtain ⟨u, v, h, _⟩ := h
  rw [e, h] at n
  cases n
theorem FeedAt.mut {a p : Addr} {H : Hp} {o : HO} (h : FeedAt H a) (n : p ≠ a) : FeedAt (upd H p o) a := by
  obtain ⟨u, v, e, r⟩ := h
  exact ⟨u, v, by rw [upd_ne n.symm]; exact e, r⟩
section
variable {P : Program} {w : World} {K : PySem.W.Frag} {mg : Str → Option Value} {base : Heap}
def spTake : Sp := fun vs H Q _ => ∃ (a : Addr) (n : Int), vs = [.ref a, .int n] ∧ FeedAt H a ∧ 0 < n ∧ n ≤ 10 ^ 60 ∧
  ∀ (v : Int) (H' : Hp), Kp a H H' → FeedAt H' a → 0 ≤ v → v < n → Q (.int v) H'
abbrev sTake : Stmt := topS 20
theorem scTake : FnScope ["_law_feed_here", "_law_many", "_law_found"] ["_law_feed_here", "_law_many"] (defScope sTake) := ⟨rfl, rfl, rfl, by decide +kernel, rfl, by decide +kernel, by decide +kernel⟩
theorem pow60 : (10 : Int) ^ 60 < 2 ^ 200 := by decide +kernel
theorem ok_take {f : Addr} {fd : FuncData} (F : Fun K "_law_take" "_law_take" sTake f fd) : FnOk P w K mg base CX0 1 f fd ["_law_feed_here", "_law_many"] spTake := by
  refine F.ok scTake (fun vs H Q E h => ?_) (fun cdv A outer s H vs Q E hr h => ?_)
  · obtain ⟨a, n, rfl, _⟩ := h
    rfl
  · obtain ⟨a, n, rfl, ⟨u, v, hT, hu, hv, hv2⟩, hn, hn2, q⟩ := h
    have nd := scTake.nd
    refine ⟨_, (pss_cons (ps_if (pt_cmpR op_gt (pe_ix ix_list (pv 0) pe_int (fun _ _ => rfl)) pe_int (nomark _))
  (pss_cons (ps_set (i := 2) nd rfl (Or.inl rfl) (pe_op op_mod (pe_ix ix_list (pv 0) pe_int (fun _ _ => rfl)) (pv 1)))
  (pss_cons (ps_asg (pe_op op_fdivW (pe_ix ix_list (pv 0) pe_int (fun _ _ => rfl)) (pv 1)) (pg_sub (pv 0) pe_int set_list))
  (pss_one (ps_ret (pv 2)))))
  pss_nil)
  (pss_cons (ps_asg (pe_op op_mod (pe_op op_add (pe_op op_mulW (pe_ix ix_list (pv 0) pe_int (fun _ _ => rfl)) pe_int) pe_int) pe_int) (pg_sub (pv 0) pe_int set_list))
  (pss_one (ps_ret (pe_op op_mod (pe_op op_fdivW (pe_ix ix_list (pv 0) pe_int (fun _ _ => rfl)) pe_int) (pv 1)))))), ?_⟩
    have nW : n.natAbs < 2 ^ 200 := by
      have h := pow60
      omega
    refine ⟨.ref a, rfl, a, _, 0, .int u, rfl, rfl, SqL.of hT, atI_nat (j := 0) rfl, u, 0, rfl, rfl, _, rfl, ite2 (fun c => ?_) (fun c => ?_)⟩
    · have c' : 0 < u := of_decide_eq_true c
      refine ⟨.ref a, rfl, a, _, 0, .int u, rfl, rfl, SqL.of hT, atI_nat (j := 0) rfl, .int n, rfl, u, n, rfl, rfl, hn, ?_⟩
      refine ⟨.ref a, rfl, a, _, 0, .int u, rfl, rfl, SqL.of hT, atI_nat (j := 0) rfl, .int n, rfl, u, n, rfl, rfl, wide_div hn nW (by decide) (by decide), ?_⟩
      refine ⟨.ref a, rfl, a, _, 0, 0, rfl, rfl, hT, rfl, ?_⟩
      refine ⟨_, rfl, ?_⟩
      refine q _ _ (Kp.refl a H).mut ⟨u / n, v, upd_same, Int.ediv_nonneg hu (by omega), hv, hv2⟩ (Int.emod_nonneg _ (by omega)) (Int.emod_lt_of_pos _ hn)
    · have w1 : CMulW v 48271 := wide_mul (a := 64) (b := 32) (by omega) (by decide) (by decide) (by decide) (by decide)
      refine ⟨.ref a, rfl, a, _, 1, .int v, rfl, rfl, SqL.of hT, atI_nat (j := 1) rfl, v, 48271, rfl, rfl, w1, _, 12345, rfl, rfl, _, 2305843009213693951, rfl, rfl, (by show (0 : Int) < 2305843009213693951; decide), ?_⟩
      refine ⟨.ref a, rfl, a, _, 1, 1, rfl, rfl, hT, rfl, ?_⟩
      have r0 : 0 ≤ (v * 48271 + 12345) % 2305843009213693951 := Int.emod_nonneg _ (by decide)
      have r1 : (v * 48271 + 12345) % 2305843009213693951 < 2305843009213693951 := Int.emod_lt_of_pos _ (by decide)
      dsimp only
      generalize (v * 48271 + 12345) % 2305843009213693951 = v1 at r0 r1 ⊢
      have hT1 : (upd H a (.lst ([V.int u, .int v].set 1 (.int v1)))) a = some (.lst [.int u, .int v1]) := upd_same
      refine ⟨.ref a, rfl, a, _, 1, .int v1, rfl, rfl, SqL.of hT1, atI_nat (j := 1) rfl, v1, 2097152, rfl, rfl, wide_div (b := 32) (by decide) (by decide) (by decide) (by decide), .int n, rfl, _, n, rfl, rfl, hn, ?_⟩
      exact q _ _ (Kp.refl a H).mut ⟨u, v1, upd_same, hu, r0, by omega⟩ (Int.emod_nonneg _ (by omega)) (Int.emod_lt_of_pos _ hn)
/-- a new feed of the script -/
def spFeed (K : PySem.W.Frag) : Sp := fun vs H Q _ => ∃ (a : Addr) (ns : List Int) (k : Int), vs = [.ref a, .int k] ∧ SqL K H a (ns.map V.int) ∧ 0 ≤ k ∧ k ≤ 100 ∧
  ∀ (p : Addr) (H' : Hp), Same H H' → H p = none → FeedAt H' p → Q (.ref p) H'
abbrev sFeed : Stmt := topS 19
theorem scFeed : FnScope ["_law_script", "_law_k", "_law_seed", "_law_digits"] ["_law_script", "_law_k"] (defScope sFeed) := ⟨rfl, rfl, rfl, by decide +kernel, rfl, by decide +kernel, by decide +kernel⟩
theorem ok_feed {f : Addr} {fd : FuncData} (F : Fun K "_law_feed" "_law_feed" sFeed f fd) (T : Bs mg) : FnOk P w K mg base CX0 1 f fd ["_law_script", "_law_k"] (spFeed K) := by
  refine F.ok scFeed (fun vs H Q E h => ?_) (fun cdv A outer s H vs Q E hr h => ?_)
  · obtain ⟨a, ns, n, rfl, _⟩ := h
    rfl
  · obtain ⟨a, ns, k, rfl, hS, hk0, hk1, q⟩ := h
    have nd := scFeed.nd
    refine ⟨_, (pss_cons (ps_set (i := 2) nd rfl (Or.inl rfl) (pe_op op_add (pe_op op_mulW pe_int (pv 1)) pe_int))
  (Evl.pss_cut (ps_if (pt_cmpR op_lt (pv 1) (pe_callB call_len_seq (by rfl) T.len PySem.boot_len (pa_cons (pv 0) pa_nil)) (nomark _))
  (pss_one (ps_set (i := 2) nd rfl (Or.inl rfl) (pe_ix ix_list (pv 0) (pv 1) (fun _ _ => rfl))))
  pss_nil)
  (pss_cons (ps_set (i := 3) nd rfl (Or.inl rfl) pe_int)
  (Evl.pss_cut (ps_if (pt_cmpR op_ge (pe_callB call_abs (by rfl) T.abs (by decide +kernel) (pa_cons (pv 2) pa_nil)) (pe_op op_pow pe_int pe_int) (nomark _))
  (pss_one (ps_set (i := 3) nd rfl (Or.inl rfl) (pe_op op_sub (pe_callB call_abs (by rfl) T.abs (by decide +kernel) (pa_cons (pv 2) pa_nil)) (pe_op op_pow pe_int pe_int))))
  pss_nil)
  (pss_one (ps_ret (pe_lst (pa_cons (pv 3) (pa_cons (pe_op op_mod (pe_op op_add (pe_op op_add (pe_op op_mul (pv 2) pe_int) (pe_op op_mulW pe_int (pv 1))) pe_int) pe_int) pa_nil))))))))), ?_⟩
    have w0 : CMulW 67 k := wide_mul (a := 32) (b := 32) (by decide) (by omega) (by decide) (by decide) (by decide)
    have w1 : CMulW 7919 k := wide_mul (a := 32) (b := 32) (by decide) (by omega) (by decide) (by decide) (by decide)
    have cp : CPow 10 18 := ⟨by decide, by decide, by decide⟩
    refine ⟨.int k, rfl, 67, k, rfl, rfl, w0, _, 19, rfl, rfl, ?_⟩
    refine ⟨fun σ' H' => H' = H ∧ ∃ sd : Int, σ' = [some (.ref a), some (.int k), some (.int sd), none], ?_, fun σ' H' hm => ?_⟩
    · refine ⟨.int k, rfl, .ref a, rfl, a, _, rfl, .inl hS, k, _, rfl, rfl, _, rfl, ite2 (fun c => ?_) (fun c => ?_)⟩
      · have c' : k < ((ns.map V.int).length : Nat) := of_decide_eq_true c
        obtain ⟨x, hx, e⟩ := atI_mem hk0 c'
        obtain ⟨z, _, rfl⟩ := List.mem_map.mp hx
        exact ⟨.ref a, rfl, .int k, rfl, a, _, k, _, rfl, rfl, hS, e, rfl, z, rfl⟩
      · exact ⟨rfl, _, rfl⟩
    · obtain ⟨rfl, sd, rfl⟩ := hm
      refine ⟨fun σ' H2 => H2 = H' ∧ ∃ d : Int, 0 ≤ d ∧ σ' = [some (.ref a), some (.int k), some (.int sd), some (.int d)], ?_, fun σ' H2 hm => ?_⟩
      · refine ⟨.int sd, rfl, sd, rfl, 10, 18, rfl, rfl, cp, _, _, rfl, rfl, _, rfl, ite2 (fun c => ?_) (fun c => ?_)⟩
        · have c' : (10 : Int) ^ (18 : Int).toNat ≤ (if sd < 0 then -sd else sd) := of_decide_eq_true c
          exact ⟨.int sd, rfl, sd, rfl, 10, 18, rfl, rfl, cp, _, _, rfl, rfl, rfl, _, Int.sub_nonneg_of_le c', rfl⟩
        · exact ⟨rfl, 0, by decide, rfl⟩
      · obtain ⟨rfl, d, hd, rfl⟩ := hm
        refine ⟨.int d, rfl, .int sd, rfl, sd, 6364136223846793005, rfl, rfl, .inr ⟨by decide, by decide⟩, .int k, rfl, 7919, k, rfl, rfl, w1, _, _, rfl, rfl, _, 1442695040888963407, rfl, rfl, _, 2305843009213693951, rfl, rfl, (by show (0 : Int) < 2305843009213693951; decide), (by show 2 ≤ sizeLine; decide), fun p hp => ?_⟩
        exact q p _ (same_new hp) hp ⟨_, _, upd_same, hd, Int.emod_nonneg _ (by decide), Int.emod_lt_of_pos _ (by decide)⟩
/-- one of a list -/
def spPick (K : PySem.W.Frag) : Sp := fun vs H Q _ => ∃ (a l : Addr) (xs : List V), vs = [.ref a, .ref l] ∧ FeedAt H a ∧ l ≠ a ∧ SqL K H l xs ∧ 0 < xs.length ∧ xs.length ≤ 1000 ∧
  ∀ (i : Nat) (v : V) (H' : Hp), xs[i]? = some v → Kp a H H' → FeedAt H' a → Q v H'
abbrev sPick : Stmt := topS 21
theorem scPick : FnScope ["_law_feed_here", "_law_some"] ["_law_feed_here", "_law_some"] (defScope sPick) := ⟨rfl, rfl, rfl, by decide +kernel, rfl, by decide +kernel, by decide +kernel⟩
theorem ok_pick {f : Addr} {fd : FuncData} (F : Fun K "_law_pick" "_law_pick" sPick f fd) (T : Bs mg) (c__law_take : Callee P w K mg base 1 "_law_take" ["_law_feed_here", "_law_many"] spTake) : FnOk P w K mg base CX0 2 f fd ["_law_feed_here", "_law_some"] (spPick K) := by
  refine F.ok scPick (fun vs H Q E h => ?_) (fun cdv A outer s H vs Q E hr h => ?_)
  · obtain ⟨a, l, xs, rfl, _⟩ := h
    rfl
  · obtain ⟨a, l, xs, rfl, hF, hla, hl, hp0, hp1, q⟩ := h
    have nd := scPick.nd
    refine ⟨_, (pss_one (ps_ret (pe_ix ix_list (pv 1) (pe_own c__law_take (hr.mono (by decide)) (by rfl) (pa_cons (pv 0) (pa_cons (pe_callB call_len_seq (by rfl) T.len PySem.boot_len (pa_cons (pv 1) pa_nil)) pa_nil))) (fun _ _ => rfl)))), ?_⟩
    refine ⟨.ref l, rfl, .ref a, rfl, .ref l, rfl, l, xs, rfl, .inl hl, a, _, rfl, hF, by omega, Int.le_trans (b := 1000) (by omega) (by decide +kernel), fun v H1 k1 f1 v0 v1 => ?_⟩
    obtain ⟨i, rfl⟩ := Int.eq_ofNat_of_zero_le v0
    have hi : i < xs.length := by omega
    exact ⟨l, xs, i, xs[i], rfl, rfl, k1.seqL hla hl, atI_nat (List.getElem?_eq_getElem hi), q i _ H1 (List.getElem?_eq_getElem hi) k1 f1⟩
def spSigns : Sp := fun vs H Q _ => vs = [] ∧ ∀ z : Str, 0 < z.length → z.length ≤ 100 → (∀ c ∈ tl z, signOk c) → Q (.str z) H
abbrev sSigns : Stmt := topS 23
theorem scSigns : FnScope [] [] (defScope sSigns) := ⟨rfl, rfl, rfl, by decide +kernel, rfl, by decide +kernel, by decide +kernel⟩
theorem ok_signs {f : Addr} {fd : FuncData} (F : Fun K "_law_signs" "_law_signs" sSigns f fd) : FnOk P w K mg base CX0 1 f fd [] spSigns := by
  refine F.ok scSigns (fun vs H Q E h => ?_) (fun cdv A outer s H vs Q E hr h => ?_)
  · obtain ⟨rfl, _⟩ := h
    rfl
  · obtain ⟨rfl, q⟩ := h
    have nd := scSigns.nd
    refine ⟨_, (pss_one (ps_ret pe_str)), ?_⟩
    exact q _ (by decide +kernel) (by decide +kernel) (by decide +kernel)
def spWhole : Sp := fun vs H Q _ => ∃ i : Int, vs = [.int i] ∧ Q (.bl true) H
abbrev sWhole : Stmt := topS 22
theorem scWhole : FnScope ["_law_found"] ["_law_found"] (defScope sWhole) := ⟨rfl, rfl, rfl, by decide +kernel, rfl, by decide +kernel, by decide +kernel⟩
theorem ok_whole {f : Addr} {fd : FuncData} (F : Fun K "_law_whole" "_law_whole" sWhole f fd) (T : Bs mg) : FnOk P w K mg base CX0 1 f fd ["_law_found"] spWhole := by
  refine F.ok scWhole (fun vs H Q E h => ?_) (fun cdv A outer s H vs Q E hr h => ?_)
  · obtain ⟨x, rfl, _⟩ := h
    rfl
  · obtain ⟨i, rfl, q⟩ := h
    have nd := scWhole.nd
    refine ⟨_, (pss_one (ps_ret (pe_and (pe_callB call_isi (by rfl) T.isinstance (by decide +kernel) (pa_cons (pv 0) (pa_cons (pe_bltn (v := V.ty "int") (u := Value.type "int") (by rfl) T.int (by decide +kernel) rfl) pa_nil))) (pe_one (pe_not (pe_callB call_isi (by rfl) T.isinstance (by decide +kernel) (pa_cons (pv 0) (pa_cons (pe_bltn (v := V.ty "bool") (u := Value.type "bool") (by rfl) T.bool (by decide +kernel) rfl) pa_nil)))))))), ?_⟩
    refine ⟨_, rfl, _, _, _, _, true, rfl, .ty "int", .base (.int i), kit_ty (by decide +kernel), _, rfl, iteT ⟨_, rfl, _, _, _, _, false, rfl, .ty "bool", .base (.int i), kit_ty (by decide +kernel), _, rfl, q⟩⟩

theorem zea : ("=a" : Str) = S [61, 97] := by decide +kernel
theorem num_ok (n d : Nat) (h : d ∈ numL n) : signOk d := by
  have z := TL.numL_digits n d h
  unfold signOk
  omega
theorem sum1 : ∀ cs : List Nat, (cs.map fun _ => 1).sum = cs.length
  | [] => rfl
  | c :: r => by
    rw [List.map_cons, List.sum_cons, sum1 r, List.length_cons]
    omega
theorem joinL_one : ∀ cs : List Nat, joinL [] (cs.map fun c => [c]) = cs
  | [] => rfl
  | [c] => rfl
  | c :: d :: r => by
    show [c] ++ ([] ++ joinL [] ((d :: r).map fun c => [c])) = c :: d :: r
    rw [joinL_one (d :: r)]
    rfl
/-- a drawn row -/
def Drawn (r : List Nat) : Prop := rowOk r ∧ r.length ≤ 40
def spRowD : Sp := fun vs H Q _ => ∃ (a : Addr), vs = [.ref a] ∧ FeedAt H a ∧
  ∀ (r : List Nat) (H' : Hp), Drawn r → Kp a H H' → FeedAt H' a → Q (.str (S r)) H'
abbrev sRowD : Stmt := topS 24
theorem scRowD : FnScope ["_law_feed_here", "_law_signs_here", "_law_way", "_law_many", "_law_k"] ["_law_feed_here"] (defScope sRowD) := ⟨rfl, rfl, rfl, by decide +kernel, rfl, by decide +kernel, by decide +kernel⟩
theorem ok_rowd {f : Addr} {fd : FuncData} (F : Fun K "_law_row" "_law_row" sRowD f fd) (T : Bs mg) (c__law_take : Callee P w K mg base 1 "_law_take" ["_law_feed_here", "_law_many"] spTake)
    (c__law_pick : Callee P w K mg base 2 "_law_pick" ["_law_feed_here", "_law_some"] (spPick K)) (c__law_signs : Callee P w K mg base 1 "_law_signs" [] spSigns) : FnOk P w K mg base CX0 3 f fd ["_law_feed_here"] spRowD := by
  refine F.ok scRowD (fun vs H Q E h => ?_) (fun cdv A outer s H vs Q E hr h => ?_)
  · obtain ⟨a, rfl, _⟩ := h
    rfl
  · obtain ⟨a, rfl, hF, q⟩ := h
    have nd := scRowD.nd
    refine ⟨_, (pss_cons (ps_set (i := 1) nd rfl (Or.inr rfl) (pe_own0 c__law_signs (hr.mono (by decide)) (by rfl)))
  (pss_cons (ps_set (i := 2) nd rfl (Or.inl rfl) (pe_own c__law_take (hr.mono (by decide)) (by rfl) (pa_cons (pv 0) (pa_cons pe_int pa_nil))))
  (pss_cons (ps_if (pt_cmpR op_eq (pv 2) pe_int (nomark _))
  (pss_one (ps_ret (pe_op op_add_str (pe_op op_add_str (pe_op op_add_str (pe_op op_add_str (pe_op op_add_str (pe_callTy call_str_int (by rfl) T.str (by decide +kernel) (pa_cons (pe_own c__law_take (hr.mono (by decide)) (by rfl) (pa_cons (pv 0) (pa_cons pe_int pa_nil))) pa_nil)) pe_str) (pe_callTy call_str_int (by rfl) T.str (by decide +kernel) (pa_cons (pe_own c__law_take (hr.mono (by decide)) (by rfl) (pa_cons (pv 0) (pa_cons pe_int pa_nil))) pa_nil))) pe_str) (pe_callTy call_str_int (by rfl) T.str (by decide +kernel) (pa_cons (pe_own c__law_take (hr.mono (by decide)) (by rfl) (pa_cons (pv 0) (pa_cons pe_int pa_nil))) pa_nil))) pe_str)))
  pss_nil)
  (Evl.pss_cut (ps_if (pt_cmpR op_eq (pv 2) pe_int (nomark _))
  (pss_one (ps_set (i := 1) nd rfl (Or.inr rfl) pe_str))
  pss_nil)
  (pss_cons (ps_set (i := 3) nd rfl (Or.inl rfl) (pe_op op_add pe_int (pe_own c__law_take (hr.mono (by decide)) (by rfl) (pa_cons (pv 0) (pa_cons (pe_own c__law_pick (hr.mono (by decide)) (by rfl) (pa_cons (pv 0) (pa_cons (pe_lst (pa_cons pe_int (pa_cons pe_int (pa_cons pe_int (pa_cons pe_int pa_nil))))) pa_nil))) pa_nil)))))
  (pss_one (ps_ret (pe_join pe_str (pe_lc (own := [("_law_k", 4)]) (g := gName 4) (tt := tYes) rfl nd (pi_range1 (by rfl) T.range (pa_cons (pv 3) pa_nil)) (blkOk_by (own := [("_law_k", 4)]) (N := ["_law_feed_here", "_law_signs_here", "_law_way", "_law_many", "_law_k"]) (sc := defScope (topS 24)) (by decide +kernel)) (fun _ _ _ _ _ => (pg_name (i := 4) nd rfl (Or.inl rfl))) (fun _ _ _ _ _ => pts_nil) (fun _ _ _ _ _ => (pe_ix ix_str (pv 1) (pe_own c__law_take (hr.mono (by decide)) (by rfl) (pa_cons (pv 0) (pa_cons (pe_callB call_len_str (by rfl) T.len PySem.boot_len (pa_cons (pv 1) pa_nil)) pa_nil))) (fun _ _ => rfl)))))))))))), ?_⟩
    have big : ∀ n : Int, n ≤ 2000000 → n ≤ 10 ^ 60 := fun n hn => Int.le_trans hn (by decide +kernel)
    have ez : sizeLine = 16777216 := by decide +kernel
    refine ⟨rfl, fun z hz0 hz1 hz2 => ?_⟩
    refine ⟨.ref a, rfl, a, 5, rfl, hF, by decide, big _ (by decide), fun way H1 k1 f1 y0 y1 => ?_⟩
    refine ⟨.int way, rfl, rfl, _, rfl, ite2 (fun c => ?_) (fun c => ?_)⟩
    · refine ⟨.ref a, rfl, a, 12, rfl, f1, by decide, big _ (by decide), fun v1 H2 k2 f2 v10 v11 => ?_⟩
      obtain ⟨n1, rfl⟩ := Int.eq_ofNat_of_zero_le v10
      have l1 : (numL n1).length ≤ 2 := TL.numL_len (by decide) (by omega)
      refine ⟨(n1 : Int), rfl, log2_num (Nat.lt_of_lt_of_le (m := 12) (by omega) (by decide)), S (numL n1), S [32], by rw [S_num], by rw [zb]; rfl, ?_, ?_⟩
      · rw [S_len, S_len]
        exact Nat.le_trans (Nat.add_le_add_right l1 1) (by decide)
      refine ⟨.ref a, rfl, a, 9, rfl, f2, by decide, big _ (by decide), fun v2 H3 k3 f3 v20 v21 => ?_⟩
      obtain ⟨n2, rfl⟩ := Int.eq_ofNat_of_zero_le v20
      have l2 : (numL n2).length ≤ 1 := TL.numL_len (by decide) (by omega)
      refine ⟨(n2 : Int), rfl, log2_num (Nat.lt_of_lt_of_le (m := 9) (by omega) (by decide)), S (numL n1 ++ [32]), S (numL n2), by rw [S_append], by rw [S_num], ?_, S (numL n1 ++ [32] ++ numL n2), S [58], by rw [S_append], by rw [zc], ?_, ?_⟩
      · rw [S_len, S_len]
        simp only [List.length_append, List.length_cons, List.length_nil]
        omega
      · rw [S_len, S_len]
        simp only [List.length_append, List.length_cons, List.length_nil]
        omega
      refine ⟨.ref a, rfl, a, 1000003, rfl, f3, by decide, big _ (by decide), fun v3 H4 k4 f4 v30 v31 => ?_⟩
      obtain ⟨n3, rfl⟩ := Int.eq_ofNat_of_zero_le v30
      have l3 : (numL n3).length ≤ 7 := TL.numL_len (by decide) (by omega)
      refine ⟨(n3 : Int), rfl, log2_num (Nat.lt_of_lt_of_le (m := 1000003) (by omega) (by decide)), S (numL n1 ++ [32] ++ numL n2 ++ [58]), S (numL n3), by rw [S_append], by rw [S_num], ?_, S (numL n1 ++ [32] ++ numL n2 ++ [58] ++ numL n3), S [61, 97], by rw [S_append], by rw [zea], ?_, ?_⟩
      · rw [S_len, S_len]
        simp only [List.length_append, List.length_cons, List.length_nil]
        omega
      · rw [S_len, S_len]
        simp only [List.length_append, List.length_cons, List.length_nil]
        omega
      rw [S_append]
      refine q _ H4 ⟨⟨?_, ?_⟩, ?_⟩ (((k1.trans k2).trans k3).trans k4) f4
      · intro z
        have := congrArg List.length z
        simp at this
      · intro d hd
        simp only [List.mem_append, List.mem_cons, List.not_mem_nil, or_false] at hd
        rcases hd with ((((hd | hd) | hd) | hd) | hd) | hd | hd
        · exact num_ok n1 d hd
        · rw [hd]; decide
        · exact num_ok n2 d hd
        · rw [hd]; decide
        · exact num_ok n3 d hd
        · rw [hd]; decide
        · rw [hd]; decide
      · simp only [List.length_append, List.length_cons, List.length_nil]
        omega
    · refine ⟨fun σ' H' => H' = H1 ∧ ∃ z : Str, 0 < z.length ∧ z.length ≤ 100 ∧ (∀ c ∈ tl z, signOk c) ∧ σ' = [some (.ref a), some (.str z), some (.int way), none, none], ?_, fun σ' H' hm => ?_⟩
      · refine ⟨.int way, rfl, rfl, _, rfl, ite2 (fun c => ?_) (fun c => ?_)⟩
        · exact ⟨rfl, _, (by decide +kernel), (by decide +kernel), (by decide +kernel), rfl⟩
        · exact ⟨rfl, z, hz0, hz1, hz2, rfl⟩
      · obtain ⟨rfl, z, hz0, hz1, hz2, rfl⟩ := hm
        refine ⟨.ref a, rfl, .ref a, rfl, (by show 4 ≤ sizeLine; decide), fun l hl => ⟨a, l, _, rfl, f1.new hl, f1.ne hl, SqL.of upd_same, (by show 0 < 4; decide), (by show 4 ≤ 1000; decide), fun i v H2 hv k2 f2 => ?_⟩⟩
        obtain ⟨m, rfl, hm0, hm1⟩ : ∃ m : Nat, v = .int (m : Int) ∧ 0 < m ∧ m ≤ 40 := by
          rcases i with _ | _ | _ | _ | i
          · exact ⟨1, (Option.some.inj hv).symm, by decide, by decide⟩
          · exact ⟨2, (Option.some.inj hv).symm, by decide, by decide⟩
          · exact ⟨6, (Option.some.inj hv).symm, by decide, by decide⟩
          · exact ⟨40, (Option.some.inj hv).symm, by decide, by decide⟩
          · cases hv
        refine ⟨a, (m : Int), rfl, f2, by omega, big _ (by omega), fun v3 H3 k3 f3 v0 v1 => ?_⟩
        obtain ⟨n, rfl⟩ := Int.eq_ofNat_of_zero_le v0
        refine ⟨1, _, rfl, rfl, ?_⟩
        have k03 : Kp a H H3 := ((k1.new hl).trans k2).trans k3
        have en : (1 : Int) + (n : Int) = ((1 + n : Nat) : Int) := by omega
        dsimp only
        rw [en]
        refine ⟨⟨_, rfl⟩, .int ((1 + n : Nat) : Int), rfl, ((1 + n : Nat) : Int), rfl, by omega, by omega, fun D hD => ?_⟩
        refine lc_range (lo := 0) (n := 1 + n) (fun i H' => Kp a H3 H' ∧ FeedAt H' a ∧ ∃ cs : List Nat, cs.length = i ∧ (∀ c ∈ cs, signOk c) ∧ H' D = some (.lst (cs.map fun c => V.str (S [c])))) ⟨(Kp.refl a H3).new hD, f3.new hD, [], rfl, by simp, upd_same⟩ (fun i H4 hi p => ?_) (fun H4 p => ?_)
        · obtain ⟨k4, f4, cs, hl4, hok, e4⟩ := p
          have hz : z.length ≤ sizeLine := Nat.le_trans hz1 (by decide)
          refine ⟨rfl, .str z, rfl, .ref a, rfl, .str z, rfl, z, rfl, hz, a, _, rfl, f4, by omega, big _ (by omega), fun v5 H5 k5 f5 v50 v51 => ?_⟩
          obtain ⟨j, rfl⟩ := Int.eq_ofNat_of_zero_le v50
          have hj : j < (tl z).length := by rw [← len_tl]; omega
          refine ⟨z, (j : Int), (tl z)[j], rfl, rfl, hz, atI_nat (List.getElem?_eq_getElem hj), ?_⟩
          have hDa := f3.ne hD
          refine ⟨_, k5 _ _ hDa e4, ?_, (k4.trans k5).mutN hD, f5.mut hDa, cs ++ [(tl z)[j]], by rw [List.length_append, hl4]; rfl, ?_, ?_⟩
          · rw [List.length_map, hl4]
            exact Nat.lt_of_lt_of_le (m := 100) (by omega) (by decide)
          · intro c hc
            rcases List.mem_append.mp hc with hc | hc
            · exact hok c hc
            · rw [List.mem_singleton.mp hc]
              exact hz2 _ (List.getElem_mem hj)
          · rw [upd_same, List.map_append]
            rfl
        · obtain ⟨k4, f4, cs, hl4, hok, e4⟩ := p
          refine ⟨_, D, cs.map fun c => S [c], rfl, rfl, .inl (SqL.of (by rw [e4, List.map_map]; rfl)), ?_, ?_⟩
          · rw [List.map_map, List.length_map]
            show (cs.map fun c => 1).sum + cs.length * 0 ≤ 16777216
            rw [Nat.mul_zero, Nat.add_zero, sum1, hl4]
            omega
          · have ej : Txt.join "" (cs.map fun c => S [c]) = S cs := by
              have h := S_join [] (cs.map fun c => [c])
              rw [List.map_map] at h
              rw [joinL_one] at h
              exact h
            rw [ej]
            exact q cs H4 ⟨⟨fun z => by rw [z] at hl4; simp at hl4; omega, hok⟩, by omega⟩ (k03.trans k4) f4
def spRowsD : Sp := fun vs H Q _ => ∃ (a : Addr), vs = [.ref a] ∧ FeedAt H a ∧
  ∀ (p : Addr) (rows : List (List Nat)) (H' : Hp), rows ≠ [] → rows.length ≤ 5 → (∀ r ∈ rows, Drawn r) → Kp a H H' → FeedAt H' a → H p = none → H' p = some (.lst (rowV rows)) → Q (.ref p) H'
abbrev sRowsD : Stmt := topS 25
theorem scRowsD : FnScope ["_law_feed_here", "_law_turn"] ["_law_feed_here"] (defScope sRowsD) := ⟨rfl, rfl, rfl, by decide +kernel, rfl, by decide +kernel, by decide +kernel⟩
theorem ok_rowsd {f : Addr} {fd : FuncData} (F : Fun K "_law_rows_drawn" "_law_rows_drawn" sRowsD f fd) (T : Bs mg) (c__law_take : Callee P w K mg base 1 "_law_take" ["_law_feed_here", "_law_many"] spTake)
    (c__law_pick : Callee P w K mg base 2 "_law_pick" ["_law_feed_here", "_law_some"] (spPick K)) (c__law_row : Callee P w K mg base 3 "_law_row" ["_law_feed_here"] spRowD) : FnOk P w K mg base CX0 4 f fd ["_law_feed_here"] spRowsD := by
  refine F.ok scRowsD (fun vs H Q E h => ?_) (fun cdv A outer s H vs Q E hr h => ?_)
  · obtain ⟨a, rfl, _⟩ := h
    rfl
  · obtain ⟨a, rfl, hF, q⟩ := h
    have nd := scRowsD.nd
    refine ⟨_, (pss_one (ps_ret (pe_lc (own := [("_law_turn", 1)]) (g := gName 1) (tt := tYes) rfl nd (pi_range1 (by rfl) T.range (pa_cons (pe_op op_add pe_int (pe_own c__law_take (hr.mono (by decide)) (by rfl) (pa_cons (pv 0) (pa_cons (pe_own c__law_pick (hr.mono (by decide)) (by rfl) (pa_cons (pv 0) (pa_cons (pe_lst (pa_cons pe_int (pa_cons pe_int (pa_cons pe_int pa_nil)))) pa_nil))) pa_nil)))) pa_nil)) (blkOk_by (own := [("_law_turn", 1)]) (N := ["_law_feed_here", "_law_turn"]) (sc := defScope (topS 25)) (by decide +kernel)) (fun _ _ _ _ _ => (pg_name (i := 1) nd rfl (Or.inl rfl))) (fun _ _ _ _ _ => pts_nil) (fun _ _ _ _ _ => (pe_own c__law_row (hr.mono (by decide)) (by rfl) (pa_cons (pv 0) pa_nil)))))), ?_⟩
    have big : ∀ n : Int, n ≤ 2000000 → n ≤ 10 ^ 60 := fun n hn => Int.le_trans hn (by decide +kernel)
    refine ⟨.ref a, rfl, .ref a, rfl, (by show 3 ≤ sizeLine; decide), fun l hl => ⟨a, l, _, rfl, hF.new hl, hF.ne hl, SqL.of upd_same, (by show 0 < 3; decide), (by show 3 ≤ 1000; decide), fun i v H1 hv k1 f1 => ?_⟩⟩
    obtain ⟨m, rfl, hm0, hm1⟩ : ∃ m : Nat, v = .int (m : Int) ∧ 0 < m ∧ m ≤ 5 := by
      rcases i with _ | _ | _ | i
      · exact ⟨1, (Option.some.inj hv).symm, by decide, by decide⟩
      · exact ⟨2, (Option.some.inj hv).symm, by decide, by decide⟩
      · exact ⟨5, (Option.some.inj hv).symm, by decide, by decide⟩
      · cases hv
    refine ⟨a, (m : Int), rfl, f1, by omega, big _ (by omega), fun v3 H3 k3 f3 v0 v1 => ?_⟩
    obtain ⟨n, rfl⟩ := Int.eq_ofNat_of_zero_le v0
    have k03 : Kp a H H3 := (((Kp.refl a H).new hl).trans k1).trans k3
    refine ⟨1, _, rfl, rfl, ?_⟩
    have en : (1 : Int) + (n : Int) = ((1 + n : Nat) : Int) := by omega
    dsimp only
    rw [en]
    refine ⟨((1 + n : Nat) : Int), rfl, by omega, by omega, fun D hD => ?_⟩
    have hDa := f3.ne hD
    refine lc_range (lo := 0) (n := 1 + n) (fun i H' => Kp a H3 H' ∧ FeedAt H' a ∧ ∃ rows : List (List Nat), rows.length = i ∧ (∀ r ∈ rows, Drawn r) ∧ H' D = some (.lst (rowV rows))) ⟨(Kp.refl a H3).new hD, f3.new hD, [], rfl, by simp, upd_same⟩ (fun i H4 hi p => ?_) (fun H4 p => ?_)
    · obtain ⟨k4, f4, rows, hl4, hok, e4⟩ := p
      refine ⟨rfl, .ref a, rfl, a, rfl, f4, fun r H5 hr5 k5 f5 => ?_⟩
      refine ⟨_, k5 _ _ hDa e4, ?_, (k4.trans k5).mutN hD, f5.mut hDa, rows ++ [r], by rw [List.length_append, hl4]; rfl, ?_, ?_⟩
      · rw [rowV, List.length_map, hl4]
        exact Nat.lt_of_lt_of_le (m := 100) (by omega) (by decide)
      · intro c hc
        rcases List.mem_append.mp hc with hc | hc
        · exact hok c hc
        · rw [List.mem_singleton.mp hc]
          exact hr5
      · rw [upd_same, rowV, rowV, List.map_append]
        rfl
    · obtain ⟨k4, f4, rows, hl4, hok, e4⟩ := p
      exact q D rows H4 (fun z => by rw [z] at hl4; simp at hl4; omega) (by omega) hok (k03.trans k4) f4 (k03.fresh hD hDa) e4

end
end Lr
namespace Lr
open PySem PySem.Spec PyProof.Rows L2 Lf
/-! ### data that can be compared -/
def Lay (k : Nat) (d : PyData) : Prop := d.canLay0 = true ∧ d.depth ≤ k
theorem Lay.all {k : Nat} : ∀ {ds : List PyData}, (∀ d ∈ ds, Lay k d) → PyData.canLayAll0 ds = true ∧ PyData.depthAll ds ≤ k
  | [], _ => by
    simp [PyData.canLayAll0, PyData.depthAll]
  | d :: r, h => by
    have h1 := h d (List.mem_cons_self ..)
    have h2 := Lay.all fun z hz => h z (List.mem_cons_of_mem _ hz)
    simp only [PyData.canLayAll0, PyData.depthAll, h1.1, h2.1, Bool.and_self, true_and]
    exact Nat.max_le.mpr ⟨h1.2, h2.2⟩
theorem Lay.lst {k : Nat} {ds : List PyData} (h : ∀ d ∈ ds, Lay k d) : Lay (k + 1) (.list ds) := by
  have z := Lay.all h
  unfold Lay
  simp only [PyData.canLay0, PyData.depth]
  exact ⟨z.1, by omega⟩
theorem Lay.tup {k : Nat} {ds : List PyData} (h : ∀ d ∈ ds, Lay k d) : Lay (k + 1) (.tuple ds) := by
  have z := Lay.all h
  unfold Lay
  simp only [PyData.canLay0, PyData.depth]
  exact ⟨z.1, by omega⟩
theorem Lay.int {k : Nat} (i : Int) : Lay k (.int i) := by
  unfold Lay
  simp [PyData.canLay0, PyData.depth]
theorem Lay.non {k : Nat} : Lay k .none := by
  unfold Lay
  simp [PyData.canLay0, PyData.depth]
theorem Lay.str {k : Nat} {x : Str} (h : SOk x) : Lay k (.str x) := by
  unfold Lay
  refine ⟨?_, by simp [PyData.depth]⟩
  simp only [PyData.canLay0]
  unfold PyData.strOk
  rw [← Array.all_toList, List.all_eq_true]
  exact fun c hc => decide_eq_true (h c hc)
theorem Lay.up {k j : Nat} {d : PyData} (h : Lay k d) (hj : k ≤ j) : Lay j d := ⟨h.1, Nat.le_trans h.2 hj⟩
theorem Lay.shaped {k : Nat} {d : PyData} (h : Lay k d) (hk : k ≤ 64) : SeqAt.shaped d = true := by
  unfold SeqAt.shaped
  rw [Bool.and_eq_true]
  exact ⟨h.1, decide_eq_true (Nat.le_trans h.2 hk)⟩
theorem Lay.eqv {k : Nat} {d : PyData} (h : Lay k d) : PyData.eqv d d = true := SeqAt.eqv_refl d h.1
def rowsD (rows : List (List Nat)) : PyData := .list (rows.map fun r => .str (S r))
def recsD (recs : List (List (List Nat))) : PyData := .list (recs.map rowsD)
theorem sok_row {r : List Nat} (h : rowOk r) : SOk (S r) := fun c hc => by
  have h1 : 32 ≤ c ∧ c ≤ 126 := h.2 c hc
  omega
theorem rowsD_lay {rows : List (List Nat)} (h : ∀ r ∈ rows, rowOk r) : Lay 1 (rowsD rows) := .lst (k := 0) fun d hd => by
  obtain ⟨r, hr, rfl⟩ := List.mem_map.mp hd
  exact .str (sok_row (h r hr))
theorem recsD_lay {recs : List (List (List Nat))} (h : ∀ rows ∈ recs, ∀ r ∈ rows, rowOk r) : Lay 2 (recsD recs) := .lst (k := 1) fun d hd => by
  obtain ⟨r, hr, rfl⟩ := List.mem_map.mp hd
  exact rowsD_lay (h r hr)
section
variable {K : PySem.W.Frag} {H : Hp}
theorem dp_strs : ∀ rows : List (List Nat), DpAll K H (rowV rows) (rows.map fun r => .str (S r))
  | [] => .nil
  | r :: rs => .cons (.str _) (dp_strs rs)
theorem dp_rows {p : Addr} {rows : List (List Nat)} (h : SqL K H p (rowV rows)) : Dp K H (.ref p) (rowsD rows) := .lst h (dp_strs rows)
end
/-! ### a record read back -/
theorem upto_hit {l rest : List Nat} {a c n : Nat} (h : l.drop a = numL n ++ c :: rest) (hn : n < 10 ^ 60) (hc : c < 48 ∨ 57 < c) : upto l a c = (some n, a + (numL n).length + 1) := by
  have hl : (numL n).length ≤ 60 := TL.numL_len (by decide) hn
  have e : (l.drop a).take 61 = numL n ++ c :: rest.take (60 - (numL n).length) := by
    rw [h, List.take_append, List.take_of_length_le (by omega), show 61 - (numL n).length = (60 - (numL n).length) + 1 by omega, List.take_succ_cons]
  unfold upto
  rw [e, ix_at (TL.numL_free hc)]
  have e2 : (l.drop a).take (numL n).length = numL n := by
    rw [h]
    exact List.take_left
  dsimp only
  rw [e2, numIn_num hn]
theorem drop_hit {l x rest : List Nat} {a c : Nat} (h : l.drop a = x ++ c :: rest) : l.drop (a + x.length + 1) = rest := by
  have e : l.drop (a + x.length + 1) = (l.drop a).drop (x.length + 1) := by
    rw [List.drop_drop, Nat.add_assoc]
  rw [e, h, List.drop_append]
  simp
def bodyL (rows : List (List Nat)) : List Nat := joinL [10] rows
theorem row_no10 {r : List Nat} (h : rowOk r) : 10 ∉ r := fun m => by
  have h1 : 32 ≤ 10 ∧ 10 ≤ 126 := h.2 10 m
  omega
theorem recAt_rec {l B : List Nat} {a n : Nat} {rows : List (List Nat)} (hl : l.drop a = recL n rows ++ B) (hn : n < 10 ^ 60) (hne : rows ≠ []) (hr : ∀ r ∈ rows, rowOk r) (hb : (joinL [10] rows).length < 10 ^ 60) :
    recAt l a = some (n, rows, a + (recL n rows).length) := by
  have hk : chkL (headL n (joinL [10] rows).length (joinL [10] rows)) < 10 ^ 60 := Nat.lt_trans (chk_lt _) (by decide)
  have hs : TL.spl [10] 0 [] (joinL [10] rows) = rows := TL.spl_join hne fun p hp => row_no10 (hr p hp)
  unfold recL at hl ⊢
  generalize joinL [10] rows = body at *
  generalize hK : chkL (headL n body.length body) = k at *
  have d0 : l.drop a = numL n ++ 32 :: (numL body.length ++ 58 :: (numL k ++ 61 :: (body ++ 10 :: B))) := by
    rw [hl]
    simp
  have e1 := upto_hit d0 hn (by decide)
  have d1 := drop_hit d0
  have e2 := upto_hit d1 hb (by decide)
  have d2 := drop_hit d1
  have e3 := upto_hit d2 hk (by decide)
  have d3 := drop_hit d2
  rw [recAt_eq e1 e2 e3]
  generalize hb3 : a + (numL n).length + 1 + (numL body.length).length + 1 + (numL k).length + 1 = b3 at *
  have t1 : (l.drop (b3 + body.length)).take 1 = [10] := by
    have e : l.drop (b3 + body.length) = (l.drop b3).drop body.length := by rw [List.drop_drop]
    rw [e, d3, List.drop_left]
    rfl
  have t2 : (l.drop b3).take body.length = body := by
    rw [d3]
    exact List.take_left
  unfold recFin
  dsimp only
  rw [if_pos t1, t2, hs, if_pos ⟨hr, hK.symm⟩]
  simp only [List.length_append, List.length_cons, List.length_nil]
  congr 3
  omega
/-! ### a log read back -/
def logL : Nat → List (List (List Nat)) → List Nat
  | _, [] => []
  | n, r :: rs => recL n r ++ logL (n + 1) rs
def GoodRec (rows : List (List Nat)) : Prop := rows ≠ [] ∧ (∀ r ∈ rows, rowOk r) ∧ (joinL [10] rows).length < 10 ^ 60
theorem upto_nil {l : List Nat} {a c : Nat} (h : l.drop a = []) : upto l a c = (none, a) := by
  unfold upto
  rw [h]
  rfl
theorem recAt_nil {l : List Nat} {a : Nat} (h : l.drop a = []) : recAt l a = none := by
  rw [recAt_eq (upto_nil h) (upto_nil h) (upto_nil h)]
  rfl
theorem runL_hit {l : List Nat} {f n a b : Nat} {rows : List (List Nat)} (h : recAt l a = some (n, rows, b)) : runL l (f + 1) n a = (rows :: (runL l f (n + 1) b).1, (runL l f (n + 1) b).2) := by
  show (match recAt l a with
    | some (n', rows, b) => if n' = n then (rows :: (runL l f (n + 1) b).1, (runL l f (n + 1) b).2) else ([], a)
    | none => ([], a)) = _
  rw [h]
  exact if_pos rfl
theorem runL_miss {l : List Nat} {f n n' a b : Nat} {rows : List (List Nat)} (h : recAt l a = some (n', rows, b)) (hn : n' ≠ n) : runL l (f + 1) n a = ([], a) := by
  show (match recAt l a with
    | some (n', rows, b) => if n' = n then (rows :: (runL l f (n + 1) b).1, (runL l f (n + 1) b).2) else ([], a)
    | none => ([], a)) = _
  rw [h]
  exact if_neg hn
theorem num_ok' (n d : Nat) (h : d ∈ numL n) : Dig d := TL.numL_digits n d h
/-- whole records ahead are told, then it goes on behind them -/
theorem runL_log {l B : List Nat} : ∀ (recs : List (List (List Nat))) (n a fuel : Nat), (∀ r ∈ recs, GoodRec r) → n + recs.length ≤ 10 ^ 60 → l.drop a = logL n recs ++ B →
    runL l (fuel + recs.length) n a = (recs ++ (runL l fuel (n + recs.length) (a + (logL n recs).length)).1, (runL l fuel (n + recs.length) (a + (logL n recs).length)).2)
  | [], n, a, fuel, _, _, _ => rfl
  | r :: rs, n, a, fuel, hg, hn, hd => by
    have g := hg r (List.mem_cons_self ..)
    have hn' : n + (rs.length + 1) ≤ 10 ^ 60 := hn
    have hd' : l.drop a = recL n r ++ (logL (n + 1) rs ++ B) := by
      rw [hd]
      show recL n r ++ logL (n + 1) rs ++ B = _
      rw [List.append_assoc]
    have e := recAt_rec hd' (by omega) g.1 g.2.1 g.2.2
    have d2 : l.drop (a + (recL n r).length) = logL (n + 1) rs ++ B := by
      rw [← List.drop_drop, hd', List.drop_left]
    have ih := runL_log rs (n + 1) (a + (recL n r).length) fuel (fun z hz => hg z (List.mem_cons_of_mem _ hz)) (by omega) d2
    show runL l (fuel + rs.length + 1) n a = _
    rw [runL_hit e, ih]
    have e3 : n + 1 + rs.length = n + (r :: rs).length := by
      rw [List.length_cons]
      omega
    have e4 : a + (recL n r).length + (logL (n + 1) rs).length = a + (logL n (r :: rs)).length := by
      show _ = a + (recL n r ++ logL (n + 1) rs).length
      rw [List.length_append]
      omega
    rw [e3, e4]
    rfl
theorem recL_pos (n : Nat) (r : List (List Nat)) : 0 < (recL n r).length := by
  unfold recL
  simp only [List.length_append, List.length_cons, List.length_nil]
  omega
theorem logL_len : ∀ (recs : List (List (List Nat))) (n : Nat), recs.length ≤ (logL n recs).length
  | [], _ => Nat.zero_le _
  | r :: rs, n => by
    show rs.length + 1 ≤ (recL n r ++ logL (n + 1) rs).length
    rw [List.length_append]
    have h1 := logL_len rs (n + 1)
    have h2 := recL_pos n r
    omega
theorem runL_end {l : List Nat} (fuel n : Nat) {a : Nat} (h : recAt l a = none) : runL l fuel n a = ([], a) := by
  cases fuel with
  | zero => rfl
  | succ f =>
    unfold runL
    rw [h]
theorem parse_log {recs : List (List (List Nat))} {n : Nat} (hne : recs ≠ []) (hg : ∀ r ∈ recs, GoodRec r) (hn : n + recs.length ≤ 10 ^ 60) : parseL (logL n recs) = (some n, recs, (logL n recs).length) := by
  have hd : (logL n recs).drop 0 = logL n recs ++ [] := by simp
  have hl := logL_len recs n
  have e := runL_log recs n 0 ((logL n recs).length + 1 - recs.length) hg hn hd
  rw [show (logL n recs).length + 1 - recs.length + recs.length = (logL n recs).length + 1 by omega, Nat.zero_add] at e
  rw [runL_end (l := logL n recs) (a := (logL n recs).length) _ _ (recAt_nil (List.drop_length ..))] at e
  cases recs with
  | nil => exact absurd rfl hne
  | cons r rs =>
    have g := hg r (List.mem_cons_self ..)
    have hn' : n + (rs.length + 1) ≤ 10 ^ 60 := hn
    have e1 := recAt_rec (l := logL n (r :: rs)) (a := 0) (B := logL (n + 1) rs) rfl (by omega) g.1 g.2.1 g.2.2
    unfold parseL
    rw [e1]
    dsimp only
    rw [e]
    simp
theorem parse_nil : parseL [] = (none, [], 0) := by
  unfold parseL
  rw [recAt_nil rfl]
theorem parse_one {rows : List (List Nat)} {n : Nat} (g : GoodRec rows) (hn : n < 10 ^ 60) : parseL (recL n rows) = (some n, [rows], (recL n rows).length) := by
  have h := parse_log (recs := [rows]) (n := n) (by simp) (fun r hr => by rw [List.mem_singleton.mp hr]; exact g) hn
  have e : logL n [rows] = recL n rows := by
    show recL n rows ++ [] = _
    rw [List.append_nil]
  rw [e] at h
  exact h
theorem logL_snoc : ∀ (recs : List (List (List Nat))) (n : Nat) (r : List (List Nat)), logL n (recs ++ [r]) = logL n recs ++ recL (n + recs.length) r
  | [], n, r => by
    show recL n r ++ [] = [] ++ recL (n + 0) r
    simp
  | x :: xs, n, r => by
    show recL n x ++ logL (n + 1) (xs ++ [r]) = recL n x ++ logL (n + 1) xs ++ recL (n + (xs.length + 1)) r
    rw [logL_snoc xs (n + 1) r, List.append_assoc, show n + 1 + xs.length = n + (xs.length + 1) by omega]
theorem sum_rows : ∀ {rows : List (List Nat)} {k : Nat}, (∀ r ∈ rows, r.length ≤ k) → (rows.map List.length).sum ≤ rows.length * k
  | [], _, _ => Nat.zero_le _
  | r :: rs, k, h => by
    have h1 := h r (List.mem_cons_self ..)
    have h2 := sum_rows fun z hz => h z (List.mem_cons_of_mem _ hz)
    rw [List.map_cons, List.sum_cons, List.length_cons, Nat.succ_mul]
    omega
theorem recL_len {n : Nat} {rows : List (List Nat)} (hn : n < 10 ^ 60) (hb : (joinL [10] rows).length ≤ 100000) : (recL n rows).length ≤ (joinL [10] rows).length + 184 := by
  have h1 : (numL n).length ≤ 60 := TL.numL_len (by decide) hn
  have h2 : (numL (joinL [10] rows).length).length ≤ 60 := TL.numL_len (by decide) (Nat.lt_of_le_of_lt hb (by decide))
  have h3 : (numL (chkL (headL n (joinL [10] rows).length (joinL [10] rows)))).length ≤ 60 := TL.numL_len (by decide) (Nat.lt_trans (chk_lt _) (by decide))
  unfold recL
  simp only [List.length_append, List.length_cons, List.length_nil]
  omega
end Lr
namespace Lr
open PySem PySem.Spec PyProof.Rows L2 Lf
theorem Drawn.len {rows : List (List Nat)} (h : ∀ r ∈ rows, Drawn r) (h5 : rows.length ≤ 5) : (rows.map List.length).sum + rows.length ≤ 205 := by
  have h1 := sum_rows (k := 40) fun r hr => (h r hr).2
  omega
theorem Drawn.good {rows : List (List Nat)} (hne : rows ≠ []) (h : ∀ r ∈ rows, Drawn r) (h5 : rows.length ≤ 5) : GoodRec rows := by
  refine ⟨hne, fun r hr => (h r hr).1, ?_⟩
  have h1 := Drawn.len h h5
  have h2 := joinL_len [10] rows
  rw [show [10].length = 1 from rfl] at h2
  exact Nat.lt_of_le_of_lt (m := 205) (by omega) (by decide)
theorem Drawn.rec_len {rows : List (List Nat)} {n : Nat} (hn : n < 10 ^ 60) (h : ∀ r ∈ rows, Drawn r) (h5 : rows.length ≤ 5) : (recL n rows).length ≤ 400 := by
  have h1 := Drawn.len h h5
  have h2 := joinL_len [10] rows
  rw [show [10].length = 1 from rfl] at h2
  have h3 := recL_len (n := n) (rows := rows) hn (by omega)
  omega
/-- what was drawn for one record -/
def DrawnRec (rows : List (List Nat)) : Prop := rows ≠ [] ∧ rows.length ≤ 5 ∧ ∀ r ∈ rows, Drawn r
theorem log_len : ∀ {recs : List (List (List Nat))} {n : Nat}, (∀ r ∈ recs, DrawnRec r) → n + recs.length ≤ 10 ^ 60 → (logL n recs).length ≤ recs.length * 400
  | [], _, _, _ => Nat.zero_le _
  | r :: rs, n, h, hn => by
    have hn' : n + (rs.length + 1) ≤ 10 ^ 60 := hn
    have d := h r (List.mem_cons_self ..)
    have h1 := Drawn.rec_len (n := n) (by omega) d.2.2 d.2.1
    have h2 := log_len (recs := rs) (n := n + 1) (fun z hz => h z (List.mem_cons_of_mem _ hz)) (by omega)
    show (recL n r ++ logL (n + 1) rs).length ≤ (rs.length + 1) * 400
    rw [List.length_append]
    omega
section
variable {P : Program} {w : World} {K : PySem.W.Frag} {mg : Str → Option Value} {base : Heap}
theorem RowsAll.get {H0 H : Hp} {r : Addr} : ∀ {qs : List Addr} {xs : List (List (List Nat))} (i : Nat), RowsAll H0 r H qs xs → i < xs.length → ∃ q x, qs[i]? = some q ∧ xs[i]? = some x ∧ H0 q = none ∧ q ≠ r ∧ H q = some (.lst (rowV x))
  | [], [], _, _, h => by cases h
  | q :: _, x :: _, 0, ⟨⟨h1, h2, h3⟩, _⟩, _ => ⟨q, x, rfl, rfl, h1, h2, h3⟩
  | _ :: _, _ :: xs, i + 1, ⟨_, h4⟩, h => RowsAll.get (xs := xs) i h4 (Nat.lt_of_succ_lt_succ h)
  | [], _ :: _, _, h, _ => h.elim
  | _ :: _, [], _, h, _ => h.elim
theorem RowsAll.dp {H0 H : Hp} {r : Addr} : ∀ {qs : List Addr} {xs : List (List (List Nat))}, RowsAll H0 r H qs xs → DpAll K H (qs.map V.ref) (xs.map rowsD)
  | [], [], _ => .nil
  | _ :: _, _ :: _, ⟨⟨_, _, h3⟩, h4⟩ => .cons (dp_rows (SqL.of h3)) h4.dp
  | [], _ :: _, h => h.elim
  | _ :: _, [], h => h.elim
end
end Lr
namespace Lr
open PySem PySem.Spec PyProof.Rows L2 Lf
theorem upto_shift (A X : List Nat) (a c : Nat) : upto (A ++ X) (A.length + a) c = ((upto X a c).1, A.length + (upto X a c).2) := by
  unfold upto
  have e : (A ++ X).drop (A.length + a) = X.drop a := by
    rw [← List.drop_drop, List.drop_left]
  rw [e]
  cases ix c ((X.drop a).take 61) with
  | none => rfl
  | some k =>
    show (numIn ((X.drop a).take k), A.length + a + k + 1) = (numIn ((X.drop a).take k), A.length + (a + k + 1))
    congr 1
    omega
theorem recFin_shift (A X : List Nat) (o1 o2 o3 : Option Nat) (b : Nat) : recFin (A ++ X) o1 o2 o3 (A.length + b) = (recFin X o1 o2 o3 b).map fun z => (z.1, z.2.1, A.length + z.2.2) := by
  cases o1 with
  | none => rfl
  | some n =>
  cases o2 with
  | none => rfl
  | some m =>
  cases o3 with
  | none => rfl
  | some k =>
  have e1 : (A ++ X).drop (A.length + b + m) = X.drop (b + m) := by
    rw [Nat.add_assoc, ← List.drop_drop, List.drop_left]
  have e2 : (A ++ X).drop (A.length + b) = X.drop b := by
    rw [← List.drop_drop, List.drop_left]
  unfold recFin
  dsimp only
  rw [e1, e2]
  split
  · split
    · have e4 : A.length + b + m + 1 = A.length + (b + m + 1) := by omega
      rw [e4]
      rfl
    · rfl
  · rfl
theorem recAt_shift (A X : List Nat) (a : Nat) : recAt (A ++ X) (A.length + a) = (recAt X a).map fun z => (z.1, z.2.1, A.length + z.2.2) := by
  obtain ⟨o1, a1, e1⟩ : ∃ o1 a1, upto X a 32 = (o1, a1) := ⟨_, _, rfl⟩
  obtain ⟨o2, a2, e2⟩ : ∃ o2 a2, upto X a1 58 = (o2, a2) := ⟨_, _, rfl⟩
  obtain ⟨o3, a3, e3⟩ : ∃ o3 a3, upto X a2 61 = (o3, a3) := ⟨_, _, rfl⟩
  have f1 := upto_shift A X a 32
  rw [e1] at f1
  have f2 := upto_shift A X a1 58
  rw [e2] at f2
  have f3 := upto_shift A X a2 61
  rw [e3] at f3
  rw [recAt_eq e1 e2 e3, recAt_eq f1 f2 f3]
  exact recFin_shift A X o1 o2 o3 a3
theorem runL_shift (A X : List Nat) : ∀ (f n a : Nat), runL (A ++ X) f n (A.length + a) = ((runL X f n a).1, A.length + (runL X f n a).2)
  | 0, _, _ => rfl
  | f + 1, n, a => by
    have h := recAt_shift A X a
    cases e : recAt X a with
    | none =>
      rw [e] at h
      rw [runL_end _ _ h, runL_end _ _ e]
    | some z =>
      obtain ⟨n', rows, b⟩ := z
      rw [e] at h
      by_cases hn : n' = n
      · subst hn
        rw [runL_hit h, runL_hit e, runL_shift A X f (n' + 1) b]
      · rw [runL_miss h hn, runL_miss e hn]
theorem recAt_bad {l rest : List Nat} {a c : Nat} (h : l.drop a = c :: rest) (hc : ¬ Dig c ∨ (c = 48 ∧ rest.head? ≠ some 32)) : recAt l a = none := by
  have key : (upto l a 32).1 = none := by
    unfold upto
    rw [h]
    cases e : ix 32 ((c :: rest).take 61) with
    | none => rfl
    | some k =>
      show numIn ((c :: rest).take k) = none
      unfold numIn
      rw [if_neg]
      intro ok
      cases k with
      | zero => exact ok.1 rfl
      | succ k =>
        rw [List.take_succ_cons] at ok
        rcases hc with hc | ⟨rfl, hc⟩
        · exact hc (ok.2.1 c (List.mem_cons_self ..))
        · have h2 := ok.2.2.2 rfl
          have h3 : rest.take k = [] := by
            injection h2
          obtain ⟨hk, r, hr, _⟩ := ix_some e
          rw [List.take_succ_cons, List.take_succ_cons] at hr
          rw [List.take_take] at hr
          have hk' : k < 60 := by
            rw [List.length_take] at hk
            omega
          rw [Nat.min_eq_left (by omega), h3] at hr
          injection hr with _ hr
          apply hc
          cases rest with
          | nil => simp at hr
          | cons d rest =>
            rw [show (60 : Nat) = 59 + 1 from rfl, List.take_succ_cons] at hr
            injection hr with hr _
            rw [hr]
            rfl
  obtain ⟨o1, a1, e1⟩ : ∃ o1 a1, upto l a 32 = (o1, a1) := ⟨_, _, rfl⟩
  rw [e1] at key
  have key' : o1 = none := key
  subst key'
  rw [recAt_eq e1 rfl rfl]
  rfl
theorem recAt_rows {l : List Nat} {a n b : Nat} {rows : List (List Nat)} (h : recAt l a = some (n, rows, b)) : ∀ r ∈ rows, rowOk r := by
  obtain ⟨o1, a1, e1⟩ : ∃ o1 a1, upto l a 32 = (o1, a1) := ⟨_, _, rfl⟩
  obtain ⟨o2, a2, e2⟩ : ∃ o2 a2, upto l a1 58 = (o2, a2) := ⟨_, _, rfl⟩
  obtain ⟨o3, a3, e3⟩ : ∃ o3 a3, upto l a2 61 = (o3, a3) := ⟨_, _, rfl⟩
  rw [recAt_eq e1 e2 e3] at h
  cases o1 with
  | none => cases h
  | some n =>
  cases o2 with
  | none => cases h
  | some m =>
  cases o3 with
  | none => cases h
  | some k =>
  unfold recFin at h
  dsimp only at h
  split at h
  · split at h
    · rename_i hh
      cases h
      exact hh.1
    · cases h
  · cases h
theorem runL_rows {l : List Nat} : ∀ (f n a : Nat), ∀ rows ∈ (runL l f n a).1, ∀ r ∈ rows, rowOk r
  | 0, _, _, _, h => by cases h
  | f + 1, n, a, rows, h => by
    cases e : recAt l a with
    | none =>
      rw [runL_end _ _ e] at h
      cases h
    | some z =>
      obtain ⟨n', rw', b⟩ := z
      by_cases hn : n' = n
      · subst hn
        rw [runL_hit e] at h
        rcases List.mem_cons.mp h with rfl | h
        · exact recAt_rows e
        · exact runL_rows f _ _ rows h
      · rw [runL_miss e hn] at h
        cases h
theorem parse_rows (l : List Nat) : ∀ rows ∈ (parseL l).2.1, ∀ r ∈ rows, rowOk r := by
  unfold parseL
  cases e : recAt l 0 with
  | none =>
    intro rows h
    cases h
  | some z => exact runL_rows _ _ _
theorem runL_fuel {l : List Nat} : ∀ (f g n a : Nat), a ≤ l.length → l.length + 1 ≤ f + a → l.length + 1 ≤ g + a → runL l f n a = runL l g n a
  | 0, _, _, _, h, h1, _ => by omega
  | _, 0, _, _, h, _, h2 => by omega
  | f + 1, g + 1, n, a, h, h1, h2 => by
    cases e : recAt l a with
    | none => rw [runL_end _ _ e, runL_end _ _ e]
    | some z =>
      obtain ⟨n', rows, b⟩ := z
      have hb := recAt_up h e
      by_cases hn : n' = n
      · subst hn
        rw [runL_hit e, runL_hit e, runL_fuel f g (n' + 1) b hb.2 (by omega) (by omega)]
      · rw [runL_miss e hn, runL_miss e hn]
/-- behind whole records -/
theorem parse_behind {recs : List (List (List Nat))} {n : Nat} {Y : List Nat} (hne : recs ≠ []) (hg : ∀ r ∈ recs, GoodRec r) (hn : n + recs.length ≤ 10 ^ 60) :
    parseL (logL n recs ++ Y) = (some n, recs ++ (runL Y (Y.length + 1) (n + recs.length) 0).1, (logL n recs).length + (runL Y (Y.length + 1) (n + recs.length) 0).2) := by
  have hl := logL_len recs n
  have e := runL_log (l := logL n recs ++ Y) recs n 0 ((logL n recs ++ Y).length + 1 - recs.length) hg hn rfl
  have hl2 : (logL n recs ++ Y).length = (logL n recs).length + Y.length := List.length_append ..
  rw [show (logL n recs ++ Y).length + 1 - recs.length + recs.length = (logL n recs ++ Y).length + 1 by omega, Nat.zero_add] at e
  have e2 := runL_shift (logL n recs) Y ((logL n recs ++ Y).length + 1 - recs.length) (n + recs.length) 0
  rw [Nat.add_zero (logL n recs).length] at e2
  rw [e2] at e
  have e3 := runL_fuel (l := Y) ((logL n recs ++ Y).length + 1 - recs.length) (Y.length + 1) (n + recs.length) 0 (Nat.zero_le _) (by omega) (by omega)
  rw [e3] at e
  cases recs with
  | nil => exact absurd rfl hne
  | cons r rs =>
    have g := hg r (List.mem_cons_self ..)
    have hn' : n + (rs.length + 1) ≤ 10 ^ 60 := hn
    have e1 := recAt_rec (l := logL n (r :: rs) ++ Y) (a := 0) (B := logL (n + 1) rs ++ Y) (by show recL n r ++ logL (n + 1) rs ++ Y = _; rw [List.append_assoc]) (by omega) g.1 g.2.1 g.2.2
    unfold parseL
    rw [e1]
    dsimp only
    rw [e]
theorem runL_len {l : List Nat} : ∀ (f n a : Nat), a ≤ l.length → (runL l f n a).1.length + a ≤ l.length
  | 0, _, _, h => by
    show 0 + _ ≤ _
    omega
  | f + 1, n, a, h => by
    cases e : recAt l a with
    | none =>
      rw [runL_end _ _ e]
      show 0 + a ≤ _
      omega
    | some z =>
      obtain ⟨n', rows, b⟩ := z
      have hb := recAt_up h e
      by_cases hn : n' = n
      · subst hn
        rw [runL_hit e]
        have ih := runL_len f (n' + 1) b hb.2
        show (_ :: _).length + a ≤ _
        rw [List.length_cons]
        omega
      · rw [runL_miss e hn]
        show 0 + a ≤ _
        omega
theorem parse_len (l : List Nat) : (parseL l).2.1.length ≤ l.length := by
  unfold parseL
  cases e : recAt l 0 with
  | none => exact Nat.zero_le _
  | some z =>
    have h := runL_len (l := l) (l.length + 1) z.1 0 (Nat.zero_le _)
    exact h
theorem run_bad {Y : List Nat} (n : Nat) (h : recAt Y 0 = none) : runL Y (Y.length + 1) n 0 = ([], 0) := runL_end _ _ h
theorem run_told {Y : List Nat} (n : Nat) : (runL Y (Y.length + 1) n 0) = if (parseL Y).1 = some n then ((parseL Y).2.1, (parseL Y).2.2) else ([], 0) := by
  unfold parseL
  cases e : recAt Y 0 with
  | none =>
    rw [runL_end _ _ e]
    rfl
  | some z =>
    obtain ⟨n', rows, b⟩ := z
    dsimp only
    by_cases hn : n' = n
    · subst hn
      rw [if_pos rfl]
    · rw [runL_miss e hn, if_neg (fun h => hn (Option.some.inj h))]
theorem parse_bad {Y : List Nat} (h : recAt Y 0 = none) : parseL Y = (none, [], 0) := by
  unfold parseL
  rw [h]
/-- a log begins by a figure -/
theorem log_head (n : Nat) (recs : List (List (List Nat))) (k : Nat) : ((logL n recs).take k).head? ≠ some 32 := by
  cases recs with
  | nil =>
    show (([] : List Nat).take k).head? ≠ _
    rw [List.take_nil]
    simp
  | cons r rs =>
    cases k with
    | zero =>
      rw [List.take_zero]
      simp
    | succ k =>
      cases e : numL n with
      | nil => exact absurd e (TL.numL_ne n)
      | cons d t =>
        have hd := num_ok' n d (by rw [e]; exact List.mem_cons_self ..)
        have : logL n (r :: rs) = d :: (t ++ ([32] ++ numL (joinL [10] r).length ++ [58] ++ numL (chkL (headL n (joinL [10] r).length (joinL [10] r))) ++ [61] ++ joinL [10] r ++ [10] ++ logL (n + 1) rs)) := by
          show recL n r ++ logL (n + 1) rs = _
          unfold recL
          rw [e]
          simp
        rw [this, List.take_succ_cons]
        intro h
        have : d = 32 := Option.some.inj h
        unfold Dig at hd
        omega
end Lr
namespace Lr
open PySem PySem.Spec PyProof.Rows L2 Lf
/-! ### another sign, another check -/
theorem chk_back {s1 s2 x : Nat} (h1 : s1 < 1000003) (h2 : s2 < 1000003) (h : (33 * s1 + x) % 1000003 = (33 * s2 + x) % 1000003) : s1 = s2 := by omega
theorem chk_fold : ∀ (v : List Nat) {s1 s2 : Nat}, s1 < 1000003 → s2 < 1000003 → s1 ≠ s2 → v.foldl (fun c x => (33 * c + x) % 1000003) s1 ≠ v.foldl (fun c x => (33 * c + x) % 1000003) s2
  | [], _, _, _, _, h => h
  | x :: v, s1, s2, h1, h2, h => chk_fold v (Nat.mod_lt _ (by decide)) (Nat.mod_lt _ (by decide)) fun e => h (chk_back h1 h2 e)
theorem chk_other (u v : List Nat) {c d : Nat} (hc : c < 1000 ) (hd : d < 1000) (h : c ≠ d) : chkL (u ++ c :: v) ≠ chkL (u ++ d :: v) := by
  unfold chkL
  rw [List.foldl_append, List.foldl_append, List.foldl_cons, List.foldl_cons]
  refine chk_fold v (Nat.mod_lt _ (by decide)) (Nat.mod_lt _ (by decide)) ?_
  generalize List.foldl (fun c x => (33 * c + x) % 1000003) 7 u = s
  omega
/-! ### what is read stays so with more behind -/
theorem ix_app {c : Nat} {k : Nat} : ∀ {p r : List Nat}, ix c p = some k → ix c (p ++ r) = some k := fun {p} => by
  induction p generalizing k with
  | nil => intro r h; cases h
  | cons d p ih =>
    intro r h
    rw [List.cons_append]
    unfold ix at h ⊢
    by_cases e : d = c
    · rw [if_pos e] at h ⊢
      exact h
    · rw [if_neg e] at h ⊢
      cases h2 : ix c p with
      | none => rw [h2] at h; cases h
      | some j =>
        rw [h2] at h
        rw [ih h2]
        exact h
theorem upto_ext {X Y : List Nat} {a c n b : Nat} (h : upto X a c = (some n, b)) : upto (X ++ Y) a c = (some n, b) := by
  unfold upto at h ⊢
  cases e : ix c ((X.drop a).take 61) with
  | none => rw [e] at h; cases h
  | some k =>
    rw [e] at h
    obtain ⟨hk, _⟩ := ix_some e
    have hk2 : k < X.length - a := by
      rw [List.length_take, List.length_drop] at hk
      omega
    have e1 : (X ++ Y).drop a = X.drop a ++ Y := List.drop_append_of_le_length (by omega)
    have e2 : ((X ++ Y).drop a).take 61 = (X.drop a).take 61 ++ Y.take (61 - (X.drop a).length) := by rw [e1, List.take_append]
    rw [e2, ix_app e]
    dsimp only at h ⊢
    have e3 : ((X ++ Y).drop a).take k = (X.drop a).take k := by
      rw [e1]
      exact List.take_append_of_le_length (by rw [List.length_drop]; omega)
    rw [e3]
    exact h
theorem recAt_ext {X Y : List Nat} {a n b : Nat} {rows : List (List Nat)} (h : recAt X a = some (n, rows, b)) : recAt (X ++ Y) a = some (n, rows, b) := by
  obtain ⟨o1, a1, e1⟩ : ∃ o1 a1, upto X a 32 = (o1, a1) := ⟨_, _, rfl⟩
  obtain ⟨o2, a2, e2⟩ : ∃ o2 a2, upto X a1 58 = (o2, a2) := ⟨_, _, rfl⟩
  obtain ⟨o3, a3, e3⟩ : ∃ o3 a3, upto X a2 61 = (o3, a3) := ⟨_, _, rfl⟩
  rw [recAt_eq e1 e2 e3] at h
  cases o1 with
  | none => cases h
  | some n1 =>
  cases o2 with
  | none => cases h
  | some m =>
  cases o3 with
  | none => cases h
  | some k =>
  rw [recAt_eq (upto_ext e1) (upto_ext e2) (upto_ext e3)]
  unfold recFin at h ⊢
  dsimp only at h ⊢
  by_cases c1 : (X.drop (a3 + m)).take 1 = [10]
  · have hl : a3 + m < X.length := by
      refine Nat.lt_of_not_le fun hge => ?_
      rw [List.drop_of_length_le hge] at c1
      cases c1
    have d1 : ((X ++ Y).drop (a3 + m)).take 1 = [10] := by
      rw [List.drop_append_of_le_length (by omega), List.take_append_of_le_length (by rw [List.length_drop]; omega)]
      exact c1
    have d2 : ((X ++ Y).drop a3).take m = (X.drop a3).take m := by
      rw [List.drop_append_of_le_length (by omega), List.take_append_of_le_length (by rw [List.length_drop]; omega)]
    rw [if_pos c1] at h
    rw [if_pos d1, d2]
    exact h
  · rw [if_neg c1] at h
    cases h
theorem recAt_cut {n c : Nat} {rows : List (List Nat)} (hn : n < 10 ^ 60) (g : GoodRec rows) (hc : c < (recL n rows).length) : recAt ((recL n rows).take c) 0 = none := by
  cases e : recAt ((recL n rows).take c) 0 with
  | none => rfl
  | some z =>
    obtain ⟨n', rows', b⟩ := z
    have h := recAt_ext (Y := (recL n rows).drop c) e
    rw [List.take_append_drop] at h
    have h2 := recAt_rec (l := recL n rows) (B := []) (a := 0) (by simp) hn g.1 g.2.1 g.2.2
    rw [h] at h2
    have h3 := recAt_up (Nat.zero_le _) e
    have h4 : b = 0 + (recL n rows).length := by
      injection h2 with h2
      injection h2 with _ h2
      injection h2
    rw [List.length_take] at h3
    omega
/-! ### a log cut -/
def endsL : Nat → Nat → List (List (List Nat)) → List Nat
  | _, _, [] => []
  | b, n, r :: rs => (b + (recL n r).length) :: endsL (b + (recL n r).length) (n + 1) rs
theorem endsL_ge : ∀ (recs : List (List (List Nat))) (b n : Nat), ∀ e ∈ endsL b n recs, b ≤ e
  | [], _, _, e, h => by cases h
  | r :: rs, b, n, e, h => by
    rcases List.mem_cons.mp h with rfl | h
    · omega
    · have := endsL_ge rs _ _ e h
      omega
theorem endsL_len : ∀ (recs : List (List (List Nat))) (b n : Nat), (endsL b n recs).length = recs.length
  | [], _, _ => rfl
  | r :: rs, b, n => congrArg (· + 1) (endsL_len rs _ _)
theorem endsL_get : ∀ (recs : List (List (List Nat))) (b n i : Nat), i < recs.length → (endsL b n recs)[i]? = some (b + (logL n (recs.take (i + 1))).length)
  | [], _, _, _, h => by cases h
  | r :: rs, b, n, 0, _ => by
    show some (b + (recL n r).length) = some (b + (recL n r ++ []).length)
    rw [List.append_nil]
  | r :: rs, b, n, i + 1, h => by
    have ih := endsL_get rs (b + (recL n r).length) (n + 1) i (Nat.lt_of_succ_lt_succ h)
    show (endsL (b + (recL n r).length) (n + 1) rs)[i]? = _
    rw [ih]
    show _ = some (b + (recL n r ++ logL (n + 1) (rs.take (i + 1))).length)
    rw [List.length_append, Nat.add_assoc]
theorem endsL_snoc : ∀ (recs : List (List (List Nat))) (b n : Nat) (r : List (List Nat)), endsL b n (recs ++ [r]) = endsL b n recs ++ [b + (logL n (recs ++ [r])).length]
  | [], b, n, r => by
    show [b + (recL n r).length] = [] ++ [b + (recL n r ++ []).length]
    simp
  | x :: xs, b, n, r => by
    show (b + (recL n x).length) :: endsL (b + (recL n x).length) (n + 1) (xs ++ [r]) = (b + (recL n x).length) :: (endsL (b + (recL n x).length) (n + 1) xs ++ [b + (recL n x ++ logL (n + 1) (xs ++ [r])).length])
    rw [endsL_snoc xs, List.length_append, Nat.add_assoc]
def cntE (b n : Nat) (recs : List (List (List Nat))) (c : Nat) : Nat := ((endsL b n recs).filter fun e => decide (e ≤ c)).length
theorem cut_main : ∀ (recs : List (List (List Nat))) (n b c : Nat), (∀ r ∈ recs, GoodRec r) → n + recs.length ≤ 10 ^ 60 →
    cntE b n recs (b + c) ≤ recs.length ∧ ∃ P, (logL n recs).take c = logL n (recs.take (cntE b n recs (b + c))) ++ P ∧ recAt P 0 = none
  | [], n, b, c, _, _ => ⟨Nat.le_refl _, [], by show ([] : List Nat).take c = _; rw [List.take_nil]; rfl, recAt_nil rfl⟩
  | r :: rs, n, b, c, hg, hn => by
    have hn' : n + (rs.length + 1) ≤ 10 ^ 60 := hn
    have g := hg r (List.mem_cons_self ..)
    by_cases hc : (recL n r).length ≤ c
    · obtain ⟨c', rfl⟩ : ∃ c', c = (recL n r).length + c' := ⟨c - (recL n r).length, by omega⟩
      obtain ⟨hk, P, e1, e2⟩ := cut_main rs (n + 1) (b + (recL n r).length) c' (fun z hz => hg z (List.mem_cons_of_mem _ hz)) (by omega)
      have ek : cntE b n (r :: rs) (b + ((recL n r).length + c')) = cntE (b + (recL n r).length) (n + 1) rs (b + (recL n r).length + c') + 1 := by
        unfold cntE
        rw [show endsL b n (r :: rs) = (b + (recL n r).length) :: endsL (b + (recL n r).length) (n + 1) rs from rfl, List.filter_cons_of_pos (by simp), List.length_cons, Nat.add_assoc b]
      rw [ek]
      refine ⟨by rw [List.length_cons]; omega, P, ?_, e2⟩
      show (recL n r ++ logL (n + 1) rs).take _ = recL n r ++ logL (n + 1) (rs.take _) ++ P
      rw [List.take_append, List.take_of_length_le (by omega), Nat.add_sub_cancel_left, e1, List.append_assoc]
    · have ek : cntE b n (r :: rs) (b + c) = 0 := by
        unfold cntE
        rw [List.length_eq_zero_iff, List.filter_eq_nil_iff]
        intro e he
        rcases List.mem_cons.mp he with rfl | he
        · simp
          omega
        · have := endsL_ge rs _ _ e he
          simp
          omega
      rw [ek]
      refine ⟨Nat.zero_le _, (recL n r).take c, ?_, recAt_cut (by omega) g (by omega)⟩
      show (recL n r ++ logL (n + 1) rs).take c = [] ++ _
      rw [List.take_append_of_le_length (by omega)]
      rfl
theorem parse_cut {recs : List (List (List Nat))} {n c : Nat} (hg : ∀ r ∈ recs, GoodRec r) (hn : n + recs.length ≤ 10 ^ 60) :
    parseL ((logL n recs).take c) = if cntE 0 n recs c = 0 then (none, [], 0) else (some n, recs.take (cntE 0 n recs c), (logL n (recs.take (cntE 0 n recs c))).length) := by
  obtain ⟨hk, P, e1, e2⟩ := cut_main recs n 0 c hg hn
  rw [Nat.zero_add] at hk e1
  rw [e1]
  split
  · rename_i h0
    rw [h0]
    exact parse_bad e2
  · rename_i h0
    have hne : recs.take (cntE 0 n recs c) ≠ [] := fun z => by
      have := congrArg List.length z
      rw [List.length_take, List.length_nil] at this
      omega
    rw [parse_behind hne (fun r hr => hg r (List.mem_of_mem_take hr)) (by rw [List.length_take]; omega), run_bad _ e2, List.append_nil, Nat.add_zero]
/-! ### a sign exchanged -/
def preL (n m k : Nat) : List Nat := numL n ++ [32] ++ numL m ++ [58] ++ numL k ++ [61]
theorem preL_ix (n m k : Nat) (R : List Nat) : ix 61 (preL n m k ++ R) = some ((preL n m k).length - 1) := by
  have e : preL n m k ++ R = (numL n ++ [32] ++ numL m ++ [58] ++ numL k) ++ 61 :: R := by
    unfold preL
    simp
  have hl : (preL n m k).length - 1 = (numL n ++ [32] ++ numL m ++ [58] ++ numL k).length := by
    unfold preL
    rw [List.length_append]
    exact Nat.add_sub_cancel ..
  rw [e, hl, ix_at]
  intro h
  have d : ∀ z, 61 ∈ numL z → False := fun z hz => by
    have := num_ok' z 61 hz
    unfold Dig at this
    omega
  simp only [List.mem_append, List.mem_singleton] at h
  rcases h with ((((h | h) | h) | h) | h)
  · exact d _ h
  · omega
  · exact d _ h
  · omega
  · exact d _ h
theorem recL_pre (n : Nat) (rows : List (List Nat)) : recL n rows = preL n (joinL [10] rows).length (chkL (headL n (joinL [10] rows).length (joinL [10] rows))) ++ (joinL [10] rows ++ [10]) := by
  unfold recL preL
  simp
theorem recAt_spoilt {n k : Nat} {body' B : List Nat} (hn : n < 10 ^ 60) (hb : body'.length < 10 ^ 60) (hk : k < 10 ^ 60) (hne : k ≠ chkL (headL n body'.length body')) :
    recAt (preL n body'.length k ++ (body' ++ [10] ++ B)) 0 = none := by
  have d0 : (preL n body'.length k ++ (body' ++ [10] ++ B)).drop 0 = numL n ++ 32 :: (numL body'.length ++ 58 :: (numL k ++ 61 :: (body' ++ 10 :: B))) := by
    unfold preL
    simp
  generalize (preL n body'.length k ++ (body' ++ [10] ++ B)) = l at d0
  have e1 := upto_hit d0 hn (by decide)
  have d1 := drop_hit d0
  have e2 := upto_hit d1 hb (by decide)
  have d2 := drop_hit d1
  have e3 := upto_hit d2 hk (by decide)
  have d3 := drop_hit d2
  rw [recAt_eq e1 e2 e3]
  generalize 0 + (numL n).length + 1 + (numL body'.length).length + 1 + (numL k).length + 1 = b3 at *
  have t2 : (l.drop b3).take body'.length = body' := by
    rw [d3]
    exact List.take_left
  unfold recFin
  dsimp only
  split
  · rw [t2, if_neg (fun h => hne h.2)]
  · rfl
/-- one sign of a record's rows is another one -/
theorem parse_spoilt {recs : List (List (List Nat))} {n i j d : Nat} {r : List (List Nat)} {B : List Nat} (hg : ∀ r ∈ recs, GoodRec r) (hn : n + recs.length ≤ 10 ^ 60) (hi : recs[i]? = some r) (hj : j < (joinL [10] r).length)
    (hd : d < 1000) (hc : (joinL [10] r)[j]? ≠ some d) (hc2 : ∀ c ∈ joinL [10] r, c < 1000) :
    parseL (logL n (recs.take i) ++ (preL (n + i) (joinL [10] r).length (chkL (headL (n + i) (joinL [10] r).length (joinL [10] r))) ++ ((joinL [10] r).set j d ++ [10] ++ B))) =
      if i = 0 then (none, [], 0) else (some n, recs.take i, (logL n (recs.take i)).length) := by
  have hi' : i < recs.length := (List.getElem?_eq_some_iff.mp hi).1
  have g := hg r (List.mem_of_getElem? hi)
  have bad : recAt (preL (n + i) (joinL [10] r).length (chkL (headL (n + i) (joinL [10] r).length (joinL [10] r))) ++ ((joinL [10] r).set j d ++ [10] ++ B)) 0 = none := by
    have el : ((joinL [10] r).set j d).length = (joinL [10] r).length := List.length_set ..
    have h := recAt_spoilt (n := n + i) (k := chkL (headL (n + i) (joinL [10] r).length (joinL [10] r))) (body' := (joinL [10] r).set j d) (B := B) (by omega) (by rw [el]; exact g.2.2) (Nat.lt_trans (chk_lt _) (by decide)) ?_
    · rw [el] at h
      exact h
    · rw [el]
      have es : joinL [10] r = (joinL [10] r).take j ++ (joinL [10] r)[j] :: (joinL [10] r).drop (j + 1) := by
        rw [List.getElem_cons_drop, List.take_append_drop]
      have es2 : (joinL [10] r).set j d = (joinL [10] r).take j ++ d :: (joinL [10] r).drop (j + 1) := by
        rw [List.set_eq_take_append_cons_drop, if_pos hj]
      have hne : (joinL [10] r)[j] ≠ d := fun z => hc (by rw [List.getElem?_eq_getElem hj, z])
      have hlt : (joinL [10] r)[j] < 1000 := hc2 _ (List.getElem_mem hj)
      unfold headL
      rw [es2]
      have h := chk_other (numL (n + i) ++ [32] ++ numL (joinL [10] r).length ++ [58] ++ (joinL [10] r).take j) ((joinL [10] r).drop (j + 1)) hlt hd hne
      rw [List.append_assoc, List.append_assoc (bs := (joinL [10] r).take j), ← es] at h
      exact h
  split
  · rename_i h0
    subst h0
    exact parse_bad bad
  · have hne : recs.take i ≠ [] := fun z => by
      have := congrArg List.length z
      rw [List.length_take, List.length_nil] at this
      omega
    rw [parse_behind hne (fun r hr => hg r (List.mem_of_mem_take hr)) (by rw [List.length_take]; omega), run_bad _ bad, List.append_nil, Nat.add_zero]
end Lr
namespace Lr
open PySem PySem.Spec PyProof.Rows L2 Lf
/-- an own method: its promise, where it stands, how it is called -/
def MCal (P : Program) (w : World) (K : PySem.W.Frag) (mg : Str → Option Value) (base : Heap) (k : Nat) (C : Addr) (m : Str) (ps : List Str) (sp : Sp) : Prop :=
  ∃ (f : Addr) (fd : FuncData), FnOk P w K mg base CX0 k f fd ps sp ∧ Meth K C m f ∧ Binds K fd ps []
/-- an own class: its __init__; ds: the defaults that fill up -/
def KCal (P : Program) (w : World) (K : PySem.W.Frag) (mg : Str → Option Value) (base : Heap) (k : Nat) (C : Addr) (ps : List Str) (dvs : List V) (sp : Sp) : Prop :=
  ∃ (f : Addr) (fd : FuncData) (ds : List Value), FnOk P w K mg base CX0 k f fd ps sp ∧ Mk K C f ∧ Binds K fd ps ds ∧ Vals dvs ds
section
variable {X : Cx} {k : Nat} {C : Addr} {m x : Str} {ps : List Str} {sp : Sp} {o e : Expr} {es : List Expr} {ta : TE} {t : TA} {p apos pos : Pos} {dvs : List V}
theorem pm_own {pl : Sem Bool} (M : MCal X.prog X.w X.K X.mg X.base k C m ps sp) (c : Cls X.K C) (hr : Room k X.A) (he : PE X o ta) (ha : PA X (e :: es) t)
    (hst : starEach (e :: es) X.env = (false, eval e X.env) :: starEach es X.env := by rfl) (hpl : (backTo pos (starEach es X.env)).any (·.1) = false := by rfl)
    (ht : eval (.Call (.Attribute o m apos) (e :: es) [] pos) X.env = (do
      let ov ← eval o X.env
      standAt apos.atName
      let (f, first) ← holding [ov] (getMethod ov m pl)
      callWith pos f first (backTo pos (starEach (e :: es) X.env)) (backToKw pos (keywordEach [] X.env))) := by rfl) :
    PE X (.Call (.Attribute o m apos) (e :: es) [] pos) (tMeth C m sp [] E0 ta t) := by
  obtain ⟨f, fd, F, hm, hb⟩ := M
  exact pe_meth he c hm F hr hb .nil pass0 ha hst hpl ht
theorem pm_own0 {pl : Sem Bool} (M : MCal X.prog X.w X.K X.mg X.base k C m ps sp) (c : Cls X.K C) (hr : Room k X.A) (he : PE X o ta)
    (ht : eval (.Call (.Attribute o m apos) [] [] pos) X.env = (do
      let ov ← eval o X.env
      standAt apos.atName
      let (f, first) ← holding [ov] (getMethod ov m pl)
      callWith pos f first (backTo pos (starEach [] X.env)) (backToKw pos (keywordEach [] X.env))) := by rfl) :
    PE X (.Call (.Attribute o m apos) [] [] pos) (tMeth C m sp [] E0 ta tNil) := by
  obtain ⟨f, fd, F, hm, hb⟩ := M
  exact pe_meth0 he c hm F hr hb .nil pass0 ht
theorem pk_own (M : KCal X.prog X.w X.K X.mg X.base k C ps dvs sp) (hr : Room (k + 1) X.A) (hg : Gl X x) (hm : X.mg x = some (.ref C)) (ha : PA X (e :: es) t)
    (hdb : (x == ("__debug__" : Str)) = false := by decide) (he : starEach (e :: es) X.env = (false, eval e X.env) :: starEach es X.env := by rfl) (hpl : (backTo pos (starEach es X.env)).any (·.1) = false := by rfl) :
    PE X (.Call (.Name x p) (e :: es) [] pos) (tMake C sp dvs E0 t) := by
  obtain ⟨f, fd, ds, F, M, hb, hd⟩ := M
  exact pe_make M F hr hg hm hb hd pass0 ha hdb he hpl
theorem pk_own0 (M : KCal X.prog X.w X.K X.mg X.base k C ps dvs sp) (hr : Room (k + 1) X.A) (hg : Gl X x) (hm : X.mg x = some (.ref C))
    (hdb : (x == ("__debug__" : Str)) = false := by decide) : PE X (.Call (.Name x p) [] [] pos) (tMake C sp dvs E0 tNil) := by
  obtain ⟨f, fd, ds, F, M, hb, hd⟩ := M
  exact pe_make0 M F hr hg hm hb hd pass0 hdb
/-- o.f as a target -/
def gFld (K : PySem.W.Frag) (ta : TE) (f : Str) : TG := fun y σ H Q => ta σ H fun x H2 => ∃ a C dx fs, x = .ref a ∧ H2 a = some (.ins C dx fs) ∧ Cls K C ∧ NoAttr K C f ∧ fs.length < 1000 ∧ Q σ (upd H2 a (.ins C dx (putF f y fs)))
theorem pg_fld {f : Str} (ho : PE X o ta) (hA : ∀ v, assign (.Attribute o f apos) X.env v = (do
      let ov ← holding [v] (eval o X.env)
      standAt apos.atName
      holding [v, ov] (setAttr ov f v)
      release [v, ov] []) := by intro _; rfl) : PG X (.Attribute o f apos) (gFld X.K ta f) := by
  refine ⟨fun pins s σ H v u Q I r h => ?_⟩
  rw [hA]
  refine wpAny_bind (wpAny_holding (thn (ho.run pins s σ H _ I h) fun ov s1 ⟨x, H1, I1, r1, a, C, dx, fs, ex, ea, c, n, l, q⟩ => ?_))
  subst ex
  obtain rfl : ov = Value.ref a := r1
  refine wpAny_bind (wpAny_standAt (wpAny_bind (wpAny_holding (setattr_ok I1 ea c n l r fun s3 I3 => ?_))))
  exact wpAny_release ⟨σ, _, I3, q⟩
end
/-! ### a disk -/
abbrev sDisk : Stmt := topS 17
abbrev sBook : Stmt := topS 15
def dfl (hand pic log fall : V) (n : Int) : List (Str × V) := [("_hand", hand), ("_picture", pic), ("_log", log), ("_fall", fall), ("_holder", .int n)]
section
variable {hand pic log fall y : V} {n : Int}
theorem dfl_hand : (dfl hand pic log fall n).lookup ("_hand" : Str) = some hand := by rfl
theorem dfl_pic : (dfl hand pic log fall n).lookup ("_picture" : Str) = some pic := by rfl
theorem dfl_log : (dfl hand pic log fall n).lookup ("_log" : Str) = some log := by rfl
theorem dfl_fall : (dfl hand pic log fall n).lookup ("_fall" : Str) = some fall := by rfl
theorem dfl_holder : (dfl hand pic log fall n).lookup ("_holder" : Str) = some (.int n) := by rfl
theorem put_hand : putF "_hand" y (dfl hand pic log fall n) = dfl y pic log fall n := by rfl
theorem put_pic : putF "_picture" y (dfl hand pic log fall n) = dfl hand y log fall n := by rfl
theorem put_log : putF "_log" y (dfl hand pic log fall n) = dfl hand pic y fall n := by rfl
theorem put_fall : putF "_fall" y (dfl hand pic log fall n) = dfl hand pic log y n := by rfl
theorem put_holder {i : Int} : putF "_holder" (.int i) (dfl hand pic log fall n) = dfl hand pic log fall i := by rfl
end
end Lr
namespace Lr
open PySem PySem.Spec PyProof.Rows L2 Lf
structure Tk (K : PySem.W.Frag) (mg : Str → Option Value) (CD CB : Addr) : Prop extends Bs mg where
  cDisk : Cls K CD
  cBook : Cls K CB
  mDisk : mg "Disk" = some (.ref CD)
  mBook : mg "Book" = some (.ref CB)
  dHand : NoAttr K CD "_hand"
  dPic : NoAttr K CD "_picture"
  dLog : NoAttr K CD "_log"
  dFall : NoAttr K CD "_fall"
  dHold : NoAttr K CD "_holder"
  bNum : NoAttr K CB "_number"
  bDisk : NoAttr K CB "_disk"
  bWrit : NoAttr K CB "_written"
  bRows : NoAttr K CB "_rows"
/-- a disk -/
def DskAt (CD : Addr) (H : Hp) (p : Addr) (hand pic log fall : V) (n : Int) : Prop := ∃ dx, H p = some (.ins CD dx (dfl hand pic log fall n))
section
variable {P : Program} {w : World} {K : PySem.W.Frag} {mg : Str → Option Value} {base : Heap} {CD CB : Addr}
def spDInit (CD : Addr) : Sp := fun vs H Q _ => ∃ (p dx : Addr) (hand pic log : V), vs = [.ref p, hand, pic, log] ∧ H p = some (.ins CD dx []) ∧ ∀ H', Kp p H H' → DskAt CD H' p hand pic log .non 0 → Q .non H'
abbrev sDInit : Stmt := inClass sDisk 0
theorem scDInit : FnScope ["self", "hand", "picture", "log"] ["self", "hand", "picture", "log"] (defScope sDInit) := ⟨rfl, rfl, rfl, by decide +kernel, rfl, by decide +kernel, by decide +kernel⟩
theorem ok_dinit {f : Addr} {fd : FuncData} {kws : List (Str × V)} (F : FunD K "__init__" "Disk.__init__" (defArgs sDInit) (defBody sDInit) (defScope sDInit) [] kws f fd) (T : Tk K mg CD CB) : FnOk P w K mg base CX0 1 f fd ["self", "hand", "picture", "log"] (spDInit CD) := by
  refine F.ok scDInit (fun vs H Q E h => ?_) (fun cdv A outer s H vs Q E hr h => ?_)
  · obtain ⟨p, dx, hand, pic, log, rfl, _⟩ := h
    rfl
  · obtain ⟨p, dx, hand, pic, log, rfl, hp, q⟩ := h
    have nd := scDInit.nd
    refine ⟨_, (pss_cons (ps_fld (pv 0) (pv 1) rfl)
  (pss_cons (ps_fld (pv 0) (pv 2) rfl)
  (pss_cons (ps_fld (pv 0) (pv 3) rfl)
  (pss_cons (ps_fld (pv 0) pe_non rfl)
  (pss_one (ps_fld (pv 0) pe_int rfl)))))), ?_⟩
    refine ⟨_, rfl, _, rfl, p, CD, dx, _, rfl, hp, T.cDisk, T.dHand, (by show 0 < 1000; decide), ?_⟩
    refine ⟨_, rfl, _, rfl, p, CD, dx, _, rfl, upd_same, T.cDisk, T.dPic, (by show 1 < 1000; decide), ?_⟩
    refine ⟨_, rfl, _, rfl, p, CD, dx, _, rfl, upd_same, T.cDisk, T.dLog, (by show 2 < 1000; decide), ?_⟩
    refine ⟨_, rfl, p, CD, dx, _, rfl, upd_same, T.cDisk, T.dFall, (by show 3 < 1000; decide), ?_⟩
    refine ⟨_, rfl, p, CD, dx, _, rfl, upd_same, T.cDisk, T.dHold, (by show 4 < 1000; decide), ?_⟩
    exact q _ (((((Kp.refl p H).mut).mut).mut).mut).mut ⟨dx, upd_same⟩
def spSdpicture (CD : Addr) : Sp := fun vs H Q _ => ∃ (p : Addr) (hand pic log fall : V) (n : Int), vs = [.ref p] ∧ DskAt CD H p hand pic log fall n ∧ Q pic H
abbrev sSdpicture : Stmt := inClass sDisk 2
theorem scSdpicture : FnScope ["self"] ["self"] (defScope sSdpicture) := ⟨rfl, rfl, rfl, by decide +kernel, rfl, by decide +kernel, by decide +kernel⟩
theorem ok_Sdpicture {f : Addr} {fd : FuncData} (F : Fun K "picture" "Disk.picture" sSdpicture f fd) (T : Tk K mg CD CB) : FnOk P w K mg base CX0 1 f fd ["self"] (spSdpicture CD) := by
  refine F.ok scSdpicture (fun vs H Q E h => ?_) (fun cdv A outer s H vs Q E hr h => ?_)
  · obtain ⟨p, hand, pic, log, fall, n, rfl, _⟩ := h
    rfl
  · obtain ⟨p, hand, pic, log, fall, n, rfl, ⟨dx, hp⟩, q⟩ := h
    have nd := scSdpicture.nd
    refine ⟨_, (pss_one (ps_ret (pe_fld (pv 0) rfl))), ?_⟩
    exact ⟨_, rfl, p, CD, dx, _, _, rfl, hp, T.cDisk, T.dPic, dfl_pic, q⟩
def spSdlog (CD : Addr) : Sp := fun vs H Q _ => ∃ (p : Addr) (hand pic log fall : V) (n : Int), vs = [.ref p] ∧ DskAt CD H p hand pic log fall n ∧ Q log H
abbrev sSdlog : Stmt := inClass sDisk 3
theorem scSdlog : FnScope ["self"] ["self"] (defScope sSdlog) := ⟨rfl, rfl, rfl, by decide +kernel, rfl, by decide +kernel, by decide +kernel⟩
theorem ok_Sdlog {f : Addr} {fd : FuncData} (F : Fun K "log" "Disk.log" sSdlog f fd) (T : Tk K mg CD CB) : FnOk P w K mg base CX0 1 f fd ["self"] (spSdlog CD) := by
  refine F.ok scSdlog (fun vs H Q E h => ?_) (fun cdv A outer s H vs Q E hr h => ?_)
  · obtain ⟨p, hand, pic, log, fall, n, rfl, _⟩ := h
    rfl
  · obtain ⟨p, hand, pic, log, fall, n, rfl, ⟨dx, hp⟩, q⟩ := h
    have nd := scSdlog.nd
    refine ⟨_, (pss_one (ps_ret (pe_fld (pv 0) rfl))), ?_⟩
    exact ⟨_, rfl, p, CD, dx, _, _, rfl, hp, T.cDisk, T.dLog, dfl_log, q⟩
def spSdholder (CD : Addr) : Sp := fun vs H Q _ => ∃ (p : Addr) (hand pic log fall : V) (n : Int), vs = [.ref p] ∧ DskAt CD H p hand pic log fall n ∧ Q (.int n) H
abbrev sSdholder : Stmt := inClass sDisk 6
theorem scSdholder : FnScope ["self"] ["self"] (defScope sSdholder) := ⟨rfl, rfl, rfl, by decide +kernel, rfl, by decide +kernel, by decide +kernel⟩
theorem ok_Sdholder {f : Addr} {fd : FuncData} (F : Fun K "holder" "Disk.holder" sSdholder f fd) (T : Tk K mg CD CB) : FnOk P w K mg base CX0 1 f fd ["self"] (spSdholder CD) := by
  refine F.ok scSdholder (fun vs H Q E h => ?_) (fun cdv A outer s H vs Q E hr h => ?_)
  · obtain ⟨p, hand, pic, log, fall, n, rfl, _⟩ := h
    rfl
  · obtain ⟨p, hand, pic, log, fall, n, rfl, ⟨dx, hp⟩, q⟩ := h
    have nd := scSdholder.nd
    refine ⟨_, (pss_one (ps_ret (pe_fld (pv 0) rfl))), ?_⟩
    exact ⟨_, rfl, p, CD, dx, _, _, rfl, hp, T.cDisk, T.dHold, dfl_holder, q⟩
def spHold (CD : Addr) : Sp := fun vs H Q _ => ∃ (p : Addr) (hand pic log fall : V) (n : Int) (x : Str), vs = [.ref p, .str x] ∧ DskAt CD H p hand pic log fall n ∧ (hand = .non ∨ hand = .str x) ∧
  ∀ H', Kp p H H' → DskAt CD H' p (.str x) pic log fall (n + 1) → Q (.int (n + 1)) H'
abbrev sHold : Stmt := inClass sDisk 5
theorem scHold : FnScope ["self", "hand"] ["self", "hand"] (defScope sHold) := ⟨rfl, rfl, rfl, by decide +kernel, rfl, by decide +kernel, by decide +kernel⟩
theorem ok_hold {f : Addr} {fd : FuncData} (F : Fun K "hold" "Disk.hold" sHold f fd) (T : Tk K mg CD CB) : FnOk P w K mg base CX0 1 f fd ["self", "hand"] (spHold CD) := by
  refine F.ok scHold (fun vs H Q E h => ?_) (fun cdv A outer s H vs Q E hr h => ?_)
  · obtain ⟨p, hand, pic, log, fall, n, x, rfl, _⟩ := h
    rfl
  · obtain ⟨p, hand, pic, log, fall, n, x, rfl, ⟨dx, hp⟩, hh, q⟩ := h
    have nd := scHold.nd
    refine ⟨_, (Evl.pss_cut (ps_if (PW.pt (pw_and (pt_cmpR op_notN (pe_fld (pv 0) rfl) pe_non (nomark _)) (pw_and1 (pt_cmpR op_ne (pe_fld (pv 0) rfl) (pv 1) (nomark _)))))
  (pss_one ps_never)
  pss_nil)
  (pss_cons (ps_fld (pv 0) (pv 1) rfl)
  (pss_cons (ps_fldaug (pv 0) pe_int in_add)
  (pss_one (ps_ret (pe_fld (pv 0) rfl)))))), ?_⟩
    refine ⟨fun σ' H' => H' = H ∧ σ' = [some (.ref p), some (.str x)], ?_, fun σ' H' hm => ?_⟩
    · refine ⟨_, rfl, p, CD, dx, _, _, rfl, hp, T.cDisk, T.dHand, dfl_hand, ?_⟩
      rcases hh with rfl | rfl
      · exact ⟨rfl, _, rfl, iteF (iteF ⟨rfl, rfl⟩)⟩
      · refine ⟨rfl, _, rfl, iteT ⟨_, rfl, p, CD, dx, _, _, rfl, hp, T.cDisk, T.dHand, dfl_hand, _, rfl, rfl, _, rfl, ?_⟩⟩
        rw [decide_eq_true (rfl : V.str x = V.str x)]
        exact iteF ⟨rfl, rfl⟩
    obtain ⟨rfl, rfl⟩ := hm
    refine ⟨_, rfl, _, rfl, p, CD, dx, _, rfl, hp, T.cDisk, T.dHand, (by show 5 < 1000; decide), ?_⟩
    rw [put_hand]
    refine ⟨_, rfl, p, CD, dx, _, _, rfl, upd_same, T.cDisk, T.dHold, dfl_holder, _, _, rfl, rfl, dx, _, upd_same, (by show 5 < 1000; decide), ?_⟩
    rw [put_holder]
    exact ⟨_, rfl, p, CD, dx, _, _, rfl, upd_same, T.cDisk, T.dHold, dfl_holder, q _ ((Kp.refl p H').mut).mut ⟨dx, upd_same⟩⟩
def spLay (CD : Addr) : Sp := fun vs H Q _ => ∃ (p : Addr) (hand pic log fall : V) (n : Int) (x y : V), vs = [.ref p, x, y] ∧ DskAt CD H p hand pic log fall n ∧
  ∀ H', Kp p H H' → DskAt CD H' p hand x y fall n → Q .non H'
abbrev sLay : Stmt := inClass sDisk 7
theorem scLay : FnScope ["self", "picture", "log"] ["self", "picture", "log"] (defScope sLay) := ⟨rfl, rfl, rfl, by decide +kernel, rfl, by decide +kernel, by decide +kernel⟩
theorem ok_lay {f : Addr} {fd : FuncData} (F : Fun K "lay" "Disk.lay" sLay f fd) (T : Tk K mg CD CB) : FnOk P w K mg base CX0 1 f fd ["self", "picture", "log"] (spLay CD) := by
  refine F.ok scLay (fun vs H Q E h => ?_) (fun cdv A outer s H vs Q E hr h => ?_)
  · obtain ⟨p, hand, pic, log, fall, n, x, y, rfl, _⟩ := h
    rfl
  · obtain ⟨p, hand, pic, log, fall, n, x, y, rfl, ⟨dx, hp⟩, q⟩ := h
    have nd := scLay.nd
    refine ⟨_, (pss_cons (ps_fld (pv 0) (pv 1) rfl)
  (pss_one (ps_fld (pv 0) (pv 2) rfl))), ?_⟩
    refine ⟨_, rfl, _, rfl, p, CD, dx, _, rfl, hp, T.cDisk, T.dPic, (by show 5 < 1000; decide), ?_⟩
    rw [put_pic]
    refine ⟨_, rfl, _, rfl, p, CD, dx, _, rfl, upd_same, T.cDisk, T.dLog, (by show 5 < 1000; decide), ?_⟩
    rw [put_log]
    exact q _ ((Kp.refl p H).mut).mut ⟨dx, upd_same⟩
/-- no fall waits -/
def spDWrite (CD : Addr) : Sp := fun vs H Q _ => ∃ (p : Addr) (hand pic : V) (log x : Str) (n : Int), vs = [.ref p, .str x] ∧ DskAt CD H p hand pic (.str log) .non n ∧ log.length + x.length ≤ sizeLine ∧
  ∀ H', Kp p H H' → DskAt CD H' p hand pic (.str (log ++ x)) .non n → Q .non H'
abbrev sDWrite : Stmt := inClass sDisk 8
theorem scDWrite : FnScope ["self", "record", "signs"] ["self", "record"] (defScope sDWrite) := ⟨rfl, rfl, rfl, by decide +kernel, rfl, by decide +kernel, by decide +kernel⟩
end
end Lr
namespace Lr
open PySem PySem.Spec PyProof.Rows L2 Lf
def bfl (num : Int) (d : Addr) (w : Int) (r : Addr) : List (Str × V) := [("_number", .int num), ("_disk", .ref d), ("_written", .int w), ("_rows", .ref r)]
section
variable {num w : Int} {d r : Addr}
theorem bfl_num : (bfl num d w r).lookup ("_number" : Str) = some (.int num) := by rfl
theorem bfl_disk : (bfl num d w r).lookup ("_disk" : Str) = some (.ref d) := by rfl
theorem bfl_writ : (bfl num d w r).lookup ("_written" : Str) = some (.int w) := by rfl
theorem bfl_rows : (bfl num d w r).lookup ("_rows" : Str) = some (.ref r) := by rfl
theorem put_writ {i : Int} : putF "_written" (.int i) (bfl num d w r) = bfl num d i r := by rfl
theorem bfl_m {m : Str} (h1 : (m == "_number") = false) (h2 : (m == "_disk") = false) (h3 : (m == "_written") = false) (h4 : (m == "_rows") = false) : (bfl num d w r).lookup m = none := by
  show List.lookup m [(("_number" : Str), V.int num), ("_disk", .ref d), ("_written", .int w), ("_rows", .ref r)] = none
  rw [List.lookup_cons, h1, List.lookup_cons, h2, List.lookup_cons, h3, List.lookup_cons, h4]
  rfl
theorem dfl_m {m : Str} {hand pic log fall : V} {n : Int} (h1 : (m == "_hand") = false) (h2 : (m == "_picture") = false) (h3 : (m == "_log") = false) (h4 : (m == "_fall") = false) (h5 : (m == "_holder") = false) : (dfl hand pic log fall n).lookup m = none := by
  show List.lookup m [(("_hand" : Str), hand), ("_picture", pic), ("_log", log), ("_fall", fall), ("_holder", .int n)] = none
  rw [List.lookup_cons, h1, List.lookup_cons, h2, List.lookup_cons, h3, List.lookup_cons, h4, List.lookup_cons, h5]
  rfl
end
/-! ### what a disk keeps -/
def KeptL (pic log : List Nat) (w : Nat) (R : List (List Nat)) : Prop := ∃ (w0 : Nat) (R0 : List (List Nat)) (recs : List (List (List Nat))), ((R0 = [] ∧ w0 = 0 ∧ pic = []) ∨ (R0 ≠ [] ∧ pic = recL w0 R0)) ∧
  log = logL w0 recs ∧ w = w0 + recs.length ∧ R = R0 ++ recs.flatten ∧ (∀ r ∈ recs, r ≠ []) ∧ (∀ l ∈ R, Drawn l) ∧ R.length ≤ 1000 ∧ w ≤ R.length
theorem drawn_sum {R : List (List Nat)} (h : ∀ l ∈ R, Drawn l) (hl : R.length ≤ 1000) : (R.map List.length).sum + R.length ≤ 41000 ∧ (joinL [10] R).length ≤ 41000 := by
  have h1 := sum_rows (k := 40) fun r hr => (h r hr).2
  have h2 := joinL_len [10] R
  rw [show [10].length = 1 from rfl] at h2
  omega
theorem drawn_good {R : List (List Nat)} (hne : R ≠ []) (h : ∀ l ∈ R, Drawn l) (hl : R.length ≤ 1000) : GoodRec R := by
  refine ⟨hne, fun r hr => (h r hr).1, Nat.lt_of_le_of_lt (drawn_sum h hl).2 (by decide +kernel)⟩
theorem drawn_recL {R : List (List Nat)} {n : Nat} (h : ∀ l ∈ R, Drawn l) (hl : R.length ≤ 1000) (hn : n ≤ 1000) : (recL n R).length ≤ 42000 := by
  have h1 := recL_len (n := n) (rows := R) (Nat.lt_of_le_of_lt hn (by decide +kernel)) (Nat.le_trans (drawn_sum h hl).2 (by decide))
  have := (drawn_sum h hl).2
  omega
theorem mem_flat {recs : List (List (List Nat))} {r : List (List Nat)} (hr : r ∈ recs) : ∀ l ∈ r, l ∈ recs.flatten := fun l hl => List.mem_flatten.mpr ⟨r, hr, hl⟩
theorem len_flat : ∀ {recs : List (List (List Nat))} {r : List (List Nat)}, r ∈ recs → r.length ≤ recs.flatten.length
  | x :: xs, r, h => by
    rw [List.flatten_cons, List.length_append]
    rcases List.mem_cons.mp h with z | z
    · rw [z]
      omega
    · have := len_flat z
      omega
theorem log_len2 : ∀ (recs : List (List (List Nat))) (n : Nat), (∀ l ∈ recs.flatten, Drawn l) → recs.flatten.length ≤ 1000 → n + recs.length ≤ 2000 → (logL n recs).length ≤ 41 * recs.flatten.length + 184 * recs.length
  | [], n, _, _, _ => by
    show ([] : List Nat).length ≤ _
    exact Nat.zero_le _
  | r :: rs, n, h, hl, hn => by
    show (recL n r ++ logL (n + 1) rs).length ≤ _
    rw [List.flatten_cons] at h hl ⊢
    rw [List.length_append] at hl ⊢
    rw [List.length_cons] at hn ⊢
    have hd : ∀ l ∈ r, Drawn l := fun l hl => h l (List.mem_append_left _ hl)
    have h1 := recL_len (n := n) (rows := r) (Nat.lt_of_le_of_lt (m := 2000) (by omega) (by decide +kernel)) (Nat.le_trans (drawn_sum hd (by omega)).2 (by decide))
    have h2 := log_len2 rs (n + 1) (fun l hl => h l (List.mem_append_right _ hl)) (by omega) (by omega)
    have h3 := sum_rows (k := 40) fun x hx => (hd x hx).2
    have h4 := joinL_len [10] r
    rw [show [10].length = 1 from rfl] at h4
    rw [List.length_append]
    omega
namespace KeptL
variable {pic log : List Nat} {w : Nat} {R : List (List Nat)}
theorem w_le (h : KeptL pic log w R) : w ≤ 1000 := by
  obtain ⟨w0, R0, recs, h0, h1, h2, h3, h4, h5, h6, h7⟩ := h
  omega
theorem lens (h : KeptL pic log w R) : pic.length ≤ 42000 ∧ log.length ≤ 300000 := by
  obtain ⟨w0, R0, recs, h0, h1, h2, h3, h4, h5, h6, h7⟩ := h
  subst h3
  rw [List.length_append] at h6 h7
  constructor
  · rcases h0 with ⟨_, _, rfl⟩ | ⟨_, rfl⟩
    · exact Nat.zero_le _
    · exact drawn_recL (fun l hl => h5 l (List.mem_append_left _ hl)) (by omega) (by omega)
  · rw [h1]
    have := log_len2 recs w0 (fun l hl => h5 l (List.mem_append_right _ hl)) (by omega) (by omega)
    omega
theorem none : KeptL [] [] 0 [] := ⟨0, [], [], .inl ⟨rfl, rfl, rfl⟩, rfl, rfl, rfl, fun r h => absurd h (by intro z; cases z), fun r h => absurd h (by intro z; cases z), Nat.zero_le _, Nat.le_refl _⟩
theorem more (h : KeptL pic log w R) {L : List (List Nat)} (hne : L ≠ []) (hd : ∀ l ∈ L, Drawn l) (hl : R.length + L.length ≤ 1000) : KeptL pic (log ++ recL w L) (w + 1) (R ++ L) := by
  obtain ⟨w0, R0, recs, h0, h1, h2, h3, h4, h5, h6, h7⟩ := h
  have hp : 0 < L.length := Nat.pos_of_ne_zero fun z => hne (List.eq_nil_of_length_eq_zero z)
  refine ⟨w0, R0, recs ++ [L], h0, ?_, ?_, ?_, ?_, ?_, ?_, ?_⟩
  · rw [logL_snoc, ← h1, ← h2]
  · rw [List.length_append, h2]
    rfl
  · rw [h3, List.flatten_append, List.append_assoc]
    simp
  · intro r hr
    rcases List.mem_append.mp hr with hr | hr
    · exact h4 r hr
    · rw [List.mem_singleton.mp hr]
      exact hne
  · intro l hl
    rcases List.mem_append.mp hl with hl | hl
    · exact h5 l hl
    · exact hd l hl
  · rw [List.length_append]
    exact hl
  · rw [List.length_append]
    omega
theorem pictured (h : KeptL pic log w R) : KeptL (if R = [] then [] else recL w R) [] w R := by
  obtain ⟨w0, R0, recs, h0, h1, h2, h3, h4, h5, h6, h7⟩ := h
  by_cases e : R = []
  · rw [if_pos e]
    rw [e] at h7
    have hw : w = 0 := by simpa using h7
    rw [hw, e]
    exact none
  · rw [if_neg e]
    exact ⟨w, R, [], .inr ⟨e, rfl⟩, rfl, rfl, by simp, fun r h => absurd h (by intro z; cases z), h5, h6, h7⟩
/-- the log, read -/
theorem read (h : KeptL pic log w R) : ∃ (w0 : Nat) (R0 : List (List Nat)) (recs : List (List (List Nat))), R = R0 ++ recs.flatten ∧ w = w0 + recs.length ∧ recs.length ≤ 1000 ∧
    parseL log = ((if recs = [] then Option.none else some w0), recs, log.length) ∧ ((parseL pic = (Option.none, [], 0) ∧ R0 = [] ∧ w0 = 0) ∨ parseL pic = (some w0, [R0], pic.length)) ∧ ∀ l ∈ R, Drawn l := by
  obtain ⟨w0, R0, recs, h0, h1, h2, h3, h4, h5, h6, h7⟩ := h
  have hf : recs.flatten.length ≤ 1000 := by
    rw [h3, List.length_append] at h6
    omega
  have hd : ∀ l ∈ recs.flatten, Drawn l := fun l hl => h5 l (by rw [h3]; exact List.mem_append_right _ hl)
  have big : 2000 < 10 ^ 60 := by decide +kernel
  refine ⟨w0, R0, recs, h3, h2, by omega, ?_, ?_, h5⟩
  · by_cases e : recs = []
    · rw [if_pos e, h1, e]
      exact parse_nil
    · rw [if_neg e, h1]
      exact parse_log e (fun r hr => drawn_good (h4 r hr) (fun l hl => hd l (mem_flat hr l hl)) (Nat.le_trans (len_flat hr) hf)) (by omega)
  · rcases h0 with ⟨e1, e2, e3⟩ | ⟨e1, e2⟩
    · exact .inl ⟨by rw [e3]; exact parse_nil, e1, e2⟩
    · refine .inr ?_
      rw [e2]
      exact parse_one (drawn_good e1 (fun l hl => h5 l (by rw [h3]; exact List.mem_append_left _ hl)) (by rw [h3, List.length_append] at h6; omega)) (by omega)
end KeptL
end Lr
namespace Lr
open PySem PySem.Spec PyProof.Rows L2 Lf
/-- a book stands at b: its disk at d, its rows at r -/
structure BkAt (CD CB : Addr) (H : Hp) (b d r : Addr) (hand pic log : Str) (num : Int) (w : Nat) (R : List (List Nat)) : Prop where
  bk : ∃ dx, H b = some (.ins CB dx (bfl num d (w : Int) r))
  dk : DskAt CD H d (.str hand) (.str pic) (.str log) .non num
  rw : H r = some (.lst (rowV R))
  ke : KeptL (tl pic) (tl log) w R
/-- all but three stay -/
def Kp3 (a b c : Addr) (H H' : Hp) : Prop := ∀ x o, x ≠ a → x ≠ b → x ≠ c → H x = some o → H' x = some o
namespace BkAt
variable {CD CB : Addr} {H H' : Hp} {b d r : Addr} {hand pic log : Str} {num : Int} {w : Nat} {R : List (List Nat)}
theorem nbd (h : BkAt CD CB H b d r hand pic log num w R) : b ≠ d := fun e => by
  obtain ⟨dx, h1⟩ := h.bk
  obtain ⟨dy, h2⟩ := h.dk
  rw [e, h2] at h1
  have := congrArg (fun o => match o with | some (HO.ins _ _ fs) => fs.length | _ => 0) h1
  exact absurd this (by show ¬ (5 = 4); decide)
theorem nbr (h : BkAt CD CB H b d r hand pic log num w R) : b ≠ r := fun e => by
  obtain ⟨dx, h1⟩ := h.bk
  rw [e, h.rw] at h1
  cases h1
theorem ndr (h : BkAt CD CB H b d r hand pic log num w R) : d ≠ r := fun e => by
  obtain ⟨dx, h1⟩ := h.dk
  rw [e, h.rw] at h1
  cases h1
theorem same (h : BkAt CD CB H b d r hand pic log num w R) (s : Same H H') : BkAt CD CB H' b d r hand pic log num w R :=
  ⟨h.bk.imp fun _ e => s _ _ e, h.dk.imp fun _ e => s _ _ e, s _ _ h.rw, h.ke⟩
theorem kp {a : Addr} (h : BkAt CD CB H b d r hand pic log num w R) (s : Kp a H H') (h1 : b ≠ a) (h2 : d ≠ a) (h3 : r ≠ a) : BkAt CD CB H' b d r hand pic log num w R :=
  ⟨h.bk.imp fun _ e => s _ _ h1 e, h.dk.imp fun _ e => s _ _ h2 e, s _ _ h3 h.rw, h.ke⟩
end BkAt
section
variable {P : Program} {w : World} {K : PySem.W.Frag} {mg : Str → Option Value} {base : Heap} {CD CB : Addr}
def spCheck (CD CB : Addr) : Sp := fun vs H Q _ => ∃ (b d r : Addr) (hand pic log : Str) (num : Int) (w : Nat) (R : List (List Nat)), vs = [.ref b] ∧ BkAt CD CB H b d r hand pic log num w R ∧ Q .non H
abbrev sCheck : Stmt := inClass sBook 5
theorem scCheck : FnScope ["self"] ["self"] (defScope sCheck) := ⟨rfl, rfl, rfl, by decide +kernel, rfl, by decide +kernel, by decide +kernel⟩
theorem ok_check {f : Addr} {fd : FuncData} (F : Fun K "check" "Book.check" sCheck f fd) (T : Tk K mg CD CB) (m_Disk_holder : MCal P w K mg base 1 CD "holder" ["self"] (spSdholder CD)) : FnOk P w K mg base CX0 2 f fd ["self"] (spCheck CD CB) := by
  refine F.ok scCheck (fun vs H Q E h => ?_) (fun cdv A outer s H vs Q E hr h => ?_)
  · obtain ⟨b, d, r, hand, pic, log, num, w, R, rfl, _⟩ := h
    rfl
  · obtain ⟨b, d, r, hand, pic, log, num, w, R, rfl, B, q⟩ := h
    have nd := scCheck.nd
    refine ⟨_, (pss_one (ps_if (pt_cmpR op_ne (pm_own0 m_Disk_holder T.cDisk (hr.mono (by decide)) (pe_fld (pv 0) rfl)) (pe_fld (pv 0) rfl) (nomark _))
  (pss_one ps_never)
  pss_nil)), ?_⟩
    obtain ⟨dx, hb⟩ := B.bk
    obtain ⟨dy, hd⟩ := id B.dk
    refine ⟨_, rfl, b, CB, dx, _, _, rfl, hb, T.cBook, T.bDisk, bfl_disk, d, dy, _, rfl, hd, dfl_m (by decide +kernel) (by decide +kernel) (by decide +kernel) (by decide +kernel) (by decide +kernel), d, _, _, _, _, num, rfl, B.dk, ?_⟩
    refine ⟨_, rfl, b, CB, dx, _, _, rfl, hb, T.cBook, T.bNum, bfl_num, rfl, _, rfl, ?_⟩
    rw [decide_eq_true (rfl : V.int num = V.int num)]
    exact iteF q
def spBRows (CD CB : Addr) : Sp := fun vs H Q _ => ∃ (b d r : Addr) (hand pic log : Str) (num : Int) (w : Nat) (R : List (List Nat)), vs = [.ref b] ∧ BkAt CD CB H b d r hand pic log num w R ∧ ∀ p H', Same H H' → H p = none → H' p = some (.lst (rowV R)) → Q (.ref p) H'
abbrev sBRows : Stmt := inClass sBook 2
theorem scBRows : FnScope ["self"] ["self"] (defScope sBRows) := ⟨rfl, rfl, rfl, by decide +kernel, rfl, by decide +kernel, by decide +kernel⟩
theorem ok_brows {f : Addr} {fd : FuncData} (F : Fun K "rows" "Book.rows" sBRows f fd) (T : Tk K mg CD CB) (m_Book_check : MCal P w K mg base 2 CB "check" ["self"] (spCheck CD CB)) : FnOk P w K mg base CX0 3 f fd ["self"] (spBRows CD CB) := by
  refine F.ok scBRows (fun vs H Q E h => ?_) (fun cdv A outer s H vs Q E hr h => ?_)
  · obtain ⟨b, d, r, hand, pic, log, num, w, R, rfl, _⟩ := h
    rfl
  · obtain ⟨b, d, r, hand, pic, log, num, w, R, rfl, B, q⟩ := h
    have nd := scBRows.nd
    refine ⟨_, (pss_cons (ps_expr (pm_own0 m_Book_check T.cBook (hr.mono (by decide)) (pv 0)))
  (pss_one (ps_ret (pe_callTy call_list_of (by rfl) T.list (by decide +kernel) (pa_cons (pe_fld (pv 0) rfl) pa_nil))))), ?_⟩
    obtain ⟨dx, hb⟩ := B.bk
    refine ⟨_, rfl, b, dx, _, rfl, hb, bfl_m (by decide +kernel) (by decide +kernel) (by decide +kernel) (by decide +kernel), b, d, r, hand, pic, log, num, w, R, rfl, B, ?_⟩
    refine ⟨_, rfl, b, CB, dx, _, _, rfl, hb, T.cBook, T.bRows, bfl_rows, r, _, rfl, .inl (SqL.of B.rw), fun p hp => q p _ (same_new hp) hp upd_same⟩
def spBWritten (CD CB : Addr) : Sp := fun vs H Q _ => ∃ (b d r : Addr) (hand pic log : Str) (num : Int) (w : Nat) (R : List (List Nat)), vs = [.ref b] ∧ BkAt CD CB H b d r hand pic log num w R ∧ Q (.int (w : Int)) H
abbrev sBWritten : Stmt := inClass sBook 3
theorem scBWritten : FnScope ["self"] ["self"] (defScope sBWritten) := ⟨rfl, rfl, rfl, by decide +kernel, rfl, by decide +kernel, by decide +kernel⟩
theorem ok_bwritten {f : Addr} {fd : FuncData} (F : Fun K "written" "Book.written" sBWritten f fd) (T : Tk K mg CD CB) (m_Book_check : MCal P w K mg base 2 CB "check" ["self"] (spCheck CD CB)) : FnOk P w K mg base CX0 3 f fd ["self"] (spBWritten CD CB) := by
  refine F.ok scBWritten (fun vs H Q E h => ?_) (fun cdv A outer s H vs Q E hr h => ?_)
  · obtain ⟨b, d, r, hand, pic, log, num, w, R, rfl, _⟩ := h
    rfl
  · obtain ⟨b, d, r, hand, pic, log, num, w, R, rfl, B, q⟩ := h
    have nd := scBWritten.nd
    refine ⟨_, (pss_cons (ps_expr (pm_own0 m_Book_check T.cBook (hr.mono (by decide)) (pv 0)))
  (pss_one (ps_ret (pe_fld (pv 0) rfl)))), ?_⟩
    obtain ⟨dx, hb⟩ := B.bk
    exact ⟨_, rfl, b, dx, _, rfl, hb, bfl_m (by decide +kernel) (by decide +kernel) (by decide +kernel) (by decide +kernel), b, d, r, hand, pic, log, num, w, R, rfl, B, _, rfl, b, CB, dx, _, _, rfl, hb, T.cBook, T.bWrit, bfl_writ, q⟩
def spBWrite (K : PySem.W.Frag) (CD CB : Addr) : Sp := fun vs H Q _ => ∃ (b d r l : Addr) (hand pic log : Str) (num : Int) (w : Nat) (R L : List (List Nat)), vs = [.ref b, .ref l] ∧ BkAt CD CB H b d r hand pic log num w R ∧ H l = some (.lst (rowV L)) ∧ l ≠ r ∧ (∀ x ∈ L, Drawn x) ∧ R.length + L.length ≤ 1000 ∧
  ∀ H' log', Kp3 b d r H H' → BkAt CD CB H' b d r hand pic log' num (w + if L = [] then 0 else 1) (R ++ L) → Q .non H'
abbrev sBWrite : Stmt := inClass sBook 1
theorem scBWrite : FnScope ["self", "rows"] ["self", "rows"] (defScope sBWrite) := ⟨rfl, rfl, rfl, by decide +kernel, rfl, by decide +kernel, by decide +kernel⟩
def spBPic (CD CB : Addr) : Sp := fun vs H Q _ => ∃ (b d r : Addr) (hand pic log : Str) (num : Int) (w : Nat) (R : List (List Nat)), vs = [.ref b] ∧ BkAt CD CB H b d r hand pic log num w R ∧
  ∀ H', Kp d H H' → BkAt CD CB H' b d r hand (S (if R = [] then [] else recL w R)) "" num w R → Q .non H'
abbrev sBPic : Stmt := inClass sBook 4
theorem scBPic : FnScope ["self", "picture"] ["self"] (defScope sBPic) := ⟨rfl, rfl, rfl, by decide +kernel, rfl, by decide +kernel, by decide +kernel⟩
theorem ok_bpic {f : Addr} {fd : FuncData} (F : Fun K "picture" "Book.picture" sBPic f fd) (T : Tk K mg CD CB) (m_Book_check : MCal P w K mg base 2 CB "check" ["self"] (spCheck CD CB)) (m_Disk_lay : MCal P w K mg base 1 CD "lay" ["self", "picture", "log"] (spLay CD))
    (c_record : Callee P w K mg base 2 "record" ["number", "rows"] (spRec K)) : FnOk P w K mg base CX0 3 f fd ["self"] (spBPic CD CB) := by
  refine F.ok scBPic (fun vs H Q E h => ?_) (fun cdv A outer s H vs Q E hr h => ?_)
  · obtain ⟨b, d, r, hand, pic, log, num, w, R, rfl, _⟩ := h
    rfl
  · obtain ⟨b, d, r, hand, pic, log, num, w, R, rfl, B, q⟩ := h
    have nd := scBPic.nd
    refine ⟨_, (pss_cons (ps_expr (pm_own0 m_Book_check T.cBook (hr.mono (by decide)) (pv 0)))
  (Evl.pss_cut (ps_set (i := 1) nd rfl (Or.inl rfl) (pe_ifExp (pt_truth (pe_fld (pv 0) rfl) (by intro _; rfl)) (pe_own c_record (hr.mono (by decide)) (by rfl) (pa_cons (pe_fld (pv 0) rfl) (pa_cons (pe_fld (pv 0) rfl) pa_nil))) pe_str))
  (pss_one (ps_expr (pm_own m_Disk_lay T.cDisk (hr.mono (by decide)) (pe_fld (pv 0) rfl) (pa_cons (pv 1) (pa_cons pe_str pa_nil))))))), ?_⟩
    obtain ⟨dx, hb⟩ := B.bk
    obtain ⟨dy, hd⟩ := id B.dk
    refine ⟨_, rfl, b, dx, _, rfl, hb, bfl_m (by decide +kernel) (by decide +kernel) (by decide +kernel) (by decide +kernel), b, d, r, hand, pic, log, num, w, R, rfl, B, ?_⟩
    refine ⟨fun σ' H' => H' = H ∧ σ' = [some (.ref b), some (.str (S (if R = [] then [] else recL w R)))], ?_, fun σ' H' hm => ?_⟩
    · refine ⟨_, rfl, b, CB, dx, _, _, rfl, hb, T.cBook, T.bRows, bfl_rows, !(rowV R).isEmpty, .inl ⟨_, SqL.of B.rw, rfl⟩, ?_⟩
      by_cases e : R = []
      · rw [if_pos e, e]
        exact iteF ⟨rfl, rfl⟩
      · have e2 : (!(rowV R).isEmpty) = true := by
          cases R with
          | nil => exact absurd rfl e
          | cons x xs => rfl
        rw [e2, if_neg e]
        have hd1 : ∀ l ∈ R, Drawn l := by
          obtain ⟨w0, R0, recs, h0, h1, h2, h3, h4, h5, h6, h7⟩ := B.ke
          exact h5
        have hl1 : R.length ≤ 1000 := by
          obtain ⟨w0, R0, recs, h0, h1, h2, h3, h4, h5, h6, h7⟩ := B.ke
          exact h6
        have ds := drawn_sum hd1 hl1
        exact iteT ⟨_, rfl, b, CB, dx, _, _, rfl, hb, T.cBook, T.bWrit, bfl_writ, _, rfl, b, CB, dx, _, _, rfl, hb, T.cBook, T.bRows, bfl_rows, w, r, R, rfl, Nat.lt_of_le_of_lt B.ke.w_le (by decide +kernel), SqL.of B.rw, by omega, rfl, rfl⟩
    obtain ⟨rfl, rfl⟩ := hm
    refine ⟨_, rfl, b, CB, dx, _, _, rfl, hb, T.cBook, T.bDisk, bfl_disk, d, dy, _, rfl, hd, dfl_m (by decide +kernel) (by decide +kernel) (by decide +kernel) (by decide +kernel) (by decide +kernel), _, rfl, d, _, _, _, _, num, _, _, rfl, B.dk, fun H1 k1 D1 => ?_⟩
    exact q H1 k1 ⟨⟨dx, k1 _ _ B.nbd hb⟩, D1, k1 _ _ B.ndr.symm B.rw, B.ke.pictured⟩
end
end Lr
namespace Lr
open PySem PySem.Spec PyProof.Rows L2 Lf
/-- enumerate(list, start=k) -/
def IteK (K : PySem.W.Frag) (a : Addr) (k : Int) : It :=
  ⟨fun i H => ∃ (xs : List V) (x : V), SqL K H a xs ∧ xs[i]? = some x, fun i H v H' => ∃ T x, v = .ref T ∧ H T = none ∧ H' = upd H T (.tup [.int (k + (i : Nat)), x]) ∧ ∀ xs, SqL K H a xs → xs[i]? = some x, fun i H => ∃ xs : List V, SqL K H a xs ∧ xs.length = i⟩
/-- how far it is: the count, the place in the list -/
def EnSt (k : Int) (a e it : Addr) (i : Nat) (h : Heap) : Prop := (∃ z, IsEnum h e it (k + ((i : Nat) : Int)) z) ∧ h.IsListIter it a i ∧ e ≠ it
theorem EnSt.apart {k : Int} {a e it : Addr} {i : Nat} {h : Heap} {vs : Array Value} (st : EnSt k a e it i h) (l : h.IsList a vs) : a ≠ it ∧ e ∉ [it, a] := by
  obtain ⟨⟨z, en⟩, ⟨o, eo, co, _⟩, hne⟩ := st
  obtain ⟨q, eq, cq, _⟩ := l
  refine ⟨fun z => ?_, fun m => ?_⟩
  · rw [z, eo] at eq
    cases eq
    rw [co] at cq
    exact absurd cq (by decide +kernel)
  · rcases List.mem_cons.mp m with z | m
    · exact hne z
    · rw [← List.mem_singleton.mp m] at eq
      rw [show h.get? e = _ from en] at eq
      cases eq
      exact absurd cq (show ¬ (Value.type "enumerate" = Value.type "list") by decide +kernel)
theorem turn_enumK {P : Program} {w : World} {K : PySem.W.Frag} {elts : List Expr} {kk : Nat} {tpos : Pos} (a e it : Addr) (k : Int) :
    Turn P w K (.Tuple elts kk tpos) (IteK K a k) [e, it] e (EnSt k a e it) := by
  have two : ∀ {b : Addr}, b ∈ [e, it] → b = e ∨ b = it := fun m => (List.mem_cons.mp m).imp id List.mem_singleton.mp
  refine ⟨List.mem_cons_self .., fun i h st b m => ?_, fun i h h' st kp => ?_, ?_, ?_, ?_⟩
  · obtain ⟨⟨z, en⟩, ⟨o, eo, _, dt⟩, _⟩ := st
    rcases two m with rfl | rfl
    · exact ⟨_, en, fun v c => by cases c⟩
    · refine ⟨o, eo, fun v c => ?_⟩
      rw [dt] at c
      cases c
  · obtain ⟨⟨z, en⟩, li, hne⟩ := st
    exact ⟨⟨z, kp e (List.mem_cons_self ..) _ en⟩, li.at fun o q => kp it (List.mem_cons_of_mem _ (List.mem_singleton.mpr rfl)) o q, hne⟩
  · intro X h1 h2 h3 h4 i pins s σ H E I free st go
    cases h1
    cases h2
    cases h3
    obtain ⟨xs, x, sx, hx⟩ := go
    obtain ⟨vs, rel, isl, _⟩ := I.list sx
    obtain ⟨u, eu, ru⟩ := rel.get hx
    have ap := st.apart isl.isList
    obtain ⟨⟨z, en⟩, li, hne⟩ := st
    have lt_e : e < s.heap.objs.size := Heap.lt_size en
    have lt_i : it < s.heap.objs.size := by
      obtain ⟨_, q, _⟩ := li
      exact Heap.lt_size q
    have at_u : vs.toArray[i]? = some u := by
      rw [List.getElem?_toArray]
      exact eu
    have lt_n : i < vs.toArray.size := (Array.getElem?_eq_some_iff.mp at_u).1
    refine wpAny_pyNext_enum_itemC (Draws.list (A := X.A.in1) (show X.A.in1.handled = none from I.ok.hd h4) it a ap.1 vs.toArray) en ⟨li, isl.isList⟩ lt_n hne ap.2 fun y g tk ey out st2 pair size kept => ?_
    have euy : u = y := Option.some.inj (at_u.symm.trans ey)
    subst euy
    refine ⟨_, rfl, wpAny_letOwnedTupleGo_enum (s := { s with heap := g, toks := tk + 1 }) out fun g2 en2 sb => ?_⟩
    have at_T := (sb.2 _ (Nat.ne_of_gt lt_e)).trans pair
    have old : ∀ b ob, b ∉ [e, it] → s.heap.get? b = some ob → g2.get? b = some ob := fun b ob m q =>
      (sb.2 b fun z => m (z ▸ List.mem_cons_self ..)).trans (kept b ob (fun z => m (z ▸ List.mem_cons_self ..)) (fun z => m (z ▸ List.mem_cons_of_mem _ (List.mem_singleton.mpr rfl))) q)
    have pairOk : ObjOk X.prog X.w (upd H s.heap.objs.size (.tup [.int (k + (i : Nat)), x])) g2 s.heap.objs.size (.tup [.int (k + (i : Nat)), x]) :=
      ⟨(by show 2 ≤ sizeLine; decide), [.int (k + ((i : Nat) : Int)) tk, u], .cons ⟨tk, rfl⟩ (.cons ru .nil), ⟨_, at_T, rfl, _, rfl⟩⟩
    refine ⟨.ref s.heap.objs.size, _, I.turnedNew (ch := [e, it]) old free (Nat.le_refl _) pairOk, rfl, ⟨_, x, rfl, I.hok.fresh (Nat.le_refl _), rfl, fun ys sy => ?_⟩, ⟨⟨u, ?_⟩, ?_, hne⟩, fun b m => ?_⟩
    · rw [I.list_inj sy sx]
      exact hx
    · have ek : k + ((i + 1 : Nat) : Int) = k + ((i : Nat) : Int) + 1 := by omega
      rw [ek]
      exact en2
    · exact st2.1.at fun o q => (sb.2 it hne.symm).trans q
    · have lt_b : b < s.heap.objs.size := by rcases two m with rfl | rfl <;> assumption
      rw [upd_ne (Nat.ne_of_lt lt_b)]
      exact (free b m).1
  · intro X h1 h2 h3 h4 i pins s σ H E I free st stop
    cases h1
    cases h2
    cases h3
    obtain ⟨xs, sx, hx⟩ := stop
    obtain ⟨vs, rel, isl, _⟩ := I.list sx
    have ap := st.apart isl.isList
    obtain ⟨⟨z, en⟩, li, hne⟩ := st
    obtain ⟨f0, f1, f2, f3, f4, f5⟩ := free it (List.mem_cons_of_mem _ (List.mem_singleton.mpr rfl))
    have full : vs.toArray.size = i := by
      rw [List.size_toArray, ← rel.length]
      exact hx
    refine wpAny_pyNext_enum_endD (Draws.list (A := X.A.in1) (show X.A.in1.handled = none from I.ok.hd h4) it a ap.1 vs.toArray) en ⟨full ▸ li, isl.isList⟩ fun g eb => ?_
    exact ⟨rfl, I.turned (t' := s.toks) (fun b o m q => eb b o m q) f0 f1 f3 f4 f5⟩
  · intro A i s Q E st h
    obtain ⟨⟨z, en⟩, _⟩ := st
    exact wpAny_pyIter_enum en h
theorem callWith_typeKw {M : Model} {A : Around} {E : Value → Shared → Prop} {s : Shared} {env : Env} {pos : Pos} {T : String} {e : Expr} {rest : List Expr} {kws : List Keyword} {Q : Value → Shared → Prop}
    (h : wpAny M A (spliced (backTo pos (starEach (e :: rest) env))) (fun vs s₁ => wpAny M A (evalAll ((backToKw pos (keywordEach kws env)).map (·.2)))
      (fun kvs s₂ => wpAny M A (call (.type T) vs (((backToKw pos (keywordEach kws env)).filterMap (·.1)).zip kvs)) Q E s₂) E s₁) E s)
    (he : backTo pos (starEach (e :: rest) env) = (false, eval e env) :: backTo pos (starEach rest env) := by rfl)
    (hplain : (backTo pos (starEach (e :: rest) env)).any (·.1) = false := by rfl)
    (hall : (backToKw pos (keywordEach kws env)).all (·.1.isSome) = true := by rfl)
    (hkw : (backToKw pos (keywordEach kws env)).any (·.1.isNone) = false := by rfl) :
    wpAny M A (callWith pos (.type T) [] (backTo pos (starEach (e :: rest) env)) (backToKw pos (keywordEach kws env))) Q E s := by
  have h2 : wpAny M A (evalArgs (.type T) true (backTo pos (starEach (e :: rest) env)) (backToKw pos (keywordEach kws env))) (fun a s₁ => wpAny M A (call (.type T) ([] ++ a.pos) a.kw) Q E s₁) E s := by
    rw [he] at h ⊢
    exact evalArgs_kwB hall h
  unfold callWith
  refine wpAny_bind (wpAny_holding (wpAny_mono h2 (fun a s₁ h₁ => wpAny_bind (wpAny_standAt ?_)) fun _ _ x => x))
  simp only [hplain, hkw, Bool.or_false]
  refine wpAny_bind (wpAny_pure ?_)
  exact wpAny_bind (wpAny_mono h₁ (fun r s₂ hr => wpAny_bind (wpAny_holding (wpAny_point (wpAny_pure hr)))) fun _ _ x => x)
def iEnumK (K : PySem.W.Frag) (ta : TA) (tk : TA) : TI := fun σ H R => ta σ H fun vs H1 => tk σ H1 fun zs H2 => ∃ a xs k, vs = [.ref a] ∧ zs = [.int k] ∧ -(2 ^ 63) ≤ k ∧ k < 2 ^ 63 ∧ SqL K H2 a xs ∧ R (IteK K a k) H2
theorem pi_enumK {X : Cx} {e : Expr} {kws : List Keyword} {ta tk : TA} {p pos tpos : Pos} {elts : List Expr} {kk : Nat} (hg : Gl X "enumerate") (hm : X.mg "enumerate" = none) (ha : PA X [e] ta) (hk : PK X kws tk)
    (hn : (backToKw pos (keywordEach kws X.env)).filterMap (·.1) = [Str.ofString "start"] := by rfl)
    (he : backTo pos (starEach [e] X.env) = (false, eval e X.env) :: backTo pos (starEach [] X.env) := by rfl)
    (hplain : (backTo pos (starEach [e] X.env)).any (·.1) = false := by rfl)
    (hall : (backToKw pos (keywordEach kws X.env)).all (·.1.isSome) = true := by rfl)
    (hkw : (backToKw pos (keywordEach kws X.env)).any (·.1.isNone) = false := by rfl) :
    PI X (.Tuple elts kk tpos) (.Call (.Name "enumerate" p) [e] kws pos) (iEnumK X.K ta tk) := by
  refine ⟨fun pins s σ H R I h => ?_⟩
  refine wpAny_Call_Name_kw (ld_blt I hg hm boot_enumerate (callWith_typeKw (thn (ha.run pos pins s σ H _ I h) fun us s1 ⟨vs, H1, I1, r1, q1⟩ => ?_) he hplain hall hkw))
  refine thn (hk.run pos pins s1 σ H1 _ I1 q1) fun ws s2 ⟨zs, H2, I2, r2, q2⟩ => ?_
  obtain ⟨a, xs, k, ex, ez, k0, k1, hq, q⟩ := q2
  subst ex ez
  rw [hn]
  cases r1 with
  | cons r rr =>
    cases rr
    cases r
    cases r2 with
    | cons r' rr' =>
      cases rr'
      obtain ⟨t, rfl⟩ := r'
      obtain ⟨its, rv, p', hz⟩ := I2.list hq
      refine enum_begins_start (begins_list a its.toArray) p'.isList k0 k1 fun h' he hit hsz hk => wpAny_pyIter_enum he ?_
      have I3 : Inv X pins σ H2 { s2 with heap := h' } := I2.kept (t' := s2.toks) hk
      refine ⟨s2.heap.objs.size + 1, [s2.heap.objs.size + 1, s2.heap.objs.size], _, _, H2, rfl, I3, turn_enumK a (s2.heap.objs.size + 1) s2.heap.objs.size k, ⟨⟨.none, by show IsEnum _ _ _ (k + 0) _; rw [Int.add_zero]; exact he⟩, ⟨_, hit, rfl, rfl⟩, Nat.succ_ne_self _⟩, fun b hb => ?_, q⟩
      have e' : b = s2.heap.objs.size + 1 ∨ b = s2.heap.objs.size := by simpa using hb
      have hle : s2.heap.objs.size ≤ b := by
        rcases e' with z | z
        · rw [z]; exact Nat.le_add_right _ _
        · rw [z]; exact Nat.le_refl _
      exact I2.fpOk hle (I2.hok.fresh hle)
theorem walk_enumK {K : PySem.W.Frag} {a : Addr} {k : Int} {xs : List V} : Walk (IteK K a k) xs.length (fun H => SqL K H a xs) (YPair (fun i => some (.int (k + (i : Nat)))) (fun i => xs[i]?)) := by
  refine ⟨fun i _ hi q => ⟨xs, xs[i], q, by simp [hi]⟩, fun _ q => ⟨xs, q, rfl⟩, fun i H v H' _ q y => ?_⟩
  obtain ⟨T, x, h1, h2, h3, h4⟩ := y
  exact ⟨T, .int (k + (i : Nat)), x, h1, h2, h3, rfl, h4 xs q⟩
end Lr
namespace Lr
open PySem PySem.Spec PyProof.Rows L2 Lf
theorem cut_all (x : Str) : cutS x none (some ((x.length : Nat) : Int)) = x := by
  refine TL.ext_tl ?_
  show ((tl x).drop (HT.sIx x.length 0 none)).take (HT.sIx x.length x.length (some ((x.length : Nat) : Int)) - HT.sIx x.length 0 none) = tl x
  rw [HT.sIx_none, HT.sIx_nat, List.drop_zero, Nat.sub_zero, Nat.min_self, List.take_of_length_le]
  rw [← len_tl]
  exact Nat.le_refl _
theorem take_flat {α : Type} {rs : List (List α)} {i : Nat} {x : List α} (h : rs[i]? = some x) : (rs.take (i + 1)).flatten = (rs.take i).flatten ++ x := by
  rw [List.take_succ, h, List.flatten_append]
  simp
theorem flat_le {α : Type} : ∀ (rs : List (List α)) (i : Nat), (rs.take i).flatten.length ≤ rs.flatten.length
  | [], i => by simp
  | r :: rs, 0 => by simp
  | r :: rs, i + 1 => by
    rw [List.take_succ_cons, List.flatten_cons, List.flatten_cons, List.length_append, List.length_append]
    have := flat_le rs i
    omega
section
variable {P : Program} {w : World} {K : PySem.W.Frag} {mg : Str → Option Value} {base : Heap} {CD CB : Addr}
theorem lc2_flat {x0 x1 x2 x3 x5 x6 x7 : Option V} {H H0 : Hp} {Q : VK} {r r0 : Addr} {qs : List Addr} {rs : List (List (List Nat))} (hr : H r = some (.lst (qs.map V.ref))) (ra : RowsAll H0 r0 H qs rs) (hl : rs.flatten.length < sizeLine)
    (q : ∀ D H', Same H H' → H D = none → H' D = some (.lst (rowV rs.flatten)) → Q (.ref D) H') :
    tLc2 (iList K (tVar 4)) (gName 6) tYes (iList K (tVar 6)) (gName 7) tYes (tVar 7) [6, 7] [7] [x0, x1, x2, x3, some (.ref r), x5, x6, x7] H Q := by
  refine ⟨.ref r, rfl, r, rfl, ⟨_, SqL.of hr⟩, fun D hD => ?_⟩
  have hlq := ra.len
  refine ⟨fun i m H' => i ≤ qs.length ∧ m = qs.length - i ∧ Same H H' ∧ H' D = some (.lst (rowV (rs.take i).flatten)), ⟨_, Nat.zero_le _, rfl, same_new hD, upd_same⟩, ?_⟩
  rintro i m H1 ⟨hi, rfl, s1, e1⟩
  by_cases hlt : i < qs.length
  · obtain ⟨p, rows, hq0, hr0, _, _, ep⟩ := ra.get i (by omega)
    refine .inr ⟨⟨_, V.ref p, SqL.of (s1 _ _ hr), by rw [List.getElem?_map, hq0]; rfl⟩, fun H' => Same H H' ∧ H' D = some (.lst (rowV (rs.take (i + 1)).flatten)), fun H' h => ⟨qs.length - (i + 1), by omega, hlt, rfl, h.1, h.2⟩, fun x H2 y => ?_⟩
    obtain ⟨rfl, y⟩ := y
    have hx : x = V.ref p := by
      have z := y _ (SqL.of (s1 _ _ hr))
      rw [List.getElem?_map, hq0] at z
      exact (Option.some.inj z).symm
    subst hx
    refine ⟨rfl, ?_⟩
    unfold tYes
    dsimp only
    refine iteT ?_
    refine ⟨.ref p, rfl, p, rfl, ⟨_, SqL.of (s1 _ _ ep)⟩, fun j k H' => j ≤ rows.length ∧ k = rows.length - j ∧ Same H H' ∧ H' D = some (.lst (rowV ((rs.take i).flatten ++ rows.take j))), ⟨_, Nat.zero_le _, rfl, s1, by rw [List.take_zero, List.append_nil]; exact e1⟩, ?_⟩
    rintro j k H3 ⟨hj, rfl, s3, e3⟩
    by_cases hjt : j < rows.length
    · refine .inr ⟨⟨_, V.str (S rows[j]), SqL.of (s3 _ _ ep), by rw [rowV, List.getElem?_map, List.getElem?_eq_getElem hjt]; rfl⟩, fun H' => Same H H' ∧ H' D = some (.lst (rowV ((rs.take i).flatten ++ rows.take (j + 1)))), fun H' h => ⟨rows.length - (j + 1), by omega, hjt, rfl, h.1, h.2⟩, fun x H4 y => ?_⟩
      obtain ⟨rfl, y⟩ := y
      have hx : x = V.str (S rows[j]) := by
        have z := y _ (SqL.of (s3 _ _ ep))
        rw [rowV, List.getElem?_map, List.getElem?_eq_getElem hjt] at z
        exact (Option.some.inj z).symm
      subst hx
      refine ⟨rfl, ?_⟩
      dsimp only
      refine iteT ⟨_, rfl, _, e3, ?_, s3.mutN hD, ?_⟩
      · rw [rowV, List.length_map, List.length_append, List.length_take]
        have h1 := flat_le rs (i + 1)
        rw [take_flat hr0, List.length_append] at h1
        omega
      · rw [upd_same, List.take_succ, List.getElem?_eq_getElem hjt, ← List.append_assoc, rowV, rowV, List.map_append (l₂ := (some rows[j]).toList)]
        rfl
    · have ej : j = rows.length := by omega
      subst ej
      refine .inl ⟨⟨_, SqL.of (s3 _ _ ep), by rw [rowV, List.length_map]; exact Nat.le_refl _⟩, s3, ?_⟩
      rw [List.take_length] at e3
      rw [take_flat hr0]
      exact e3
  · have ei : i = qs.length := by omega
    subst ei
    refine .inl ⟨⟨_, SqL.of (s1 _ _ hr), by rw [List.length_map]; exact Nat.le_refl _⟩, q D H1 s1 hD ?_⟩
    rw [hlq, List.take_length] at e1
    exact e1
end
end Lr
namespace Lr
open PySem PySem.Spec PyProof.Rows L2 Lf
section
variable {P : Program} {w : World} {K : PySem.W.Frag} {mg : Str → Option Value} {base : Heap} {CD CB : Addr}
def spRL (CD CB : Addr) : Sp := fun vs H Q _ => ∃ (b d r dx : Addr) (hand pic log : Str) (num : Int) (w0 : Nat) (R0 : List (List Nat)) (recs : List (List (List Nat))), vs = [.ref b] ∧ H b = some (.ins CB dx (bfl num d (w0 : Int) r)) ∧ DskAt CD H d (.str hand) (.str pic) (.str log) .non num ∧ b ≠ d ∧ H r = some (.lst (rowV R0)) ∧
  parseL (tl log) = ((if recs = [] then none else some w0), recs, log.length) ∧ log.length ≤ 1000000 ∧ R0.length + recs.flatten.length ≤ 1000 ∧ w0 + recs.length ≤ 1000 ∧
  ∀ H', Kp3 b d r H H' → H' b = some (.ins CB dx (bfl num d ((w0 + recs.length : Nat) : Int) r)) → DskAt CD H' d (.str hand) (.str pic) (.str log) .non num → H' r = some (.lst (rowV (R0 ++ recs.flatten))) → Q .non H'
abbrev sRL : Stmt := inClass sBook 6
theorem scRL : FnScope ["self", "picture", "log", "first", "records", "at", "number", "rows"] ["self"] (defScope sRL) := ⟨rfl, rfl, rfl, by decide +kernel, rfl, by decide +kernel, by decide +kernel⟩
set_option maxHeartbeats 4000000 in
theorem ok_rl {f : Addr} {fd : FuncData} (F : Fun K "_read_log" "Book._read_log" sRL f fd) (T : Tk K mg CD CB) (m_Disk_picture : MCal P w K mg base 1 CD "picture" ["self"] (spSdpicture CD)) (m_Disk_log : MCal P w K mg base 1 CD "log" ["self"] (spSdlog CD))
    (m_Disk_lay : MCal P w K mg base 1 CD "lay" ["self", "picture", "log"] (spLay CD)) (c_parsed : Callee P w K mg base 4 "parsed" ["log"] spPar) : FnOk P w K mg base CX0 5 f fd ["self"] (spRL CD CB) := by
  refine F.ok scRL (fun vs H Q E h => ?_) (fun cdv A outer s H vs Q E hr h => ?_)
  · obtain ⟨b, d, r, dx, hand, pic, log, num, w0, R0, recs, rfl, _⟩ := h
    rfl
  · obtain ⟨b, d, r, dx, hand, pic, log, num, w0, R0, recs, rfl, hb, D, nbd, hR, hpar, hlog, hR1, hw1, q⟩ := h
    have nd := scRL.nd
    refine ⟨_, (pss_cons (ps_par (i := 1) (j := 2) (by rfl) nd rfl rfl (by decide) rfl rfl (pa_cons (pm_own0 m_Disk_picture T.cDisk (hr.mono (by decide)) (pe_fld (pv 0) rfl)) (pa_cons (pm_own0 m_Disk_log T.cDisk (hr.mono (by decide)) (pe_fld (pv 0) rfl)) pa_nil)) (by rfl))
  (pss_cons (ps_asg (pe_own c_parsed (hr.mono (by decide)) (by rfl) (pa_cons (pv 2) pa_nil)) (pg_tup rfl (pgs_cons (pg_name (i := 3) nd rfl (Or.inl rfl)) (pgs_cons (pg_name (i := 4) nd rfl (Or.inl rfl)) (pgs_cons (pg_name (i := 5) nd rfl (Or.inl rfl)) pgs_nil)))))
  (pss_cons (ps_expr (pm_own m_Disk_lay T.cDisk (hr.mono (by decide)) (pe_fld (pv 0) rfl) (pa_cons (pv 1) (pa_cons (pe_slice sl_str (pv 2) po_none (po_some (pv 5))) pa_nil))))
  (pss_cons (ps_if (pt_cmpR op_isN (pv 3) pe_non (nomark _))
  (pss_one ps_retN)
  pss_nil)
  (pss_one (ps_for PassesOwn.never rfl (pi_enumK (by rfl) T.enumerate (pa_cons (pv 4) pa_nil) (pk_cons (pv 3) pk_nil)) (pg_tup rfl (pgs_cons (pg_name (i := 6) nd rfl (Or.inl rfl)) (pgs_cons (pg_name (i := 7) nd rfl (Or.inl rfl)) pgs_nil)))
  (pss_one (ps_if (pt_cmpR op_ge (pv 6) (pe_fld (pv 0) rfl) (nomark _))
  (pss_cons (ps_expr (pe_bm PySem.F.plainAttrs_list PySem.F.slot_list_extend PySem.F.type_list_extend mt_extend (pe_fld (pv 0) rfl) (pa_cons (pv 7) pa_nil)))
  (pss_one (ps_fld (pv 0) (pe_op op_add (pv 6) pe_int) rfl)))
  pss_nil)))))))), ?_⟩
    have ez : sizeLine = 16777216 := by decide +kernel
    obtain ⟨dy, hd⟩ := id D
    have nbr : b ≠ r := fun e => by rw [e, hR] at hb; cases hb
    have ndr : d ≠ r := fun e => by rw [e, hR] at hd; cases hd
    have nm : ∀ (m : Str) (p l f : V) (n : Int), (m == "_hand") = false → (m == "_picture") = false → (m == "_log") = false → (m == "_fall") = false → (m == "_holder") = false → (dfl (.str hand) p l f n).lookup m = none := fun m p l f n h1 h2 h3 h4 h5 => dfl_m h1 h2 h3 h4 h5
    refine ⟨_, rfl, b, CB, dx, _, _, rfl, hb, T.cBook, T.bDisk, bfl_disk, d, dy, _, rfl, hd, nm _ _ _ _ _ (by decide +kernel) (by decide +kernel) (by decide +kernel) (by decide +kernel) (by decide +kernel), d, _, _, _, _, num, rfl, D, ?_⟩
    refine ⟨_, rfl, b, CB, dx, _, _, rfl, hb, T.cBook, T.bDisk, bfl_disk, d, dy, _, rfl, hd, nm _ _ _ _ _ (by decide +kernel) (by decide +kernel) (by decide +kernel) (by decide +kernel) (by decide +kernel), d, _, _, _, _, num, rfl, D, ?_⟩
    refine ⟨_, _, rfl, ?_⟩
    refine ⟨_, rfl, log, rfl, hlog, fun p rr qs H1 s1 hp hrr hprr ep er ra => ?_⟩
    rw [hpar] at ep ra
    dsimp only at ep ra
    refine ⟨p, _, rfl, SqT.of ep, rfl, _, _, rfl, _, _, rfl, _, _, rfl, rfl, ?_⟩
    have D1 : DskAt CD H1 d (.str hand) (.str pic) (.str log) .non num := D.imp fun _ e => s1 _ _ e
    have hb1 := s1 _ _ hb
    have hd1 := s1 _ _ hd
    refine ⟨_, rfl, b, CB, dx, _, _, rfl, hb1, T.cBook, T.bDisk, bfl_disk, d, dy, _, rfl, hd1, nm _ _ _ _ _ (by decide +kernel) (by decide +kernel) (by decide +kernel) (by decide +kernel) (by decide +kernel), _, rfl, _, rfl, _, rfl, _, rfl, log, rfl, by omega, ?_⟩
    rw [cut_all]
    refine ⟨d, _, _, _, _, num, _, _, rfl, D1, fun H2 k2 D2 => ?_⟩
    have hb2 := k2 _ _ nbd hb1
    have hR2 := k2 _ _ ndr.symm (s1 _ _ hR)
    have nrrd : rr ≠ d := fun e => by rw [e, hd] at hrr; cases hrr
    have er2 := k2 _ _ nrrd er
    have k02 : Kp3 b d r H H2 := fun x o h1 h2 h3 h4 => k2 _ _ h2 (s1 _ _ h4)
    have ra2 : RowsAll H rr H2 qs recs := ra.keep fun x o h0 _ h => k2 _ _ (fun e => by rw [e, hd] at h0; cases h0) h
    have hlq := ra.len
    show tSeq _ _ _ [some (.ref b), some (.str pic), some (.str log), some (optV (if recs = [] then none else some w0)), some (.ref rr), some (.int ((log.length : Nat) : Int)), none, none] _
    by_cases e : recs = []
    · have eo : (if recs = [] then none else some w0) = none := if_pos e
      rw [eo]
      refine ⟨_, rfl, rfl, _, rfl, iteT ?_⟩
      refine q H2 k02 ?_ D2 ?_
      · rw [e]
        exact hb2
      · rw [e, List.flatten_nil, List.append_nil]
        exact hR2
    · have eo : (if recs = [] then none else some w0) = some w0 := if_neg e
      rw [eo]
      refine ⟨_, rfl, rfl, _, rfl, iteF ?_⟩
      refine ⟨_, rfl, _, rfl, rr, _, (w0 : Int), rfl, rfl, by omega, by omega, SqL.of er2, for_it (walk_enumK (xs := qs.map V.ref)) (fun i σ H3 => H3 b = some (.ins CB dx (bfl num d ((w0 + i : Nat) : Int) r)) ∧ DskAt CD H3 d (.str hand) (.str pic) (.str log) .non num ∧ H3 r = some (.lst (rowV (R0 ++ (recs.take i).flatten))) ∧ H3 rr = some (.lst (qs.map V.ref)) ∧ RowsAll H rr H3 qs recs ∧ Kp3 b d r H H3 ∧
          ∃ y6 y7, σ = [some (.ref b), some (.str pic), some (.str log), some (.int (w0 : Int)), some (.ref rr), some (.int ((log.length : Nat) : Int)), y6, y7])
        ⟨hb2, D2, by rw [List.take_zero, List.flatten_nil, List.append_nil]; exact hR2, er2, ra2, k02, none, none, rfl⟩ (fun i σ H3 _ p => SqL.of p.2.2.2.1) (fun i v σ H3 H4 hi p y => ?_) (fun σ H3 p => ?_)⟩
      · obtain ⟨hb3, D3, hR3, er3, ra3, k03, y6, y7, rfl⟩ := p
        obtain ⟨T1, u1, u2, rfl, hT, rfl, hu1, hu2⟩ := y
        cases Option.some.inj hu1
        have hi' : i < recs.length := by
          rw [List.length_map, hlq] at hi
          exact hi
        obtain ⟨q0, rows, hq0, hr0, hf0, hqr, eq0⟩ := ra3.get i hi'
        have evq : u2 = .ref q0 := by
          have hu3 : (qs.map V.ref)[i]? = some u2 := hu2
          rw [List.getElem?_map, hq0] at hu3
          exact (Option.some.inj hu3).symm
        subst evq
        have nbT : b ≠ T1 := ne_of_none hb3 hT
        have nrT : r ≠ T1 := ne_of_none hR3 hT
        have nqT : q0 ≠ T1 := ne_of_none eq0 hT
        have nrrT : rr ≠ T1 := ne_of_none er3 hT
        have ndT : d ≠ T1 := by
          obtain ⟨dz, z⟩ := D3
          exact ne_of_none z hT
        have nqr : q0 ≠ r := fun z => by rw [z, hR] at hf0; cases hf0
        have nqb : q0 ≠ b := fun z => by rw [z, hb] at hf0; cases hf0
        have nrrr : rr ≠ r := fun z => by rw [z, hR] at hrr; cases hrr
        have nrrb : rr ≠ b := fun z => by rw [z, hb] at hrr; cases hrr
        have h4 : ∀ (x : Addr) (o : HO), x ≠ T1 → H3 x = some o → (upd H3 T1 (.tup [.int ((w0 : Int) + (i : Nat)), .ref q0])) x = some o := fun x o n e => by rw [upd_ne n]; exact e
        have hb4 := h4 b _ nbT hb3
        have hr4 := h4 r _ nrT hR3
        have hq4 := h4 q0 _ nqT eq0
        have fl := flat_le recs (i + 1)
        rw [take_flat hr0, List.length_append] at fl
        refine ⟨T1, _, rfl, SqT.of upd_same, rfl, _, _, rfl, _, _, rfl, rfl, ?_⟩
        refine ⟨_, rfl, _, rfl, b, CB, dx, _, _, rfl, hb4, T.cBook, T.bWrit, bfl_writ, _, _, rfl, rfl, _, rfl, ite2 (fun c => ?_) (fun c => absurd (decide_eq_true (by omega)) c)⟩
        refine ⟨_, rfl, b, CB, dx, _, _, rfl, hb4, T.cBook, T.bRows, bfl_rows, .inl ⟨rfl, _, SqL.of hr4⟩, _, rfl, r, q0, _, _, rfl, rfl, hr4, hq4, ?_, ?_⟩
        · rw [rowV, rowV, List.length_map, List.length_map, List.length_append, ez]
          omega
        have eR : rowV (R0 ++ (recs.take i).flatten) ++ rowV rows = rowV (R0 ++ (recs.take (i + 1)).flatten) := by
          rw [take_flat hr0, ← List.append_assoc, rowV, rowV, rowV, List.map_append (l₂ := rows)]
        rw [eR]
        refine ⟨_, rfl, _, _, rfl, rfl, _, rfl, b, CB, dx, _, rfl, by rw [upd_ne nbr]; exact hb4, T.cBook, T.bWrit, (by show 4 < 1000; decide), ?_⟩
        rw [put_writ]
        have el : ((w0 : Int) + ((i : Nat) : Int)) + 1 = ((w0 + (i + 1) : Nat) : Int) := by omega
        have far : ∀ (x : Addr) (o : HO), x ≠ b → x ≠ r → x ≠ T1 → H3 x = some o → (upd (upd (upd H3 T1 (.tup [.int ((w0 : Int) + (i : Nat)), .ref q0])) r (.lst (rowV (R0 ++ (recs.take (i + 1)).flatten)))) b (.ins CB dx (bfl num d ((w0 + (i + 1) : Nat) : Int) r))) x = some o := fun x o n1 n2 n3 z => by
          rw [upd_ne n1, upd_ne n2, upd_ne n3]
          exact z
        dsimp only
        rw [el]
        refine ⟨upd_same, D3.imp fun _ z => far _ _ nbd.symm ndr ndT z, by rw [upd_ne nbr.symm, upd_same], far _ _ nrrb nrrr nrrT er3, ?_, ?_, _, _, rfl⟩
        · exact ra3.keep fun x o h0 _ z => far _ _ (fun z2 => by rw [z2, hb] at h0; cases h0) (fun z2 => by rw [z2, hR] at h0; cases h0) (ne_of_none z hT) z
        · exact fun x o n1 n2 n3 z => far _ _ n1 n3 (ne_of_none (k03 x o n1 n2 n3 z) hT) (k03 x o n1 n2 n3 z)
      · obtain ⟨hb3, D3, hR3, er3, ra3, k03, y6, y7, rfl⟩ := p
        rw [List.length_map, hlq] at hb3
        rw [List.length_map, hlq, List.take_length] at hR3
        exact q H3 k03 hb3 D3 hR3
end
end Lr
namespace Lr
open PySem PySem.Spec PyProof.Rows L2 Lf
section
variable {P : Program} {w : World} {K : PySem.W.Frag} {mg : Str → Option Value} {base : Heap} {CD CB : Addr}
/-- all but two stay -/
def Kp2 (a b : Addr) (H H' : Hp) : Prop := ∀ x o, x ≠ a → x ≠ b → H x = some o → H' x = some o
def spBInit (CD CB : Addr) : Sp := fun vs H Q _ => ∃ (b d dx : Addr) (hand : Str) (hand0 : V) (pic log : Str) (n : Int) (w : Nat) (R : List (List Nat)), vs = [.ref b, .ref d, .str hand] ∧ H b = some (.ins CB dx []) ∧ DskAt CD H d hand0 (.str pic) (.str log) .non n ∧ (hand0 = .non ∨ hand0 = .str hand) ∧ b ≠ d ∧ KeptL (tl pic) (tl log) w R ∧
  ∀ H' r, Kp2 b d H H' → H r = none → BkAt CD CB H' b d r hand pic log (n + 1) w R → Q .non H'
abbrev sBInit : Stmt := inClass sBook 0
theorem scBInit : FnScope ["self", "disk", "hand", "pictured", "records", "_", "rows", "row"] ["self", "disk", "hand"] (defScope sBInit) := ⟨rfl, rfl, rfl, by decide +kernel, rfl, by decide +kernel, by decide +kernel⟩
set_option maxHeartbeats 4000000 in
theorem ok_binit {f : Addr} {fd : FuncData} (F : Fun K "__init__" "Book.__init__" sBInit f fd) (T : Tk K mg CD CB) (m_Disk_picture : MCal P w K mg base 1 CD "picture" ["self"] (spSdpicture CD)) (m_Disk_hold : MCal P w K mg base 1 CD "hold" ["self", "hand"] (spHold CD))
    (m_Book__read_log : MCal P w K mg base 5 CB "_read_log" ["self"] (spRL CD CB)) (c_parsed : Callee P w K mg base 4 "parsed" ["log"] spPar) : FnOk P w K mg base CX0 6 f fd ["self", "disk", "hand"] (spBInit CD CB) := by
  refine F.ok scBInit (fun vs H Q E h => ?_) (fun cdv A outer s H vs Q E hr h => ?_)
  · obtain ⟨b, d, dx, hand, hand0, pic, log, n, w, R, rfl, _⟩ := h
    rfl
  · obtain ⟨b, d, dx, hand, hand0, pic, log, n, w, R, rfl, hb, D, hh, nbd, ke, q⟩ := h
    have nd := scBInit.nd
    refine ⟨_, (pss_cons (ps_fld (pv 0) (pm_own m_Disk_hold T.cDisk (hr.mono (by decide)) (pv 1) (pa_cons (pv 2) pa_nil)) rfl)
  (pss_cons (ps_fld (pv 0) (pv 1) rfl)
  (pss_cons (ps_asg (pe_own c_parsed (hr.mono (by decide)) (by rfl) (pa_cons (pm_own0 m_Disk_picture T.cDisk (hr.mono (by decide)) (pv 1)) pa_nil)) (pg_tup rfl (pgs_cons (pg_name (i := 3) nd rfl (Or.inl rfl)) (pgs_cons (pg_name (i := 4) nd rfl (Or.inl rfl)) (pgs_cons (pg_name (i := 5) nd rfl (Or.inl rfl)) pgs_nil)))))
  (Evl.pss_cut (ps_fld (pv 0) (pe_ifExp (pt_cmpR op_isN (pv 3) pe_non (nomark _)) pe_int (pv 3)) rfl)
  (pss_cons (ps_fld (pv 0) (pe_lc2 (own := [("rows", 6), ("row", 7)]) (vs1 := [7]) (g := gName 6) (g1 := gName 7) (tt := tYes) (tt1 := tYes) (wi1 := iList K (tVar 6)) rfl nd (pi_list (pv 4)) (blkOk_by (own := [("rows", 6), ("row", 7)]) (N := ["self", "disk", "hand", "pictured", "records", "_", "rows", "row"]) (sc := defScope sBInit) (by decide +kernel)) (by decide) (fun _ _ _ _ _ => (pg_name (i := 6) nd rfl (Or.inl rfl))) (fun _ _ _ _ _ => pts_nil) (fun _ _ _ _ _ => (show PI _ _ _ (iList K (tVar 6)) from pi_list (pv 6))) (fun _ _ _ _ _ => (pg_name (i := 7) nd rfl (Or.inl rfl))) (fun _ _ _ _ _ => pts_nil) (fun _ _ _ _ _ => (pv 7))) rfl)
  (pss_one (ps_expr (pm_own0 m_Book__read_log T.cBook (hr.mono (by decide)) (pv 0))))))))), ?_⟩
    have ez : sizeLine = 16777216 := by decide +kernel
    obtain ⟨dy, hd⟩ := id D
    have nm : ∀ (h p l f : V) (n : Int) (m : Str), (m == "_hand") = false → (m == "_picture") = false → (m == "_log") = false → (m == "_fall") = false → (m == "_holder") = false → (dfl h p l f n).lookup m = none := fun h p l f n m h1 h2 h3 h4 h5 => dfl_m h1 h2 h3 h4 h5
    refine ⟨_, rfl, d, dy, _, rfl, hd, nm _ _ _ _ _ _ (by decide +kernel) (by decide +kernel) (by decide +kernel) (by decide +kernel) (by decide +kernel), _, rfl, d, _, _, _, _, n, hand, rfl, D, hh, fun H1 k1 D1 => ?_⟩
    have hb1 := k1 _ _ nbd hb
    refine ⟨_, rfl, b, CB, dx, _, rfl, hb1, T.cBook, T.bNum, (by show 0 < 1000; decide), ?_⟩
    refine ⟨_, rfl, _, rfl, b, CB, dx, _, rfl, upd_same, T.cBook, T.bDisk, (by show 1 < 1000; decide), ?_⟩
    generalize eH2 : upd (upd H1 b (.ins CB dx (putF "_number" (.int (n + 1)) []))) b (.ins CB dx (putF "_disk" (.ref d) (putF "_number" (.int (n + 1)) []))) = H2
    have hb2 : H2 b = some (.ins CB dx (putF "_disk" (.ref d) (putF "_number" (.int (n + 1)) []))) := by
      rw [← eH2]
      exact upd_same
    have k2 : Kp b H1 H2 := by
      rw [← eH2]
      exact ((Kp.refl b H1).mut).mut
    have k02 : Kp2 b d H H2 := fun x o h1 h2 h3 => k2 _ _ h1 (k1 _ _ h2 h3)
    have D2 : DskAt CD H2 d (.str hand) (.str pic) (.str log) .non (n + 1) := D1.imp fun _ z => k2 _ _ nbd.symm z
    obtain ⟨dz, hd2⟩ := id D2
    have hls := ke.lens
    rw [← len_tl, ← len_tl] at hls
    refine ⟨_, rfl, d, dz, _, rfl, hd2, nm _ _ _ _ _ _ (by decide +kernel) (by decide +kernel) (by decide +kernel) (by decide +kernel) (by decide +kernel), d, _, _, _, _, _, rfl, D2, pic, rfl, by omega, fun p rr qs H3 s3 hp hrr hprr ep er ra => ?_⟩
    obtain ⟨w0, R0, recs, eR, ew, hrl, hpar, hpic, hdr⟩ := ke.read
    refine ⟨p, _, rfl, SqT.of ep, rfl, _, _, rfl, _, _, rfl, _, _, rfl, rfl, ?_⟩
    have hb3 := s3 _ _ hb2
    have D3 : DskAt CD H3 d (.str hand) (.str pic) (.str log) .non (n + 1) := D2.imp fun _ z => s3 _ _ z
    -- written
    refine ⟨fun σ' H' => ∃ y3 y5, H' = upd H3 b (.ins CB dx (putF "_written" (.int (w0 : Int)) (putF "_disk" (.ref d) (putF "_number" (.int (n + 1)) [])))) ∧ σ' = [some (.ref b), some (.ref d), some (.str hand), y3, some (.ref rr), y5, none, none], ?_, fun σ' H' hm => ?_⟩
    · rcases hpic with ⟨e1, e2, e3⟩ | e1
      · rw [e1]
        refine ⟨_, rfl, rfl, _, rfl, iteT ⟨_, rfl, b, CB, dx, _, rfl, hb3, T.cBook, T.bWrit, (by show 2 < 1000; decide), _, _, ?_, rfl⟩⟩
        rw [e3]
        rfl
      · rw [e1]
        exact ⟨_, rfl, rfl, _, rfl, iteF ⟨_, rfl, _, rfl, b, CB, dx, _, rfl, hb3, T.cBook, T.bWrit, (by show 2 < 1000; decide), _, _, rfl, rfl⟩⟩
    obtain ⟨y3, y5, rfl, rfl⟩ := hm
    have efl : (parseL (tl pic)).2.1.flatten = R0 := by
      rcases hpic with ⟨e1, e2, e3⟩ | e1
      · rw [e1, e2]
        rfl
      · rw [e1]
        simp
    have hR1000 : R.length ≤ 1000 := by
      obtain ⟨_, _, _, _, _, _, _, _, _, h6, _⟩ := ke
      exact h6
    have hlR : R0.length + recs.flatten.length ≤ 1000 := by
      rw [eR, List.length_append] at hR1000
      exact hR1000
    have nrrb : rr ≠ b := fun z => by rw [z, hb2] at hrr; cases hrr
    have er4 : (upd H3 b (.ins CB dx (putF "_written" (.int (w0 : Int)) (putF "_disk" (.ref d) (putF "_number" (.int (n + 1)) []))))) rr = some (.lst (qs.map V.ref)) := by
      rw [upd_ne nrrb]
      exact er
    have ra4 := ra.keep (H' := upd H3 b (.ins CB dx (putF "_written" (.int (w0 : Int)) (putF "_disk" (.ref d) (putF "_number" (.int (n + 1)) []))))) fun x o h0 _ h => by
      rw [upd_ne (fun z => by rw [z, hb2] at h0; cases h0)]
      exact h
    unfold tSeq sFld
    refine lc2_flat er4 ra4 (by rw [efl, ez]; omega) fun r H5 s5 hr5 e5 => ?_
    rw [efl] at e5
    have hb5 := s5 _ _ (upd_same (H := H3) (a := b) (o := .ins CB dx (putF "_written" (.int (w0 : Int)) (putF "_disk" (.ref d) (putF "_number" (.int (n + 1)) [])))))
    refine ⟨_, rfl, b, CB, dx, _, rfl, hb5, T.cBook, T.bRows, (by show 3 < 1000; decide), ?_⟩
    have nrb : r ≠ b := fun z => by rw [z, upd_same] at hr5; cases hr5
    have k25 : Kp b H2 H5 := fun x o n1 h => s5 _ _ (by rw [upd_ne n1]; exact s3 _ _ h)
    have hrf : H r = none := by
      cases e : H r with
      | none => rfl
      | some o =>
        have nrd : r ≠ d := fun z => by
          rw [z, upd_ne nbd.symm] at hr5
          obtain ⟨_, z2⟩ := D3
          rw [z2] at hr5
          cases hr5
        have := s3 _ _ (k02 r o nrb nrd e)
        rw [upd_ne nrb, this] at hr5
        cases hr5
    refine ⟨_, rfl, b, dx, bfl (n + 1) d (w0 : Int) r, rfl, upd_same, bfl_m (by decide +kernel) (by decide +kernel) (by decide +kernel) (by decide +kernel), b, d, r, dx, hand, pic, log, n + 1, w0, R0, recs, rfl, upd_same, D2.imp fun _ z => by rw [upd_ne nbd.symm]; exact k25 _ _ nbd.symm z, nbd, by rw [upd_ne nrb]; exact e5, ?_, by omega, hlR, ?_, fun H7 k7 hb7 D7 hr7 => ?_⟩
    · rw [hpar, len_tl]
    · have := ke.w_le
      omega
    · refine q H7 r (fun x o n1 n2 h => k7 x o n1 n2 (fun z => by rw [z, hrf] at h; cases h) (by rw [upd_ne n1]; exact k25 _ _ n1 (k02 _ _ n1 n2 h))) hrf ⟨⟨dx, by rw [ew]; exact hb7⟩, D7, by rw [eR]; exact hr7, ke⟩
end
end Lr
namespace Lr
open PySem PySem.Spec PyProof.Rows L2 Lf
section
variable {X : Cx} {C : Addr} {tail : List Value} {B make start : String}
/-- X(), X an own class of errors without an __init__ of its own -/
theorem pmk_own0 {x : Str} {p pos : Pos} (F : ExcBaseFacts B make start tail) (ex : PySem.W.excIn X.K C tail make = true) (at_ : X.mg x = some (.ref C)) (kp : PySem.W.keepIn X.K (.ref C) = true) (ra : Raises X (.ref C)) (gl : Gl X x)
    (nodb : (x == ("__debug__" : Str)) = false := by decide) : PMk X (.Call (.Name x p) [] [] pos) (fun _ H Q => Q (.ref C) none H) := by
  intro pins s σ H Q J h
  refine wpAny_Call_Name_kw (ld_glob J gl at_ (PySem.W.callWith_K0 J.kIn kp ?_) nodb)
  obtain ⟨_, _, _, _, _, _, _, _, _, _, _, _, _, _, _, _, _, isC, isN, noI, ty⟩ := exc_obj J.kIn ex
  exact wpAny_call_exc_subT F ty isC isN noI (fun g e made => mk_of J made ra h (J.hok.gone made.new)) (Nat.zero_le _)
end
/-- what the top says of Fallen -/
structure Fal (K : PySem.W.Frag) (mg : Str → Option Value) (CF : Addr) : Prop where
  gP : mg "Fallen" = some (.ref CF)
  xP : PySem.W.excIn K CF [.type "ValueError", .type "Exception", .type "BaseException", .type "object"] "ValueError.__new__" = true
  kP : PySem.W.keepIn K (.ref CF) = true
  bP : PySem.W.subIn K (.ref CF) (.type "BaseException") = some true
  tP : PySem.W.typeIn K (.ref CF) = some (.type "type")
section
variable {P : Program} {w : World} {K : PySem.W.Frag} {mg : Str → Option Value} {base : Heap} {CD CB CF : Addr}
def spDWriteX (CD CF : Addr) : Sp := fun vs H Q E => ∃ (p : Addr) (hand pic fall : V) (log x : Str) (n : Int), vs = [.ref p, .str x] ∧ DskAt CD H p hand pic (.str log) fall n ∧ log.length + x.length ≤ sizeLine ∧
  ((fall = .non ∧ ∀ H', Kp p H H' → DskAt CD H' p hand pic (.str (log ++ x)) .non n → Q .non H') ∨
   ∃ k : Nat, fall = .int (k : Int) ∧ ∀ H', Kp p H H' → DskAt CD H' p hand pic (.str (log ++ cutS x none (some (k : Int)))) .non (n + 1) → E (.ref CF) none H')
theorem ok_dwriteX {f : Addr} {fd : FuncData} (F : Fun K "write" "Disk.write" sDWrite f fd) (T : Tk K mg CD CB) (Fl : Fal K mg CF) : FnOk P w K mg base (L2.CX P w) 1 f fd ["self", "record"] (spDWriteX CD CF) := by
  refine F.okX scDWrite (fun vs H Q E h => ?_) (fun cdv A outer s H vs Q E hr h => ?_)
  · obtain ⟨p, hand, pic, fall, log, x, n, rfl, _⟩ := h
    rfl
  · obtain ⟨p, hand, pic, fall, log, x, n, rfl, ⟨dx, hp⟩, hl, q⟩ := h
    have nd := scDWrite.nd
    refine ⟨_, (pss_cons (ps_asg (pe_tup (pa_cons (pe_fld (pv 0) rfl) (pa_cons pe_non pa_nil))) (pg_tup rfl (pgs_cons (pg_name (i := 2) nd rfl (Or.inl rfl)) (pgs_cons (pg_fld (pv 0)) pgs_nil))))
  (pss_cons (ps_fldaug (pv 0) (pe_ifExp (pt_cmpR op_isN (pv 2) pe_non (nomark _)) (pv 1) (pe_slice sl_str (pv 1) po_none (po_some (pv 2)))) in_addS)
  (pss_one (ps_if (pt_cmpR op_notN (pv 2) pe_non (nomark _))
  (pss_cons (ps_fldaug (pv 0) pe_int in_add)
  (pss_one (ps_raise rfl (takes_of rfl rfl rfl rfl) (pmk_own0 PySem.F.excBase_ValueError Fl.xP Fl.gP Fl.kP (raises_own Fl.bP Fl.tP) rfl))))
  pss_nil)))), ?_⟩
    have hc : ∀ k : Nat, log.length + (cutS x none (some (k : Int))).length ≤ sizeLine := fun k => Nat.le_trans (Nat.add_le_add_left (cutS_length x _ _) _) hl
    refine ⟨_, rfl, p, CD, dx, _, _, rfl, hp, T.cDisk, T.dFall, dfl_fall, (by show 2 ≤ sizeLine; decide), fun t ht => ?_⟩
    have npt : p ≠ t := ne_of_none hp ht
    refine ⟨t, _, rfl, SqT.of upd_same, rfl, _, _, rfl, _, _, rfl, ⟨_, rfl, p, CD, dx, _, rfl, (by rw [upd_ne npt]; exact hp), T.cDisk, T.dFall, (by show 5 < 1000; decide), ?_⟩⟩
    rw [put_fall]
    rcases q with ⟨rfl, q⟩ | ⟨k, rfl, q⟩
    · refine ⟨rfl, _, rfl, p, CD, dx, _, _, rfl, upd_same, T.cDisk, T.dLog, dfl_log, ?_⟩
      refine ⟨_, rfl, rfl, _, rfl, iteT ⟨_, rfl, ?_⟩⟩
      refine ⟨_, _, rfl, rfl, hl, dx, _, upd_same, (by show 5 < 1000; decide), ?_⟩
      rw [put_log]
      refine ⟨_, rfl, rfl, _, rfl, iteF ?_⟩
      exact q _ ((((Kp.refl p H).new ht).mut).mut) ⟨dx, upd_same⟩
    · refine ⟨rfl, _, rfl, p, CD, dx, _, _, rfl, upd_same, T.cDisk, T.dLog, dfl_log, ?_⟩
      refine ⟨_, rfl, rfl, _, rfl, iteF ⟨_, rfl, _, rfl, _, rfl, x, rfl, by have := Nat.le_trans (Nat.le_add_left x.length log.length) hl; exact this, ?_⟩⟩
      refine ⟨_, _, rfl, rfl, hc k, dx, _, upd_same, (by show 5 < 1000; decide), ?_⟩
      rw [put_log]
      refine ⟨_, rfl, rfl, _, rfl, iteT ?_⟩
      refine ⟨_, rfl, p, CD, dx, _, _, rfl, upd_same, T.cDisk, T.dHold, dfl_holder, _, _, rfl, rfl, dx, _, upd_same, (by show 5 < 1000; decide), ?_⟩
      rw [put_holder]
      exact q _ (((((Kp.refl p H).new ht).mut).mut).mut) ⟨dx, upd_same⟩
end
end Lr
namespace Lr
open PySem PySem.Spec PyProof.Rows L2 Lf
theorem cut_takeS (x : Str) (c : Nat) : cutS x none (some (c : Int)) = S ((tl x).take c) := by
  refine TL.ext_tl ?_
  show ((tl x).drop (HT.sIx x.length 0 none)).take (HT.sIx x.length x.length (some (c : Int)) - HT.sIx x.length 0 none) = (tl x).take c
  rw [HT.sIx_none, HT.sIx_nat, List.drop_zero, Nat.sub_zero]
  have hl := len_tl x
  rcases Nat.le_total c x.length with h | h
  · rw [Nat.min_eq_left h]
  · rw [Nat.min_eq_right h, List.take_of_length_le (by omega), List.take_of_length_le (by omega)]
section
variable {P : Program} {w : World} {K : PySem.W.Frag} {mg : Str → Option Value} {base : Heap} {CD CB : Addr}
def spRLc (CD CB : Addr) : Sp := fun vs H Q _ => ∃ (b d r dx : Addr) (hand pic log : Str) (num : Int) (a w0 : Nat) (R0 : List (List Nat)) (recs : List (List (List Nat))), vs = [.ref b] ∧ H b = some (.ins CB dx (bfl num d (w0 : Int) r)) ∧ DskAt CD H d (.str hand) (.str pic) (.str log) .non num ∧ b ≠ d ∧ H r = some (.lst (rowV R0)) ∧
  parseL (tl log) = ((if recs = [] then none else some w0), recs, a) ∧ a ≤ log.length ∧ log.length ≤ 1000000 ∧ R0.length + recs.flatten.length ≤ 1000 ∧ w0 + recs.length ≤ 1000 ∧
  ∀ H', Kp3 b d r H H' → H' b = some (.ins CB dx (bfl num d ((w0 + recs.length : Nat) : Int) r)) → DskAt CD H' d (.str hand) (.str pic) (.str (S ((tl log).take a))) .non num → H' r = some (.lst (rowV (R0 ++ recs.flatten))) → Q .non H'
set_option maxHeartbeats 4000000 in
theorem ok_rlc {f : Addr} {fd : FuncData} (F : Fun K "_read_log" "Book._read_log" sRL f fd) (T : Tk K mg CD CB) (m_Disk_picture : MCal P w K mg base 1 CD "picture" ["self"] (spSdpicture CD)) (m_Disk_log : MCal P w K mg base 1 CD "log" ["self"] (spSdlog CD))
    (m_Disk_lay : MCal P w K mg base 1 CD "lay" ["self", "picture", "log"] (spLay CD)) (c_parsed : Callee P w K mg base 4 "parsed" ["log"] spPar) : FnOk P w K mg base CX0 5 f fd ["self"] (spRLc CD CB) := by
  refine F.ok scRL (fun vs H Q E h => ?_) (fun cdv A outer s H vs Q E hr h => ?_)
  · obtain ⟨b, d, r, dx, hand, pic, log, num, a, w0, R0, recs, rfl, _⟩ := h
    rfl
  · obtain ⟨b, d, r, dx, hand, pic, log, num, a, w0, R0, recs, rfl, hb, D, nbd, hR, hpar, hal, hlog, hR1, hw1, q⟩ := h
    have nd := scRL.nd
    refine ⟨_, (pss_cons (ps_par (i := 1) (j := 2) (by rfl) nd rfl rfl (by decide) rfl rfl (pa_cons (pm_own0 m_Disk_picture T.cDisk (hr.mono (by decide)) (pe_fld (pv 0) rfl)) (pa_cons (pm_own0 m_Disk_log T.cDisk (hr.mono (by decide)) (pe_fld (pv 0) rfl)) pa_nil)) (by rfl))
  (pss_cons (ps_asg (pe_own c_parsed (hr.mono (by decide)) (by rfl) (pa_cons (pv 2) pa_nil)) (pg_tup rfl (pgs_cons (pg_name (i := 3) nd rfl (Or.inl rfl)) (pgs_cons (pg_name (i := 4) nd rfl (Or.inl rfl)) (pgs_cons (pg_name (i := 5) nd rfl (Or.inl rfl)) pgs_nil)))))
  (pss_cons (ps_expr (pm_own m_Disk_lay T.cDisk (hr.mono (by decide)) (pe_fld (pv 0) rfl) (pa_cons (pv 1) (pa_cons (pe_slice sl_str (pv 2) po_none (po_some (pv 5))) pa_nil))))
  (pss_cons (ps_if (pt_cmpR op_isN (pv 3) pe_non (nomark _))
  (pss_one ps_retN)
  pss_nil)
  (pss_one (ps_for PassesOwn.never rfl (pi_enumK (by rfl) T.enumerate (pa_cons (pv 4) pa_nil) (pk_cons (pv 3) pk_nil)) (pg_tup rfl (pgs_cons (pg_name (i := 6) nd rfl (Or.inl rfl)) (pgs_cons (pg_name (i := 7) nd rfl (Or.inl rfl)) pgs_nil)))
  (pss_one (ps_if (pt_cmpR op_ge (pv 6) (pe_fld (pv 0) rfl) (nomark _))
  (pss_cons (ps_expr (pe_bm PySem.F.plainAttrs_list PySem.F.slot_list_extend PySem.F.type_list_extend mt_extend (pe_fld (pv 0) rfl) (pa_cons (pv 7) pa_nil)))
  (pss_one (ps_fld (pv 0) (pe_op op_add (pv 6) pe_int) rfl)))
  pss_nil)))))))), ?_⟩
    have ez : sizeLine = 16777216 := by decide +kernel
    obtain ⟨dy, hd⟩ := id D
    have nbr : b ≠ r := fun e => by rw [e, hR] at hb; cases hb
    have ndr : d ≠ r := fun e => by rw [e, hR] at hd; cases hd
    have nm : ∀ (m : Str) (p l f : V) (n : Int), (m == "_hand") = false → (m == "_picture") = false → (m == "_log") = false → (m == "_fall") = false → (m == "_holder") = false → (dfl (.str hand) p l f n).lookup m = none := fun m p l f n h1 h2 h3 h4 h5 => dfl_m h1 h2 h3 h4 h5
    refine ⟨_, rfl, b, CB, dx, _, _, rfl, hb, T.cBook, T.bDisk, bfl_disk, d, dy, _, rfl, hd, nm _ _ _ _ _ (by decide +kernel) (by decide +kernel) (by decide +kernel) (by decide +kernel) (by decide +kernel), d, _, _, _, _, num, rfl, D, ?_⟩
    refine ⟨_, rfl, b, CB, dx, _, _, rfl, hb, T.cBook, T.bDisk, bfl_disk, d, dy, _, rfl, hd, nm _ _ _ _ _ (by decide +kernel) (by decide +kernel) (by decide +kernel) (by decide +kernel) (by decide +kernel), d, _, _, _, _, num, rfl, D, ?_⟩
    refine ⟨_, _, rfl, ?_⟩
    refine ⟨_, rfl, log, rfl, hlog, fun p rr qs H1 s1 hp hrr hprr ep er ra => ?_⟩
    rw [hpar] at ep ra
    dsimp only at ep ra
    refine ⟨p, _, rfl, SqT.of ep, rfl, _, _, rfl, _, _, rfl, _, _, rfl, rfl, ?_⟩
    have D1 : DskAt CD H1 d (.str hand) (.str pic) (.str log) .non num := D.imp fun _ e => s1 _ _ e
    have hb1 := s1 _ _ hb
    have hd1 := s1 _ _ hd
    refine ⟨_, rfl, b, CB, dx, _, _, rfl, hb1, T.cBook, T.bDisk, bfl_disk, d, dy, _, rfl, hd1, nm _ _ _ _ _ (by decide +kernel) (by decide +kernel) (by decide +kernel) (by decide +kernel) (by decide +kernel), _, rfl, _, rfl, _, rfl, _, rfl, log, rfl, by omega, ?_⟩
    rw [cut_takeS]
    refine ⟨d, _, _, _, _, num, _, _, rfl, D1, fun H2 k2 D2 => ?_⟩
    have hb2 := k2 _ _ nbd hb1
    have hR2 := k2 _ _ ndr.symm (s1 _ _ hR)
    have nrrd : rr ≠ d := fun e => by rw [e, hd] at hrr; cases hrr
    have er2 := k2 _ _ nrrd er
    have k02 : Kp3 b d r H H2 := fun x o h1 h2 h3 h4 => k2 _ _ h2 (s1 _ _ h4)
    have ra2 : RowsAll H rr H2 qs recs := ra.keep fun x o h0 _ h => k2 _ _ (fun e => by rw [e, hd] at h0; cases h0) h
    have hlq := ra.len
    show tSeq _ _ _ [some (.ref b), some (.str pic), some (.str log), some (optV (if recs = [] then none else some w0)), some (.ref rr), some (.int ((a : Nat) : Int)), none, none] _
    by_cases e : recs = []
    · have eo : (if recs = [] then none else some w0) = none := if_pos e
      rw [eo]
      refine ⟨_, rfl, rfl, _, rfl, iteT ?_⟩
      refine q H2 k02 ?_ D2 ?_
      · rw [e]
        exact hb2
      · rw [e, List.flatten_nil, List.append_nil]
        exact hR2
    · have eo : (if recs = [] then none else some w0) = some w0 := if_neg e
      rw [eo]
      refine ⟨_, rfl, rfl, _, rfl, iteF ?_⟩
      refine ⟨_, rfl, _, rfl, rr, _, (w0 : Int), rfl, rfl, by omega, by omega, SqL.of er2, for_it (walk_enumK (xs := qs.map V.ref)) (fun i σ H3 => H3 b = some (.ins CB dx (bfl num d ((w0 + i : Nat) : Int) r)) ∧ DskAt CD H3 d (.str hand) (.str pic) (.str (S ((tl log).take a))) .non num ∧ H3 r = some (.lst (rowV (R0 ++ (recs.take i).flatten))) ∧ H3 rr = some (.lst (qs.map V.ref)) ∧ RowsAll H rr H3 qs recs ∧ Kp3 b d r H H3 ∧
          ∃ y6 y7, σ = [some (.ref b), some (.str pic), some (.str log), some (.int (w0 : Int)), some (.ref rr), some (.int ((a : Nat) : Int)), y6, y7])
        ⟨hb2, D2, by rw [List.take_zero, List.flatten_nil, List.append_nil]; exact hR2, er2, ra2, k02, none, none, rfl⟩ (fun i σ H3 _ p => SqL.of p.2.2.2.1) (fun i v σ H3 H4 hi p y => ?_) (fun σ H3 p => ?_)⟩
      · obtain ⟨hb3, D3, hR3, er3, ra3, k03, y6, y7, rfl⟩ := p
        obtain ⟨T1, u1, u2, rfl, hT, rfl, hu1, hu2⟩ := y
        cases Option.some.inj hu1
        have hi' : i < recs.length := by
          rw [List.length_map, hlq] at hi
          exact hi
        obtain ⟨q0, rows, hq0, hr0, hf0, hqr, eq0⟩ := ra3.get i hi'
        have evq : u2 = .ref q0 := by
          have hu3 : (qs.map V.ref)[i]? = some u2 := hu2
          rw [List.getElem?_map, hq0] at hu3
          exact (Option.some.inj hu3).symm
        subst evq
        have nbT : b ≠ T1 := ne_of_none hb3 hT
        have nrT : r ≠ T1 := ne_of_none hR3 hT
        have nqT : q0 ≠ T1 := ne_of_none eq0 hT
        have nrrT : rr ≠ T1 := ne_of_none er3 hT
        have ndT : d ≠ T1 := by
          obtain ⟨dz, z⟩ := D3
          exact ne_of_none z hT
        have nqr : q0 ≠ r := fun z => by rw [z, hR] at hf0; cases hf0
        have nqb : q0 ≠ b := fun z => by rw [z, hb] at hf0; cases hf0
        have nrrr : rr ≠ r := fun z => by rw [z, hR] at hrr; cases hrr
        have nrrb : rr ≠ b := fun z => by rw [z, hb] at hrr; cases hrr
        have h4 : ∀ (x : Addr) (o : HO), x ≠ T1 → H3 x = some o → (upd H3 T1 (.tup [.int ((w0 : Int) + (i : Nat)), .ref q0])) x = some o := fun x o n e => by rw [upd_ne n]; exact e
        have hb4 := h4 b _ nbT hb3
        have hr4 := h4 r _ nrT hR3
        have hq4 := h4 q0 _ nqT eq0
        have fl := flat_le recs (i + 1)
        rw [take_flat hr0, List.length_append] at fl
        refine ⟨T1, _, rfl, SqT.of upd_same, rfl, _, _, rfl, _, _, rfl, rfl, ?_⟩
        refine ⟨_, rfl, _, rfl, b, CB, dx, _, _, rfl, hb4, T.cBook, T.bWrit, bfl_writ, _, _, rfl, rfl, _, rfl, ite2 (fun c => ?_) (fun c => absurd (decide_eq_true (by omega)) c)⟩
        refine ⟨_, rfl, b, CB, dx, _, _, rfl, hb4, T.cBook, T.bRows, bfl_rows, .inl ⟨rfl, _, SqL.of hr4⟩, _, rfl, r, q0, _, _, rfl, rfl, hr4, hq4, ?_, ?_⟩
        · rw [rowV, rowV, List.length_map, List.length_map, List.length_append, ez]
          omega
        have eR : rowV (R0 ++ (recs.take i).flatten) ++ rowV rows = rowV (R0 ++ (recs.take (i + 1)).flatten) := by
          rw [take_flat hr0, ← List.append_assoc, rowV, rowV, rowV, List.map_append (l₂ := rows)]
        rw [eR]
        refine ⟨_, rfl, _, _, rfl, rfl, _, rfl, b, CB, dx, _, rfl, by rw [upd_ne nbr]; exact hb4, T.cBook, T.bWrit, (by show 4 < 1000; decide), ?_⟩
        rw [put_writ]
        have el : ((w0 : Int) + ((i : Nat) : Int)) + 1 = ((w0 + (i + 1) : Nat) : Int) := by omega
        have far : ∀ (x : Addr) (o : HO), x ≠ b → x ≠ r → x ≠ T1 → H3 x = some o → (upd (upd (upd H3 T1 (.tup [.int ((w0 : Int) + (i : Nat)), .ref q0])) r (.lst (rowV (R0 ++ (recs.take (i + 1)).flatten)))) b (.ins CB dx (bfl num d ((w0 + (i + 1) : Nat) : Int) r))) x = some o := fun x o n1 n2 n3 z => by
          rw [upd_ne n1, upd_ne n2, upd_ne n3]
          exact z
        dsimp only
        rw [el]
        refine ⟨upd_same, D3.imp fun _ z => far _ _ nbd.symm ndr ndT z, by rw [upd_ne nbr.symm, upd_same], far _ _ nrrb nrrr nrrT er3, ?_, ?_, _, _, rfl⟩
        · exact ra3.keep fun x o h0 _ z => far _ _ (fun z2 => by rw [z2, hb] at h0; cases h0) (fun z2 => by rw [z2, hR] at h0; cases h0) (ne_of_none z hT) z
        · exact fun x o n1 n2 n3 z => far _ _ n1 n3 (ne_of_none (k03 x o n1 n2 n3 z) hT) (k03 x o n1 n2 n3 z)
      · obtain ⟨hb3, D3, hR3, er3, ra3, k03, y6, y7, rfl⟩ := p
        rw [List.length_map, hlq] at hb3
        rw [List.length_map, hlq, List.take_length] at hR3
        exact q H3 k03 hb3 D3 hR3
end
end Lr
namespace Lr
open PySem PySem.Spec PyProof.Rows L2 Lf
section
variable {P : Program} {w : World} {K : PySem.W.Frag} {mg : Str → Option Value} {base : Heap} {CD CB : Addr}
def spBInitc (CD CB : Addr) : Sp := fun vs H Q _ => ∃ (b d dx : Addr) (hand : Str) (hand0 : V) (pic log : Str) (n : Int) (a w : Nat) (R : List (List Nat)), vs = [.ref b, .ref d, .str hand] ∧ H b = some (.ins CB dx []) ∧ DskAt CD H d hand0 (.str pic) (.str log) .non n ∧ (hand0 = .non ∨ hand0 = .str hand) ∧ b ≠ d ∧ KeptL (tl pic) ((tl log).take a) w R ∧ parseL (tl log) = parseL ((tl log).take a) ∧ a ≤ log.length ∧ log.length ≤ 1000000 ∧
  ∀ H' r, Kp2 b d H H' → H r = none → BkAt CD CB H' b d r hand pic (S ((tl log).take a)) (n + 1) w R → Q .non H'
set_option maxHeartbeats 4000000 in
theorem ok_binitc {f : Addr} {fd : FuncData} (F : Fun K "__init__" "Book.__init__" sBInit f fd) (T : Tk K mg CD CB) (m_Disk_picture : MCal P w K mg base 1 CD "picture" ["self"] (spSdpicture CD)) (m_Disk_hold : MCal P w K mg base 1 CD "hold" ["self", "hand"] (spHold CD))
    (m_Book__read_log : MCal P w K mg base 5 CB "_read_log" ["self"] (spRLc CD CB)) (c_parsed : Callee P w K mg base 4 "parsed" ["log"] spPar) : FnOk P w K mg base CX0 6 f fd ["self", "disk", "hand"] (spBInitc CD CB) := by
  refine F.ok scBInit (fun vs H Q E h => ?_) (fun cdv A outer s H vs Q E hr h => ?_)
  · obtain ⟨b, d, dx, hand, hand0, pic, log, n, a, w, R, rfl, _⟩ := h
    rfl
  · obtain ⟨b, d, dx, hand, hand0, pic, log, n, a, w, R, rfl, hb, D, hh, nbd, ke, hsame, hal, hlog, q⟩ := h
    have nd := scBInit.nd
    refine ⟨_, (pss_cons (ps_fld (pv 0) (pm_own m_Disk_hold T.cDisk (hr.mono (by decide)) (pv 1) (pa_cons (pv 2) pa_nil)) rfl)
  (pss_cons (ps_fld (pv 0) (pv 1) rfl)
  (pss_cons (ps_asg (pe_own c_parsed (hr.mono (by decide)) (by rfl) (pa_cons (pm_own0 m_Disk_picture T.cDisk (hr.mono (by decide)) (pv 1)) pa_nil)) (pg_tup rfl (pgs_cons (pg_name (i := 3) nd rfl (Or.inl rfl)) (pgs_cons (pg_name (i := 4) nd rfl (Or.inl rfl)) (pgs_cons (pg_name (i := 5) nd rfl (Or.inl rfl)) pgs_nil)))))
  (Evl.pss_cut (ps_fld (pv 0) (pe_ifExp (pt_cmpR op_isN (pv 3) pe_non (nomark _)) pe_int (pv 3)) rfl)
  (pss_cons (ps_fld (pv 0) (pe_lc2 (own := [("rows", 6), ("row", 7)]) (vs1 := [7]) (g := gName 6) (g1 := gName 7) (tt := tYes) (tt1 := tYes) (wi1 := iList K (tVar 6)) rfl nd (pi_list (pv 4)) (blkOk_by (own := [("rows", 6), ("row", 7)]) (N := ["self", "disk", "hand", "pictured", "records", "_", "rows", "row"]) (sc := defScope sBInit) (by decide +kernel)) (by decide) (fun _ _ _ _ _ => (pg_name (i := 6) nd rfl (Or.inl rfl))) (fun _ _ _ _ _ => pts_nil) (fun _ _ _ _ _ => (show PI _ _ _ (iList K (tVar 6)) from pi_list (pv 6))) (fun _ _ _ _ _ => (pg_name (i := 7) nd rfl (Or.inl rfl))) (fun _ _ _ _ _ => pts_nil) (fun _ _ _ _ _ => (pv 7))) rfl)
  (pss_one (ps_expr (pm_own0 m_Book__read_log T.cBook (hr.mono (by decide)) (pv 0))))))))), ?_⟩
    have ez : sizeLine = 16777216 := by decide +kernel
    obtain ⟨dy, hd⟩ := id D
    have nm : ∀ (h p l f : V) (n : Int) (m : Str), (m == "_hand") = false → (m == "_picture") = false → (m == "_log") = false → (m == "_fall") = false → (m == "_holder") = false → (dfl h p l f n).lookup m = none := fun h p l f n m h1 h2 h3 h4 h5 => dfl_m h1 h2 h3 h4 h5
    refine ⟨_, rfl, d, dy, _, rfl, hd, nm _ _ _ _ _ _ (by decide +kernel) (by decide +kernel) (by decide +kernel) (by decide +kernel) (by decide +kernel), _, rfl, d, _, _, _, _, n, hand, rfl, D, hh, fun H1 k1 D1 => ?_⟩
    have hb1 := k1 _ _ nbd hb
    refine ⟨_, rfl, b, CB, dx, _, rfl, hb1, T.cBook, T.bNum, (by show 0 < 1000; decide), ?_⟩
    refine ⟨_, rfl, _, rfl, b, CB, dx, _, rfl, upd_same, T.cBook, T.bDisk, (by show 1 < 1000; decide), ?_⟩
    generalize eH2 : upd (upd H1 b (.ins CB dx (putF "_number" (.int (n + 1)) []))) b (.ins CB dx (putF "_disk" (.ref d) (putF "_number" (.int (n + 1)) []))) = H2
    have hb2 : H2 b = some (.ins CB dx (putF "_disk" (.ref d) (putF "_number" (.int (n + 1)) []))) := by
      rw [← eH2]
      exact upd_same
    have k2 : Kp b H1 H2 := by
      rw [← eH2]
      exact ((Kp.refl b H1).mut).mut
    have k02 : Kp2 b d H H2 := fun x o h1 h2 h3 => k2 _ _ h1 (k1 _ _ h2 h3)
    have D2 : DskAt CD H2 d (.str hand) (.str pic) (.str log) .non (n + 1) := D1.imp fun _ z => k2 _ _ nbd.symm z
    obtain ⟨dz, hd2⟩ := id D2
    have hls := ke.lens.1
    rw [← len_tl] at hls
    refine ⟨_, rfl, d, dz, _, rfl, hd2, nm _ _ _ _ _ _ (by decide +kernel) (by decide +kernel) (by decide +kernel) (by decide +kernel) (by decide +kernel), d, _, _, _, _, _, rfl, D2, pic, rfl, by omega, fun p rr qs H3 s3 hp hrr hprr ep er ra => ?_⟩
    obtain ⟨w0, R0, recs, eR, ew, hrl, hpar, hpic, hdr⟩ := ke.read
    refine ⟨p, _, rfl, SqT.of ep, rfl, _, _, rfl, _, _, rfl, _, _, rfl, rfl, ?_⟩
    have hb3 := s3 _ _ hb2
    have D3 : DskAt CD H3 d (.str hand) (.str pic) (.str log) .non (n + 1) := D2.imp fun _ z => s3 _ _ z
    -- written
    refine ⟨fun σ' H' => ∃ y3 y5, H' = upd H3 b (.ins CB dx (putF "_written" (.int (w0 : Int)) (putF "_disk" (.ref d) (putF "_number" (.int (n + 1)) [])))) ∧ σ' = [some (.ref b), some (.ref d), some (.str hand), y3, some (.ref rr), y5, none, none], ?_, fun σ' H' hm => ?_⟩
    · rcases hpic with ⟨e1, e2, e3⟩ | e1
      · rw [e1]
        refine ⟨_, rfl, rfl, _, rfl, iteT ⟨_, rfl, b, CB, dx, _, rfl, hb3, T.cBook, T.bWrit, (by show 2 < 1000; decide), _, _, ?_, rfl⟩⟩
        rw [e3]
        rfl
      · rw [e1]
        exact ⟨_, rfl, rfl, _, rfl, iteF ⟨_, rfl, _, rfl, b, CB, dx, _, rfl, hb3, T.cBook, T.bWrit, (by show 2 < 1000; decide), _, _, rfl, rfl⟩⟩
    obtain ⟨y3, y5, rfl, rfl⟩ := hm
    have efl : (parseL (tl pic)).2.1.flatten = R0 := by
      rcases hpic with ⟨e1, e2, e3⟩ | e1
      · rw [e1, e2]
        rfl
      · rw [e1]
        simp
    have hR1000 : R.length ≤ 1000 := by
      obtain ⟨_, _, _, _, _, _, _, _, _, h6, _⟩ := ke
      exact h6
    have hlR : R0.length + recs.flatten.length ≤ 1000 := by
      rw [eR, List.length_append] at hR1000
      exact hR1000
    have nrrb : rr ≠ b := fun z => by rw [z, hb2] at hrr; cases hrr
    have er4 : (upd H3 b (.ins CB dx (putF "_written" (.int (w0 : Int)) (putF "_disk" (.ref d) (putF "_number" (.int (n + 1)) []))))) rr = some (.lst (qs.map V.ref)) := by
      rw [upd_ne nrrb]
      exact er
    have ra4 := ra.keep (H' := upd H3 b (.ins CB dx (putF "_written" (.int (w0 : Int)) (putF "_disk" (.ref d) (putF "_number" (.int (n + 1)) []))))) fun x o h0 _ h => by
      rw [upd_ne (fun z => by rw [z, hb2] at h0; cases h0)]
      exact h
    unfold tSeq sFld
    refine lc2_flat er4 ra4 (by rw [efl, ez]; omega) fun r H5 s5 hr5 e5 => ?_
    rw [efl] at e5
    have hb5 := s5 _ _ (upd_same (H := H3) (a := b) (o := .ins CB dx (putF "_written" (.int (w0 : Int)) (putF "_disk" (.ref d) (putF "_number" (.int (n + 1)) [])))))
    refine ⟨_, rfl, b, CB, dx, _, rfl, hb5, T.cBook, T.bRows, (by show 3 < 1000; decide), ?_⟩
    have nrb : r ≠ b := fun z => by rw [z, upd_same] at hr5; cases hr5
    have k25 : Kp b H2 H5 := fun x o n1 h => s5 _ _ (by rw [upd_ne n1]; exact s3 _ _ h)
    have hrf : H r = none := by
      cases e : H r with
      | none => rfl
      | some o =>
        have nrd : r ≠ d := fun z => by
          rw [z, upd_ne nbd.symm] at hr5
          obtain ⟨_, z2⟩ := D3
          rw [z2] at hr5
          cases hr5
        have := s3 _ _ (k02 r o nrb nrd e)
        rw [upd_ne nrb, this] at hr5
        cases hr5
    refine ⟨_, rfl, b, dx, bfl (n + 1) d (w0 : Int) r, rfl, upd_same, bfl_m (by decide +kernel) (by decide +kernel) (by decide +kernel) (by decide +kernel), b, d, r, dx, hand, pic, log, n + 1, a, w0, R0, recs, rfl, upd_same, D2.imp fun _ z => by rw [upd_ne nbd.symm]; exact k25 _ _ nbd.symm z, nbd, by rw [upd_ne nrb]; exact e5, ?_, hal, hlog, hlR, ?_, fun H7 k7 hb7 D7 hr7 => ?_⟩
    · rw [hsame, hpar, List.length_take, ← len_tl, Nat.min_eq_left hal]
    · have := ke.w_le
      omega
    · refine q H7 r (fun x o n1 n2 h => k7 x o n1 n2 (fun z => by rw [z, hrf] at h; cases h) (by rw [upd_ne n1]; exact k25 _ _ n1 (k02 _ _ n1 n2 h))) hrf ⟨⟨dx, by rw [ew]; exact hb7⟩, D7, by rw [eR]; exact hr7, ke⟩
end
end Lr
namespace Lr
open PySem PySem.Spec PyProof.Rows L2 Lf
theorem KeptL.cut {pic log : List Nat} {w : Nat} {R L : List (List Nat)} (h : KeptL pic log w R) (hne : L ≠ []) (hd : ∀ l ∈ L, Drawn l) (hl : R.length + L.length ≤ 1000) (k : Nat) :
    ∃ a w' R', KeptL pic ((log ++ (recL w L).take k).take a) w' R' ∧ parseL (log ++ (recL w L).take k) = parseL ((log ++ (recL w L).take k).take a) ∧ a ≤ (log ++ (recL w L).take k).length ∧
      (k < (recL w L).length → w' = w ∧ R' = R) ∧ ((recL w L).length ≤ k → w' = w + 1 ∧ R' = R ++ L) := by
  have gL : GoodRec L := drawn_good hne hd (by omega)
  have hw := h.w_le
  have hw60 : w < 10 ^ 60 := Nat.lt_of_le_of_lt hw (by decide +kernel)
  by_cases hk : k < (recL w L).length
  · refine ⟨log.length, w, R, ?_, ?_, by rw [List.length_append]; omega, fun _ => ⟨rfl, rfl⟩, fun z => absurd hk (by omega)⟩
    · rw [List.take_left']
      · exact h
      · rfl
    · rw [List.take_left' rfl]
      have bad := recAt_cut hw60 gL hk
      obtain ⟨w0, R0, recs, h0, h1, h2, h3, h4, h5, h6, h7⟩ := h
      have hf : recs.flatten.length ≤ 1000 := by
        rw [h3, List.length_append] at h6
        omega
      have hg : ∀ r ∈ recs, GoodRec r := fun r hr => drawn_good (h4 r hr) (fun l hl => h5 l (by rw [h3]; exact List.mem_append_right _ (mem_flat hr l hl))) (Nat.le_trans (len_flat hr) hf)
      have big : 2000 < 10 ^ 60 := by decide +kernel
      rw [h1]
      by_cases e : recs = []
      · rw [e]
        show parseL ([] ++ _) = parseL []
        rw [List.nil_append, parse_nil]
        exact parse_bad bad
      · rw [parse_behind e hg (by omega), run_bad _ bad, parse_log e hg (by omega), List.append_nil]
        rfl
  · have hk2 : (recL w L).length ≤ k := by omega
    refine ⟨(log ++ recL w L).length, w + 1, R ++ L, ?_, ?_, ?_, fun z => absurd z hk, fun _ => ⟨rfl, rfl⟩⟩
    · rw [List.take_of_length_le hk2, List.take_length]
      exact h.more hne hd hl
    · rw [List.take_of_length_le hk2, List.take_length]
    · rw [List.take_of_length_le hk2]
      exact Nat.le_refl _
/-- an own method that may raise -/
def MCalX (CX : CXT) (P : Program) (w : World) (K : PySem.W.Frag) (mg : Str → Option Value) (base : Heap) (k : Nat) (C : Addr) (m : Str) (ps : List Str) (sp : Sp) : Prop :=
  ∃ (f : Addr) (fd : FuncData), FnOk P w K mg base CX k f fd ps sp ∧ Meth K C m f ∧ Binds K fd ps []
section
variable {X : Cx} {CX : CXT} {k : Nat} {C : Addr} {m x : Str} {ps : List Str} {sp : Sp} {o e : Expr} {es : List Expr} {ta : TE} {t : TA} {p apos pos : Pos} {E : XK}
theorem pm_ownX {pl : Sem Bool} (hx : Passes CX X E) (M : MCalX CX X.prog X.w X.K X.mg X.base k C m ps sp) (c : Cls X.K C) (hr : Room k X.A) (he : PE X o ta) (ha : PA X (e :: es) t)
    (hst : starEach (e :: es) X.env = (false, eval e X.env) :: starEach es X.env := by rfl) (hpl : (backTo pos (starEach es X.env)).any (·.1) = false := by rfl)
    (ht : eval (.Call (.Attribute o m apos) (e :: es) [] pos) X.env = (do
      let ov ← eval o X.env
      standAt apos.atName
      let (f, first) ← holding [ov] (getMethod ov m pl)
      callWith pos f first (backTo pos (starEach (e :: es) X.env)) (backToKw pos (keywordEach [] X.env))) := by rfl) :
    PE X (.Call (.Attribute o m apos) (e :: es) [] pos) (tMeth C m sp [] E ta t) := by
  obtain ⟨f, fd, F, hm, hb⟩ := M
  exact pe_meth he c hm F hr hb .nil hx ha hst hpl ht
end
/-- as BkAt, but a fall may wait -/
structure BkF (CD CB : Addr) (H : Hp) (b d r : Addr) (hand pic log : Str) (fall : V) (num : Int) (w : Nat) (R : List (List Nat)) : Prop where
  bk : ∃ dx, H b = some (.ins CB dx (bfl num d (w : Int) r))
  dk : DskAt CD H d (.str hand) (.str pic) (.str log) fall num
  rw : H r = some (.lst (rowV R))
  ke : KeptL (tl pic) (tl log) w R
theorem BkF.nbd {CD CB : Addr} {H : Hp} {b d r : Addr} {hand pic log : Str} {fall : V} {num : Int} {w : Nat} {R : List (List Nat)} (h : BkF CD CB H b d r hand pic log fall num w R) : b ≠ d := fun e => by
  obtain ⟨dx, h1⟩ := h.bk
  obtain ⟨dy, h2⟩ := h.dk
  rw [e, h2] at h1
  have := congrArg (fun o => match o with | some (HO.ins _ _ fs) => fs.length | _ => 0) h1
  exact absurd this (by show ¬ (5 = 4); decide)
section
variable {P : Program} {w : World} {K : PySem.W.Frag} {mg : Str → Option Value} {base : Heap} {CD CB CF : Addr}
def spFall (CD : Addr) : Sp := fun vs H Q _ => ∃ (p : Addr) (hand pic log fall x : V) (n : Int), vs = [.ref p, x] ∧ DskAt CD H p hand pic log fall n ∧ ∀ H', Kp p H H' → DskAt CD H' p hand pic log x n → Q .non H'
abbrev sFall : Stmt := inClass sDisk 4
theorem scFall : FnScope ["self", "signs"] ["self", "signs"] (defScope sFall) := ⟨rfl, rfl, rfl, by decide +kernel, rfl, by decide +kernel, by decide +kernel⟩
theorem ok_fall {f : Addr} {fd : FuncData} (F : Fun K "fall" "Disk.fall" sFall f fd) (T : Tk K mg CD CB) : FnOk P w K mg base CX0 1 f fd ["self", "signs"] (spFall CD) := by
  refine F.ok scFall (fun vs H Q E h => ?_) (fun cdv A outer s H vs Q E hr h => ?_)
  · obtain ⟨p, hand, pic, log, fall, x, n, rfl, _⟩ := h
    rfl
  · obtain ⟨p, hand, pic, log, fall, x, n, rfl, ⟨dx, hp⟩, q⟩ := h
    have nd := scFall.nd
    refine ⟨_, (pss_one (ps_fld (pv 0) (pv 1) rfl)), ?_⟩
    refine ⟨_, rfl, _, rfl, p, CD, dx, _, rfl, hp, T.cDisk, T.dFall, (by show 5 < 1000; decide), ?_⟩
    rw [put_fall]
    exact q _ (Kp.refl p H).mut ⟨dx, upd_same⟩
def spCheckF (CD CB : Addr) : Sp := fun vs H Q _ => ∃ (b d r : Addr) (hand pic log : Str) (fall : V) (num : Int) (w : Nat) (R : List (List Nat)), vs = [.ref b] ∧ BkF CD CB H b d r hand pic log fall num w R ∧ Q .non H
theorem ok_checkF {f : Addr} {fd : FuncData} (F : Fun K "check" "Book.check" sCheck f fd) (T : Tk K mg CD CB) (m_Disk_holder : MCal P w K mg base 1 CD "holder" ["self"] (spSdholder CD)) : FnOk P w K mg base CX0 2 f fd ["self"] (spCheckF CD CB) := by
  refine F.ok scCheck (fun vs H Q E h => ?_) (fun cdv A outer s H vs Q E hr h => ?_)
  · obtain ⟨b, d, r, hand, pic, log, fall, num, w, R, rfl, _⟩ := h
    rfl
  · obtain ⟨b, d, r, hand, pic, log, fall, num, w, R, rfl, B, q⟩ := h
    have nd := scCheck.nd
    refine ⟨_, (pss_one (ps_if (pt_cmpR op_ne (pm_own0 m_Disk_holder T.cDisk (hr.mono (by decide)) (pe_fld (pv 0) rfl)) (pe_fld (pv 0) rfl) (nomark _))
  (pss_one ps_never)
  pss_nil)), ?_⟩
    obtain ⟨dx, hb⟩ := B.bk
    obtain ⟨dy, hd⟩ := id B.dk
    refine ⟨_, rfl, b, CB, dx, _, _, rfl, hb, T.cBook, T.bDisk, bfl_disk, d, dy, _, rfl, hd, dfl_m (by decide +kernel) (by decide +kernel) (by decide +kernel) (by decide +kernel) (by decide +kernel), d, _, _, _, _, num, rfl, B.dk, ?_⟩
    refine ⟨_, rfl, b, CB, dx, _, _, rfl, hb, T.cBook, T.bNum, bfl_num, rfl, _, rfl, ?_⟩
    rw [decide_eq_true (rfl : V.int num = V.int num)]
    exact iteF q
def spBWriteX (K : PySem.W.Frag) (CD CB CF : Addr) : Sp := fun vs H Q E => ∃ (b d r l : Addr) (hand pic log : Str) (fall : V) (num : Int) (w : Nat) (R L : List (List Nat)), vs = [.ref b, .ref l] ∧ BkF CD CB H b d r hand pic log fall num w R ∧ H l = some (.lst (rowV L)) ∧ l ≠ r ∧ L ≠ [] ∧ (∀ x ∈ L, Drawn x) ∧ R.length + L.length ≤ 1000 ∧
  ((fall = .non ∧ ∀ H', Kp3 b d r H H' → BkAt CD CB H' b d r hand pic (log ++ S (recL w L)) num (w + 1) (R ++ L) → Q .non H') ∨
   ∃ k : Nat, fall = .int (k : Int) ∧ ∀ H', Kp d H H' → DskAt CD H' d (.str hand) (.str pic) (.str (log ++ S ((recL w L).take k))) .non (num + 1) → E (.ref CF) none H')
set_option maxHeartbeats 4000000 in
theorem ok_bwriteX {f : Addr} {fd : FuncData} (F : Fun K "write" "Book.write" sBWrite f fd) (T : Tk K mg CD CB) (m_Book_check : MCal P w K mg base 2 CB "check" ["self"] (spCheckF CD CB)) (m_Disk_write : MCalX (L2.CX P w) P w K mg base 1 CD "write" ["self", "record"] (spDWriteX CD CF))
    (c_record : Callee P w K mg base 2 "record" ["number", "rows"] (spRec K)) : FnOk P w K mg base (L2.CX P w) 3 f fd ["self", "rows"] (spBWriteX K CD CB CF) := by
  refine F.okX scBWrite (fun vs H Q E h => ?_) (fun cdv A outer s H vs Q E hr h => ?_)
  · obtain ⟨b, d, r, l, hand, pic, log, fall, num, w, R, L, rfl, _⟩ := h
    rfl
  · obtain ⟨b, d, r, l, hand, pic, log, fall, num, w, R, L, rfl, B, hl, hlr, hne, hdr, hlen, q⟩ := h
    have nd := scBWrite.nd
    refine ⟨_, (pss_cons (ps_expr (pm_own0 m_Book_check T.cBook (hr.mono (by decide)) (pv 0)))
  (pss_one (ps_if (pt_cmpR op_gt (pe_callB call_len_seq (by rfl) T.len PySem.boot_len (pa_cons (pv 1) pa_nil)) pe_int (nomark _))
  (pss_cons (ps_expr (pm_ownX (passes_call (takes_of rfl rfl rfl rfl) fun _ _ _ _ h => h) m_Disk_write T.cDisk (hr.mono (by decide)) (pe_fld (pv 0) rfl) (pa_cons (pe_own c_record (hr.mono (by decide)) (by rfl) (pa_cons (pe_fld (pv 0) rfl) (pa_cons (pv 1) pa_nil))) pa_nil)))
  (pss_cons (ps_fldaug (pv 0) pe_int in_add)
  (pss_one (ps_expr (pe_bm PySem.F.plainAttrs_list PySem.F.slot_list_extend PySem.F.type_list_extend mt_extend (pe_fld (pv 0) rfl) (pa_cons (pv 1) pa_nil))))))
  pss_nil))), ?_⟩
    have ez : sizeLine = 16777216 := by decide +kernel
    obtain ⟨dx, hb⟩ := B.bk
    obtain ⟨dy, hd⟩ := id B.dk
    have nbr : b ≠ r := fun e => by rw [e, B.rw] at hb; cases hb
    have ndr : d ≠ r := fun e => by rw [e, B.rw] at hd; cases hd
    have nm : (bfl num d (w : Int) r).lookup ("check" : Str) = none := bfl_m (by decide +kernel) (by decide +kernel) (by decide +kernel) (by decide +kernel)
    have nm2 : (dfl (.str hand) (.str pic) (.str log) fall num).lookup ("write" : Str) = none := dfl_m (by decide +kernel) (by decide +kernel) (by decide +kernel) (by decide +kernel) (by decide +kernel)
    refine ⟨_, rfl, b, dx, _, rfl, hb, nm, b, d, r, hand, pic, log, fall, num, w, R, rfl, B, ?_⟩
    refine ⟨_, rfl, l, _, rfl, .inl (SqL.of hl), _, _, rfl, rfl, _, rfl, ?_⟩
    have c' : 0 < L.length := Nat.pos_of_ne_zero fun z => hne (List.eq_nil_of_length_eq_zero z)
    rw [rowV, List.length_map]
    refine ite2 (fun c => ?_) (fun c => absurd (decide_eq_true (by omega)) c)
    have ds := drawn_sum hdr (by omega)
    have hw := B.ke.w_le
    have hls := B.ke.lens
    have hrl := drawn_recL (n := w) hdr (by omega) hw
    refine ⟨_, rfl, b, CB, dx, _, _, rfl, hb, T.cBook, T.bDisk, bfl_disk, d, dy, _, rfl, hd, nm2, _, rfl, b, CB, dx, _, _, rfl, hb, T.cBook, T.bWrit, bfl_writ, _, rfl, w, l, L, rfl, Nat.lt_of_le_of_lt hw (by decide +kernel), SqL.of hl, by omega, ?_⟩
    refine ⟨d, _, _, fall, log, _, num, rfl, B.dk, by rw [S_len, len_tl, ez]; omega, ?_⟩
    rcases q with ⟨ef, q⟩ | ⟨k, ef, q⟩
    · refine .inl ⟨ef, fun H1 k1 D1 => ?_⟩
      have hb1 := k1 _ _ B.nbd hb
      refine ⟨_, rfl, b, CB, dx, _, _, rfl, hb1, T.cBook, T.bWrit, bfl_writ, _, _, rfl, rfl, dx, _, hb1, (by show 4 < 1000; decide), ?_⟩
      rw [put_writ]
      have hr2 : (upd H1 b (.ins CB dx (bfl num d ((w : Int) + 1) r))) r = some (.lst (rowV R)) := by
        rw [upd_ne nbr.symm]
        exact k1 _ _ ndr.symm B.rw
      have hl2 : (upd H1 b (.ins CB dx (bfl num d ((w : Int) + 1) r))) l = some (.lst (rowV L)) := by
        rw [upd_ne (fun z => by rw [z, hb] at hl; cases hl)]
        exact k1 _ _ (fun z => by rw [z, hd] at hl; cases hl) hl
      refine ⟨_, rfl, b, CB, dx, _, _, rfl, upd_same, T.cBook, T.bRows, bfl_rows, .inl ⟨rfl, _, SqL.of hr2⟩, _, rfl, r, l, _, _, rfl, rfl, hr2, hl2, by rw [rowV, rowV, List.length_map, List.length_map, ez]; omega, ?_⟩
      refine q _ (fun x o h1 h2 h3 h4 => by rw [upd_ne h3, upd_ne h1]; exact k1 _ _ h2 h4) ⟨⟨dx, ?_⟩, ?_, ?_, ?_⟩
      · rw [upd_ne nbr, upd_same]
        rfl
      · obtain ⟨dz, e⟩ := D1
        refine ⟨dz, ?_⟩
        rw [upd_ne ndr, upd_ne B.nbd.symm]
        exact e
      · rw [upd_same, rowV, rowV, rowV, List.map_append]
      · have e : tl (log ++ S (recL w L)) = tl log ++ recL w L := by
          show (log ++ S (recL w L)).cps.toList = _
          rw [Str.cps_append, Array.toList_append]
          rfl
        rw [e]
        exact B.ke.more hne hdr hlen
    · refine .inr ⟨k, ef, fun H1 k1 D1 => ?_⟩
      rw [cut_takeS, tl_S] at D1
      exact q H1 k1 D1
end
end Lr
namespace Lr
open PySem PySem.Spec PyProof.Rows L2 Lf
theorem fnok_toX {P : Program} {w : World} {K : PySem.W.Frag} {mg : Str → Option Value} {base : Heap} {k : Nat} {f : Addr} {fd : FuncData} {ps : List Str} {sp : Sp} (F : FnOk P w K mg base CX0 k f fd ps sp) (he : ∀ vs H Q E, sp vs H Q E → sp vs H Q E0) : FnOk P w K mg base (L2.CX P w) k f fd ps sp :=
  ⟨F.len, fun A outer s H args us vs Q E hr e0 b r h => codeAny_mono (F.run A outer s H args us vs Q E0 hr e0 b r (he _ _ _ _ h)) fun r s' q => by
    cases r with
    | error e => exact q.elim
    | ok fl => cases fl <;> exact q⟩
theorem fnok_or {P : Program} {w : World} {K : PySem.W.Frag} {mg : Str → Option Value} {base : Heap} {CX : CXT} {k : Nat} {f : Addr} {fd : FuncData} {ps : List Str} {sp sp' : Sp} (F : FnOk P w K mg base CX k f fd ps sp) (G : FnOk P w K mg base CX k f fd ps sp') : FnOk P w K mg base CX k f fd ps (fun vs H Q E => sp vs H Q E ∨ sp' vs H Q E) :=
  ⟨fun vs H Q E h => h.elim (F.len _ _ _ _) (G.len _ _ _ _), fun A outer s H args us vs Q E hr e0 b r h => h.elim (F.run A outer s H args us vs Q E hr e0 b r) (G.run A outer s H args us vs Q E hr e0 b r)⟩
section
variable {X : Cx} {CX : CXT} {k : Nat} {C : Addr} {m x : Str} {ps : List Str} {sp : Sp} {o e : Expr} {es : List Expr} {ta : TE} {t : TA} {p apos pos : Pos} {E : XK} {EW : L2.St → XK}
theorem pm_own0X {pl : Sem Bool} (hx : Passes CX X E) (M : MCalX CX X.prog X.w X.K X.mg X.base k C m ps sp) (c : Cls X.K C) (hr : Room k X.A) (he : PE X o ta)
    (ht : eval (.Call (.Attribute o m apos) [] [] pos) X.env = (do
      let ov ← eval o X.env
      standAt apos.atName
      let (f, first) ← holding [ov] (getMethod ov m pl)
      callWith pos f first (backTo pos (starEach [] X.env)) (backToKw pos (keywordEach [] X.env))) := by rfl) :
    PE X (.Call (.Attribute o m apos) [] [] pos) (tMeth C m sp [] E ta tNil) := by
  obtain ⟨f, fd, F, hm, hb⟩ := M
  exact pe_meth0 he c hm F hr hb .nil hx ht
/-- a method's call where what leaves may speak of the slots -/
def tMethW (C : Addr) (m : Str) (sp : Sp) (E : L2.St → XK) (ta : TE) (t : TA) : TE := fun σ H Q => ta σ H fun x H1 => ∃ a dx fs, x = .ref a ∧ H1 a = some (.ins C dx fs) ∧ fs.lookup m = none ∧ t σ H1 fun vs H2 => sp (x :: vs) H2 Q (E σ)
theorem pm_ownW {pl : Sem Bool} (out : ∀ σ, PassesAt CX X σ (EW σ)) (M : MCalX CX X.prog X.w X.K X.mg X.base k C m ps sp) (cl : Cls X.K C) (room : Room k X.A) (recv : PE X o ta) (args : PA X (e :: es) t)
    (se : starEach (e :: es) X.env = (false, eval e X.env) :: starEach es X.env := by rfl) (plain : (backTo pos (starEach es X.env)).any (·.1) = false := by rfl)
    (how : eval (.Call (.Attribute o m apos) (e :: es) [] pos) X.env = (do
      let ov ← eval o X.env
      standAt apos.atName
      let (f, first) ← holding [ov] (getMethod ov m pl)
      callWith pos f first (backTo pos (starEach (e :: es) X.env)) (backToKw pos (keywordEach [] X.env))) := by rfl) :
    PE X (.Call (.Attribute o m apos) (e :: es) [] pos) (tMethW C m sp EW ta t) := by
  obtain ⟨f, fd, F, me, bi⟩ := M
  constructor
  intro pins s σ H Q J h
  refine PySem.W.methodCall_KW (pl := pl) (thn (recv.run pins s σ H _ J h) fun u s1 ⟨y, H1, J1, ry, a, dx, fs, ey, at_a, noF, h1⟩ => ?_) how
  subst ey
  cases (show u = Value.ref a from ry)
  refine getmeth_ok J1 at_a cl me noF (PySem.W.callWith_K (first := [.ref a]) (h₀ := X.base) J.ok.mod.kin me.kp (thn (args.run pos pins s1 σ H1 _ J1 h1) fun us s2 ⟨vs, H2, J2, rv, h2⟩ => ⟨J2.kIn, ?_⟩) se plain)
  exact run_fnS (us := .ref a :: us) (vs := .ref a :: vs) F room bi (out σ) J2 (.cons rfl rv) h2
theorem pm_own0W {pl : Sem Bool} (out : ∀ σ, PassesAt CX X σ (EW σ)) (M : MCalX CX X.prog X.w X.K X.mg X.base k C m ps sp) (cl : Cls X.K C) (room : Room k X.A) (recv : PE X o ta)
    (how : eval (.Call (.Attribute o m apos) [] [] pos) X.env = (do
      let ov ← eval o X.env
      standAt apos.atName
      let (f, first) ← holding [ov] (getMethod ov m pl)
      callWith pos f first (backTo pos (starEach [] X.env)) (backToKw pos (keywordEach [] X.env))) := by rfl) :
    PE X (.Call (.Attribute o m apos) [] [] pos) (tMethW C m sp EW ta tNil) := by
  obtain ⟨f, fd, F, me, bi⟩ := M
  constructor
  intro pins s σ H Q J h
  refine PySem.W.methodCall_KW (pl := pl) (thn (recv.run pins s σ H _ J h) fun u s1 ⟨y, H1, J1, ry, a, dx, fs, ey, at_a, noF, h1⟩ => ?_) how
  subst ey
  cases (show u = Value.ref a from ry)
  refine getmeth_ok J1 at_a cl me noF ?_
  exact PySem.W.callWith_K0 (first := [.ref a]) J1.kIn me.kp (run_fnS (us := [.ref a]) (vs := [.ref a]) F room bi (out σ) J1 (.cons rfl .nil) h1)
end
/-- a book that another one has followed -/
def ElAt (CB : Addr) (H : Hp) (e d : Addr) (n : Int) : Prop := ∃ (dx : Addr) (k : Int) (w : Int) (r : Addr), H e = some (.ins CB dx (bfl k d w r)) ∧ k < n
section
variable {P : Program} {w : World} {K : PySem.W.Frag} {mg : Str → Option Value} {base : Heap} {CD CB CF : Addr}
def spEld0 (CD CB CF : Addr) : Sp := fun vs H Q E => ∃ (e d : Addr) (hand pic log fall : V) (n : Int), vs = [.ref e] ∧ ElAt CB H e d n ∧ DskAt CD H d hand pic log fall n ∧ E (.ref CF) none H
def spEld1 (CD CB CF : Addr) : Sp := fun vs H Q E => ∃ (e d : Addr) (x : V) (hand pic log fall : V) (n : Int), vs = [.ref e, x] ∧ ElAt CB H e d n ∧ DskAt CD H d hand pic log fall n ∧ E (.ref CF) none H
theorem ok_checkE {f : Addr} {fd : FuncData} (F : Fun K "check" "Book.check" sCheck f fd) (T : Tk K mg CD CB) (Fl : Fal K mg CF) (m_Disk_holder : MCal P w K mg base 1 CD "holder" ["self"] (spSdholder CD)) : FnOk P w K mg base (L2.CX P w) 2 f fd ["self"] (spEld0 CD CB CF) := by
  refine F.okX scCheck (fun vs H Q E h => ?_) (fun cdv A outer s H vs Q E hr h => ?_)
  · obtain ⟨e, d, hand, pic, log, fall, n, rfl, _⟩ := h
    rfl
  · obtain ⟨b, d, hand, pic, log, fall, n, rfl, ⟨dx, k, w0, r, hb, hk⟩, D, q⟩ := h
    have nd := scCheck.nd
    refine ⟨_, (pss_one (ps_if (pt_cmpR op_ne (pm_own0 m_Disk_holder T.cDisk (hr.mono (by decide)) (pe_fld (pv 0) rfl)) (pe_fld (pv 0) rfl) (nomark _))
      (pss_one (ps_raise rfl (takes_of rfl rfl rfl rfl) (pmk_own0 PySem.F.excBase_ValueError Fl.xP Fl.gP Fl.kP (raises_own Fl.bP Fl.tP) rfl)))
      pss_nil)), ?_⟩
    obtain ⟨dy, hd⟩ := id D
    refine ⟨_, rfl, b, CB, dx, _, _, rfl, hb, T.cBook, T.bDisk, bfl_disk, d, dy, _, rfl, hd, dfl_m (by decide +kernel) (by decide +kernel) (by decide +kernel) (by decide +kernel) (by decide +kernel), d, _, _, _, _, n, rfl, D, ?_⟩
    refine ⟨_, rfl, b, CB, dx, _, _, rfl, hb, T.cBook, T.bNum, bfl_num, rfl, _, rfl, ?_⟩
    rw [decide_eq_false (show ¬ (V.int n = V.int k) from fun z => by cases z; omega)]
    exact iteT q
theorem ok_rowsE {f : Addr} {fd : FuncData} (F : Fun K "rows" "Book.rows" sBRows f fd) (T : Tk K mg CD CB) (m_check : MCalX (L2.CX P w) P w K mg base 2 CB "check" ["self"] (spEld0 CD CB CF)) : FnOk P w K mg base (L2.CX P w) 3 f fd ["self"] (spEld0 CD CB CF) := by
  refine F.okX scBRows (fun vs H Q E h => ?_) (fun cdv A outer s H vs Q E hr h => ?_)
  · obtain ⟨e, d, hand, pic, log, fall, n, rfl, _⟩ := h
    rfl
  · obtain ⟨b, d, hand, pic, log, fall, n, rfl, El, D, q⟩ := h
    have nd := scBRows.nd
    refine ⟨_, (pss_cons (ps_expr (pm_own0X (passes_call (takes_of rfl rfl rfl rfl) fun _ _ _ _ h => h) m_check T.cBook (hr.mono (by decide)) (pv 0))) pss_never), ?_⟩
    obtain ⟨dx, k, w0, r, hb, hk⟩ := id El
    exact ⟨_, rfl, b, dx, _, rfl, hb, bfl_m (by decide +kernel) (by decide +kernel) (by decide +kernel) (by decide +kernel), b, d, hand, pic, log, fall, n, rfl, El, D, q⟩
theorem ok_writtenE {f : Addr} {fd : FuncData} (F : Fun K "written" "Book.written" sBWritten f fd) (T : Tk K mg CD CB) (m_check : MCalX (L2.CX P w) P w K mg base 2 CB "check" ["self"] (spEld0 CD CB CF)) : FnOk P w K mg base (L2.CX P w) 3 f fd ["self"] (spEld0 CD CB CF) := by
  refine F.okX scBWritten (fun vs H Q E h => ?_) (fun cdv A outer s H vs Q E hr h => ?_)
  · obtain ⟨e, d, hand, pic, log, fall, n, rfl, _⟩ := h
    rfl
  · obtain ⟨b, d, hand, pic, log, fall, n, rfl, El, D, q⟩ := h
    have nd := scBWritten.nd
    refine ⟨_, (pss_cons (ps_expr (pm_own0X (passes_call (takes_of rfl rfl rfl rfl) fun _ _ _ _ h => h) m_check T.cBook (hr.mono (by decide)) (pv 0))) pss_never), ?_⟩
    obtain ⟨dx, k, w0, r, hb, hk⟩ := id El
    exact ⟨_, rfl, b, dx, _, rfl, hb, bfl_m (by decide +kernel) (by decide +kernel) (by decide +kernel) (by decide +kernel), b, d, hand, pic, log, fall, n, rfl, El, D, q⟩
theorem ok_picE {f : Addr} {fd : FuncData} (F : Fun K "picture" "Book.picture" sBPic f fd) (T : Tk K mg CD CB) (m_check : MCalX (L2.CX P w) P w K mg base 2 CB "check" ["self"] (spEld0 CD CB CF)) : FnOk P w K mg base (L2.CX P w) 3 f fd ["self"] (spEld0 CD CB CF) := by
  refine F.okX scBPic (fun vs H Q E h => ?_) (fun cdv A outer s H vs Q E hr h => ?_)
  · obtain ⟨e, d, hand, pic, log, fall, n, rfl, _⟩ := h
    rfl
  · obtain ⟨b, d, hand, pic, log, fall, n, rfl, El, D, q⟩ := h
    have nd := scBPic.nd
    refine ⟨_, (pss_cons (ps_expr (pm_own0X (passes_call (takes_of rfl rfl rfl rfl) fun _ _ _ _ h => h) m_check T.cBook (hr.mono (by decide)) (pv 0))) pss_never), ?_⟩
    obtain ⟨dx, k, w0, r, hb, hk⟩ := id El
    exact ⟨_, rfl, b, dx, _, rfl, hb, bfl_m (by decide +kernel) (by decide +kernel) (by decide +kernel) (by decide +kernel), b, d, hand, pic, log, fall, n, rfl, El, D, q⟩
theorem ok_writeE {f : Addr} {fd : FuncData} (F : Fun K "write" "Book.write" sBWrite f fd) (T : Tk K mg CD CB) (m_check : MCalX (L2.CX P w) P w K mg base 2 CB "check" ["self"] (spEld0 CD CB CF)) : FnOk P w K mg base (L2.CX P w) 3 f fd ["self", "rows"] (spEld1 CD CB CF) := by
  refine F.okX scBWrite (fun vs H Q E h => ?_) (fun cdv A outer s H vs Q E hr h => ?_)
  · obtain ⟨e, d, x, hand, pic, log, fall, n, rfl, _⟩ := h
    rfl
  · obtain ⟨b, d, x, hand, pic, log, fall, n, rfl, El, D, q⟩ := h
    have nd := scBWrite.nd
    refine ⟨_, (pss_cons (ps_expr (pm_own0X (passes_call (takes_of rfl rfl rfl rfl) fun _ _ _ _ h => h) m_check T.cBook (hr.mono (by decide)) (pv 0))) pss_never), ?_⟩
    obtain ⟨dx, k, w0, r, hb, hk⟩ := id El
    exact ⟨_, rfl, b, dx, _, rfl, hb, bfl_m (by decide +kernel) (by decide +kernel) (by decide +kernel) (by decide +kernel), b, d, hand, pic, log, fall, n, rfl, El, D, q⟩
/-! ### a call of a book -/
def spDone (K : PySem.W.Frag) (CD CB : Addr) : Sp := fun vs H Q _ =>
  (∃ (b d r l : Addr) (hand pic log : Str) (fall : V) (num : Int) (w : Nat) (R L : List (List Nat)), vs = [.ref b, .str "write", .ref l] ∧ BkF CD CB H b d r hand pic log fall num w R ∧ H l = some (.lst (rowV L)) ∧ l ≠ r ∧ L ≠ [] ∧ (∀ x ∈ L, Drawn x) ∧ R.length + L.length ≤ 1000 ∧
  ((fall = .non ∧ ∀ H', Kp3 b d r H H' → BkAt CD CB H' b d r hand pic (log ++ S (recL w L)) num (w + 1) (R ++ L) → Q .non H') ∨
   ∃ k : Nat, fall = .int (k : Int) ∧ ∀ H', Kp d H H' → DskAt CD H' d (.str hand) (.str pic) (.str (log ++ S ((recL w L).take k))) .non (num + 1) → Q (.str "fallen") H')) ∨
  (∃ (b d r : Addr) (x : V) (hand pic log : Str) (num : Int) (w : Nat) (R : List (List Nat)), vs = [.ref b, .str "rows", x] ∧ BkAt CD CB H b d r hand pic log num w R ∧ ∀ p H', Same H H' → H p = none → H' p = some (.lst (rowV R)) → Q (.ref p) H') ∨
  (∃ (e d : Addr) (m : Str) (x : V) (hand pic log fall : V) (n : Int), vs = [.ref e, .str m, x] ∧ (m = "write" ∨ m = "rows" ∨ m = "picture" ∨ m = "written") ∧ ElAt CB H e d n ∧ DskAt CD H d hand pic log fall n ∧ Q (.str "fallen") H)
abbrev sDone : Stmt := topS 26
theorem scDone : FnScope ["_law_book", "_law_way", "_law_lines", "_law_told", "_law_caught", "e"] ["_law_book", "_law_way", "_law_lines"] (defScope sDone) := ⟨rfl, rfl, rfl, by decide +kernel, rfl, by decide +kernel, by decide +kernel⟩
theorem ok_done {f : Addr} {fd : FuncData} (F : Fun K "_law_done" "_law_done" sDone f fd) (T : Tk K mg CD CB) (Fl : Fal K mg CF) (eP : PySem.W.exmOne K (.ref CF) (.ref CF) = some true) (m_write : MCalX (L2.CX P w) P w K mg base 3 CB "write" ["self", "rows"] (fun vs H Q E => spBWriteX K CD CB CF vs H Q E ∨ spEld1 CD CB CF vs H Q E))
    (m_pic : MCalX (L2.CX P w) P w K mg base 3 CB "picture" ["self"] (spEld0 CD CB CF)) (m_rows : MCalX (L2.CX P w) P w K mg base 3 CB "rows" ["self"] (fun vs H Q E => spBRows CD CB vs H Q E ∨ spEld0 CD CB CF vs H Q E)) (m_writ : MCalX (L2.CX P w) P w K mg base 3 CB "written" ["self"] (spEld0 CD CB CF)) :
    FnOk P w K mg base CX0 4 f fd ["_law_book", "_law_way", "_law_lines"] (spDone K CD CB) := by
  refine F.ok scDone (fun vs H Q E h => ?_) (fun cdv A outer s H vs Q E hr h => ?_)
  · rcases h with ⟨b, d, r, l, hand, pic, log, fall, num, w, R, L, rfl, _⟩ | ⟨b, d, r, x, hand, pic, log, num, w, R, rfl, _⟩ | ⟨e, d, m, x, hand, pic, log, fall, n, rfl, _⟩ <;> rfl
  · have nd := scDone.nd
    refine ⟨_, (pss_cons (ps_set (i := 3) nd rfl (Or.inl rfl) pe_non)
      (pss_cons (ps_set (i := 4) nd rfl (Or.inl rfl) pe_non)
      (pss_cons (ps_try_as (i := 5) rfl rfl nd rfl rfl ⟨rfl, by decide, .inl Fl.gP⟩ takes0
        (fun W pn xe tk _ => (pss_one (ps_if (pt_cmpR op_eq (pv 1) pe_str (nomark _)) (pss_one (ps_set (i := 3) nd rfl (Or.inl rfl) (pm_ownW (fun σ => passAt tk σ) m_write T.cBook (hr.mono (by decide)) (pv 0) (pa_cons (pv 2) pa_nil))))
          (pss_one (ps_if (pt_cmpR op_eq (pv 1) pe_str (nomark _)) (pss_one (ps_set (i := 3) nd rfl (Or.inl rfl) (pm_own0W (fun σ => passAt tk σ) m_pic T.cBook (hr.mono (by decide)) (pv 0))))
          (pss_one (ps_if (pt_cmpR op_eq (pv 1) pe_str (nomark _)) (pss_one (ps_set (i := 3) nd rfl (Or.inl rfl) (pm_own0W (fun σ => passAt tk σ) m_rows T.cBook (hr.mono (by decide)) (pv 0))))
          (pss_one (ps_set (i := 3) nd rfl (Or.inl rfl) (pm_own0W (fun σ => passAt tk σ) m_writ T.cBook (hr.mono (by decide)) (pv 0)))))))))))
        (fun a oe cls d pn hz hf => (pss_one (ps_set (i := 4) nd rfl (Or.inl rfl) (pv 5)))))
      (pss_one (ps_ret (pe_ifExp (pt_cmpR op_isN (pv 4) pe_non (nomark _)) (pv 3) pe_str)))))), ?_⟩
    have ne : ∀ {a b : Str}, a ≠ b → decide (V.str a = V.str b) = false := fun h => decide_eq_false fun z => h (by cases z; rfl)
    have w1 : ("rows" : Str) ≠ "write" := by decide +kernel
    have w2 : ("rows" : Str) ≠ "picture" := by decide +kernel
    have w3 : ("picture" : Str) ≠ "write" := by decide +kernel
    have w4 : ("written" : Str) ≠ "write" := by decide +kernel
    have w5 : ("written" : Str) ≠ "picture" := by decide +kernel
    have w6 : ("written" : Str) ≠ "rows" := by decide +kernel
    have same : ∀ a : Str, decide (V.str a = V.str a) = true := fun a => decide_eq_true rfl
    rcases h with ⟨b, d, r, l, hand, pic, log, fall, num, w, R, L, rfl, B, hl, hlr, hne, hdr, hlen, q⟩ | ⟨b, d, r, x, hand, pic, log, num, w, R, rfl, B, q⟩ | ⟨e, d, m, x, hand, pic, log, fall, n, rfl, hm, El, D, q⟩
    · obtain ⟨dx, hb⟩ := B.bk
      refine ⟨_, rfl, rfl, _, rfl, ?_⟩
      rw [same]
      refine iteT ⟨_, rfl, b, dx, _, rfl, hb, bfl_m (by decide +kernel) (by decide +kernel) (by decide +kernel) (by decide +kernel), _, rfl, .inl ⟨b, d, r, l, hand, pic, log, fall, num, w, R, L, rfl, B, hl, hlr, hne, hdr, hlen, ?_⟩⟩
      rcases q with ⟨ef, q⟩ | ⟨k, ef, q⟩
      · exact .inl ⟨ef, fun H1 k1 B1 => ⟨_, rfl, rfl, _, rfl, iteT ⟨_, rfl, q H1 k1 B1⟩⟩⟩
      · refine .inr ⟨k, ef, fun H1 k1 D1 => ⟨true, eP, fun _ a ha => ?_, fun z => Bool.noConfusion z⟩⟩
        exact ⟨_, rfl, _, rfl, rfl, _, rfl, iteF (q H1 k1 D1)⟩
    · obtain ⟨dx, hb⟩ := B.bk
      refine ⟨_, rfl, rfl, _, rfl, ?_⟩
      rw [ne w1]
      refine iteF ⟨_, rfl, rfl, _, rfl, ?_⟩
      rw [ne w2]
      refine iteF ⟨_, rfl, rfl, _, rfl, ?_⟩
      rw [same]
      refine iteT ⟨_, rfl, b, dx, _, rfl, hb, bfl_m (by decide +kernel) (by decide +kernel) (by decide +kernel) (by decide +kernel), .inl ⟨b, d, r, hand, pic, log, num, w, R, rfl, B, fun p H1 s1 hp ep => ?_⟩⟩
      exact ⟨_, rfl, rfl, _, rfl, iteT ⟨_, rfl, q p H1 s1 hp ep⟩⟩
    · obtain ⟨dx, k, w0, r, hb, hk⟩ := id El
      have nm : ∀ (m : Str), (m == "_number") = false → (m == "_disk") = false → (m == "_written") = false → (m == "_rows") = false → (bfl k d w0 r).lookup m = none := fun m h1 h2 h3 h4 => bfl_m h1 h2 h3 h4
      refine ⟨_, rfl, rfl, _, rfl, ?_⟩
      rcases hm with rfl | rfl | rfl | rfl
      · rw [same]
        refine iteT ⟨_, rfl, e, dx, _, rfl, hb, nm _ (by decide +kernel) (by decide +kernel) (by decide +kernel) (by decide +kernel), _, rfl, .inr ⟨e, d, x, hand, pic, log, fall, n, rfl, El, D, ⟨true, eP, fun _ a ha => ?_, fun z => Bool.noConfusion z⟩⟩⟩
        exact ⟨_, rfl, _, rfl, rfl, _, rfl, iteF q⟩
      · rw [ne w1]
        refine iteF ⟨_, rfl, rfl, _, rfl, ?_⟩
        rw [ne w2]
        refine iteF ⟨_, rfl, rfl, _, rfl, ?_⟩
        rw [same]
        refine iteT ⟨_, rfl, e, dx, _, rfl, hb, nm _ (by decide +kernel) (by decide +kernel) (by decide +kernel) (by decide +kernel), .inr ⟨e, d, hand, pic, log, fall, n, rfl, El, D, ⟨true, eP, fun _ a ha => ?_, fun z => Bool.noConfusion z⟩⟩⟩
        exact ⟨_, rfl, _, rfl, rfl, _, rfl, iteF q⟩
      · rw [ne w3]
        refine iteF ⟨_, rfl, rfl, _, rfl, ?_⟩
        rw [same]
        refine iteT ⟨_, rfl, e, dx, _, rfl, hb, nm _ (by decide +kernel) (by decide +kernel) (by decide +kernel) (by decide +kernel), ⟨e, d, hand, pic, log, fall, n, rfl, El, D, ⟨true, eP, fun _ a ha => ?_, fun z => Bool.noConfusion z⟩⟩⟩
        exact ⟨_, rfl, _, rfl, rfl, _, rfl, iteF q⟩
      · rw [ne w4]
        refine iteF ⟨_, rfl, rfl, _, rfl, ?_⟩
        rw [ne w5]
        refine iteF ⟨_, rfl, rfl, _, rfl, ?_⟩
        rw [ne w6]
        refine iteF ⟨_, rfl, e, dx, _, rfl, hb, nm _ (by decide +kernel) (by decide +kernel) (by decide +kernel) (by decide +kernel), ⟨e, d, hand, pic, log, fall, n, rfl, El, D, ⟨true, eP, fun _ a ha => ?_, fun z => Bool.noConfusion z⟩⟩⟩
        exact ⟨_, rfl, _, rfl, rfl, _, rfl, iteF q⟩
end
end Lr
namespace Lr
open PySem PySem.Spec PyProof.Rows L2 Lf
def KCalK (P : Program) (w : World) (K : PySem.W.Frag) (mg : Str → Option Value) (base : Heap) (k : Nat) (C : Addr) (ps ks : List Str) (gV : List V → List V → List V) (sp : Sp) : Prop :=
  ∃ (f : Addr) (fd : FuncData) (g : List Value → List Value → List Value), FnOk P w K mg base CX0 k f fd ps sp ∧ Mk K C f ∧ KBn K fd ps 1 ks g gV
section
variable {X : Cx} {k : Nat} {C : Addr} {x : Str} {ps ks : List Str} {sp : Sp} {tk : TA} {p pos : Pos} {kws : List Keyword} {gV : List V → List V → List V}
theorem pk_ownK0 (M : KCalK X.prog X.w X.K X.mg X.base k C ps ks gV sp) (hr : Room (k + 1) X.A) (hg : Gl X x) (hm : X.mg x = some (.ref C)) (hkw : PK X kws tk)
    (hall : (backToKw pos (keywordEach kws X.env)).all (·.1.isSome) = true := by rfl) (hks : (backToKw pos (keywordEach kws X.env)).filterMap (·.1) = ks := by rfl) (hdb : (x == ("__debug__" : Str)) = false := by decide)
    (hpl : ((backTo pos (starEach [] X.env)).any (·.1) || (backToKw pos (keywordEach kws X.env)).any (·.1.isNone)) = false := by rfl) :
    PE X (.Call (.Name x p) [] kws pos) (tMakeK C 0 ks.length sp gV E0 tNil tk) := by
  obtain ⟨f, fd, g, F, M, hb⟩ := M
  exact pe_makeK0 M F hr hg hm hb pass0 hkw hall hks hdb hpl
end
def dskG (vs zs : List V) : List V := match zs with
  | [h, l, p] => vs ++ [h, p, l]
  | _ => vs
section
variable {P : Program} {w : World} {K : PySem.W.Frag} {mg : Str → Option Value} {base : Heap} {CD CB CF : Addr}
def spSdwhose (CD : Addr) : Sp := fun vs H Q _ => ∃ (p : Addr) (hand pic log fall : V) (n : Int), vs = [.ref p] ∧ DskAt CD H p hand pic log fall n ∧ Q hand H
abbrev sSdwhose : Stmt := inClass sDisk 1
theorem scSdwhose : FnScope ["self"] ["self"] (defScope sSdwhose) := ⟨rfl, rfl, rfl, by decide +kernel, rfl, by decide +kernel, by decide +kernel⟩
theorem ok_Sdwhose {f : Addr} {fd : FuncData} (F : Fun K "whose" "Disk.whose" sSdwhose f fd) (T : Tk K mg CD CB) : FnOk P w K mg base CX0 1 f fd ["self"] (spSdwhose CD) := by
  refine F.ok scSdwhose (fun vs H Q E h => ?_) (fun cdv A outer s H vs Q E hr h => ?_)
  · obtain ⟨p, hand, pic, log, fall, n, rfl, _⟩ := h
    rfl
  · obtain ⟨p, hand, pic, log, fall, n, rfl, ⟨dx, hp⟩, q⟩ := h
    have nd := scSdwhose.nd
    refine ⟨_, (pss_one (ps_ret (pe_fld (pv 0) rfl))), ?_⟩
    exact ⟨_, rfl, p, CD, dx, _, _, rfl, hp, T.cDisk, T.dHand, dfl_hand, q⟩
/-- a new book of a disk with the same log -/
theorem mk_books {E : XK} {Z : VK} {H3 : Hp} {d : Addr} {hand : Str} {hand0 : V} {pic log : Str} {n : Int} {a w : Nat} {R : List (List Nat)} (D : DskAt CD H3 d hand0 (.str pic) (.str log) .non n) (hh : hand0 = .non ∨ hand0 = .str hand) (ke : KeptL (tl pic) ((tl log).take a) w R)
    (hs : parseL (tl log) = parseL ((tl log).take a)) (ha : a ≤ log.length) (hl : log.length ≤ 1000000)
    {x dx : Addr} (hx : H3 x = none) (hdx : H3 dx = none) (hne : dx ≠ x) (q : ∀ r H4, H3 r = none → Kp d H3 H4 → BkAt CD CB H4 x d r hand pic (S ((tl log).take a)) (n + 1) w R → Z .non H4) :
    spBInitc CD CB [.ref x, .ref d, .str hand] (upd (upd H3 dx (.own x)) x (.ins CB dx [])) Z E := by
  obtain ⟨dy, hd⟩ := id D
  have nxd : x ≠ d := fun z => by rw [z, hd] at hx; cases hx
  have old : ∀ y o, H3 y = some o → (upd (upd H3 dx (.own x)) x (.ins CB dx [])) y = some o := fun y o e => by
    rw [upd_ne (ne_of_none e hx), upd_ne (ne_of_none e hdx)]
    exact e
  refine ⟨x, d, dx, hand, hand0, pic, log, n, a, w, R, rfl, upd_same, D.imp fun _ z => old _ _ z, hh, nxd, ke, hs, ha, hl, fun H4 r k4 hr B => q r H4 ?_ ?_ B⟩
  · cases e : H3 r with
    | none => rfl
    | some o =>
      rw [old _ _ e] at hr
      cases hr
  · exact fun y o n1 e => k4 y o (ne_of_none e hx) n1 (old _ _ e)
theorem mk_bookf {E : XK} {Z : VK} {H3 : Hp} {d : Addr} {hand : Str} {hand0 : V} {pic log : Str} {n : Int} {w : Nat} {R : List (List Nat)} (D : DskAt CD H3 d hand0 (.str pic) (.str log) .non n) (hh : hand0 = .non ∨ hand0 = .str hand) (ke : KeptL (tl pic) (tl log) w R)
    {x dx : Addr} (hx : H3 x = none) (hdx : H3 dx = none) (hne : dx ≠ x) (q : ∀ r H4 log', H3 r = none → Kp d H3 H4 → BkAt CD CB H4 x d r hand pic log' (n + 1) w R → Z .non H4) :
    spBInitc CD CB [.ref x, .ref d, .str hand] (upd (upd H3 dx (.own x)) x (.ins CB dx [])) Z E := by
  have e : (tl log).take log.length = tl log := by rw [len_tl, List.take_length]
  have hl := ke.lens.2
  rw [← len_tl] at hl
  exact mk_books D hh (a := log.length) (by rw [e]; exact ke) (by rw [e]) (Nat.le_refl _) (by omega) hx hdx hne fun r H4 h1 h2 h3 => q r H4 _ h1 h2 h3
def spCopied (CD CB : Addr) : Sp := fun vs H Q _ => ∃ (d : Addr) (pic log : Str) (n : Int) (w : Nat) (R : List (List Nat)), vs = [.ref d] ∧ DskAt CD H d (.str "ann") (.str pic) (.str log) .non n ∧ KeptL (tl pic) (tl log) w R ∧
  ∀ b d2 r log2 H', Same H H' → H b = none → H d2 = none → H r = none → BkAt CD CB H' b d2 r "ann" pic log2 1 w R → Q (.ref b) H'
abbrev sCopied : Stmt := topS 27
theorem scCopied : FnScope ["_law_disk"] ["_law_disk"] (defScope sCopied) := ⟨rfl, rfl, rfl, by decide +kernel, rfl, by decide +kernel, by decide +kernel⟩
theorem ok_copied {f : Addr} {fd : FuncData} (F : Fun K "_law_copied" "_law_copied" sCopied f fd) (T : Tk K mg CD CB) (k_DiskK : KCalK P w K mg base 1 CD ["self", "hand", "picture", "log"] ["hand", "log", "picture"] dskG (spDInit CD)) (k_Book : KCal P w K mg base 6 CB ["self", "disk", "hand"] [] (spBInitc CD CB))
    (m_Disk_whose : MCal P w K mg base 1 CD "whose" ["self"] (spSdwhose CD)) (m_Disk_picture : MCal P w K mg base 1 CD "picture" ["self"] (spSdpicture CD)) (m_Disk_log : MCal P w K mg base 1 CD "log" ["self"] (spSdlog CD)) : FnOk P w K mg base CX0 8 f fd ["_law_disk"] (spCopied CD CB) := by
  refine F.ok scCopied (fun vs H Q E h => ?_) (fun cdv A outer s H vs Q E hr h => ?_)
  · obtain ⟨d, pic, log, n, w, R, rfl, _⟩ := h
    rfl
  · obtain ⟨d, pic, log, n, w, R, rfl, D, ke, q⟩ := h
    have nd := scCopied.nd
    refine ⟨_, (pss_one (ps_ret (pk_own k_Book (hr.mono (by decide)) (by rfl) T.mBook (pa_cons (pk_ownK0 k_DiskK (hr.mono (by decide)) (by rfl) T.mDisk (pk_cons (pm_own0 m_Disk_whose T.cDisk (hr.mono (by decide)) (pv 0)) (pk_cons (pm_own0 m_Disk_log T.cDisk (hr.mono (by decide)) (pv 0)) (pk_cons (pm_own0 m_Disk_picture T.cDisk (hr.mono (by decide)) (pv 0)) pk_nil)))) (pa_cons pe_str pa_nil))))), ?_⟩
    obtain ⟨dy, hd⟩ := id D
    have nm : ∀ (m : Str), (m == "_hand") = false → (m == "_picture") = false → (m == "_log") = false → (m == "_fall") = false → (m == "_holder") = false → (dfl (.str "ann") (.str pic) (.str log) .non n).lookup m = none := fun m h1 h2 h3 h4 h5 => dfl_m h1 h2 h3 h4 h5
    refine ⟨_, rfl, d, dy, _, rfl, hd, nm _ (by decide +kernel) (by decide +kernel) (by decide +kernel) (by decide +kernel) (by decide +kernel), d, _, _, _, _, n, rfl, D, ?_⟩
    refine ⟨_, rfl, d, dy, _, rfl, hd, nm _ (by decide +kernel) (by decide +kernel) (by decide +kernel) (by decide +kernel) (by decide +kernel), d, _, _, _, _, n, rfl, D, ?_⟩
    refine ⟨_, rfl, d, dy, _, rfl, hd, nm _ (by decide +kernel) (by decide +kernel) (by decide +kernel) (by decide +kernel) (by decide +kernel), d, _, _, _, _, n, rfl, D, ?_⟩
    refine ⟨rfl, rfl, fun d2 dx hd2 hdx hne => ?_⟩
    have old : ∀ y o, H y = some o → (upd (upd H dx (.own d2)) d2 (.ins CD dx [])) y = some o := fun y o e => by
      rw [upd_ne (ne_of_none e hd2), upd_ne (ne_of_none e hdx)]
      exact e
    refine ⟨d2, dx, .str "ann", .str pic, .str log, rfl, upd_same, fun H1 k1 D1 => ⟨rfl, ?_⟩⟩
    have s1 : Same H H1 := fun y o e => k1 _ _ (ne_of_none e hd2) (old _ _ e)
    intro b b2 hb hb2 hb3
    refine mk_bookf (CB := CB) (hand := "ann") D1 (.inr rfl) ke hb hb2 hb3 fun r H2 log2 hr0 k2 B2 => ⟨rfl, ?_⟩
    exact q b d2 r log2 H2 (fun y o e => k2 _ _ (ne_of_none e hd2) (s1 _ _ e)) (s1.fresh hb) hd2 (s1.fresh hr0) B2
end
end Lr
namespace Lr
open PySem PySem.Spec PyProof.Rows L2 Lf
theorem ElAt.same {CB : Addr} {H H' : Hp} {e d : Addr} {n : Int} (h : ElAt CB H e d n) (s : Same H H') : ElAt CB H' e d n := by
  obtain ⟨dx, k, w, r, h1, h2⟩ := h
  exact ⟨dx, k, w, r, s _ _ h1, h2⟩
theorem low_join : ∀ {ps : List (List Nat)}, (∀ p ∈ ps, ∀ c ∈ p, c < 128) → ∀ c ∈ joinL [10] ps, c < 128
  | [], _, c, h => by cases h
  | [p], hp, c, h => hp p (List.mem_singleton_self _) c h
  | p :: q :: r, hp, c, h => by
    have h : c ∈ p ++ ([10] ++ joinL [10] (q :: r)) := h
    rcases List.mem_append.mp h with h | h
    · exact hp p (List.mem_cons_self ..) c h
    · rcases List.mem_append.mp h with h | h
      · rw [List.mem_singleton.mp h]
        decide
      · exact low_join (fun z hz => hp z (List.mem_cons_of_mem _ hz)) c h
theorem low_num (n : Nat) : ∀ c ∈ numL n, c < 128 := fun c hc => by
  have := TL.numL_digits n c hc
  omega
theorem low_rec {n : Nat} {rows : List (List Nat)} (h : ∀ r ∈ rows, Drawn r) : ∀ c ∈ recL n rows, c < 128 := fun c hc => by
  have hj := low_join (ps := rows) fun p hp c hc => by
    have h1 : 32 ≤ c ∧ c ≤ 126 := (h p hp).1.2 c hc
    omega
  unfold recL at hc
  simp only [List.mem_append, List.mem_singleton] at hc
  rcases hc with ((((((h | h) | h) | h) | h) | h) | h) | h
  · exact low_num _ c h
  · omega
  · exact low_num _ c h
  · omega
  · exact low_num _ c h
  · omega
  · exact hj c h
  · omega
theorem low_log : ∀ {recs : List (List (List Nat))} {n : Nat}, (∀ r ∈ recs, ∀ l ∈ r, Drawn l) → ∀ c ∈ logL n recs, c < 128
  | [], _, _, c, h => by cases h
  | r :: rs, n, hr, c, h => by
    have h : c ∈ recL n r ++ logL (n + 1) rs := h
    rcases List.mem_append.mp h with h | h
    · exact low_rec (hr r (List.mem_cons_self ..)) c h
    · exact low_log (fun z hz => hr z (List.mem_cons_of_mem _ hz)) c h
theorem KeptL.low {pic log : List Nat} {w : Nat} {R : List (List Nat)} (h : KeptL pic log w R) : (∀ c ∈ pic, c < 128) ∧ ∀ c ∈ log, c < 128 := by
  obtain ⟨w0, R0, recs, h0, h1, h2, h3, h4, h5, h6, h7⟩ := h
  subst h3
  constructor
  · rcases h0 with ⟨_, _, rfl⟩ | ⟨_, rfl⟩
    · exact fun c h => by cases h
    · exact low_rec fun l hl => h5 l (List.mem_append_left _ hl)
  · rw [h1]
    exact low_log fun r hr l hl => h5 l (List.mem_append_right _ (mem_flat hr l hl))
theorem dp_str {K : PySem.W.Frag} {H : Hp} (x : Str) : Dp K H (.str x) (.str x) := .str x
theorem lay_ascii {k : Nat} {x : Str} (h : ∀ c ∈ tl x, c < 128) : Lay k (.str x) := .str fun c hc => by
  have := h c hc
  omega
section
variable {P : Program} {w : World} {K : PySem.W.Frag} {mg : Str → Option Value} {base : Heap} {CD CB CF : Addr}
def spElder (CD CB : Addr) : Sp := fun vs H Q _ => ∃ (fe d el l : Addr) (es : List Addr) (hand pic log : Str) (fall : V) (n : Int) (L : List (List Nat)), vs = [.ref fe, .ref d, .ref el, .ref l] ∧ H el = some (.lst (es.map V.ref)) ∧ es.length ≤ 100 ∧ (∀ e ∈ es, ElAt CB H e d n) ∧ DskAt CD H d (.str hand) (.str pic) (.str log) fall n ∧ H l = some (.lst (rowV L)) ∧ (∀ c ∈ tl hand, c < 128) ∧ (∀ c ∈ tl pic, c < 128) ∧ (∀ c ∈ tl log, c < 128) ∧
  ∀ H', Same H H' → Q (.bl true) H'
abbrev sElder : Stmt := topS 29
theorem scElder : FnScope ["_law_feed_here", "_law_disk", "_law_elder", "_law_lines", "_law_before", "_law_book", "_law_way"] ["_law_feed_here", "_law_disk", "_law_elder", "_law_lines"] (defScope sElder) := ⟨rfl, rfl, rfl, by decide +kernel, rfl, by decide +kernel, by decide +kernel⟩
theorem ok_elder {f : Addr} {fd : FuncData} (F : Fun K "_law_elder_right" "_law_elder_right" sElder f fd) (T : Tk K mg CD CB) (m_Disk_whose : MCal P w K mg base 1 CD "whose" ["self"] (spSdwhose CD)) (m_Disk_picture : MCal P w K mg base 1 CD "picture" ["self"] (spSdpicture CD)) (m_Disk_log : MCal P w K mg base 1 CD "log" ["self"] (spSdlog CD))
    (c__law_done : Callee P w K mg base 4 "_law_done" ["_law_book", "_law_way", "_law_lines"] (spDone K CD CB)) : FnOk P w K mg base CX0 5 f fd ["_law_feed_here", "_law_disk", "_law_elder", "_law_lines"] (spElder CD CB) := by
  refine F.ok scElder (fun vs H Q E h => ?_) (fun cdv A outer s H vs Q E hr h => ?_)
  · obtain ⟨fe, d, el, l, es, hand, pic, log, fall, n, L, rfl, _⟩ := h
    rfl
  · obtain ⟨fe, d, el, l, es, hand, pic, log, fall, n, L, rfl, hel, hes, El, D, hl, y1, y2, y3, q⟩ := h
    have nd := scElder.nd
    refine ⟨_, (pss_cons (ps_set (i := 4) nd rfl (Or.inl rfl) (pe_lst (pa_cons (pm_own0 m_Disk_whose T.cDisk (hr.mono (by decide)) (pv 1)) (pa_cons (pm_own0 m_Disk_picture T.cDisk (hr.mono (by decide)) (pv 1)) (pa_cons (pm_own0 m_Disk_log T.cDisk (hr.mono (by decide)) (pv 1)) pa_nil)))))
  (pss_cons (ps_for PassesOwn.never rfl (pi_list (pe_slice sl_list (pv 2) (po_some (pe_un un_neg pe_int)) po_none)) (pg_name (i := 5) nd rfl (Or.inl rfl))
  (pss_one (ps_for PassesOwn.never rfl (pi_tup (pe_tup (pa_cons pe_str (pa_cons pe_str (pa_cons pe_str (pa_cons pe_str pa_nil)))))) (pg_name (i := 6) nd rfl (Or.inl rfl))
  (pss_one (ps_if (pt_cmpR (op_neD hr.units) (pe_own c__law_done (hr.mono (by decide)) (by rfl) (pa_cons (pv 5) (pa_cons (pv 6) (pa_cons (pe_callTy call_list_of (by rfl) T.list (by decide +kernel) (pa_cons (pv 3) pa_nil)) pa_nil)))) pe_str (nomark _))
  (pss_one (ps_ret pe_bl))
  pss_nil)))))
  (pss_one (ps_ret (pe_cmpR (op_eqD hr.units) (pe_lst (pa_cons (pm_own0 m_Disk_whose T.cDisk (hr.mono (by decide)) (pv 1)) (pa_cons (pm_own0 m_Disk_picture T.cDisk (hr.mono (by decide)) (pv 1)) (pa_cons (pm_own0 m_Disk_log T.cDisk (hr.mono (by decide)) (pv 1)) pa_nil)))) (pv 4) (nomark _)))))), ?_⟩
    have ez : sizeLine = 16777216 := by decide +kernel
    have nm : ∀ (m : Str), (m == "_hand") = false → (m == "_picture") = false → (m == "_log") = false → (m == "_fall") = false → (m == "_holder") = false → (dfl (.str hand) (.str pic) (.str log) fall n).lookup m = none := fun m h1 h2 h3 h4 h5 => dfl_m h1 h2 h3 h4 h5
    obtain ⟨dy, hd⟩ := id D
    refine ⟨_, rfl, d, dy, _, rfl, hd, nm _ (by decide +kernel) (by decide +kernel) (by decide +kernel) (by decide +kernel) (by decide +kernel), d, _, _, _, _, n, rfl, D, ?_⟩
    refine ⟨_, rfl, d, dy, _, rfl, hd, nm _ (by decide +kernel) (by decide +kernel) (by decide +kernel) (by decide +kernel) (by decide +kernel), d, _, _, _, _, n, rfl, D, ?_⟩
    refine ⟨_, rfl, d, dy, _, rfl, hd, nm _ (by decide +kernel) (by decide +kernel) (by decide +kernel) (by decide +kernel) (by decide +kernel), d, _, _, _, _, n, rfl, D, ?_⟩
    refine ⟨(by show 3 ≤ sizeLine; decide), fun pb hpb => ?_⟩
    have s1 := same_new (o := .lst [.str hand, .str pic, .str log]) hpb
    have eb : (upd H pb (.lst [.str hand, .str pic, .str log])) pb = some (.lst [.str hand, .str pic, .str log]) := upd_same
    generalize upd H pb (.lst [.str hand, .str pic, .str log]) = H1 at s1 eb ⊢
    refine ⟨_, rfl, _, rfl, _, rfl, el, _, rfl, SqL.of (s1 _ _ hel), fun pc hpc => ?_⟩
    have s2 := same_new (o := .lst (cutV (es.map V.ref) (some (-3)) none)) hpc
    have ec : (upd H1 pc (.lst (cutV (es.map V.ref) (some (-3)) none))) pc = some (.lst (cutV (es.map V.ref) (some (-3)) none)) := upd_same
    have hsub : ∀ v ∈ cutV (es.map V.ref) (some (-3)) none, ∃ e ∈ es, v = .ref e := fun v hv => by
      have := List.mem_of_mem_drop (List.mem_of_mem_take hv)
      obtain ⟨e, he, rfl⟩ := List.mem_map.mp this
      exact ⟨e, he, rfl⟩
    generalize upd H1 pc (.lst (cutV (es.map V.ref) (some (-3)) none)) = H2 at s2 ec ⊢
    generalize cutV (es.map V.ref) (some (-3)) none = cs at s2 ec hsub ⊢
    have lf : ∀ k, Lay k (.str ("fallen" : Str)) := fun k => lay_ascii (by decide +kernel)
    refine ⟨pc, rfl, ⟨_, SqL.of ec⟩, for_list (xs := cs) (fun i σ H' => Same H2 H' ∧ ∃ y5 y6, σ = [some (.ref fe), some (.ref d), some (.ref el), some (.ref l), some (.ref pb), y5, y6]) ⟨Same.refl _, _, _, rfl⟩ (fun i σ H' _ p => SqL.of (p.1 _ _ ec)) (fun i v σ H3 hv p => ?_) (fun σ H3 p => ?_)⟩
    · obtain ⟨s3, y5, y6, rfl⟩ := p
      obtain ⟨e, he, rfl⟩ := hsub v (List.mem_of_getElem? hv)
      have s03 : Same H H3 := (s1.tr s2).tr s3
      refine ⟨(by show 4 ≤ sizeLine; decide), fun pt hpt => ?_⟩
      have s4 := same_new (o := .tup [.str "write", .str "rows", .str "picture", .str "written"]) hpt
      have et : (upd H3 pt (.tup [.str "write", .str "rows", .str "picture", .str "written"])) pt = some (.tup [.str "write", .str "rows", .str "picture", .str "written"]) := upd_same
      generalize upd H3 pt (.tup [.str "write", .str "rows", .str "picture", .str "written"]) = H4 at s4 et ⊢
      refine ⟨pt, rfl, ⟨_, SqT.of et⟩, for_tup (xs := [.str "write", .str "rows", .str "picture", .str "written"]) (fun j σ H' => Same H4 H' ∧ ∃ y6, σ = [some (.ref fe), some (.ref d), some (.ref el), some (.ref l), some (.ref pb), some (.ref e), y6]) ⟨Same.refl _, _, rfl⟩ (fun j σ H' _ p => SqT.of (p.1 _ _ et)) (fun j v σ H5 hv p => ?_) (fun σ H5 p => ?_)⟩
      · obtain ⟨s5, y6, rfl⟩ := p
        have hm : ∃ m : Str, v = .str m ∧ (m = "write" ∨ m = "rows" ∨ m = "picture" ∨ m = "written") := by
          have := List.mem_of_getElem? hv
          simp only [List.mem_cons, List.not_mem_nil, or_false] at this
          rcases this with rfl | rfl | rfl | rfl
          · exact ⟨_, rfl, .inl rfl⟩
          · exact ⟨_, rfl, .inr (.inl rfl)⟩
          · exact ⟨_, rfl, .inr (.inr (.inl rfl))⟩
          · exact ⟨_, rfl, .inr (.inr (.inr rfl))⟩
        obtain ⟨m, rfl, hm⟩ := hm
        have s05 : Same H H5 := (s03.tr s4).tr s5
        refine ⟨_, rfl, _, rfl, _, rfl, l, _, rfl, .inl (SqL.of (s05 _ _ hl)), fun pk hpk => ?_⟩
        have s6 := same_new (o := .lst (rowV L)) hpk
        have s06 := s05.tr s6
        refine .inr (.inr ⟨e, d, m, .ref pk, .str hand, .str pic, .str log, fall, n, rfl, hm, (El e he).same s06, D.imp fun _ z => s06 _ _ z, ?_⟩)
        refine ⟨.str "fallen", .str "fallen", dp_str _, dp_str _, (lf 0).shaped (by decide), (lf 0).shaped (by decide), _, rfl, ?_⟩
        rw [(lf 0).eqv]
        exact iteF ⟨s5.tr s6, _, rfl⟩
      · obtain ⟨s5, y6, rfl⟩ := p
        exact ⟨(s3.tr s4).tr s5, _, _, rfl⟩
    · obtain ⟨s3, y5, y6, rfl⟩ := p
      have s03 : Same H H3 := (s1.tr s2).tr s3
      have hd3 := s03 _ _ hd
      have D3 : DskAt CD H3 d (.str hand) (.str pic) (.str log) fall n := ⟨dy, hd3⟩
      refine ⟨_, rfl, d, dy, _, rfl, hd3, nm _ (by decide +kernel) (by decide +kernel) (by decide +kernel) (by decide +kernel) (by decide +kernel), d, _, _, _, _, n, rfl, D3, ?_⟩
      refine ⟨_, rfl, d, dy, _, rfl, hd3, nm _ (by decide +kernel) (by decide +kernel) (by decide +kernel) (by decide +kernel) (by decide +kernel), d, _, _, _, _, n, rfl, D3, ?_⟩
      refine ⟨_, rfl, d, dy, _, rfl, hd3, nm _ (by decide +kernel) (by decide +kernel) (by decide +kernel) (by decide +kernel) (by decide +kernel), d, _, _, _, _, n, rfl, D3, ?_⟩
      refine ⟨(by show 3 ≤ sizeLine; decide), fun pz hpz => ?_⟩
      have s4 := same_new (o := .lst [.str hand, .str pic, .str log]) hpz
      have lz : Lay 1 (.list [.str hand, .str pic, .str log]) := .lst (k := 0) fun d hd => by
        simp only [List.mem_cons, List.not_mem_nil, or_false] at hd
        rcases hd with rfl | rfl | rfl
        · exact lay_ascii y1
        · exact lay_ascii y2
        · exact lay_ascii y3
      refine ⟨_, rfl, .list [.str hand, .str pic, .str log], .list [.str hand, .str pic, .str log], .lst (SqL.of upd_same) (.cons (dp_str _) (.cons (dp_str _) (.cons (dp_str _) .nil))), .lst (SqL.of (s4 _ _ (s3 _ _ (s2 _ _ eb)))) (.cons (dp_str _) (.cons (dp_str _) (.cons (dp_str _) .nil))), lz.shaped (by decide), lz.shaped (by decide), ?_⟩
      rw [lz.eqv]
      exact q _ (s03.tr s4)
end
end Lr
namespace Lr
open PySem PySem.Spec PyProof.Rows L2 Lf
theorem FeedAt.rows {H : Hp} {a q : Addr} {x : List (List Nat)} (f : FeedAt H a) (e : H q = some (.lst (rowV x))) : q ≠ a := fun z => by
  obtain ⟨u, v, h, _⟩ := f
  rw [z, h] at e
  have e1 := Option.some.inj e
  injection e1 with e2
  cases x with
  | nil => cases e2
  | cons y ys =>
    have := (List.cons.inj e2).1
    cases this
theorem FeedAt.refs {H : Hp} {a q : Addr} {qs : List Addr} (f : FeedAt H a) (e : H q = some (.lst (qs.map V.ref))) : q ≠ a := fun z => by
  obtain ⟨u, v, h, _⟩ := f
  rw [z, h] at e
  have e1 := Option.some.inj e
  injection e1 with e2
  cases qs with
  | nil => cases e2
  | cons y ys =>
    have := (List.cons.inj e2).1
    cases this
theorem FeedAt.ins {H : Hp} {a q C dx : Addr} {fs : List (Str × V)} (f : FeedAt H a) (e : H q = some (.ins C dx fs)) : q ≠ a := fun z => by
  obtain ⟨u, v, h, _⟩ := f
  rw [z, h] at e
  cases e
/-- all but the book's own, the feed and the list stay -/
def Kp5 (b d r fe sm : Addr) (H H' : Hp) : Prop := ∀ x o, x ≠ b → x ≠ d → x ≠ r → x ≠ fe → x ≠ sm → H x = some o → H' x = some o
section
variable {P : Program} {w : World} {K : PySem.W.Frag} {mg : Str → Option Value} {base : Heap} {CD CB CF : Addr}
def spWritten (CD CB : Addr) : Sp := fun vs H Q _ => ∃ (fe d b l sm r : Addr) (ls : List Addr) (pic log : Str) (num : Int) (w : Nat) (R L : List (List Nat)), vs = [.ref fe, .ref d, .ref b, .ref l, .ref sm] ∧ FeedAt H fe ∧ BkAt CD CB H b d r "ann" pic log num w R ∧ H l = some (.lst (rowV L)) ∧ l ≠ r ∧ L ≠ [] ∧ (∀ x ∈ L, Drawn x) ∧ R.length + L.length ≤ 1000 ∧
  H sm = some (.lst (ls.map V.ref)) ∧ ls.length = w ∧ sm ≠ r ∧ l ≠ sm ∧
  (∀ H', Kp5 b d r fe sm H H' → FeedAt H' fe → BkAt CD CB H' b d r "ann" pic (log ++ S (recL w L)) num (w + 1) (R ++ L) → H' sm = some (.lst ((ls ++ [l]).map V.ref)) → Q (.bl true) H') ∧
  (∀ (k : Nat) H', (∀ x o, x ≠ d → x ≠ fe → x ≠ sm → H x = some o → H' x = some o) → FeedAt H' fe → DskAt CD H' d (.str "ann") (.str pic) (.str (log ++ S ((recL w L).take k))) .non (num + 1) → H' sm = some (.lst ((if (recL w L).length ≤ k then ls ++ [l] else ls).map V.ref)) → Q (.bl true) H')
abbrev sWritten : Stmt := topS 28
theorem scWritten : FnScope ["_law_feed_here", "_law_disk", "_law_book", "_law_lines", "_law_some", "_law_fall", "_law_size", "_law_told"] ["_law_feed_here", "_law_disk", "_law_book", "_law_lines", "_law_some"] (defScope sWritten) := ⟨rfl, rfl, rfl, by decide +kernel, rfl, by decide +kernel, by decide +kernel⟩
set_option maxHeartbeats 1000000 in
theorem ok_written {f : Addr} {fd : FuncData} (F : Fun K "_law_written" "_law_written" sWritten f fd) (T : Tk K mg CD CB) (c_record : Callee P w K mg base 2 "record" ["number", "rows"] (spRec K)) (c__law_take : Callee P w K mg base 1 "_law_take" ["_law_feed_here", "_law_many"] spTake)
    (c__law_pick : Callee P w K mg base 2 "_law_pick" ["_law_feed_here", "_law_some"] (spPick K)) (m_Disk_fall : MCal P w K mg base 1 CD "fall" ["self", "signs"] (spFall CD)) (c__law_done : Callee P w K mg base 4 "_law_done" ["_law_book", "_law_way", "_law_lines"] (spDone K CD CB)) : FnOk P w K mg base CX0 5 f fd ["_law_feed_here", "_law_disk", "_law_book", "_law_lines", "_law_some"] (spWritten CD CB) := by
  refine F.ok scWritten (fun vs H Q E h => ?_) (fun cdv A outer s H vs Q E hr h => ?_)
  · obtain ⟨fe, d, b, l, sm, r, ls, pic, log, num, w, R, L, rfl, _⟩ := h
    rfl
  · obtain ⟨fe, d, b, l, sm, r, ls, pic, log, num, w, R, L, rfl, f0, B, hl, hlr, hne, hdr, hlen, hsm, hlw, nsr, nls, q1, q2⟩ := h
    have nd := scWritten.nd
    refine ⟨_, (pss_cons (ps_set (i := 5) nd rfl (Or.inl rfl) pe_non)
  (pss_cons (ps_set (i := 6) nd rfl (Or.inl rfl) (pe_callB call_len_str (by rfl) T.len PySem.boot_len (pa_cons (pe_own c_record (hr.mono (by decide)) (by rfl) (pa_cons (pe_callB call_len_seq (by rfl) T.len PySem.boot_len (pa_cons (pv 4) pa_nil)) (pa_cons (pv 3) pa_nil))) pa_nil)))
  (Evl.pss_cut (ps_if (pt_cmpR op_eq (pe_own c__law_take (hr.mono (by decide)) (by rfl) (pa_cons (pv 0) (pa_cons pe_int pa_nil))) pe_int (nomark _))
  (pss_cons (ps_set (i := 5) nd rfl (Or.inl rfl) (pe_own c__law_pick (hr.mono (by decide)) (by rfl) (pa_cons (pv 0) (pa_cons (pe_lst (pa_cons pe_int (pa_cons (pe_op op_sub (pv 6) pe_int) (pa_cons (pv 6) (pa_cons (pe_op op_add (pv 6) pe_int) (pa_cons (pe_own c__law_take (hr.mono (by decide)) (by rfl) (pa_cons (pv 0) (pa_cons (pv 6) pa_nil))) pa_nil)))))) pa_nil))))
  (pss_one (ps_expr (pm_own m_Disk_fall T.cDisk (hr.mono (by decide)) (pv 1) (pa_cons (pv 5) pa_nil)))))
  pss_nil)
  (pss_cons (ps_set (i := 7) nd rfl (Or.inl rfl) (pe_own c__law_done (hr.mono (by decide)) (by rfl) (pa_cons (pv 2) (pa_cons pe_str (pa_cons (pv 3) pa_nil)))))
  (pss_cons (ps_if (PW.pt (pw_or (pt_cmpR op_isN (pv 5) pe_non (nomark _)) (pw_or1 (pt_cmpR op_ge (pv 5) (pv 6) (nomark _)))))
  (pss_one (ps_expr (pe_bm PySem.F.plainAttrs_list PySem.F.slot_list_append PySem.F.type_list_append mt_append (pv 4) (pa_cons (pv 3) pa_nil))))
  pss_nil)
  (pss_one (ps_ret (pe_cmpR (op_eqD hr.units) (pv 7) (pe_ifExp (pt_cmpR op_isN (pv 5) pe_non (nomark _)) pe_non pe_str) (nomark _))))))))), ?_⟩
    have ez : sizeLine = 16777216 := by decide +kernel
    have big : ∀ n : Int, n ≤ 2000000 → n ≤ 10 ^ 60 := fun n hn => Int.le_trans hn (by decide +kernel)
    obtain ⟨dx, hb⟩ := id B.bk
    obtain ⟨dy, hd⟩ := id B.dk
    have nm : ∀ {f : V} (m : Str), (m == "_hand") = false → (m == "_picture") = false → (m == "_log") = false → (m == "_fall") = false → (m == "_holder") = false → (dfl (.str "ann") (.str pic) (.str log) f num).lookup m = none := fun m h1 h2 h3 h4 h5 => dfl_m h1 h2 h3 h4 h5
    have hw := B.ke.w_le
    have ds := drawn_sum hdr (by omega)
    have hrl := drawn_recL (n := w) hdr (by omega) hw
    have hpos := recL_pos w L
    refine ⟨_, rfl, sm, _, rfl, .inl (SqL.of hsm), ?_⟩
    refine ⟨_, rfl, w, l, L, by rw [List.length_map, hlw]; rfl, Nat.lt_of_le_of_lt hw (by decide +kernel), SqL.of hl, by omega, ?_⟩
    have sz : (S (recL w L)).length = (recL w L).length := S_len _
    refine ⟨_, rfl, by rw [sz, ez]; omega, ?_⟩
    rw [sz]
    generalize hz : (recL w L).length = z at *
    have nfd : d ≠ fe := f0.ins hd
    have nfb : b ≠ fe := f0.ins hb
    have nfr : r ≠ fe := f0.rows B.rw
    have nfl : l ≠ fe := f0.rows hl
    have nfs : sm ≠ fe := f0.refs hsm
    have nsd : sm ≠ d := fun e => by rw [e, hd] at hsm; cases hsm
    have nsb : sm ≠ b := fun e => by rw [e, hb] at hsm; cases hsm
    have nld : l ≠ d := fun e => by rw [e, hd] at hl; cases hl
    have nlb : l ≠ b := fun e => by rw [e, hb] at hl; cases hl
    -- whether it falls
    refine ⟨fun σ' H' => ∃ fv, FeedAt H' fe ∧ (∀ x o, x ≠ d → x ≠ fe → H x = some o → H' x = some o) ∧ DskAt CD H' d (.str "ann") (.str pic) (.str log) fv num ∧ (fv = .non ∨ ∃ k : Nat, fv = .int (k : Int)) ∧ σ' = [some (.ref fe), some (.ref d), some (.ref b), some (.ref l), some (.ref sm), some fv, some (.int (z : Int)), none], ?_, fun σ' H' hm => ?_⟩
    · refine ⟨_, rfl, fe, 3, rfl, f0, by decide, big _ (by decide), fun v H1 k1 f1 v0 v1 => ⟨rfl, _, rfl, ?_⟩⟩
      refine ite2 (fun c => ?_) (fun c => ⟨.non, f1, fun x o _ n e => k1 _ _ n e, B.dk.imp fun _ e => k1 _ _ nfd e, .inl rfl, rfl⟩)
      refine ⟨_, rfl, _, rfl, _, _, rfl, rfl, _, rfl, _, rfl, _, _, rfl, rfl, _, rfl, _, rfl, fe, (z : Int), rfl, f1, by omega, big _ (by omega), fun v2 H2 k2 f2 v20 v21 => ?_⟩
      refine ⟨(by show 5 ≤ sizeLine; decide), fun pl hpl => ?_⟩
      refine ⟨fe, pl, _, rfl, f2.new hpl, f2.ne hpl, SqL.of upd_same, Nat.succ_pos 4, (by show 5 ≤ 1000; decide), fun i x H3 hi k3 f3 => ?_⟩
      have hk : ∃ k : Nat, x = .int (k : Int) := by
        have := List.mem_of_getElem? hi
        simp only [List.mem_cons, List.not_mem_nil, or_false] at this
        rcases this with rfl | rfl | rfl | rfl | rfl
        · exact ⟨0, rfl⟩
        · exact ⟨z - 1, by congr 1; omega⟩
        · exact ⟨z, rfl⟩
        · exact ⟨z + 1, rfl⟩
        · exact ⟨v2.toNat, by congr 1; omega⟩
      obtain ⟨k, rfl⟩ := hk
      have hd3 : H3 d = some (.ins CD dy (dfl (.str "ann") (.str pic) (.str log) .non num)) := k3 _ _ nfd (same_new hpl _ _ (k2 _ _ nfd (k1 _ _ nfd hd)))
      refine ⟨_, rfl, d, dy, _, rfl, hd3, nm _ (by decide +kernel) (by decide +kernel) (by decide +kernel) (by decide +kernel) (by decide +kernel), _, rfl, d, _, _, _, _, _, num, rfl, ⟨dy, hd3⟩, fun H4 k4 D4 => ?_⟩
      exact ⟨.int (k : Int), f3.keep k4 nfd.symm, fun x o n1 n2 e => k4 _ _ n1 (k3 _ _ n2 (same_new hpl _ _ (k2 _ _ n2 (k1 _ _ n2 e)))), D4, .inr ⟨k, rfl⟩, rfl⟩
    obtain ⟨fv, f1, k1, D1, hfv, rfl⟩ := hm
    have B1 : BkF CD CB H' b d r "ann" pic log fv num w R := ⟨⟨dx, k1 _ _ B.nbd nfb hb⟩, D1, k1 _ _ B.ndr.symm nfr B.rw, B.ke⟩
    refine ⟨_, rfl, _, rfl, .inl ⟨b, d, r, l, "ann", pic, log, fv, num, w, R, L, rfl, B1, k1 _ _ nld nfl hl, hlr, hne, hdr, hlen, ?_⟩⟩
    have hsm1 := k1 _ _ nsd nfs hsm
    rcases hfv with rfl | ⟨k, rfl⟩
    · refine .inl ⟨rfl, fun H2 k2 B2 => ?_⟩
      have hsm2 := k2 _ _ nsb nsd nsr hsm1
      have f2 : FeedAt H2 fe := by
        obtain ⟨u, v, e, rest⟩ := f1
        exact ⟨u, v, k2 _ _ nfb.symm nfd.symm nfr.symm e, rest⟩
      refine ⟨_, rfl, rfl, _, rfl, iteT (iteT ⟨_, rfl, .inl ⟨rfl, _, SqL.of hsm2⟩, _, rfl, sm, _, _, rfl, rfl, hsm2, by rw [List.length_map, hlw, ez]; omega, ?_⟩)⟩
      refine ⟨_, rfl, _, rfl, rfl, _, rfl, iteT ⟨.none, .none, .non, .non, rfl, rfl, ?_⟩⟩
      refine q1 _ (fun x o n1 n2 n3 n4 n5 e => by rw [upd_ne n5]; exact k2 _ _ n1 n2 n3 (k1 _ _ n2 n4 e)) (f2.mut nfs) ?_ ?_
      · obtain ⟨⟨dz, h1⟩, ⟨du, h2⟩, h3, h4⟩ := B2
        exact ⟨⟨dz, by rw [upd_ne nsb.symm]; exact h1⟩, ⟨du, by rw [upd_ne nsd.symm]; exact h2⟩, by rw [upd_ne nsr.symm]; exact h3, h4⟩
      · rw [upd_same, List.map_append]
        rfl
    · refine .inr ⟨k, rfl, fun H2 k2 D2 => ?_⟩
      have hsm2 := k2 _ _ nsd hsm1
      have f2 : FeedAt H2 fe := f1.keep k2 nfd.symm
      have lf : Lay 0 (.str ("fallen" : Str)) := lay_ascii (by decide +kernel)
      have fin : ∀ H3, (∀ x o, x ≠ sm → H2 x = some o → H3 x = some o) → H3 sm = some (.lst ((if z ≤ k then ls ++ [l] else ls).map V.ref)) → Q (.bl true) H3 := fun H3 k3 e3 => by
        obtain ⟨du, h2⟩ := D2
        have f3 : FeedAt H3 fe := by
          obtain ⟨u, v, e, rest⟩ := f2
          exact ⟨u, v, k3 _ _ nfs.symm e, rest⟩
        exact q2 k H3 (fun x o n1 n2 n3 e => k3 _ _ n3 (k2 _ _ n1 (k1 _ _ n1 n2 e))) f3 ⟨du, k3 _ _ nsd.symm h2⟩ e3
      refine ⟨_, rfl, rfl, _, rfl, iteF ⟨_, rfl, _, rfl, _, _, rfl, rfl, _, rfl, ite2 (fun c => ?_) (fun c => ?_)⟩⟩
      · have c2 : (z : Int) ≤ k := of_decide_eq_true c
        refine ⟨_, rfl, .inl ⟨rfl, _, SqL.of hsm2⟩, _, rfl, sm, _, _, rfl, rfl, hsm2, by rw [List.length_map, hlw, ez]; omega, ?_⟩
        refine ⟨_, rfl, _, rfl, rfl, _, rfl, iteF ⟨.str "fallen", .str "fallen", dp_str _, dp_str _, lf.shaped (by decide), lf.shaped (by decide), ?_⟩⟩
        rw [lf.eqv]
        refine fin _ (fun x o n e => by rw [upd_ne n]; exact e) ?_
        rw [upd_same, if_pos (by omega), List.map_append]
        rfl
      · have c2 : ¬ (z : Int) ≤ k := fun h => c (decide_eq_true h)
        refine ⟨_, rfl, _, rfl, rfl, _, rfl, iteF ⟨.str "fallen", .str "fallen", dp_str _, dp_str _, lf.shaped (by decide), lf.shaped (by decide), ?_⟩⟩
        rw [lf.eqv]
        refine fin _ (fun x o n e => e) ?_
        rw [if_neg (by omega)]
        exact hsm2
end
end Lr
namespace Lr
open PySem PySem.Spec PyProof.Rows L2 Lf
/-! ### the disk, its book, its elder books, what was written -/
def LsAt (H : Hp) (ls : List Addr) (Ps : List (List (List Nat))) : Prop := ls.length = Ps.length ∧ ∀ (j : Nat) (q : Addr) (p : List (List Nat)), ls[j]? = some q → Ps[j]? = some p → H q = some (.lst (rowV p))
theorem LsAt.at {H : Hp} {ls : List Addr} {Ps : List (List (List Nat))} (h : LsAt H ls Ps) {q : Addr} (hq : q ∈ ls) : ∃ p, H q = some (.lst (rowV p)) := by
  obtain ⟨j, hj, rfl⟩ := List.mem_iff_getElem.mp hq
  exact ⟨Ps[j]'(by rw [← h.1]; exact hj), h.2 j _ _ (List.getElem?_eq_getElem hj) (List.getElem?_eq_getElem _)⟩
theorem LsAt.keep {H H' : Hp} {ls : List Addr} {Ps : List (List (List Nat))} (h : LsAt H ls Ps) (k : ∀ q ∈ ls, ∀ o, H q = some o → H' q = some o) : LsAt H' ls Ps :=
  ⟨h.1, fun j q p h1 h2 => k q (List.mem_of_getElem? h1) _ (h.2 j q p h1 h2)⟩
theorem LsAt.snoc {H : Hp} {ls : List Addr} {Ps : List (List (List Nat))} {l : Addr} {L : List (List Nat)} (h : LsAt H ls Ps) (e : H l = some (.lst (rowV L))) : LsAt H (ls ++ [l]) (Ps ++ [L]) := by
  refine ⟨by simp [h.1], fun j q p h1 h2 => ?_⟩
  by_cases hj : j < ls.length
  · rw [List.getElem?_append_left hj] at h1
    rw [List.getElem?_append_left (by rw [← h.1]; exact hj)] at h2
    exact h.2 j q p h1 h2
  · have hl := (List.getElem?_eq_some_iff.mp h1).1
    rw [List.length_append, List.length_singleton] at hl
    have ej : j = ls.length := by omega
    subst ej
    rw [List.getElem?_append_right (Nat.le_refl _), Nat.sub_self] at h1
    rw [h.1, List.getElem?_append_right (Nat.le_refl _), Nat.sub_self] at h2
    cases h1
    cases h2
    exact e
theorem ElAt.up {CB : Addr} {H : Hp} {e d : Addr} {n m : Int} (h : ElAt CB H e d n) (l : n ≤ m) : ElAt CB H e d m := by
  obtain ⟨dx, k, w, r, h1, h2⟩ := h
  exact ⟨dx, k, w, r, h1, by omega⟩
theorem ElAt.kp {CB : Addr} {H H' : Hp} {e d : Addr} {n : Int} (h : ElAt CB H e d n) (k : ∀ o, H e = some o → H' e = some o) : ElAt CB H' e d n := by
  obtain ⟨dx, k', w, r, h1, h2⟩ := h
  exact ⟨dx, k', w, r, k _ h1, h2⟩
theorem ins_ne {CB CD : Addr} {H : Hp} {e d : Addr} {n : Int} {hand pic log fall : V} {m : Int} (h : ElAt CB H e d n) {d' : Addr} (D : DskAt CD H d' hand pic log fall m) : e ≠ d' := fun z => by
  obtain ⟨dx, k, w, r, h1, h2⟩ := h
  obtain ⟨dy, h3⟩ := D
  rw [z, h3] at h1
  have := congrArg (fun o => match o with | some (HO.ins _ _ fs) => fs.length | _ => 0) h1
  exact absurd this (by show ¬ (5 = 4); decide)
structure Wst (CD CB : Addr) (H : Hp) (d el sm b r : Addr) (pic log : Str) (num : Int) (es ls : List Addr) (Ps : List (List (List Nat))) : Prop where
  B : BkAt CD CB H b d r "ann" pic log num Ps.length Ps.flatten
  hel : H el = some (.lst (es.map V.ref))
  hsm : H sm = some (.lst (ls.map V.ref))
  E : ∀ e ∈ es, ElAt CB H e d num
  L : LsAt H ls Ps
  n1 : r ≠ el
  n2 : r ≠ sm
  n3 : el ≠ sm
  n4 : ∀ q ∈ ls, q ≠ r
  P : ∀ p ∈ Ps, p ≠ [] ∧ ∀ x ∈ p, Drawn x
namespace Wst
variable {CD CB : Addr} {H H' : Hp} {d el sm b r fe : Addr} {pic log : Str} {num : Int} {es ls : List Addr} {Ps : List (List (List Nat))}
theorem eb (h : Wst CD CB H d el sm b r pic log num es ls Ps) {e : Addr} (he : e ∈ es) : e ≠ b := fun z => by
  obtain ⟨dx, k, w, r', h1, h2⟩ := h.E e he
  obtain ⟨dy, h3⟩ := h.B.bk
  rw [z, h3] at h1
  injection h1 with h1
  injection h1 with _ _ h1
  have := congrArg (fun l => List.lookup ("_number" : Str) l) h1
  have : some (V.int num) = some (V.int k) := this
  injection this with this
  injection this with this
  omega
theorem elst (h : Wst CD CB H d el sm b r pic log num es ls Ps) {x : Addr} {xs : List V} (hx : H x = some (.lst xs)) : x ≠ b ∧ x ≠ d ∧ ∀ e ∈ es, x ≠ e := by
  obtain ⟨dx, h1⟩ := h.B.bk
  obtain ⟨dy, h2⟩ := h.B.dk
  refine ⟨fun z => (by rw [z, h1] at hx; cases hx), fun z => (by rw [z, h2] at hx; cases hx), fun e he z => ?_⟩
  obtain ⟨_, _, _, _, h3, _⟩ := h.E e he
  rw [z, h3] at hx
  cases hx
theorem er (h : Wst CD CB H d el sm b r pic log num es ls Ps) {e : Addr} (he : e ∈ es) : e ≠ r ∧ e ≠ el ∧ e ≠ sm := ⟨((h.elst h.B.rw).2.2 e he).symm, ((h.elst h.hel).2.2 e he).symm, ((h.elst h.hsm).2.2 e he).symm⟩
theorem same (h : Wst CD CB H d el sm b r pic log num es ls Ps) (s : Same H H') : Wst CD CB H' d el sm b r pic log num es ls Ps :=
  ⟨h.B.same s, s _ _ h.hel, s _ _ h.hsm, fun e he => (h.E e he).same s, h.L.keep fun q _ o => s q o, h.n1, h.n2, h.n3, h.n4, h.P⟩
theorem feed (h : Wst CD CB H d el sm b r pic log num es ls Ps) (f : FeedAt H fe) (s : Kp fe H H') : Wst CD CB H' d el sm b r pic log num es ls Ps := by
  obtain ⟨dx, h1⟩ := h.B.bk
  obtain ⟨dy, h2⟩ := h.B.dk
  refine ⟨h.B.kp s (f.ins h1) (f.ins h2) (f.rows h.B.rw), s _ _ (f.refs h.hel) h.hel, s _ _ (f.refs h.hsm) h.hsm, fun e he => ?_, h.L.keep fun q hq o e => ?_, h.n1, h.n2, h.n3, h.n4, h.P⟩
  · obtain ⟨_, _, _, _, h3, _⟩ := h.E e he
    exact (h.E e he).kp fun o => s e o (f.ins h3)
  · obtain ⟨p, hp⟩ := h.L.at hq
    exact s q o (f.rows hp) e
/-- book and disk otherwise, the same rows -/
theorem move (h : Wst CD CB H d el sm b r pic log num es ls Ps) (k : Kp3 b d r H H') {pic' log' : Str} (B' : BkAt CD CB H' b d r "ann" pic' log' num Ps.length Ps.flatten) : Wst CD CB H' d el sm b r pic' log' num es ls Ps := by
  refine ⟨B', k _ _ (h.elst h.hel).1 (h.elst h.hel).2.1 h.n1.symm h.hel, k _ _ (h.elst h.hsm).1 (h.elst h.hsm).2.1 h.n2.symm h.hsm, fun e he => (h.E e he).kp fun o => k e o (h.eb he) (ins_ne (h.E e he) h.B.dk) (h.er he).1, h.L.keep fun q hq o e => ?_, h.n1, h.n2, h.n3, h.n4, h.P⟩
  obtain ⟨p, hp⟩ := h.L.at hq
  exact k q o (h.elst hp).1 (h.elst hp).2.1 (h.n4 q hq) e
/-- rows written -/
theorem more (h : Wst CD CB H d el sm b r pic log num es ls Ps) (f : FeedAt H fe) (k : Kp5 b d r fe sm H H') {log' : Str} {l : Addr} {L : List (List Nat)} (B' : BkAt CD CB H' b d r "ann" pic log' num (Ps.length + 1) (Ps.flatten ++ L)) (hl : H l = some (.lst (rowV L))) (nlr : l ≠ r) (nls : l ≠ sm) (hne : L ≠ []) (hd : ∀ x ∈ L, Drawn x) (hsm : H' sm = some (.lst ((ls ++ [l]).map V.ref)))
    (nq : ∀ q ∈ ls, q ≠ sm) : Wst CD CB H' d el sm b r pic log' num es (ls ++ [l]) (Ps ++ [L]) := by
  have kq : ∀ {q : Addr} {p : List (List Nat)}, H q = some (.lst (rowV p)) → q ≠ r → q ≠ sm → H' q = some (.lst (rowV p)) := fun hp n1 n2 => k _ _ (h.elst hp).1 (h.elst hp).2.1 n1 (f.rows hp) n2 hp
  refine ⟨by rw [List.length_append, List.length_singleton, List.flatten_append]; simpa using B', k _ _ (h.elst h.hel).1 (h.elst h.hel).2.1 h.n1.symm (f.refs h.hel) h.n3 h.hel, hsm, fun e he => ?_, (h.L.keep fun q hq o e => ?_).snoc (kq hl nlr nls), h.n1, h.n2, h.n3, fun q hq => ?_, fun p hp => ?_⟩
  · obtain ⟨_, _, _, _, h3, _⟩ := h.E e he
    exact (h.E e he).kp fun o => k e o (h.eb he) (ins_ne (h.E e he) h.B.dk) (h.er he).1 (f.ins h3) (h.er he).2.2
  · obtain ⟨p, hp⟩ := h.L.at hq
    exact k q o (h.elst hp).1 (h.elst hp).2.1 (h.n4 q hq) (f.rows hp) (nq q hq) e
  · rcases List.mem_append.mp hq with hq | hq
    · exact h.n4 q hq
    · rw [List.mem_singleton.mp hq]
      exact nlr
  · rcases List.mem_append.mp hp with hp | hp
    · exact h.P p hp
    · rw [List.mem_singleton.mp hp]
      exact ⟨hne, hd⟩
end Wst
/-- what stands while no book holds the disk -/
structure Fst (CD CB : Addr) (H : Hp) (d el sm : Addr) (pic log : Str) (n : Int) (es ls : List Addr) (Ps : List (List (List Nat))) : Prop where
  D : DskAt CD H d (.str "ann") (.str pic) (.str log) .non n
  hel : H el = some (.lst (es.map V.ref))
  hsm : H sm = some (.lst (ls.map V.ref))
  E : ∀ e ∈ es, ElAt CB H e d (n + 1)
  L : LsAt H ls Ps
  n3 : el ≠ sm
  P : ∀ p ∈ Ps, p ≠ [] ∧ ∀ x ∈ p, Drawn x
theorem Fst.book {CD CB : Addr} {H H' : Hp} {d el sm x r : Addr} {pic log log' : Str} {n : Int} {es ls : List Addr} {Ps : List (List (List Nat))} (h : Fst CD CB H d el sm pic log n es ls Ps) (k : Kp d H H') (hr : H r = none) (B : BkAt CD CB H' x d r "ann" pic log' (n + 1) Ps.length Ps.flatten) : Wst CD CB H' d el sm x r pic log' (n + 1) es ls Ps := by
  obtain ⟨dy, h2⟩ := h.D
  have nd : ∀ {q : Addr} {xs : List V}, H q = some (.lst xs) → q ≠ d := fun e z => by rw [z, h2] at e; cases e
  refine ⟨B, k _ _ (nd h.hel) h.hel, k _ _ (nd h.hsm) h.hsm, fun e he => (h.E e he).kp fun o => k e o (ins_ne (h.E e he) h.D), h.L.keep fun q hq o e => ?_, (ne_of_none h.hel hr).symm, (ne_of_none h.hsm hr).symm, h.n3, fun q hq => ?_, h.P⟩
  · obtain ⟨p, hp⟩ := h.L.at hq
    exact k q o (nd hp) e
  · obtain ⟨p, hp⟩ := h.L.at hq
    exact ne_of_none hp hr
end Lr
namespace Lr
open PySem PySem.Spec PyProof.Rows L2 Lf
theorem LsAt.nq {H : Hp} {ls as : List Addr} {Ps : List (List (List Nat))} {x : Addr} (L : LsAt H ls Ps) (P : ∀ p ∈ Ps, p ≠ [] ∧ ∀ x ∈ p, Drawn x) (hx : H x = some (.lst (as.map V.ref))) : ∀ q ∈ ls, q ≠ x := fun q hq z => by
  obtain ⟨j, hj, rfl⟩ := List.mem_iff_getElem.mp hq
  have hj2 : j < Ps.length := by rw [← L.1]; exact hj
  have e := L.2 j _ _ (List.getElem?_eq_getElem hj) (List.getElem?_eq_getElem hj2)
  rw [z, hx] at e
  injection e with e
  injection e with e
  have hne := (P _ (List.getElem_mem hj2)).1
  cases hp : Ps[j] with
  | nil => exact hne hp
  | cons x xs =>
    rw [hp] at e
    cases as with
    | nil => cases e
    | cons y ys =>
      have e : V.ref y :: ys.map V.ref = V.str _ :: _ := e
      injection e with e _
      cases e
theorem flat_take (Ps : List (List (List Nat))) {j : Nat} (hj : j < Ps.length) : (Ps.take (j + 1)).flatten = (Ps.take j).flatten ++ Ps[j] := by
  rw [List.take_succ_eq_append_getElem hj, List.flatten_append]
  simp
theorem flat_take_le (Ps : List (List (List Nat))) (j : Nat) : (Ps.take j).flatten.length ≤ Ps.flatten.length := by
  have : Ps.flatten = (Ps.take j).flatten ++ (Ps.drop j).flatten := by rw [← List.flatten_append, List.take_append_drop]
  rw [this, List.length_append]
  omega
theorem Wst.ok {CD CB : Addr} {H : Hp} {d el sm b r : Addr} {pic log : Str} {num : Int} {es ls : List Addr} {Ps : List (List (List Nat))} (h : Wst CD CB H d el sm b r pic log num es ls Ps) : ∀ x ∈ Ps.flatten, rowOk x := fun x hx => by
  obtain ⟨q, hq, hx⟩ := List.mem_flatten.mp hx
  exact ((h.P q hq).2 x hx).1
/-- the current book has become an elder one -/
theorem Wst.shut {CD CB : Addr} {H H' : Hp} {d el sm b r fe : Addr} {pic log log' : Str} {num n' : Int} {es ls ls' : List Addr} {Ps Ps' : List (List (List Nat))} (h : Wst CD CB H d el sm b r pic log num es ls Ps) (f : FeedAt H fe) (k : ∀ x o, x ≠ d → x ≠ fe → x ≠ sm → H x = some o → H' x = some o)
    (D : DskAt CD H' d (.str "ann") (.str pic) (.str log') .non n') (hn : num ≤ n') (hsm : H' sm = some (.lst (ls'.map V.ref))) (L : LsAt H' ls' Ps') (P : ∀ p ∈ Ps', p ≠ [] ∧ ∀ x ∈ p, Drawn x) : Fst CD CB (upd H' el (.lst ((es ++ [b]).map V.ref))) d el sm pic log' n' (es ++ [b]) ls' Ps' := by
  have hel : H' el = some (.lst (es.map V.ref)) := k _ _ (h.elst h.hel).2.1 (f.refs h.hel) h.n3 h.hel
  obtain ⟨dy, h2⟩ := D
  have nd : el ≠ d := (h.elst h.hel).2.1
  refine ⟨⟨dy, by rw [upd_ne nd.symm]; exact h2⟩, upd_same, by rw [upd_ne h.n3.symm]; exact hsm, fun e he => ?_, L.keep fun q hq o e => by rw [upd_ne (L.nq P hel q hq)]; exact e, h.n3, P⟩
  rcases List.mem_append.mp he with he | he
  · obtain ⟨_, _, _, _, h3, _⟩ := h.E e he
    exact ((h.E e he).up (by omega)).kp fun o z => by
      rw [upd_ne (h.er he).2.1]
      exact k e o (ins_ne (h.E e he) h.B.dk) (f.ins h3) (h.er he).2.2 z
  · rw [List.mem_singleton.mp he]
    obtain ⟨dx, h1⟩ := h.B.bk
    refine ⟨dx, num, (Ps.length : Int), r, ?_, by omega⟩
    rw [upd_ne (h.elst h.hel).1.symm]
    exact k _ _ h.B.nbd (f.ins h1) (h.elst h.hsm).1.symm h1
section
variable {P : Program} {w : World} {K : PySem.W.Frag} {mg : Str → Option Value} {base : Heap} {CD CB CF : Addr}
def spLaw (K : PySem.W.Frag) : Sp := fun vs H Q _ => ∃ (a : Addr) (ns : List Int), vs = [.ref a] ∧ SqL K H a (ns.map V.int) ∧ ns.length ≤ 63 ∧ ∀ H', Q (.bl true) H'
abbrev sLaw : Stmt := topS 30
theorem scLaw : FnScope ["_law_script", "_law_disk", "_law_book", "_law_elder", "_law_some", "_law_k", "_law_feed_here", "_law_lines", "_law_way", "_law_had", "_law_due", "_law_one", "_law_copy"] ["_law_script"] (defScope sLaw) := ⟨rfl, rfl, rfl, by decide +kernel, rfl, by decide +kernel, by decide +kernel⟩
set_option maxHeartbeats 4000000 in
theorem ok_law {f : Addr} {fd : FuncData} (F : Fun K "law" "law" sLaw f fd) (T : Tk K mg CD CB) (c__law_feed : Callee P w K mg base 1 "_law_feed" ["_law_script", "_law_k"] (spFeed K)) (c__law_take : Callee P w K mg base 1 "_law_take" ["_law_feed_here", "_law_many"] spTake)
    (c__law_rows_drawn : Callee P w K mg base 4 "_law_rows_drawn" ["_law_feed_here"] spRowsD) (c__law_written : Callee P w K mg base 5 "_law_written" ["_law_feed_here", "_law_disk", "_law_book", "_law_lines", "_law_some"] (spWritten CD CB))
    (c__law_done : Callee P w K mg base 4 "_law_done" ["_law_book", "_law_way", "_law_lines"] (spDone K CD CB)) (c__law_copied : Callee P w K mg base 8 "_law_copied" ["_law_disk"] (spCopied CD CB)) (c__law_elder_right : Callee P w K mg base 5 "_law_elder_right" ["_law_feed_here", "_law_disk", "_law_elder", "_law_lines"] (spElder CD CB))
    (k_Disk : KCal P w K mg base 1 CD ["self", "hand", "picture", "log"] [.non, .str "", .str ""] (spDInit CD)) (k_Book : KCal P w K mg base 6 CB ["self", "disk", "hand"] [] (spBInitc CD CB)) (m_Book_rows : MCal P w K mg base 3 CB "rows" ["self"] (spBRows CD CB)) (m_Book_written : MCal P w K mg base 3 CB "written" ["self"] (spBWritten CD CB)) (m_Book_picture : MCal P w K mg base 3 CB "picture" ["self"] (spBPic CD CB))
    (m_Disk_log : MCal P w K mg base 1 CD "log" ["self"] (spSdlog CD)) : FnOk P w K mg base CX0 9 f fd ["_law_script"] (spLaw K) := by
  refine F.ok scLaw (fun vs H Q E h => ?_) (fun cdv A outer s H vs Q E hr h => ?_)
  · obtain ⟨a, ns, rfl, _⟩ := h
    rfl
  · obtain ⟨a, ns, rfl, hS, hl63, q⟩ := h
    have nd := scLaw.nd
    refine ⟨_, (pss_cons (ps_set (i := 1) nd rfl (Or.inl rfl) (pk_own0 k_Disk (hr.mono (by decide)) (by rfl) T.mDisk))
  (pss_cons (ps_set (i := 2) nd rfl (Or.inl rfl) (pk_own k_Book (hr.mono (by decide)) (by rfl) T.mBook (pa_cons (pv 1) (pa_cons pe_str pa_nil))))
  (pss_cons (ps_set (i := 3) nd rfl (Or.inl rfl) (pe_lst pa_nil))
  (pss_cons (ps_set (i := 4) nd rfl (Or.inl rfl) (pe_lst pa_nil))
  (pss_cons (ps_for PassesOwn.never rfl (pi_range1 (by rfl) T.range (pa_cons (pe_callB (call_max2 rfl) (by rfl) T.max (by decide +kernel) (pa_cons pe_int (pa_cons (pe_callB (call_min2 rfl) (by rfl) T.min (by decide +kernel) (pa_cons pe_int (pa_cons (pe_callB call_len_seq (by rfl) T.len PySem.boot_len (pa_cons (pv 0) pa_nil)) pa_nil))) pa_nil))) pa_nil)) (pg_name (i := 5) nd rfl (Or.inl rfl))
  (pss_cons (ps_set (i := 6) nd rfl (Or.inl rfl) (pe_own c__law_feed (hr.mono (by decide)) (by rfl) (pa_cons (pv 0) (pa_cons (pv 5) pa_nil))))
  (pss_cons (ps_set (i := 7) nd rfl (Or.inl rfl) (pe_own c__law_rows_drawn (hr.mono (by decide)) (by rfl) (pa_cons (pv 6) pa_nil)))
  (pss_cons (ps_set (i := 8) nd rfl (Or.inl rfl) (pe_own c__law_take (hr.mono (by decide)) (by rfl) (pa_cons (pv 6) (pa_cons pe_int pa_nil))))
  (Evl.pss_cut (ps_if (pt_cmpR op_eq (pv 8) pe_int (nomark _))
  (pss_one (ps_expr (pm_own0 m_Book_picture T.cBook (hr.mono (by decide)) (pv 2))))
  (pss_one (ps_if (pt_cmpR op_eq (pv 8) pe_int (nomark _))
  (pss_cons (ps_expr (pe_bm PySem.F.plainAttrs_list PySem.F.slot_list_append PySem.F.type_list_append mt_append (pv 3) (pa_cons (pv 2) pa_nil)))
  (pss_one (ps_set (i := 2) nd rfl (Or.inl rfl) (pk_own k_Book (hr.mono (by decide)) (by rfl) T.mBook (pa_cons (pv 1) (pa_cons pe_str pa_nil))))))
  (pss_cons (ps_set (i := 9) nd rfl (Or.inl rfl) (pe_callB call_len_str (by rfl) T.len PySem.boot_len (pa_cons (pm_own0 m_Disk_log T.cDisk (hr.mono (by decide)) (pv 1)) pa_nil)))
  (pss_cons (ps_if (pt_not (pt_val (pe_own c__law_written (hr.mono (by decide)) (by rfl) (pa_cons (pv 6) (pa_cons (pv 1) (pa_cons (pv 2) (pa_cons (pv 7) (pa_cons (pv 4) pa_nil))))))))
  (pss_one (ps_ret pe_bl))
  pss_nil)
  (pss_one (ps_if (pt_cmpR (op_eqD hr.units) (pe_own c__law_done (hr.mono (by decide)) (by rfl) (pa_cons (pv 2) (pa_cons pe_str (pa_cons (pe_lst pa_nil) pa_nil)))) pe_str (nomark _))
  (pss_cons (ps_expr (pe_bm PySem.F.plainAttrs_list PySem.F.slot_list_append PySem.F.type_list_append mt_append (pv 3) (pa_cons (pv 2) pa_nil)))
  (pss_one (ps_set (i := 2) nd rfl (Or.inl rfl) (pk_own k_Book (hr.mono (by decide)) (by rfl) T.mBook (pa_cons (pv 1) (pa_cons pe_str pa_nil))))))
  (pss_one (ps_if (pt_cmpR op_le (pe_callB call_len_str (by rfl) T.len PySem.boot_len (pa_cons (pm_own0 m_Disk_log T.cDisk (hr.mono (by decide)) (pv 1)) pa_nil)) (pv 9) (nomark _))
  (pss_one (ps_ret pe_bl))
  pss_nil)))))))))
  (pss_cons (ps_set (i := 10) nd rfl (Or.inl rfl) (pe_lst pa_nil))
  (pss_cons (ps_for PassesOwn.never rfl (pi_list (pv 4)) (pg_name (i := 11) nd rfl (Or.inl rfl))
  (pss_one (ps_set (i := 10) nd rfl (Or.inl rfl) (pe_op op_cat (pv 10) (pv 11)))))
  (pss_cons (ps_set (i := 12) nd rfl (Or.inl rfl) (pe_own c__law_copied (hr.mono (by decide)) (by rfl) (pa_cons (pv 1) pa_nil)))
  (pss_cons (ps_if (PW.pt (pw_or (pt_cmpR (op_neD hr.units) (pe_lst (pa_cons (pm_own0 m_Book_rows T.cBook (hr.mono (by decide)) (pv 2)) (pa_cons (pm_own0 m_Book_rows T.cBook (hr.mono (by decide)) (pv 12)) pa_nil))) (pe_lst (pa_cons (pv 10) (pa_cons (pv 10) pa_nil))) (nomark _)) (pw_or1 (pt_cmpR (op_neD hr.units) (pe_lst (pa_cons (pm_own0 m_Book_written T.cBook (hr.mono (by decide)) (pv 2)) (pa_cons (pm_own0 m_Book_written T.cBook (hr.mono (by decide)) (pv 12)) pa_nil))) (pe_op op_rep (pe_lst (pa_cons (pe_callB call_len_seq (by rfl) T.len PySem.boot_len (pa_cons (pv 4) pa_nil)) pa_nil)) pe_int) (nomark _)))))
  (pss_one (ps_ret pe_bl))
  pss_nil)
  (pss_one (ps_if (pt_not (pt_val (pe_own c__law_elder_right (hr.mono (by decide)) (by rfl) (pa_cons (pv 6) (pa_cons (pv 1) (pa_cons (pv 3) (pa_cons (pv 7) pa_nil)))))))
  (pss_one (ps_ret pe_bl))
  pss_nil)))))))))))
  (pss_one (ps_ret pe_bl))))))), ?_⟩
    have ez : sizeLine = 16777216 := by decide +kernel
    have big : ∀ n : Int, n ≤ 2000000 → n ≤ 10 ^ 60 := fun n hn => Int.le_trans hn (by decide +kernel)
    intro d x0 hd hx0 hn0
    refine ⟨d, x0, .non, .str "", .str "", rfl, upd_same, fun H1 k1 D0 => ⟨rfl, ?_⟩⟩
    have s1 : Same H H1 := fun y o e => k1 _ _ (ne_of_none e hd) (by rw [upd_ne (ne_of_none e hd), upd_ne (ne_of_none e hx0)]; exact e)
    refine ⟨_, rfl, ?_⟩
    intro b0 x1 hb0 hx1 hn1
    refine mk_bookf (CB := CB) (hand := "ann") (hand0 := .non) (w := 0) (R := []) D0 (.inl rfl) KeptL.none hb0 hx1 hn1 fun r0 H2 log0 hr0 k2 B2 => ⟨rfl, ?_⟩
    have hbH : H b0 = none := s1.fresh hb0
    have hrH : H r0 = none := s1.fresh hr0
    have s2 : Same H H2 := fun y o e => k2 _ _ (ne_of_none e hd) (s1 _ _ e)
    refine ⟨(by show 0 ≤ sizeLine; decide), fun el hel => ?_⟩
    have s3 := same_new (o := .lst []) hel
    refine ⟨(by show 0 ≤ sizeLine; decide), fun sm hsm => ?_⟩
    have s4 := same_new (o := .lst []) hsm
    have sH : Same H (upd (upd H2 el (.lst [])) sm (.lst [])) := (s2.tr s3).tr s4
    have hdH : H d = none := hd
    have helH : H el = none := s2.fresh hel
    have hsmH : H sm = none := (s2.tr s3).fresh hsm
    have nes : el ≠ sm := ne_of_none upd_same hsm
    have W0 : Wst CD CB (upd (upd H2 el (.lst [])) sm (.lst [])) d el sm b0 r0 "" log0 (0 + 1) [] [] [] :=
      ⟨(B2.same s3).same s4, s4 _ _ upd_same, upd_same, fun e h => (by cases h), ⟨rfl, fun j q p h => (by cases h)⟩, ne_of_none B2.rw hel, ne_of_none ((B2.same s3).rw) hsm, nes, fun q h => (by cases h), fun p h => (by cases h)⟩
    generalize upd (upd H2 el (.lst [])) sm (.lst []) = H3 at s4 sH W0 ⊢
    clear s3 s4 s2 B2 hsm hel k2 hr0 hb0 hx1 hn1 D0 s1
    refine ⟨.ref a, rfl, a, _, rfl, .inl (sH.seq hS), 20, _, rfl, 8, _, rfl, ?_⟩
    rw [List.length_map]
    generalize hm : (if (if ((ns.length : Nat) : Int) < 20 then ((ns.length : Nat) : Int) else 20) > 8 then (if ((ns.length : Nat) : Int) < 20 then ((ns.length : Nat) : Int) else 20) else 8) = m
    have hm1 : 8 ≤ m ∧ m ≤ 20 := by
      rw [← hm]
      constructor <;> (repeat' split) <;> omega
    refine ⟨m, rfl, by omega, by omega, for_range (lo := 0) (n := m.toNat) (fun i σ H' => ∃ b r pic log num es ls Ps, Wst CD CB H' d el sm b r pic log num es ls Ps ∧ Same H H' ∧ H b = none ∧ H r = none ∧ Ps.flatten.length ≤ 5 * i ∧ es.length ≤ i ∧ ∃ y5 y6 y7 y8 y9 y10 y11 y12, σ = [some (.ref a), some (.ref d), some (.ref b), some (.ref el), some (.ref sm), y5, y6, y7, y8, y9, y10, y11, y12])
      ⟨_, _, _, _, _, _, _, _, W0, sH, hbH, hrH, Nat.zero_le _, Nat.zero_le _, _, _, _, _, _, _, _, _, rfl⟩ (fun i σ H5 hi h => ?_) (fun σ H5 h => ?_)⟩
    rotate_left
    · exact q _
    clear W0 sH hbH hrH
    have nmd : ∀ {h p l f : V} {n : Int} (m : Str), (m == "_hand") = false → (m == "_picture") = false → (m == "_log") = false → (m == "_fall") = false → (m == "_holder") = false → (dfl h p l f n).lookup m = none := fun m h1 h2 h3 h4 h5 => dfl_m h1 h2 h3 h4 h5
    have nmb : ∀ {n w : Int} {d r : Addr} (m : Str), (m == "_number") = false → (m == "_disk") = false → (m == "_written") = false → (m == "_rows") = false → (bfl n d w r).lookup m = none := fun m h1 h2 h3 h4 => bfl_m h1 h2 h3 h4
    have hi : i < 20 := by omega
    obtain ⟨b, r, pic, log, num, es, ls, Ps, Wh, s5, hbH, hrH, hP, hes, y5, y6, y7, y8, y9, y10, y11, y12, rfl⟩ := h
    refine ⟨_, rfl, _, rfl, a, ns, _, rfl, s5.seq hS, by omega, by omega, fun fe H6 s6 hfe f6 => ?_⟩
    have W6 := Wh.same s6
    have hfeH : H fe = none := s5.fresh hfe
    refine ⟨_, rfl, fe, rfl, f6, fun p L H7 hLne hL5 hdr k7 f7 hp ep => ?_⟩
    have W7 := W6.feed f6 k7
    have s7 : Same H H7 := fun x o e => k7 _ _ (ne_of_none e hfeH) ((s5.tr s6) _ _ e)
    have hpH : H p = none := (s5.tr s6).fresh hp
    have hpr : p ≠ r := (ne_of_none W6.B.rw hp).symm
    have hps : p ≠ sm := (ne_of_none W6.hsm hp).symm
    have hpl : p ≠ el := (ne_of_none W6.hel hp).symm
    have hpe : p ≠ fe := f6.ne hp
    refine ⟨_, rfl, fe, 6, rfl, f7, by decide, big _ (by decide), fun v8 H8 k8 f8 v80 v81 => ?_⟩
    have W8 := W7.feed f7 k8
    have s8 : Same H H8 := fun x o e => k8 _ _ (ne_of_none e hfeH) (s7 _ _ e)
    have e8 := k8 _ _ hpe ep
    have fed : ∀ {H' : Hp} {hand pic log fall : V} {n : Int}, FeedAt H' fe → DskAt CD H' d hand pic log fall n → fe ≠ d := fun f D z => by
      obtain ⟨u, v, e, _⟩ := f
      obtain ⟨_, e2⟩ := D
      rw [← z, e] at e2
      cases e2
    have ped : ∀ {H' : Hp} {hand pic log fall : V} {n : Int}, H' p = some (.lst (rowV L)) → DskAt CD H' d hand pic log fall n → p ≠ d := fun e D z => by
      obtain ⟨_, e2⟩ := D
      rw [← z, e] at e2
      cases e2
    clear W6 W7 Wh s5 s6 s7 f6 f7 k7 k8 ep hp hfe
    refine ⟨fun σ' H' => ∃ b r pic log num es ls Ps y9, Wst CD CB H' d el sm b r pic log num es ls Ps ∧ Same H H' ∧ H b = none ∧ H r = none ∧ Ps.flatten.length ≤ 5 * (i + 1) ∧ es.length ≤ i + 1 ∧ FeedAt H' fe ∧ H' p = some (.lst (rowV L)) ∧ σ' = [some (.ref a), some (.ref d), some (.ref b), some (.ref el), some (.ref sm), some (.int (0 + (i : Int))), some (.ref fe), some (.ref p), some (.int v8), y9, y10, y11, y12], ?_, fun σ' H9 hm => ?_⟩
    · refine ⟨_, rfl, rfl, _, rfl, ite2 (fun c => ?_) (fun c => ⟨_, rfl, rfl, _, rfl, ite2 (fun c1 => ?_) (fun c1 => ?_)⟩)⟩
      · obtain ⟨dx, hb⟩ := W8.B.bk
        refine ⟨_, rfl, b, dx, _, rfl, hb, bfl_m (by decide +kernel) (by decide +kernel) (by decide +kernel) (by decide +kernel), b, d, r, "ann", pic, log, num, _, _, rfl, W8.B, fun H9 k9 B9 => ?_⟩
        refine ⟨b, r, _, _, _, _, _, _, _, W8.move (fun x o _ n _ e => k9 _ _ n e) B9, fun x o e => k9 _ _ (ne_of_none e hdH) (s8 _ _ e), hbH, hrH, by omega, by omega, f8.keep k9 (fed f8 W8.B.dk), k9 _ _ (ped e8 W8.B.dk) e8, rfl⟩
      · refine ⟨_, rfl, .inl ⟨rfl, _, SqL.of W8.hel⟩, _, rfl, el, _, _, rfl, rfl, W8.hel, by rw [List.length_map, ez]; omega, ?_⟩
        rw [show es.map V.ref ++ [V.ref b] = (es ++ [b]).map V.ref from by rw [List.map_append]; rfl]
        have F9 := W8.shut f8 (fun _ _ _ _ _ e => e) W8.B.dk (Int.le_refl _) W8.hsm W8.L W8.P
        have f9 := f8.mut (o := .lst ((es ++ [b]).map V.ref)) (f8.refs W8.hel)
        refine ⟨_, rfl, ?_⟩
        intro x dx hx hdx hne
        refine mk_bookf (CB := CB) (hand := "ann") F9.D (.inr rfl) W8.B.ke hx hdx hne fun r' H10 log' hr' k10 B10 => ⟨rfl, ?_⟩
        have s9 := s8.mutN (o := .lst ((es ++ [b]).map V.ref)) helH
        refine ⟨x, r', _, _, _, _, _, _, _, F9.book k10 hr' B10, fun x o e => k10 _ _ (ne_of_none e hdH) (s9 _ _ e), s9.fresh hx, s9.fresh hr', by omega, by rw [List.length_append, List.length_singleton]; omega, f9.keep k10 (fed f9 F9.D), k10 _ _ (ped (by rw [upd_ne hpl]; exact e8) F9.D) (by rw [upd_ne hpl]; exact e8), rfl⟩
      · obtain ⟨dy, hd8⟩ := id W8.B.dk
        have ke := W8.B.ke
        refine ⟨_, rfl, d, dy, _, rfl, hd8, nmd _ (by decide +kernel) (by decide +kernel) (by decide +kernel) (by decide +kernel) (by decide +kernel), d, _, _, _, _, num, rfl, W8.B.dk, ?_⟩
        have hll := ke.lens
        have hllog := len_tl log
        refine ⟨log, rfl, by rw [ez]; omega, ?_⟩
        have hrl := drawn_recL (n := Ps.length) hdr (by omega) ke.w_le
        have hrp := recL_pos Ps.length L
        refine ⟨_, rfl, _, rfl, _, rfl, _, rfl, _, rfl, fe, d, b, p, sm, r, ls, pic, log, num, Ps.length, Ps.flatten, L, rfl, f8, W8.B, e8, hpr, hLne, hdr, by omega, W8.hsm, W8.L.1, W8.n2.symm, hps, fun H9 k9 f9 B9 hsm9 => ?_, fun k H9 k9 f9 D9 hsm9 => ?_⟩
        · have W9 := W8.more f8 k9 B9 e8 hpr hps hLne hdr hsm9 (W8.L.nq W8.P W8.hsm)
          have s9 : Same H H9 := fun x o e => k9 _ _ (ne_of_none e hbH) (ne_of_none e hdH) (ne_of_none e hrH) (ne_of_none e hfeH) (ne_of_none e hsmH) (s8 _ _ e)
          have e9 := k9 _ _ (W8.elst e8).1 (W8.elst e8).2.1 hpr hpe hps e8
          refine ⟨true, rfl, iteF ⟨_, rfl, (by show 0 ≤ sizeLine; decide), fun pn hpn => ?_⟩⟩
          have sN := same_new (o := .lst []) hpn
          refine .inr (.inl ⟨b, d, r, .ref pn, "ann", pic, _, num, _, _, rfl, W9.B.same sN, fun p2 H10 s10 hp2 e10 => ?_⟩)
          have W10 := (W9.same sN).same s10
          have lf : Lay 0 (.str ("fallen" : Str)) := lay_ascii (by decide +kernel)
          refine ⟨rowsD _, .str "fallen", dp_rows (SqL.of e10), dp_str _, (rowsD_lay W10.ok).shaped (by decide), lf.shaped (by decide), _, rfl, ?_⟩
          rw [show PyData.eqv (rowsD (Ps ++ [L]).flatten) (.str "fallen") = false from rfl]
          obtain ⟨dz, hd10⟩ := id W10.B.dk
          have etl : tl (log ++ S (recL Ps.length L)) = tl log ++ recL Ps.length L := by
            show (log ++ S (recL Ps.length L)).cps.toList = _
            rw [Str.cps_append, Array.toList_append]
            rfl
          have elen := len_tl (log ++ S (recL Ps.length L))
          rw [etl, List.length_append] at elen
          refine iteF ⟨_, rfl, d, dz, _, rfl, hd10, nmd _ (by decide +kernel) (by decide +kernel) (by decide +kernel) (by decide +kernel) (by decide +kernel), d, _, _, _, _, num, rfl, W10.B.dk, _, rfl, by rw [elen, ez]; omega, _, rfl, _, _, rfl, rfl, _, rfl, ?_⟩
          rw [decide_eq_false (by rw [elen, hllog]; omega)]
          refine iteF ⟨b, r, _, _, _, _, _, _, _, W10, (s9.tr sN).tr s10, hbH, hrH, ?_, by omega, (f9.same sN).same s10, s10 _ _ (sN _ _ e9), rfl⟩
          rw [List.flatten_append, List.length_append]
          show _ + ([L].flatten).length ≤ _
          rw [show [L].flatten = L from by simp]
          omega
        · have s9 : Same H H9 := fun x o e => k9 _ _ (ne_of_none e hdH) (ne_of_none e hfeH) (ne_of_none e hsmH) (s8 _ _ e)
          have e9 := k9 _ _ (W8.elst e8).2.1 hpe hps e8
          refine ⟨true, rfl, iteF ⟨_, rfl, (by show 0 ≤ sizeLine; decide), fun pn hpn => ?_⟩⟩
          have sN := same_new (o := .lst []) hpn
          obtain ⟨dx, hb⟩ := W8.B.bk
          have hb9 := k9 _ _ W8.B.nbd (f8.ins hb) (W8.elst W8.hsm).1.symm hb
          have lf : Lay 0 (.str ("fallen" : Str)) := lay_ascii (by decide +kernel)
          refine .inr (.inr ⟨b, d, "rows", .ref pn, _, _, _, _, num + 1, rfl, .inr (.inl rfl), ⟨dx, num, _, r, sN _ _ hb9, by omega⟩, D9.imp fun _ e => sN _ _ e, ?_⟩)
          refine ⟨.str "fallen", .str "fallen", dp_str _, dp_str _, lf.shaped (by decide), lf.shaped (by decide), _, rfl, ?_⟩
          rw [lf.eqv]
          obtain ⟨ac, w2, R2, c1, c2, c3, c4, c5⟩ := ke.cut hLne hdr (by omega) k
          have hgo : ∃ ls' Ps', (if (recL Ps.length L).length ≤ k then ls ++ [p] else ls) = ls' ∧ LsAt H9 ls' Ps' ∧ (∀ p ∈ Ps', p ≠ [] ∧ ∀ x ∈ p, Drawn x) ∧ w2 = Ps'.length ∧ R2 = Ps'.flatten ∧ Ps'.flatten.length ≤ 5 * (i + 1) := by
            have L9 : LsAt H9 ls Ps := W8.L.keep fun q hq o e => by
              obtain ⟨z, hz⟩ := W8.L.at hq
              exact k9 _ _ (W8.elst hz).2.1 (f8.rows hz) (W8.L.nq W8.P W8.hsm q hq) e
            have ef : (Ps ++ [L]).flatten = Ps.flatten ++ L := by simp
            by_cases c : k < (recL Ps.length L).length
            · exact ⟨ls, Ps, if_neg (by omega), L9, W8.P, (c4 c).1, (c4 c).2, by omega⟩
            · refine ⟨ls ++ [p], Ps ++ [L], if_pos (by omega), L9.snoc e9, fun z hz => ?_, by rw [(c5 (by omega)).1, List.length_append]; rfl, by rw [(c5 (by omega)).2, ef], by rw [ef, List.length_append]; omega⟩
              rcases List.mem_append.mp hz with hz | hz
              · exact W8.P z hz
              · rw [List.mem_singleton.mp hz]
                exact ⟨hLne, hdr⟩
          obtain ⟨ls', Ps', el', L9, P9, ew, eR, hP9⟩ := hgo
          rw [el'] at hsm9
          subst ew
          subst eR
          have hel10 := sN _ _ (k9 _ _ (W8.elst W8.hel).2.1 (f8.refs W8.hel) W8.n3 W8.hel)
          have f10 := f9.same sN
          have F9 := W8.shut (b := b) f8 (fun x o n1 n2 n3 e => sN _ _ (k9 x o n1 n2 n3 e)) (D9.imp fun _ e => sN _ _ e) (by omega) (sN _ _ hsm9) (L9.keep fun q _ o e => sN _ _ e) P9
          have f11 := f10.mut (o := .lst ((es ++ [b]).map V.ref)) (f8.refs W8.hel)
          have s11 := (s9.tr sN).mutN (o := .lst ((es ++ [b]).map V.ref)) helH
          refine iteT ⟨_, rfl, .inl ⟨rfl, _, SqL.of hel10⟩, _, rfl, el, _, _, rfl, rfl, hel10, by rw [List.length_map, ez]; omega, ?_⟩
          rw [show es.map V.ref ++ [V.ref b] = (es ++ [b]).map V.ref from by rw [List.map_append]; rfl]
          refine ⟨_, rfl, ?_⟩
          intro x dx hx hdx hne
          have etl : tl (log ++ S ((recL Ps.length L).take k)) = tl log ++ (recL Ps.length L).take k := by
            show (log ++ S ((recL Ps.length L).take k)).cps.toList = _
            rw [Str.cps_append, Array.toList_append]
            rfl
          have elen := len_tl (log ++ S ((recL Ps.length L).take k))
          rw [etl] at elen
          refine mk_books (CB := CB) (hand := "ann") (a := ac) F9.D (.inr rfl) (by rw [etl]; exact c1) (by rw [etl]; exact c2) (by rw [elen]; exact c3) (by rw [elen, List.length_append, List.length_take]; omega) hx hdx hne fun r' H15 hr' k15 B15 => ⟨rfl, ?_⟩
          refine ⟨x, r', _, _, _, _, _, _, _, F9.book k15 hr' B15, fun x o e => k15 _ _ (ne_of_none e hdH) (s11 _ _ e), s11.fresh hx, s11.fresh hr', hP9, by rw [List.length_append, List.length_singleton]; omega, f11.keep k15 (fed f11 F9.D), k15 _ _ (ped (by rw [upd_ne hpl]; exact sN _ _ e9) F9.D) (by rw [upd_ne hpl]; exact sN _ _ e9), rfl⟩
    clear W8 s8 f8 e8 hP hes hpr hbH hrH
    obtain ⟨b, r, pic, log, num, es, ls, Ps, y9, W9, s9, hbH, hrH, hP, hes, f9, e9, rfl⟩ := hm
    refine ⟨(by show 0 ≤ sizeLine; decide), fun du hdu => ?_⟩
    have s10 := same_new (o := .lst []) hdu
    have edu : (upd H9 du (.lst [])) du = some (.lst []) := upd_same
    generalize upd H9 du (.lst []) = H10 at s10 edu ⊢
    refine ⟨_, rfl, sm, rfl, ⟨_, SqL.of (s10 _ _ W9.hsm)⟩, for_list (xs := ls.map V.ref) (fun j σ H' => Same H9 H' ∧ ∃ du y11, H' du = some (.lst (rowV (Ps.take j).flatten)) ∧ σ = [some (.ref a), some (.ref d), some (.ref b), some (.ref el), some (.ref sm), some (.int (0 + (i : Int))), some (.ref fe), some (.ref p), some (.int v8), y9, some (.ref du), y11, y12]) ⟨s10, du, _, edu, rfl⟩ (fun j σ H' _ p => SqL.of (p.1 _ _ W9.hsm)) (fun j v σ H3 hv p => ?_) (fun σ H3 p => ?_)⟩
    · obtain ⟨s3, du, y11, ed, rfl⟩ := p
      have hj : j < ls.length := by
        have := (List.getElem?_eq_some_iff.mp hv).1
        rwa [List.length_map] at this
      have ev : v = .ref ls[j] := by
        rw [List.getElem?_map, List.getElem?_eq_getElem hj] at hv
        exact (Option.some.inj hv).symm
      subst ev
      have hj2 : j < Ps.length := by rw [← W9.L.1]; exact hj
      have eq := s3 _ _ (W9.L.2 j _ _ (List.getElem?_eq_getElem hj) (List.getElem?_eq_getElem hj2))
      have h1 := flat_take Ps hj2
      have h2 := flat_take_le Ps (j + 1)
      rw [h1, List.length_append] at h2
      refine ⟨_, rfl, _, rfl, du, ls[j], _, _, rfl, rfl, ed, eq, by unfold rowV; rw [List.length_map, List.length_map, ez]; omega, fun p2 hp2 => ⟨s3.tr (same_new hp2), p2, _, ?_, rfl⟩⟩
      rw [upd_same, h1]
      unfold rowV
      rw [List.map_append]
    obtain ⟨s3, du, y11, ed, rfl⟩ := p
    rw [List.length_map, W9.L.1, List.take_length] at ed
    have W3 := W9.same s3
    refine ⟨_, rfl, d, pic, log, num, _, _, rfl, W3.B.dk, W3.B.ke, fun cb d2 r2 log2 H4 s4 hcb hd2 hr2 B2 => ?_⟩
    have W4 := W3.same s4
    have ed4 := s4 _ _ ed
    obtain ⟨dx1, hb1⟩ := W4.B.bk
    refine ⟨_, rfl, b, dx1, _, rfl, hb1, nmb _ (by decide +kernel) (by decide +kernel) (by decide +kernel) (by decide +kernel), b, d, r, "ann", pic, log, num, _, _, rfl, W4.B, fun p1 H5 s5 hp1 e5 => ?_⟩
    have B5 := B2.same s5
    obtain ⟨dx2, hb2⟩ := B5.bk
    refine ⟨_, rfl, cb, dx2, _, rfl, hb2, nmb _ (by decide +kernel) (by decide +kernel) (by decide +kernel) (by decide +kernel), cb, d2, r2, "ann", pic, log2, 1, _, _, rfl, B5, fun p2 H6 s6 hp2 e6 => ?_⟩
    have W6 := (W4.same s5).same s6
    have B6 := B5.same s6
    have e16 := s6 _ _ e5
    have ed6 := s6 _ _ (s5 _ _ ed4)
    have s36 : Same H3 H6 := (s4.tr s5).tr s6
    clear W4 B2 B5 e5 ed4 ed
    refine ⟨(by show 2 ≤ sizeLine; decide), fun l1 hl1 => ?_⟩
    have n1 := same_new (o := .lst [.ref p1, .ref p2]) hl1
    refine ⟨_, rfl, _, rfl, (by show 2 ≤ sizeLine; decide), fun l2 hl2 => ?_⟩
    have n2 := same_new (o := .lst [.ref du, .ref du]) hl2
    have el1 := n2 _ _ (upd_same (H := H6) (a := l1) (o := .lst [.ref p1, .ref p2]))
    have el2 : (upd (upd H6 l1 (.lst [.ref p1, .ref p2])) l2 (.lst [.ref du, .ref du])) l2 = some (.lst [.ref du, .ref du]) := upd_same
    generalize upd (upd H6 l1 (.lst [.ref p1, .ref p2])) l2 (.lst [.ref du, .ref du]) = H7 at n2 el1 el2 ⊢
    have s7 := n1.tr n2
    have lR := rowsD_lay W6.ok
    have lRR : Lay 2 (.list [rowsD Ps.flatten, rowsD Ps.flatten]) := .lst (k := 1) fun z hz => by
      simp only [List.mem_cons, List.not_mem_nil, or_false, or_self] at hz
      rw [hz]
      exact lR
    refine ⟨.list [rowsD Ps.flatten, rowsD Ps.flatten], .list [rowsD Ps.flatten, rowsD Ps.flatten], .lst (SqL.of el1) (.cons (dp_rows (SqL.of (s7 _ _ e16))) (.cons (dp_rows (SqL.of (s7 _ _ e6))) .nil)), .lst (SqL.of el2) (.cons (dp_rows (SqL.of (s7 _ _ ed6))) (.cons (dp_rows (SqL.of (s7 _ _ ed6))) .nil)), lRR.shaped (by decide), lRR.shaped (by decide), _, rfl, ?_⟩
    rw [lRR.eqv]
    have W7 := W6.same s7
    have B7 := B6.same s7
    obtain ⟨dx3, hb3⟩ := W7.B.bk
    obtain ⟨dx4, hb4⟩ := B7.bk
    refine iteF ⟨_, rfl, b, dx3, _, rfl, hb3, nmb _ (by decide +kernel) (by decide +kernel) (by decide +kernel) (by decide +kernel), b, d, r, "ann", pic, log, num, _, _, rfl, W7.B, ?_⟩
    refine ⟨_, rfl, cb, dx4, _, rfl, hb4, nmb _ (by decide +kernel) (by decide +kernel) (by decide +kernel) (by decide +kernel), cb, d2, r2, "ann", pic, log2, 1, _, _, rfl, B7, ?_⟩
    refine ⟨(by show 2 ≤ sizeLine; decide), fun l3 hl3 => ?_⟩
    have n3 := same_new (o := .lst [.int (Ps.length : Int), .int (Ps.length : Int)]) hl3
    have el3 : (upd H7 l3 (.lst [.int (Ps.length : Int), .int (Ps.length : Int)])) l3 = some (.lst [.int (Ps.length : Int), .int (Ps.length : Int)]) := upd_same
    generalize upd H7 l3 (.lst [.int (Ps.length : Int), .int (Ps.length : Int)]) = H8 at n3 el3 ⊢
    have W8 := W7.same n3
    refine ⟨_, rfl, sm, _, rfl, .inl (SqL.of W8.hsm), (by show 1 ≤ sizeLine; decide), fun l4 hl4 => ?_⟩
    rw [List.length_map, W9.L.1]
    have n4 := same_new (o := .lst [.int (Ps.length : Int)]) hl4
    have el4 : (upd H8 l4 (.lst [.int (Ps.length : Int)])) l4 = some (.lst [.int (Ps.length : Int)]) := upd_same
    generalize upd H8 l4 (.lst [.int (Ps.length : Int)]) = H9b at n4 el4 ⊢
    refine ⟨l4, 2, _, rfl, rfl, el4, by decide, by decide, (by show 1 * 2 ≤ sizeLine; decide), fun l5 hl5 => ?_⟩
    have n5 := same_new (o := .lst (List.replicate (2 : Int).toNat [V.int (Ps.length : Int)]).flatten) hl5
    have el5 : (upd H9b l5 (.lst (List.replicate (2 : Int).toNat [V.int (Ps.length : Int)]).flatten)) l5 = some (.lst [.int (Ps.length : Int), .int (Ps.length : Int)]) := upd_same
    generalize upd H9b l5 (.lst (List.replicate (2 : Int).toNat [V.int (Ps.length : Int)]).flatten) = H10b at n5 el5 ⊢
    have lZ : Lay 1 (.list [.int (Ps.length : Int), .int (Ps.length : Int)]) := .lst (k := 0) fun z hz => by
      simp only [List.mem_cons, List.not_mem_nil, or_false, or_self] at hz
      rw [hz]
      exact .int _
    refine ⟨.list [.int (Ps.length : Int), .int (Ps.length : Int)], .list [.int (Ps.length : Int), .int (Ps.length : Int)], .lst (SqL.of (n5 _ _ (n4 _ _ el3))) (.cons (.int _) (.cons (.int _) .nil)), .lst (SqL.of el5) (.cons (.int _) (.cons (.int _) .nil)), lZ.shaped (by decide), lZ.shaped (by decide), ?_⟩
    rw [lZ.eqv]
    have sZ : Same H9 H10b := (((((s3.tr s36).tr s7).tr n3).tr n4).tr n5)
    have WZ := W9.same sZ
    have lows := KeptL.low WZ.B.ke
    refine ⟨_, rfl, iteF ⟨_, rfl, _, rfl, _, rfl, _, rfl, fe, d, el, p, es, "ann", pic, log, .non, num, L, rfl, WZ.hel, by omega, WZ.E, WZ.B.dk, sZ _ _ e9, by decide +kernel, lows.1, lows.2, fun H' s' => ⟨true, rfl, iteF ?_⟩⟩⟩
    exact ⟨b, r, _, _, _, _, _, _, WZ.same s', (s9.tr sZ).tr s', hbH, hrH, hP, hes, _, _, _, _, _, _, _, _, rfl⟩
end
end Lr
namespace Lr
open PySem PySem.Spec PyProof.Rows L2 Lf
def dskP {α : Type} (vs zs : List α) : List α := match zs with
  | [h, l, p] => vs ++ [h, p, l]
  | _ => vs
theorem dskG_eq : dskG = fun vs zs => dskP vs zs := by
  funext vs zs
  rcases zs with _ | ⟨a, _ | ⟨b, _ | ⟨c, _ | ⟨d, zs⟩⟩⟩⟩ <;> rfl
theorem dsk_rel {vs zs : List V} {us ws : List Value} (h : Vals vs us) (k : Vals zs ws) : Vals (dskP vs zs) (dskP us ws) := by
  cases k with
  | nil => exact h
  | cons a k =>
    cases k with
    | nil => exact h
    | cons b k =>
      cases k with
      | nil => exact h
      | cons c k =>
        cases k with
        | nil => exact h.append (.cons a (.cons c (.cons b .nil)))
        | cons d k => exact h
end Lr
namespace Lr
open PySem PySem.Spec PyProof.Rows L2 Lf
section
set_option maxHeartbeats 4000000 in
theorem all_mk {l : PySem.W.OpenLaw} {w : World} {K : PySem.W.Frag} {h : Heap} {mg : Str → Option Value} {fa CD CB CF : Addr} (X : K.In h) (G : h.Ns mainGlobals mg) (hfa : mg "law" = some (.ref fa))
    {od0 an0 : Option Addr} {sl0 : Array (Option Value)} {oc0 kV0 dc0 pm0 cd0 ct0 : Value} {f0 : Addr}
    {od1 an1 : Option Addr} {sl1 : Array (Option Value)} {oc1 kV1 dc1 pm1 cd1 ct1 : Value} {f1 : Addr}
    {od2 an2 : Option Addr} {sl2 : Array (Option Value)} {oc2 kV2 dc2 pm2 cd2 ct2 : Value} {f2 : Addr}
    {od3 an3 : Option Addr} {sl3 : Array (Option Value)} {oc3 kV3 dc3 pm3 cd3 ct3 : Value} {f3 : Addr}
    {od4 an4 : Option Addr} {sl4 : Array (Option Value)} {oc4 kV4 dc4 pm4 cd4 ct4 : Value} {f4 : Addr}
    {od5 an5 : Option Addr} {sl5 : Array (Option Value)} {oc5 kV5 dc5 pm5 cd5 ct5 : Value} {f5 : Addr}
    {od6 an6 : Option Addr} {sl6 : Array (Option Value)} {oc6 kV6 dc6 pm6 cd6 ct6 : Value} {f6 : Addr}
    {od7 an7 : Option Addr} {sl7 : Array (Option Value)} {oc7 dc7 pm7 cd7 ct7 : Value} {f7 : Addr} {D7 : Addr} {kt7_1 : Tok} {kt7_2 : Tok}
    {od8 an8 : Option Addr} {sl8 : Array (Option Value)} {oc8 kV8 dc8 pm8 cd8 ct8 : Value} {f8 : Addr}
    {od9 an9 : Option Addr} {sl9 : Array (Option Value)} {oc9 kV9 dc9 pm9 cd9 ct9 : Value} {f9 : Addr}
    {od10 an10 : Option Addr} {sl10 : Array (Option Value)} {oc10 kV10 dc10 pm10 cd10 ct10 : Value} {f10 : Addr}
    {od11 an11 : Option Addr} {sl11 : Array (Option Value)} {oc11 kV11 dc11 pm11 cd11 ct11 : Value} {f11 : Addr}
    {od12 an12 : Option Addr} {sl12 : Array (Option Value)} {oc12 kV12 dc12 pm12 cd12 ct12 : Value} {f12 : Addr}
    {od13 an13 : Option Addr} {sl13 : Array (Option Value)} {oc13 kV13 dc13 pm13 cd13 ct13 : Value} {f13 : Addr}
    {od14 an14 : Option Addr} {sl14 : Array (Option Value)} {oc14 kV14 dc14 pm14 cd14 ct14 : Value} {f14 : Addr}
    {od15 an15 : Option Addr} {sl15 : Array (Option Value)} {oc15 kV15 dc15 pm15 cd15 ct15 : Value} {f15 : Addr}
    {od16 an16 : Option Addr} {sl16 : Array (Option Value)} {oc16 kV16 dc16 pm16 cd16 ct16 : Value} {f16 : Addr}
    {od17 an17 : Option Addr} {sl17 : Array (Option Value)} {oc17 kV17 dc17 pm17 cd17 ct17 : Value} {f17 : Addr}
    {od18 an18 : Option Addr} {sl18 : Array (Option Value)} {oc18 kV18 dc18 pm18 cd18 ct18 : Value} {f18 : Addr}
    {od19 an19 : Option Addr} {sl19 : Array (Option Value)} {oc19 kV19 dc19 pm19 cd19 ct19 : Value} {f19 : Addr}
    {od20 an20 : Option Addr} {sl20 : Array (Option Value)} {oc20 kV20 dc20 pm20 cd20 ct20 : Value} {f20 : Addr}
    {od21 an21 : Option Addr} {sl21 : Array (Option Value)} {oc21 kV21 dc21 pm21 cd21 ct21 : Value} {f21 : Addr}
    {od22 an22 : Option Addr} {sl22 : Array (Option Value)} {oc22 kV22 dc22 pm22 cd22 ct22 : Value} {f22 : Addr}
    {od23 an23 : Option Addr} {sl23 : Array (Option Value)} {oc23 kV23 dc23 pm23 cd23 ct23 : Value} {f23 : Addr}
    {od24 an24 : Option Addr} {sl24 : Array (Option Value)} {oc24 kV24 dc24 pm24 cd24 ct24 : Value} {f24 : Addr}
    {od25 an25 : Option Addr} {sl25 : Array (Option Value)} {oc25 kV25 dc25 pm25 cd25 ct25 : Value} {f25 : Addr}
    {od26 an26 : Option Addr} {sl26 : Array (Option Value)} {oc26 kV26 dc26 pm26 cd26 ct26 : Value} {f26 : Addr}
    {od27 an27 : Option Addr} {sl27 : Array (Option Value)} {oc27 kV27 dc27 pm27 cd27 ct27 : Value} {f27 : Addr}
    {od28 an28 : Option Addr} {sl28 : Array (Option Value)} {oc28 kV28 dc28 pm28 cd28 ct28 : Value} {f28 : Addr}
    {od29 an29 : Option Addr} {sl29 : Array (Option Value)} {oc29 kV29 dc29 pm29 cd29 ct29 : Value} {f29 : Addr}
    {od30 an30 : Option Addr} {sl30 : Array (Option Value)} {oc30 kV30 dc30 pm30 cd30 ct30 : Value} {f30 : Addr}
    {od31 an31 : Option Addr} {sl31 : Array (Option Value)} {oc31 kV31 dc31 pm31 cd31 ct31 : Value} {f31 : Addr}
    {od32 an32 : Option Addr} {sl32 : Array (Option Value)} {oc32 kV32 dc32 pm32 cd32 ct32 : Value} {f32 : Addr}
    {od33 an33 : Option Addr} {sl33 : Array (Option Value)} {oc33 kV33 dc33 pm33 cd33 ct33 : Value} {f33 : Addr}
    {tk0 : Tok}
    (aC0 : PySem.W.nsIn K mainGlobals "Disk" = some (some (.ref CD)))
    (pg0 : PySem.W.plainGet K CD Str.empty = true)
    (hd0 : PySem.W.hasDictIn K CD = true)
    (po0 : PySem.W.plainOver K CD = true)
    (sa0 : PySem.W.findIn K (.ref CD) "__setattr__" = some (some (.builtin "object.__setattr__")))
    (mk0 : PySem.W.makesIn K CD = true)
    (kc0 : PySem.W.keepIn K (.ref CD) = true)
    (na0_0 : PySem.W.findIn K (.ref CD) "_hand" = some none)
    (na0_1 : PySem.W.findIn K (.ref CD) "_picture" = some none)
    (na0_2 : PySem.W.findIn K (.ref CD) "_log" = some none)
    (na0_3 : PySem.W.findIn K (.ref CD) "_fall" = some none)
    (na0_4 : PySem.W.findIn K (.ref CD) "_holder" = some none)
    (aC1 : PySem.W.nsIn K mainGlobals "Book" = some (some (.ref CB)))
    (pg1 : PySem.W.plainGet K CB Str.empty = true)
    (hd1 : PySem.W.hasDictIn K CB = true)
    (po1 : PySem.W.plainOver K CB = true)
    (sa1 : PySem.W.findIn K (.ref CB) "__setattr__" = some (some (.builtin "object.__setattr__")))
    (mk1 : PySem.W.makesIn K CB = true)
    (kc1 : PySem.W.keepIn K (.ref CB) = true)
    (na1_0 : PySem.W.findIn K (.ref CB) "_number" = some none)
    (na1_1 : PySem.W.findIn K (.ref CB) "_disk" = some none)
    (na1_2 : PySem.W.findIn K (.ref CB) "_written" = some none)
    (na1_3 : PySem.W.findIn K (.ref CB) "_rows" = some none)
    (a0 : PySem.W.nsIn K mainGlobals "number_in" = some (some (.ref f0)))
    (l0 : K.lookup f0 = some ⟨oc0, od0, .func (PySem.W.fnOf "number_in" "number_in" (defArgs (topS 5)) (defBody (topS 5)) (defScope (topS 5)) .none kV0 dc0 pm0 an0 cd0 ct0), sl0⟩)
    (c0 : PySem.W.codeIn K cd0 "number_in" = true)
    (k0 : PySem.W.keepIn K (.ref f0) = true)
    (a1 : PySem.W.nsIn K mainGlobals "check_of" = some (some (.ref f1)))
    (l1 : K.lookup f1 = some ⟨oc1, od1, .func (PySem.W.fnOf "check_of" "check_of" (defArgs (topS 8)) (defBody (topS 8)) (defScope (topS 8)) .none kV1 dc1 pm1 an1 cd1 ct1), sl1⟩)
    (c1 : PySem.W.codeIn K cd1 "check_of" = true)
    (k1 : PySem.W.keepIn K (.ref f1) = true)
    (a2 : PySem.W.nsIn K mainGlobals "record" = some (some (.ref f2)))
    (l2 : K.lookup f2 = some ⟨oc2, od2, .func (PySem.W.fnOf "record" "record" (defArgs (topS 9)) (defBody (topS 9)) (defScope (topS 9)) .none kV2 dc2 pm2 an2 cd2 ct2), sl2⟩)
    (c2 : PySem.W.codeIn K cd2 "record" = true)
    (k2 : PySem.W.keepIn K (.ref f2) = true)
    (a3 : PySem.W.nsIn K mainGlobals "parsed" = some (some (.ref f3)))
    (l3 : K.lookup f3 = some ⟨oc3, od3, .func (PySem.W.fnOf "parsed" "parsed" (defArgs (topS 10)) (defBody (topS 10)) (defScope (topS 10)) .none kV3 dc3 pm3 an3 cd3 ct3), sl3⟩)
    (c3 : PySem.W.codeIn K cd3 "parsed" = true)
    (k3 : PySem.W.keepIn K (.ref f3) = true)
    (a4 : PySem.W.nsIn K mainGlobals "record_at" = some (some (.ref f4)))
    (l4 : K.lookup f4 = some ⟨oc4, od4, .func (PySem.W.fnOf "record_at" "record_at" (defArgs (topS 11)) (defBody (topS 11)) (defScope (topS 11)) .none kV4 dc4 pm4 an4 cd4 ct4), sl4⟩)
    (c4 : PySem.W.codeIn K cd4 "record_at" = true)
    (k4 : PySem.W.keepIn K (.ref f4) = true)
    (a5 : PySem.W.nsIn K mainGlobals "number_until" = some (some (.ref f5)))
    (l5 : K.lookup f5 = some ⟨oc5, od5, .func (PySem.W.fnOf "number_until" "number_until" (defArgs (topS 12)) (defBody (topS 12)) (defScope (topS 12)) .none kV5 dc5 pm5 an5 cd5 ct5), sl5⟩)
    (c5 : PySem.W.codeIn K cd5 "number_until" = true)
    (k5 : PySem.W.keepIn K (.ref f5) = true)
    (a6 : PySem.W.nsIn K mainGlobals "is_row" = some (some (.ref f6)))
    (l6 : K.lookup f6 = some ⟨oc6, od6, .func (PySem.W.fnOf "is_row" "is_row" (defArgs (topS 13)) (defBody (topS 13)) (defScope (topS 13)) .none kV6 dc6 pm6 an6 cd6 ct6), sl6⟩)
    (c6 : PySem.W.codeIn K cd6 "is_row" = true)
    (k6 : PySem.W.keepIn K (.ref f6) = true)
    (a7 : PySem.W.findIn K (.ref CD) "__init__" = some (some (.ref f7)))
    (i7 : PySem.W.isFn K (.ref f7) = true)
    (l7 : K.lookup f7 = some ⟨oc7, od7, .func (PySem.W.fnOf "__init__" "Disk.__init__" (defArgs (inClass (topS 17) 0)) (defBody (inClass (topS 17) 0)) (defScope (inClass (topS 17) 0)) .none (.ref D7) dc7 pm7 an7 cd7 ct7), sl7⟩)
    (c7 : PySem.W.codeIn K cd7 "Disk.__init__" = true)
    (k7 : PySem.W.keepIn K (.ref f7) = true)
    (n7_0 : PySem.W.nsIn K D7 "hand" = some (some (.none)))
    (n7_1 : PySem.W.nsIn K D7 "picture" = some (some (.str "" kt7_1)))
    (n7_2 : PySem.W.nsIn K D7 "log" = some (some (.str "" kt7_2)))
    (a8 : PySem.W.findIn K (.ref CD) "whose" = some (some (.ref f8)))
    (i8 : PySem.W.isFn K (.ref f8) = true)
    (l8 : K.lookup f8 = some ⟨oc8, od8, .func (PySem.W.fnOf "whose" "Disk.whose" (defArgs (inClass (topS 17) 1)) (defBody (inClass (topS 17) 1)) (defScope (inClass (topS 17) 1)) .none kV8 dc8 pm8 an8 cd8 ct8), sl8⟩)
    (c8 : PySem.W.codeIn K cd8 "Disk.whose" = true)
    (k8 : PySem.W.keepIn K (.ref f8) = true)
    (a9 : PySem.W.findIn K (.ref CD) "picture" = some (some (.ref f9)))
    (i9 : PySem.W.isFn K (.ref f9) = true)
    (l9 : K.lookup f9 = some ⟨oc9, od9, .func (PySem.W.fnOf "picture" "Disk.picture" (defArgs (inClass (topS 17) 2)) (defBody (inClass (topS 17) 2)) (defScope (inClass (topS 17) 2)) .none kV9 dc9 pm9 an9 cd9 ct9), sl9⟩)
    (c9 : PySem.W.codeIn K cd9 "Disk.picture" = true)
    (k9 : PySem.W.keepIn K (.ref f9) = true)
    (a10 : PySem.W.findIn K (.ref CD) "log" = some (some (.ref f10)))
    (i10 : PySem.W.isFn K (.ref f10) = true)
    (l10 : K.lookup f10 = some ⟨oc10, od10, .func (PySem.W.fnOf "log" "Disk.log" (defArgs (inClass (topS 17) 3)) (defBody (inClass (topS 17) 3)) (defScope (inClass (topS 17) 3)) .none kV10 dc10 pm10 an10 cd10 ct10), sl10⟩)
    (c10 : PySem.W.codeIn K cd10 "Disk.log" = true)
    (k10 : PySem.W.keepIn K (.ref f10) = true)
    (a11 : PySem.W.findIn K (.ref CD) "hold" = some (some (.ref f11)))
    (i11 : PySem.W.isFn K (.ref f11) = true)
    (l11 : K.lookup f11 = some ⟨oc11, od11, .func (PySem.W.fnOf "hold" "Disk.hold" (defArgs (inClass (topS 17) 5)) (defBody (inClass (topS 17) 5)) (defScope (inClass (topS 17) 5)) .none kV11 dc11 pm11 an11 cd11 ct11), sl11⟩)
    (c11 : PySem.W.codeIn K cd11 "Disk.hold" = true)
    (k11 : PySem.W.keepIn K (.ref f11) = true)
    (a12 : PySem.W.findIn K (.ref CD) "holder" = some (some (.ref f12)))
    (i12 : PySem.W.isFn K (.ref f12) = true)
    (l12 : K.lookup f12 = some ⟨oc12, od12, .func (PySem.W.fnOf "holder" "Disk.holder" (defArgs (inClass (topS 17) 6)) (defBody (inClass (topS 17) 6)) (defScope (inClass (topS 17) 6)) .none kV12 dc12 pm12 an12 cd12 ct12), sl12⟩)
    (c12 : PySem.W.codeIn K cd12 "Disk.holder" = true)
    (k12 : PySem.W.keepIn K (.ref f12) = true)
    (a13 : PySem.W.findIn K (.ref CD) "lay" = some (some (.ref f13)))
    (i13 : PySem.W.isFn K (.ref f13) = true)
    (l13 : K.lookup f13 = some ⟨oc13, od13, .func (PySem.W.fnOf "lay" "Disk.lay" (defArgs (inClass (topS 17) 7)) (defBody (inClass (topS 17) 7)) (defScope (inClass (topS 17) 7)) .none kV13 dc13 pm13 an13 cd13 ct13), sl13⟩)
    (c13 : PySem.W.codeIn K cd13 "Disk.lay" = true)
    (k13 : PySem.W.keepIn K (.ref f13) = true)
    (a14 : PySem.W.findIn K (.ref CD) "write" = some (some (.ref f14)))
    (i14 : PySem.W.isFn K (.ref f14) = true)
    (l14 : K.lookup f14 = some ⟨oc14, od14, .func (PySem.W.fnOf "write" "Disk.write" (defArgs (inClass (topS 17) 8)) (defBody (inClass (topS 17) 8)) (defScope (inClass (topS 17) 8)) .none kV14 dc14 pm14 an14 cd14 ct14), sl14⟩)
    (c14 : PySem.W.codeIn K cd14 "Disk.write" = true)
    (k14 : PySem.W.keepIn K (.ref f14) = true)
    (a15 : PySem.W.findIn K (.ref CD) "fall" = some (some (.ref f15)))
    (i15 : PySem.W.isFn K (.ref f15) = true)
    (l15 : K.lookup f15 = some ⟨oc15, od15, .func (PySem.W.fnOf "fall" "Disk.fall" (defArgs (inClass (topS 17) 4)) (defBody (inClass (topS 17) 4)) (defScope (inClass (topS 17) 4)) .none kV15 dc15 pm15 an15 cd15 ct15), sl15⟩)
    (c15 : PySem.W.codeIn K cd15 "Disk.fall" = true)
    (k15 : PySem.W.keepIn K (.ref f15) = true)
    (a16 : PySem.W.findIn K (.ref CB) "__init__" = some (some (.ref f16)))
    (i16 : PySem.W.isFn K (.ref f16) = true)
    (l16 : K.lookup f16 = some ⟨oc16, od16, .func (PySem.W.fnOf "__init__" "Book.__init__" (defArgs (inClass (topS 15) 0)) (defBody (inClass (topS 15) 0)) (defScope (inClass (topS 15) 0)) .none kV16 dc16 pm16 an16 cd16 ct16), sl16⟩)
    (c16 : PySem.W.codeIn K cd16 "Book.__init__" = true)
    (k16 : PySem.W.keepIn K (.ref f16) = true)
    (a17 : PySem.W.findIn K (.ref CB) "write" = some (some (.ref f17)))
    (i17 : PySem.W.isFn K (.ref f17) = true)
    (l17 : K.lookup f17 = some ⟨oc17, od17, .func (PySem.W.fnOf "write" "Book.write" (defArgs (inClass (topS 15) 1)) (defBody (inClass (topS 15) 1)) (defScope (inClass (topS 15) 1)) .none kV17 dc17 pm17 an17 cd17 ct17), sl17⟩)
    (c17 : PySem.W.codeIn K cd17 "Book.write" = true)
    (k17 : PySem.W.keepIn K (.ref f17) = true)
    (a18 : PySem.W.findIn K (.ref CB) "rows" = some (some (.ref f18)))
    (i18 : PySem.W.isFn K (.ref f18) = true)
    (l18 : K.lookup f18 = some ⟨oc18, od18, .func (PySem.W.fnOf "rows" "Book.rows" (defArgs (inClass (topS 15) 2)) (defBody (inClass (topS 15) 2)) (defScope (inClass (topS 15) 2)) .none kV18 dc18 pm18 an18 cd18 ct18), sl18⟩)
    (c18 : PySem.W.codeIn K cd18 "Book.rows" = true)
    (k18 : PySem.W.keepIn K (.ref f18) = true)
    (a19 : PySem.W.findIn K (.ref CB) "written" = some (some (.ref f19)))
    (i19 : PySem.W.isFn K (.ref f19) = true)
    (l19 : K.lookup f19 = some ⟨oc19, od19, .func (PySem.W.fnOf "written" "Book.written" (defArgs (inClass (topS 15) 3)) (defBody (inClass (topS 15) 3)) (defScope (inClass (topS 15) 3)) .none kV19 dc19 pm19 an19 cd19 ct19), sl19⟩)
    (c19 : PySem.W.codeIn K cd19 "Book.written" = true)
    (k19 : PySem.W.keepIn K (.ref f19) = true)
    (a20 : PySem.W.findIn K (.ref CB) "picture" = some (some (.ref f20)))
    (i20 : PySem.W.isFn K (.ref f20) = true)
    (l20 : K.lookup f20 = some ⟨oc20, od20, .func (PySem.W.fnOf "picture" "Book.picture" (defArgs (inClass (topS 15) 4)) (defBody (inClass (topS 15) 4)) (defScope (inClass (topS 15) 4)) .none kV20 dc20 pm20 an20 cd20 ct20), sl20⟩)
    (c20 : PySem.W.codeIn K cd20 "Book.picture" = true)
    (k20 : PySem.W.keepIn K (.ref f20) = true)
    (a21 : PySem.W.findIn K (.ref CB) "check" = some (some (.ref f21)))
    (i21 : PySem.W.isFn K (.ref f21) = true)
    (l21 : K.lookup f21 = some ⟨oc21, od21, .func (PySem.W.fnOf "check" "Book.check" (defArgs (inClass (topS 15) 5)) (defBody (inClass (topS 15) 5)) (defScope (inClass (topS 15) 5)) .none kV21 dc21 pm21 an21 cd21 ct21), sl21⟩)
    (c21 : PySem.W.codeIn K cd21 "Book.check" = true)
    (k21 : PySem.W.keepIn K (.ref f21) = true)
    (a22 : PySem.W.findIn K (.ref CB) "_read_log" = some (some (.ref f22)))
    (i22 : PySem.W.isFn K (.ref f22) = true)
    (l22 : K.lookup f22 = some ⟨oc22, od22, .func (PySem.W.fnOf "_read_log" "Book._read_log" (defArgs (inClass (topS 15) 6)) (defBody (inClass (topS 15) 6)) (defScope (inClass (topS 15) 6)) .none kV22 dc22 pm22 an22 cd22 ct22), sl22⟩)
    (c22 : PySem.W.codeIn K cd22 "Book._read_log" = true)
    (k22 : PySem.W.keepIn K (.ref f22) = true)
    (a23 : PySem.W.nsIn K mainGlobals "_law_feed" = some (some (.ref f23)))
    (l23 : K.lookup f23 = some ⟨oc23, od23, .func (PySem.W.fnOf "_law_feed" "_law_feed" (defArgs (topS 19)) (defBody (topS 19)) (defScope (topS 19)) .none kV23 dc23 pm23 an23 cd23 ct23), sl23⟩)
    (c23 : PySem.W.codeIn K cd23 "_law_feed" = true)
    (k23 : PySem.W.keepIn K (.ref f23) = true)
    (a24 : PySem.W.nsIn K mainGlobals "_law_take" = some (some (.ref f24)))
    (l24 : K.lookup f24 = some ⟨oc24, od24, .func (PySem.W.fnOf "_law_take" "_law_take" (defArgs (topS 20)) (defBody (topS 20)) (defScope (topS 20)) .none kV24 dc24 pm24 an24 cd24 ct24), sl24⟩)
    (c24 : PySem.W.codeIn K cd24 "_law_take" = true)
    (k24 : PySem.W.keepIn K (.ref f24) = true)
    (a25 : PySem.W.nsIn K mainGlobals "_law_pick" = some (some (.ref f25)))
    (l25 : K.lookup f25 = some ⟨oc25, od25, .func (PySem.W.fnOf "_law_pick" "_law_pick" (defArgs (topS 21)) (defBody (topS 21)) (defScope (topS 21)) .none kV25 dc25 pm25 an25 cd25 ct25), sl25⟩)
    (c25 : PySem.W.codeIn K cd25 "_law_pick" = true)
    (k25 : PySem.W.keepIn K (.ref f25) = true)
    (a26 : PySem.W.nsIn K mainGlobals "_law_signs" = some (some (.ref f26)))
    (l26 : K.lookup f26 = some ⟨oc26, od26, .func (PySem.W.fnOf "_law_signs" "_law_signs" (defArgs (topS 23)) (defBody (topS 23)) (defScope (topS 23)) .none kV26 dc26 pm26 an26 cd26 ct26), sl26⟩)
    (c26 : PySem.W.codeIn K cd26 "_law_signs" = true)
    (k26 : PySem.W.keepIn K (.ref f26) = true)
    (a27 : PySem.W.nsIn K mainGlobals "_law_row" = some (some (.ref f27)))
    (l27 : K.lookup f27 = some ⟨oc27, od27, .func (PySem.W.fnOf "_law_row" "_law_row" (defArgs (topS 24)) (defBody (topS 24)) (defScope (topS 24)) .none kV27 dc27 pm27 an27 cd27 ct27), sl27⟩)
    (c27 : PySem.W.codeIn K cd27 "_law_row" = true)
    (k27 : PySem.W.keepIn K (.ref f27) = true)
    (a28 : PySem.W.nsIn K mainGlobals "_law_rows_drawn" = some (some (.ref f28)))
    (l28 : K.lookup f28 = some ⟨oc28, od28, .func (PySem.W.fnOf "_law_rows_drawn" "_law_rows_drawn" (defArgs (topS 25)) (defBody (topS 25)) (defScope (topS 25)) .none kV28 dc28 pm28 an28 cd28 ct28), sl28⟩)
    (c28 : PySem.W.codeIn K cd28 "_law_rows_drawn" = true)
    (k28 : PySem.W.keepIn K (.ref f28) = true)
    (a29 : PySem.W.nsIn K mainGlobals "_law_done" = some (some (.ref f29)))
    (l29 : K.lookup f29 = some ⟨oc29, od29, .func (PySem.W.fnOf "_law_done" "_law_done" (defArgs (topS 26)) (defBody (topS 26)) (defScope (topS 26)) .none kV29 dc29 pm29 an29 cd29 ct29), sl29⟩)
    (c29 : PySem.W.codeIn K cd29 "_law_done" = true)
    (k29 : PySem.W.keepIn K (.ref f29) = true)
    (a30 : PySem.W.nsIn K mainGlobals "_law_written" = some (some (.ref f30)))
    (l30 : K.lookup f30 = some ⟨oc30, od30, .func (PySem.W.fnOf "_law_written" "_law_written" (defArgs (topS 28)) (defBody (topS 28)) (defScope (topS 28)) .none kV30 dc30 pm30 an30 cd30 ct30), sl30⟩)
    (c30 : PySem.W.codeIn K cd30 "_law_written" = true)
    (k30 : PySem.W.keepIn K (.ref f30) = true)
    (a31 : PySem.W.nsIn K mainGlobals "_law_copied" = some (some (.ref f31)))
    (l31 : K.lookup f31 = some ⟨oc31, od31, .func (PySem.W.fnOf "_law_copied" "_law_copied" (defArgs (topS 27)) (defBody (topS 27)) (defScope (topS 27)) .none kV31 dc31 pm31 an31 cd31 ct31), sl31⟩)
    (c31 : PySem.W.codeIn K cd31 "_law_copied" = true)
    (k31 : PySem.W.keepIn K (.ref f31) = true)
    (a32 : PySem.W.nsIn K mainGlobals "_law_elder_right" = some (some (.ref f32)))
    (l32 : K.lookup f32 = some ⟨oc32, od32, .func (PySem.W.fnOf "_law_elder_right" "_law_elder_right" (defArgs (topS 29)) (defBody (topS 29)) (defScope (topS 29)) .none kV32 dc32 pm32 an32 cd32 ct32), sl32⟩)
    (c32 : PySem.W.codeIn K cd32 "_law_elder_right" = true)
    (k32 : PySem.W.keepIn K (.ref f32) = true)
    (a33 : PySem.W.nsIn K mainGlobals "law" = some (some (.ref f33)))
    (l33 : K.lookup f33 = some ⟨oc33, od33, .func (PySem.W.fnOf "law" "law" (defArgs (topS 30)) (defBody (topS 30)) (defScope (topS 30)) .none kV33 dc33 pm33 an33 cd33 ct33), sl33⟩)
    (c33 : PySem.W.codeIn K cd33 "law" = true)
    (k33 : PySem.W.keepIn K (.ref f33) = true)
    (z0 : PySem.W.nsIn K mainGlobals "len" = some none)
    (z1 : PySem.W.nsIn K mainGlobals "range" = some none)
    (z2 : PySem.W.nsIn K mainGlobals "abs" = some none)
    (z3 : PySem.W.nsIn K mainGlobals "list" = some none)
    (z4 : PySem.W.nsIn K mainGlobals "tuple" = some none)
    (z5 : PySem.W.nsIn K mainGlobals "enumerate" = some none)
    (z6 : PySem.W.nsIn K mainGlobals "isinstance" = some none)
    (z7 : PySem.W.nsIn K mainGlobals "max" = some none)
    (z8 : PySem.W.nsIn K mainGlobals "min" = some none)
    (z9 : PySem.W.nsIn K mainGlobals "all" = some none)
    (z10 : PySem.W.nsIn K mainGlobals "ord" = some none)
    (z11 : PySem.W.nsIn K mainGlobals "str" = some none)
    (z12 : PySem.W.nsIn K mainGlobals "int" = some none)
    (z13 : PySem.W.nsIn K mainGlobals "bool" = some none)
    (y0 : PySem.W.nsIn K mainGlobals "FIGURES_MOST" = some (some (.int 60 tk0)))
    (eg0 : PySem.W.nsIn K mainGlobals "Fallen" = some (some (.ref CF)))
    (ex0 : PySem.W.excIn K CF [.type "ValueError", .type "Exception", .type "BaseException", .type "object"] "ValueError.__new__" = true)
    (ek0 : PySem.W.keepIn K (.ref CF) = true)
    (eb0 : PySem.W.subIn K (.ref CF) (.type "BaseException") = some true)
    (et0 : PySem.W.typeIn K (.ref CF) = some (.type "type"))
    (ed0 : PySem.W.hasDictIn K CF = true)
    (es0 : PySem.W.subIn K (.ref CF) (.ref CF) = some true)
    : ∃ fd : FuncData, (∀ (s : Shared) (v : Value), BindsTo s fd ⟨[v], []⟩ [("_law_script", v)]) ∧ ∀ base : Heap, K.In base → base.Ns mainGlobals mg → FnOk l.prog w K mg base CX0 9 fa fd ["_law_script"] (spLaw K) := by
  have e := hfa.symm.trans (PySem.W.mg_of X G a33)
  cases e
  have TB : Bs mg := ⟨PySem.W.mg_none_of X G z0, PySem.W.mg_none_of X G z1, PySem.W.mg_none_of X G z2, PySem.W.mg_none_of X G z3, PySem.W.mg_none_of X G z4, PySem.W.mg_none_of X G z5, PySem.W.mg_none_of X G z6, PySem.W.mg_none_of X G z7, PySem.W.mg_none_of X G z8, PySem.W.mg_none_of X G z9, PySem.W.mg_none_of X G z10, PySem.W.mg_none_of X G z11, PySem.W.mg_none_of X G z12, PySem.W.mg_none_of X G z13, ⟨tk0, PySem.W.mg_of X G y0⟩⟩
  have T : Tk K mg CD CB := { toBs := TB, cDisk := ⟨pg0, hd0, po0, sa0⟩, mDisk := PySem.W.mg_of X G aC0, dHand := na0_0, dPic := na0_1, dLog := na0_2, dFall := na0_3, dHold := na0_4, cBook := ⟨pg1, hd1, po1, sa1⟩, mBook := PySem.W.mg_of X G aC1, bNum := na1_0, bDisk := na1_1, bWrit := na1_2, bRows := na1_3 }
  have Fl : Fal K mg CF := ⟨PySem.W.mg_of X G eg0, ex0, ek0, eb0, et0⟩
  have Fl_eP : PySem.W.exmOne K (.ref CF) (.ref CF) = some true := PySem.W.exm_ref eb0 ed0 et0 es0
  have F_number_in := fun_mk (st := topS 5) l0 c0 k0
  have b_number_in := F_number_in.binds (ps := ["word"]) fun _ _ _ _ _ _ us hl => match us, hl with | [_], _ => rfl
  have g_number_in := PySem.W.mg_of X G a0
  have F_check_of := fun_mk (st := topS 8) l1 c1 k1
  have b_check_of := F_check_of.binds (ps := ["text"]) fun _ _ _ _ _ _ us hl => match us, hl with | [_], _ => rfl
  have g_check_of := PySem.W.mg_of X G a1
  have F_record := fun_mk (st := topS 9) l2 c2 k2
  have b_record := F_record.binds (ps := ["number", "rows"]) fun _ _ _ _ _ _ us hl => match us, hl with | [_, _], _ => rfl
  have g_record := PySem.W.mg_of X G a2
  have F_parsed := fun_mk (st := topS 10) l3 c3 k3
  have b_parsed := F_parsed.binds (ps := ["log"]) fun _ _ _ _ _ _ us hl => match us, hl with | [_], _ => rfl
  have g_parsed := PySem.W.mg_of X G a3
  have F_record_at := fun_mk (st := topS 11) l4 c4 k4
  have b_record_at := F_record_at.binds (ps := ["log", "at"]) fun _ _ _ _ _ _ us hl => match us, hl with | [_, _], _ => rfl
  have g_record_at := PySem.W.mg_of X G a4
  have F_number_until := fun_mk (st := topS 12) l5 c5 k5
  have b_number_until := F_number_until.binds (ps := ["log", "at", "closing"]) fun _ _ _ _ _ _ us hl => match us, hl with | [_, _, _], _ => rfl
  have g_number_until := PySem.W.mg_of X G a5
  have F_is_row := fun_mk (st := topS 13) l6 c6 k6
  have b_is_row := F_is_row.binds (ps := ["row"]) fun _ _ _ _ _ _ us hl => match us, hl with | [_], _ => rfl
  have g_is_row := PySem.W.mg_of X G a6
  have F_Disk___init__ : FunD K "__init__" "Disk.__init__" (defArgs (inClass (topS 17) 0)) (defBody (inClass (topS 17) 0)) (defScope (inClass (topS 17) 0)) [] [(("hand" : Str), V.non), (("picture" : Str), V.str ""), (("log" : Str), V.str "")] f7 _ := ⟨⟨oc7, od7, .none, .ref D7, dc7, pm7, an7, cd7, ct7, sl7, rfl, l7, c7, .inl ⟨rfl, rfl⟩, .inr ⟨D7, rfl, fun q hq => by rcases List.mem_cons.mp hq with rfl | hq; exact ⟨_, n7_0, rfl⟩; rcases List.mem_cons.mp hq with rfl | hq; exact ⟨_, n7_1, ⟨_, rfl⟩⟩; rcases List.mem_cons.mp hq with rfl | hq; exact ⟨_, n7_2, ⟨_, rfl⟩⟩; cases hq⟩⟩, k7⟩
  have b_Disk___init__ := F_Disk___init__.binds0 (ps := ["self", "hand", "picture", "log"]) 1 (by simp) rfl fun _ _ _ _ _ _ us ks h1 h2 => match us, ks, h1, h2 with | [_], [_, _, _], _, _ => ⟨_, _, _, _, _, _, rfl, rfl, _, _, _, _, _, _, rfl, rfl, _, _, _, _, _, _, rfl, rfl, rfl⟩
  have M_Disk___init__ : Meth K CD "__init__" f7 := ⟨a7, i7, k7⟩
  have K_Disk : Mk K CD f7 := ⟨mk0, a7, i7, kc0⟩
  have F_Disk_whose := fun_mk (st := inClass (topS 17) 1) l8 c8 k8
  have b_Disk_whose := F_Disk_whose.binds (ps := ["self"]) fun _ _ _ _ _ _ us hl => match us, hl with | [_], _ => rfl
  have M_Disk_whose : Meth K CD "whose" f8 := ⟨a8, i8, k8⟩
  have F_Disk_picture := fun_mk (st := inClass (topS 17) 2) l9 c9 k9
  have b_Disk_picture := F_Disk_picture.binds (ps := ["self"]) fun _ _ _ _ _ _ us hl => match us, hl with | [_], _ => rfl
  have M_Disk_picture : Meth K CD "picture" f9 := ⟨a9, i9, k9⟩
  have F_Disk_log := fun_mk (st := inClass (topS 17) 3) l10 c10 k10
  have b_Disk_log := F_Disk_log.binds (ps := ["self"]) fun _ _ _ _ _ _ us hl => match us, hl with | [_], _ => rfl
  have M_Disk_log : Meth K CD "log" f10 := ⟨a10, i10, k10⟩
  have F_Disk_hold := fun_mk (st := inClass (topS 17) 5) l11 c11 k11
  have b_Disk_hold := F_Disk_hold.binds (ps := ["self", "hand"]) fun _ _ _ _ _ _ us hl => match us, hl with | [_, _], _ => rfl
  have M_Disk_hold : Meth K CD "hold" f11 := ⟨a11, i11, k11⟩
  have F_Disk_holder := fun_mk (st := inClass (topS 17) 6) l12 c12 k12
  have b_Disk_holder := F_Disk_holder.binds (ps := ["self"]) fun _ _ _ _ _ _ us hl => match us, hl with | [_], _ => rfl
  have M_Disk_holder : Meth K CD "holder" f12 := ⟨a12, i12, k12⟩
  have F_Disk_lay := fun_mk (st := inClass (topS 17) 7) l13 c13 k13
  have b_Disk_lay := F_Disk_lay.binds (ps := ["self", "picture", "log"]) fun _ _ _ _ _ _ us hl => match us, hl with | [_, _, _], _ => rfl
  have M_Disk_lay : Meth K CD "lay" f13 := ⟨a13, i13, k13⟩
  have F_Disk_write := fun_mk (st := inClass (topS 17) 8) l14 c14 k14
  have b_Disk_write := F_Disk_write.binds (ps := ["self", "record"]) fun _ _ _ _ _ _ us hl => match us, hl with | [_, _], _ => rfl
  have M_Disk_write : Meth K CD "write" f14 := ⟨a14, i14, k14⟩
  have F_Disk_fall := fun_mk (st := inClass (topS 17) 4) l15 c15 k15
  have b_Disk_fall := F_Disk_fall.binds (ps := ["self", "signs"]) fun _ _ _ _ _ _ us hl => match us, hl with | [_, _], _ => rfl
  have M_Disk_fall : Meth K CD "fall" f15 := ⟨a15, i15, k15⟩
  have F_Book___init__ := fun_mk (st := inClass (topS 15) 0) l16 c16 k16
  have b_Book___init__ := F_Book___init__.binds (ps := ["self", "disk", "hand"]) fun _ _ _ _ _ _ us hl => match us, hl with | [_, _, _], _ => rfl
  have M_Book___init__ : Meth K CB "__init__" f16 := ⟨a16, i16, k16⟩
  have K_Book : Mk K CB f16 := ⟨mk1, a16, i16, kc1⟩
  have F_Book_write := fun_mk (st := inClass (topS 15) 1) l17 c17 k17
  have b_Book_write := F_Book_write.binds (ps := ["self", "rows"]) fun _ _ _ _ _ _ us hl => match us, hl with | [_, _], _ => rfl
  have M_Book_write : Meth K CB "write" f17 := ⟨a17, i17, k17⟩
  have F_Book_rows := fun_mk (st := inClass (topS 15) 2) l18 c18 k18
  have b_Book_rows := F_Book_rows.binds (ps := ["self"]) fun _ _ _ _ _ _ us hl => match us, hl with | [_], _ => rfl
  have M_Book_rows : Meth K CB "rows" f18 := ⟨a18, i18, k18⟩
  have F_Book_written := fun_mk (st := inClass (topS 15) 3) l19 c19 k19
  have b_Book_written := F_Book_written.binds (ps := ["self"]) fun _ _ _ _ _ _ us hl => match us, hl with | [_], _ => rfl
  have M_Book_written : Meth K CB "written" f19 := ⟨a19, i19, k19⟩
  have F_Book_picture := fun_mk (st := inClass (topS 15) 4) l20 c20 k20
  have b_Book_picture := F_Book_picture.binds (ps := ["self"]) fun _ _ _ _ _ _ us hl => match us, hl with | [_], _ => rfl
  have M_Book_picture : Meth K CB "picture" f20 := ⟨a20, i20, k20⟩
  have F_Book_check := fun_mk (st := inClass (topS 15) 5) l21 c21 k21
  have b_Book_check := F_Book_check.binds (ps := ["self"]) fun _ _ _ _ _ _ us hl => match us, hl with | [_], _ => rfl
  have M_Book_check : Meth K CB "check" f21 := ⟨a21, i21, k21⟩
  have F_Book__read_log := fun_mk (st := inClass (topS 15) 6) l22 c22 k22
  have b_Book__read_log := F_Book__read_log.binds (ps := ["self"]) fun _ _ _ _ _ _ us hl => match us, hl with | [_], _ => rfl
  have M_Book__read_log : Meth K CB "_read_log" f22 := ⟨a22, i22, k22⟩
  have F__law_feed := fun_mk (st := topS 19) l23 c23 k23
  have b__law_feed := F__law_feed.binds (ps := ["_law_script", "_law_k"]) fun _ _ _ _ _ _ us hl => match us, hl with | [_, _], _ => rfl
  have g__law_feed := PySem.W.mg_of X G a23
  have F__law_take := fun_mk (st := topS 20) l24 c24 k24
  have b__law_take := F__law_take.binds (ps := ["_law_feed_here", "_law_many"]) fun _ _ _ _ _ _ us hl => match us, hl with | [_, _], _ => rfl
  have g__law_take := PySem.W.mg_of X G a24
  have F__law_pick := fun_mk (st := topS 21) l25 c25 k25
  have b__law_pick := F__law_pick.binds (ps := ["_law_feed_here", "_law_some"]) fun _ _ _ _ _ _ us hl => match us, hl with | [_, _], _ => rfl
  have g__law_pick := PySem.W.mg_of X G a25
  have F__law_signs := fun_mk (st := topS 23) l26 c26 k26
  have b__law_signs := F__law_signs.binds (ps := []) fun _ _ _ _ _ _ us hl => match us, hl with | [], _ => rfl
  have g__law_signs := PySem.W.mg_of X G a26
  have F__law_row := fun_mk (st := topS 24) l27 c27 k27
  have b__law_row := F__law_row.binds (ps := ["_law_feed_here"]) fun _ _ _ _ _ _ us hl => match us, hl with | [_], _ => rfl
  have g__law_row := PySem.W.mg_of X G a27
  have F__law_rows_drawn := fun_mk (st := topS 25) l28 c28 k28
  have b__law_rows_drawn := F__law_rows_drawn.binds (ps := ["_law_feed_here"]) fun _ _ _ _ _ _ us hl => match us, hl with | [_], _ => rfl
  have g__law_rows_drawn := PySem.W.mg_of X G a28
  have F__law_done := fun_mk (st := topS 26) l29 c29 k29
  have b__law_done := F__law_done.binds (ps := ["_law_book", "_law_way", "_law_lines"]) fun _ _ _ _ _ _ us hl => match us, hl with | [_, _, _], _ => rfl
  have g__law_done := PySem.W.mg_of X G a29
  have F__law_written := fun_mk (st := topS 28) l30 c30 k30
  have b__law_written := F__law_written.binds (ps := ["_law_feed_here", "_law_disk", "_law_book", "_law_lines", "_law_some"]) fun _ _ _ _ _ _ us hl => match us, hl with | [_, _, _, _, _], _ => rfl
  have g__law_written := PySem.W.mg_of X G a30
  have F__law_copied := fun_mk (st := topS 27) l31 c31 k31
  have b__law_copied := F__law_copied.binds (ps := ["_law_disk"]) fun _ _ _ _ _ _ us hl => match us, hl with | [_], _ => rfl
  have g__law_copied := PySem.W.mg_of X G a31
  have F__law_elder_right := fun_mk (st := topS 29) l32 c32 k32
  have b__law_elder_right := F__law_elder_right.binds (ps := ["_law_feed_here", "_law_disk", "_law_elder", "_law_lines"]) fun _ _ _ _ _ _ us hl => match us, hl with | [_, _, _, _], _ => rfl
  have g__law_elder_right := PySem.W.mg_of X G a32
  have F_law := fun_mk (st := topS 30) l33 c33 k33
  have b_law := F_law.binds (ps := ["_law_script"]) fun _ _ _ _ _ _ us hl => match us, hl with | [_], _ => rfl
  have g_law := PySem.W.mg_of X G a33
  refine ⟨PySem.W.fnOf "law" "law" (defArgs (topS 30)) (defBody (topS 30)) (defScope (topS 30)) .none kV33 dc33 pm33 an33 cd33 ct33, fun s v => .of_eq rfl, fun base _ _ => ?_⟩
  have C_num : Callee l.prog w K mg base 1 "number_in" ["word"] spNum := ⟨_, _, ok_num F_number_in TB, g_number_in, F_number_in.kp, b_number_in⟩
  have C_chk : Callee l.prog w K mg base 1 "check_of" ["text"] spChk := ⟨_, _, ok_chk F_check_of TB, g_check_of, F_check_of.kp, b_check_of⟩
  have C_unt : Callee l.prog w K mg base 2 "number_until" ["log", "at", "closing"] spUnt := ⟨_, _, ok_unt F_number_until TB C_num, g_number_until, F_number_until.kp, b_number_until⟩
  have C_row : Callee l.prog w K mg base 1 "is_row" ["row"] spRow := ⟨_, _, ok_row F_is_row TB, g_is_row, F_is_row.kp, b_is_row⟩
  have C_rec : Callee l.prog w K mg base 2 "record" ["number", "rows"] (spRec K) := ⟨_, _, ok_rec F_record TB C_chk, g_record, F_record.kp, b_record⟩
  have C_rat : Callee l.prog w K mg base 3 "record_at" ["log", "at"] spRat := ⟨_, _, ok_rat F_record_at TB C_chk C_unt C_row, g_record_at, F_record_at.kp, b_record_at⟩
  have C_par : Callee l.prog w K mg base 4 "parsed" ["log"] spPar := ⟨_, _, ok_par F_parsed TB C_rat, g_parsed, F_parsed.kp, b_parsed⟩
  have C_take : Callee l.prog w K mg base 1 "_law_take" ["_law_feed_here", "_law_many"] spTake := ⟨_, _, ok_take F__law_take, g__law_take, F__law_take.kp, b__law_take⟩
  have C_feed : Callee l.prog w K mg base 1 "_law_feed" ["_law_script", "_law_k"] (spFeed K) := ⟨_, _, ok_feed F__law_feed TB, g__law_feed, F__law_feed.kp, b__law_feed⟩
  have C_pick : Callee l.prog w K mg base 2 "_law_pick" ["_law_feed_here", "_law_some"] (spPick K) := ⟨_, _, ok_pick F__law_pick TB C_take, g__law_pick, F__law_pick.kp, b__law_pick⟩
  have C_signs : Callee l.prog w K mg base 1 "_law_signs" [] spSigns := ⟨_, _, ok_signs F__law_signs, g__law_signs, F__law_signs.kp, b__law_signs⟩
  have C_lrow : Callee l.prog w K mg base 3 "_law_row" ["_law_feed_here"] spRowD := ⟨_, _, ok_rowd F__law_row TB C_take C_pick C_signs, g__law_row, F__law_row.kp, b__law_row⟩
  have C_lrows : Callee l.prog w K mg base 4 "_law_rows_drawn" ["_law_feed_here"] spRowsD := ⟨_, _, ok_rowsd F__law_rows_drawn TB C_take C_pick C_lrow, g__law_rows_drawn, F__law_rows_drawn.kp, b__law_rows_drawn⟩
  have m_Disk_picture : MCal l.prog w K mg base 1 CD "picture" ["self"] (spSdpicture CD) := ⟨_, _, ok_Sdpicture F_Disk_picture T, M_Disk_picture, b_Disk_picture⟩
  have m_Disk_log : MCal l.prog w K mg base 1 CD "log" ["self"] (spSdlog CD) := ⟨_, _, ok_Sdlog F_Disk_log T, M_Disk_log, b_Disk_log⟩
  have m_Disk_holder : MCal l.prog w K mg base 1 CD "holder" ["self"] (spSdholder CD) := ⟨_, _, ok_Sdholder F_Disk_holder T, M_Disk_holder, b_Disk_holder⟩
  have m_Disk_hold : MCal l.prog w K mg base 1 CD "hold" ["self", "hand"] (spHold CD) := ⟨_, _, ok_hold F_Disk_hold T, M_Disk_hold, b_Disk_hold⟩
  have m_Disk_lay : MCal l.prog w K mg base 1 CD "lay" ["self", "picture", "log"] (spLay CD) := ⟨_, _, ok_lay F_Disk_lay T, M_Disk_lay, b_Disk_lay⟩
  have m_Book_check : MCal l.prog w K mg base 2 CB "check" ["self"] (spCheck CD CB) := ⟨_, _, ok_check F_Book_check T m_Disk_holder, M_Book_check, b_Book_check⟩
  have m_Book_rows : MCal l.prog w K mg base 3 CB "rows" ["self"] (spBRows CD CB) := ⟨_, _, ok_brows F_Book_rows T m_Book_check, M_Book_rows, b_Book_rows⟩
  have m_Book_written : MCal l.prog w K mg base 3 CB "written" ["self"] (spBWritten CD CB) := ⟨_, _, ok_bwritten F_Book_written T m_Book_check, M_Book_written, b_Book_written⟩
  obtain ⟨dsD, rdD, bdD⟩ := b_Disk___init__
  have k_Disk : KCal l.prog w K mg base 1 CD ["self", "hand", "picture", "log"] [.non, .str "", .str ""] (spDInit CD) := ⟨_, _, dsD, ok_dinit F_Disk___init__ T, K_Disk, bdD, rdD⟩
  have m_Disk_writeX : MCalX (L2.CX l.prog w) l.prog w K mg base 1 CD "write" ["self", "record"] (spDWriteX CD CF) := ⟨_, _, ok_dwriteX F_Disk_write T Fl, M_Disk_write, b_Disk_write⟩
  have m_Disk_fall : MCal l.prog w K mg base 1 CD "fall" ["self", "signs"] (spFall CD) := ⟨_, _, ok_fall F_Disk_fall T, M_Disk_fall, b_Disk_fall⟩
  have m_Book_checkF : MCal l.prog w K mg base 2 CB "check" ["self"] (spCheckF CD CB) := ⟨_, _, ok_checkF F_Book_check T m_Disk_holder, M_Book_check, b_Book_check⟩
  have m_Book_picture : MCal l.prog w K mg base 3 CB "picture" ["self"] (spBPic CD CB) := ⟨_, _, ok_bpic F_Book_picture T m_Book_check m_Disk_lay C_rec, M_Book_picture, b_Book_picture⟩
  have m_Book_writeX : MCalX (L2.CX l.prog w) l.prog w K mg base 3 CB "write" ["self", "rows"] (spBWriteX K CD CB CF) := ⟨_, _, ok_bwriteX F_Book_write T m_Book_checkF m_Disk_writeX C_rec, M_Book_write, b_Book_write⟩
  have m_Book__read_log : MCal l.prog w K mg base 5 CB "_read_log" ["self"] (spRLc CD CB) := ⟨_, _, ok_rlc F_Book__read_log T m_Disk_picture m_Disk_log m_Disk_lay C_par, M_Book__read_log, b_Book__read_log⟩
  have k_Book : KCal l.prog w K mg base 6 CB ["self", "disk", "hand"] [] (spBInitc CD CB) := ⟨_, _, [], ok_binitc F_Book___init__ T m_Disk_picture m_Disk_hold m_Book__read_log C_par, K_Book, b_Book___init__, .nil⟩
  have m_Disk_whose : MCal l.prog w K mg base 1 CD "whose" ["self"] (spSdwhose CD) := ⟨_, _, ok_Sdwhose F_Disk_whose T, M_Disk_whose, b_Disk_whose⟩
  have m_check0 : MCalX (L2.CX l.prog w) l.prog w K mg base 2 CB "check" ["self"] (spEld0 CD CB CF) := ⟨_, _, ok_checkE F_Book_check T Fl m_Disk_holder, M_Book_check, b_Book_check⟩
  have m_pic0 : MCalX (L2.CX l.prog w) l.prog w K mg base 3 CB "picture" ["self"] (spEld0 CD CB CF) := ⟨_, _, ok_picE F_Book_picture T m_check0, M_Book_picture, b_Book_picture⟩
  have m_writ0 : MCalX (L2.CX l.prog w) l.prog w K mg base 3 CB "written" ["self"] (spEld0 CD CB CF) := ⟨_, _, ok_writtenE F_Book_written T m_check0, M_Book_written, b_Book_written⟩
  have m_rows0 : MCalX (L2.CX l.prog w) l.prog w K mg base 3 CB "rows" ["self"] (fun vs H Q E => spBRows CD CB vs H Q E ∨ spEld0 CD CB CF vs H Q E) := ⟨_, _, fnok_or (fnok_toX (ok_brows F_Book_rows T m_Book_check) fun _ _ _ _ h => h) (ok_rowsE F_Book_rows T m_check0), M_Book_rows, b_Book_rows⟩
  have m_write0 : MCalX (L2.CX l.prog w) l.prog w K mg base 3 CB "write" ["self", "rows"] (fun vs H Q E => spBWriteX K CD CB CF vs H Q E ∨ spEld1 CD CB CF vs H Q E) := ⟨_, _, fnok_or (ok_bwriteX F_Book_write T m_Book_checkF m_Disk_writeX C_rec) (ok_writeE F_Book_write T m_check0), M_Book_write, b_Book_write⟩
  have C_done : Callee l.prog w K mg base 4 "_law_done" ["_law_book", "_law_way", "_law_lines"] (spDone K CD CB) := ⟨_, _, ok_done F__law_done T Fl Fl_eP m_write0 m_pic0 m_rows0 m_writ0, g__law_done, F__law_done.kp, b__law_done⟩
  have C_written : Callee l.prog w K mg base 5 "_law_written" ["_law_feed_here", "_law_disk", "_law_book", "_law_lines", "_law_some"] (spWritten CD CB) := ⟨_, _, ok_written F__law_written T C_rec C_take C_pick m_Disk_fall C_done, g__law_written, F__law_written.kp, b__law_written⟩
  obtain ⟨mvD, hKD⟩ := F_Disk___init__.kbinds0 (ps := ["self", "hand", "picture", "log"]) 1 ["hand", "log", "picture"] [] (fun vs _ zs => dskP vs zs) (by simp) (fun q hq => by cases hq) (fun r1 _ r3 => dsk_rel r1 r3) (fun D doc pm an cdv ct us mv ws h1 h2 h3 => match us, mv, ws, h1, h2, h3 with | [_], [], [_, _, _], _, _, _ => rfl)
  have k_DiskK : KCalK l.prog w K mg base 1 CD ["self", "hand", "picture", "log"] ["hand", "log", "picture"] dskG (spDInit CD) := ⟨_, _, _, ok_dinit F_Disk___init__ T, K_Disk, by rw [dskG_eq]; exact hKD⟩
  have C_copied : Callee l.prog w K mg base 8 "_law_copied" ["_law_disk"] (spCopied CD CB) := ⟨_, _, ok_copied F__law_copied T k_DiskK k_Book m_Disk_whose m_Disk_picture m_Disk_log, g__law_copied, F__law_copied.kp, b__law_copied⟩
  have C_elder : Callee l.prog w K mg base 5 "_law_elder_right" ["_law_feed_here", "_law_disk", "_law_elder", "_law_lines"] (spElder CD CB) := ⟨_, _, ok_elder F__law_elder_right T m_Disk_whose m_Disk_picture m_Disk_log C_done, g__law_elder_right, F__law_elder_right.kp, b__law_elder_right⟩
  exact ok_law F_law T C_feed C_take C_lrows C_written C_done C_copied C_elder k_Disk k_Book m_Book_rows m_Book_written m_Book_picture m_Disk_log
end
end Lr
open PySem PySem.W PyProof.Rows
set_option maxRecDepth 100000 in
set_option maxHeartbeats 0 in
theorem PySem.Challenge.cw_leafround_k71_whole_writes_and_falls_holds : PySem.Challenge.rw_leafround_k71_whole_writes_and_falls.Holds := by
  w_on; o_law; k_head; (case hw => w_witness2)
  k_fill
  refine L2.walk_of (l := PySem.Challenge.rw_leafround_k71_whole_writes_and_falls) (n := 63) (k := 9) (x := "_law_script") (CX := fun _ => L2.CX0) (sp := fun w => Lr.spLaw _) rfl (by decide) rfl ⟨rfl, by decide, by decide⟩ (fun w h Y => PySem.W.kIn_of Y) ?F (fun _ _ a ns hl _ hS => ⟨a, ns, rfl, hS, hl, fun _ => rfl⟩) (fun _ _ _ _ _ h => h)
  case F =>
    intro w mg fa h KX G hmg
    refine' Lr.all_mk KX G hmg ?aC0 ?pg0 ?hd0 ?po0 ?sa0 ?mk0 ?kc0 ?na0_0 ?na0_1 ?na0_2 ?na0_3 ?na0_4 ?aC1 ?pg1 ?hd1 ?po1 ?sa1 ?mk1 ?kc1 ?na1_0 ?na1_1 ?na1_2 ?na1_3 ?a0 ?l0 ?c0 ?k0 ?a1 ?l1 ?c1 ?k1 ?a2 ?l2 ?c2 ?k2 ?a3 ?l3 ?c3 ?k3 ?a4 ?l4 ?c4 ?k4 ?a5 ?l5 ?c5 ?k5 ?a6 ?l6 ?c6 ?k6 ?a7 ?i7 ?l7 ?c7 ?k7 ?n7_0 ?n7_1 ?n7_2 ?a8 ?i8 ?l8 ?c8 ?k8 ?a9 ?i9 ?l9 ?c9 ?k9 ?a10 ?i10 ?l10 ?c10 ?k10 ?a11 ?i11 ?l11 ?c11 ?k11 ?a12 ?i12 ?l12 ?c12 ?k12 ?a13 ?i13 ?l13 ?c13 ?k13 ?a14 ?i14 ?l14 ?c14 ?k14 ?a15 ?i15 ?l15 ?c15 ?k15 ?a16 ?i16 ?l16 ?c16 ?k16 ?a17 ?i17 ?l17 ?c17 ?k17 ?a18 ?i18 ?l18 ?c18 ?k18 ?a19 ?i19 ?l19 ?c19 ?k19 ?a20 ?i20 ?l20 ?c20 ?k20 ?a21 ?i21 ?l21 ?c21 ?k21 ?a22 ?i22 ?l22 ?c22 ?k22 ?a23 ?l23 ?c23 ?k23 ?a24 ?l24 ?c24 ?k24 ?a25 ?l25 ?c25 ?k25 ?a26 ?l26 ?c26 ?k26 ?a27 ?l27 ?c27 ?k27 ?a28 ?l28 ?c28 ?k28 ?a29 ?l29 ?c29 ?k29 ?a30 ?l30 ?c30 ?k30 ?a31 ?l31 ?c31 ?k31 ?a32 ?l32 ?c32 ?k32 ?a33 ?l33 ?c33 ?k33 ?z0 ?z1 ?z2 ?z3 ?z4 ?z5 ?z6 ?z7 ?z8 ?z9 ?z10 ?z11 ?z12 ?z13 ?y0 ?eg0 ?ex0 ?ek0 ?eb0 ?et0 ?ed0 ?es0
    (case aC0 => k_is); (case pg0 => k_is); (case hd0 => k_is); (case po0 => k_is); (case sa0 => k_is); (case mk0 => k_is); (case kc0 => k_is); (case na0_0 => k_is); (case na0_1 => k_is); (case na0_2 => k_is); (case na0_3 => k_is); (case na0_4 => k_is); (case aC1 => k_is); (case pg1 => k_is); (case hd1 => k_is); (case po1 => k_is); (case sa1 => k_is); (case mk1 => k_is); (case kc1 => k_is); (case na1_0 => k_is); (case na1_1 => k_is); (case na1_2 => k_is); (case na1_3 => k_is); (case a0 => k_is); (case l0 => k_is); (case c0 => k_is); (case k0 => k_is); (case a1 => k_is); (case l1 => k_is); (case c1 => k_is); (case k1 => k_is); (case a2 => k_is); (case l2 => k_is); (case c2 => k_is); (case k2 => k_is); (case a3 => k_is); (case l3 => k_is); (case c3 => k_is); (case k3 => k_is); (case a4 => k_is); (case l4 => k_is); (case c4 => k_is); (case k4 => k_is); (case a5 => k_is); (case l5 => k_is); (case c5 => k_is); (case k5 => k_is); (case a6 => k_is); (case l6 => k_is); (case c6 => k_is); (case k6 => k_is); (case a7 => k_is); (case i7 => k_is); (case l7 => k_is); (case c7 => k_is); (case k7 => k_is); (case n7_0 => k_is); (case n7_1 => k_is); (case n7_2 => k_is); (case a8 => k_is); (case i8 => k_is); (case l8 => k_is); (case c8 => k_is); (case k8 => k_is); (case a9 => k_is); (case i9 => k_is); (case l9 => k_is); (case c9 => k_is); (case k9 => k_is); (case a10 => k_is); (case i10 => k_is); (case l10 => k_is); (case c10 => k_is); (case k10 => k_is); (case a11 => k_is); (case i11 => k_is); (case l11 => k_is); (case c11 => k_is); (case k11 => k_is); (case a12 => k_is); (case i12 => k_is); (case l12 => k_is); (case c12 => k_is); (case k12 => k_is); (case a13 => k_is); (case i13 => k_is); (case l13 => k_is); (case c13 => k_is); (case k13 => k_is); (case a14 => k_is); (case i14 => k_is); (case l14 => k_is); (case c14 => k_is); (case k14 => k_is); (case a15 => k_is); (case i15 => k_is); (case l15 => k_is); (case c15 => k_is); (case k15 => k_is); (case a16 => k_is); (case i16 => k_is); (case l16 => k_is); (case c16 => k_is); (case k16 => k_is); (case a17 => k_is); (case i17 => k_is); (case l17 => k_is); (case c17 => k_is); (case k17 => k_is); (case a18 => k_is); (case i18 => k_is); (case l18 => k_is); (case c18 => k_is); (case k18 => k_is); (case a19 => k_is); (case i19 => k_is); (case l19 => k_is); (case c19 => k_is); (case k19 => k_is); (case a20 => k_is); (case i20 => k_is); (case l20 => k_is); (case c20 => k_is); (case k20 => k_is); (case a21 => k_is); (case i21 => k_is); (case l21 => k_is); (case c21 => k_is); (case k21 => k_is); (case a22 => k_is); (case i22 => k_is); (case l22 => k_is); (case c22 => k_is); (case k22 => k_is); (case a23 => k_is); (case l23 => k_is); (case c23 => k_is); (case k23 => k_is); (case a24 => k_is); (case l24 => k_is); (case c24 => k_is); (case k24 => k_is); (case a25 => k_is); (case l25 => k_is); (case c25 => k_is); (case k25 => k_is); (case a26 => k_is); (case l26 => k_is); (case c26 => k_is); (case k26 => k_is); (case a27 => k_is); (case l27 => k_is); (case c27 => k_is); (case k27 => k_is); (case a28 => k_is); (case l28 => k_is); (case c28 => k_is); (case k28 => k_is); (case a29 => k_is); (case l29 => k_is); (case c29 => k_is); (case k29 => k_is); (case a30 => k_is); (case l30 => k_is); (case c30 => k_is); (case k30 => k_is); (case a31 => k_is); (case l31 => k_is); (case c31 => k_is); (case k31 => k_is); (case a32 => k_is); (case l32 => k_is); (case c32 => k_is); (case k32 => k_is); (case a33 => k_is); (case l33 => k_is); (case c33 => k_is); (case k33 => k_is); (case z0 => k_is); (case z1 => k_is); (case z2 => k_is); (case z3 => k_is); (case z4 => k_is); (case z5 => k_is); (case z6 => k_is); (case z7 => k_is); (case z8 => k_is); (case z9 => k_is); (case z10 => k_is); (case z11 => k_is); (case z12 => k_is); (case z13 => k_is); (case y0 => k_is); (case eg0 => k_is); (case ex0 => k_exc); (case ek0 => k_is); (case eb0 => k_is); (case et0 => k_is); (case ed0 => k_is); (case es0 => k_is)
