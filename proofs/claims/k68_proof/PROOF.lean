import PyProof.Rows.All
import Wide.All
import OpenK.AllK
import Wide.FinOn
import HandS.ForMost
import HandS.Star
import HandS.Style
import HandS.Wide
import HandS.IsInst
import HandS.EndBits
import HandS.More
import HandS.TupAny
import HandS.Evl
import HandS.FStr
import HandS.StrMore
import HandS.Codes
import HandS.Walk
import KE.IntTextLaws
import HandS.ReplaceDef
import HandS.ReplaceLit
import HandS.ReplaceList
import PySem.Challenge.RW_leafround_k68_logs_parsed
set_option Elab.async false
set_option linter.all false
set_option maxRecDepth 100000
namespace Lf
open PySem PySem.Spec PyProof.Rows L2

/-- an own def: where it stands, its promise, how it is called -/
def Callee (P : Program) (w : World) (K : PySem.W.Frag) (mg : Str → Option Value) (base : Heap) (k : Nat) (x : Str) (ps : List Str) (sp : Sp) : Prop :=
  ∃ (f : Addr) (fd : FuncData), FnOk P w K mg base CX0 k f fd ps sp ∧ mg x = some (.ref f) ∧ PySem.W.keepIn K (.ref f) = true ∧ Binds K fd ps []
section
variable {X : Cx} {k : Nat} {x : Str} {ps : List Str} {sp : Sp} {e : Expr} {es : List Expr} {t : TA} {p pos : Pos}
theorem pe_own (C : Callee X.prog X.w X.K X.mg X.base k x ps sp) (hr : Room k X.A) (hg : Gl X x) (ha : PA X (e :: es) t)
    (hdb : (x == ("__debug__" : Str)) = false := by decide) (he : starEach (e :: es) X.env = (false, eval e X.env) :: starEach es X.env := by rfl) (hpl : (backTo pos (starEach es X.env)).any (·.1) = false := by rfl) :
    PE X (.Call (.Name x p) (e :: es) [] pos) (tCall sp [] E0 t) := by
  obtain ⟨f, fd, F, hm, hk, hb⟩ := C
  exact pe_call F hr hg hm hk hb .nil pass0 ha hdb he hpl
end

/-- all but the object at a stays -/
def Kp (a : Addr) (H H' : Hp) : Prop := ∀ b o, b ≠ a → H b = some o → H' b = some o
theorem Kp.refl (a : Addr) (H : Hp) : Kp a H H := fun _ _ _ h => h
theorem Kp.trans {a : Addr} {H H1 H2 : Hp} (x : Kp a H H1) (y : Kp a H1 H2) : Kp a H H2 := fun b o n h => y b o n (x b o n h)
theorem Kp.new {a p : Addr} {H H' : Hp} {o : HO} (x : Kp a H H') (h : H' p = none) : Kp a H (upd H' p o) := fun b u n e => by
  rw [upd_ne (ne_of_none (x b u n e) h)]
  exact x b u n e
theorem Kp.mut {a : Addr} {H H' : Hp} {o : HO} (x : Kp a H H') : Kp a H (upd H' a o) := fun b u n e => by
  rw [upd_ne n]
  exact x b u n e
theorem Kp.seqL {K : PySem.W.Frag} {a p : Addr} {H H' : Hp} {xs : List V} (x : Kp a H H') (n : p ≠ a) (h : SqL K H p xs) : SqL K H' p xs := by
  rcases h with (h | ⟨o, h⟩) | h
  · exact .inl (.inl (x _ _ n h))
  · exact .inl (.inr ⟨o, x _ _ n h⟩)
  · exact .inr h

/-- the tape: two ints -/
def TapeAt (H : Hp) (a : Addr) : Prop := ∃ u v : Int, H a = some (.lst [.int u, .int v]) ∧ 0 ≤ u ∧ 0 ≤ v ∧ v < 2147483648
theorem TapeAt.keep {a b : Addr} {H H' : Hp} (h : TapeAt H a) (k : Kp b H H') (n : a ≠ b) : TapeAt H' a := by
  obtain ⟨u, v, e, r⟩ := h
  exact ⟨u, v, k _ _ n e, r⟩
theorem TapeAt.new {a p : Addr} {H : Hp} {o : HO} (h : TapeAt H a) (n : H p = none) : TapeAt (upd H p o) a := by
  obtain ⟨u, v, e, r⟩ := h
  exact ⟨u, v, by rw [upd_ne (ne_of_none e n)]; exact e, r⟩
def spDigit : Sp := fun vs H Q _ => ∃ (a : Addr) (n : Int), vs = [.ref a, .int n] ∧ TapeAt H a ∧ 0 < n ∧ n ≤ 10 ^ 60 ∧
  ∀ (v : Int) (H' : Hp), Kp a H H' → TapeAt H' a → 0 ≤ v → v < n → Q (.int v) H'
/-- an object that H does not know may change -/
theorem Kp.mutN {a p : Addr} {H H' : Hp} {o : HO} (x : Kp a H H') (h : H p = none) : Kp a H (upd H' p o) := fun b u n e => by
  rw [upd_ne (ne_of_none e h)]
  exact x b u n e
theorem Kp.fresh {a p : Addr} {H H' : Hp} (x : Kp a H H') (h : H' p = none) (n : p ≠ a) : H p = none := by
  cases e : H p with
  | none => rfl
  | some o =>
    rw [x p o n e] at h
    cases h
theorem Kp.get {a b : Addr} {H H' : Hp} {o : HO} (x : Kp a H H') (n : b ≠ a) (h : H b = some o) : H' b = some o := x b o n h
theorem TapeAt.ne {a p : Addr} {H : Hp} (h : TapeAt H a) (n : H p = none) : p ≠ a := fun e => by
  obtain ⟨u, v, h, _⟩ := h
  rw [e, h] at n
  cases n
theorem TapeAt.mut {a p : Addr} {H : Hp} {o : HO} (h : TapeAt H a) (n : p ≠ a) : TapeAt (upd H p o) a := by
  obtain ⟨u, v, e, r⟩ := h
  exact ⟨u, v, by rw [upd_ne n.symm]; exact e, r⟩
theorem atI_mem {α : Type} {xs : List α} {i : Int} (h0 : 0 ≤ i) (h1 : i < xs.length) : ∃ x, x ∈ xs ∧ atI xs i = some x := by
  obtain ⟨n, rfl⟩ := Int.eq_ofNat_of_zero_le h0
  have h : n < xs.length := by omega
  exact ⟨xs[n], List.getElem_mem h, atI_nat (List.getElem?_eq_getElem h)⟩
theorem str_len_append (x y : Str) : (x ++ y).length = x.length + y.length := by
  show (x.cps ++ y.cps).size = _
  rw [Array.size_append]
  rfl
theorem join_len (sep : Str) (hs : sep.length = 0) : ∀ ys : List Str, (Str.join sep ys).length = (ys.map (·.length)).sum
  | [] => rfl
  | [x] => by
    show x.length = x.length + 0
    omega
  | x :: y :: r => by
    show (x ++ sep ++ Str.join sep (y :: r)).length = x.length + ((y :: r).map (·.length)).sum
    rw [str_len_append, str_len_append, join_len sep hs (y :: r), hs]
    omega
theorem sum_ones : ∀ {ys : List Str}, (∀ y ∈ ys, y.length = 1) → (ys.map (·.length)).sum = ys.length
  | [], _ => rfl
  | y :: r, h => by
    rw [List.map_cons, List.sum_cons, h y (List.mem_cons_self ..), sum_ones fun z hz => h z (List.mem_cons_of_mem _ hz)]
    show 1 + r.length = r.length + 1
    omega
end Lf
namespace L2
open PySem
theorem Same.kp {a : Addr} {H H' : Hp} (s : Same H H') : Lf.Kp a H H' := fun b o _ h => s b o h
theorem same_new {H : Hp} {p : Addr} {o : HO} (h : H p = none) : Same H (upd H p o) := fun b x e => by
  rw [upd_ne (ne_of_none e h)]
  exact e
theorem Same.tr {H H1 H2 : Hp} (x : Same H H1) (y : Same H1 H2) : Same H H2 := fun b o h => y b o (x b o h)
theorem Same.fresh {H H' : Hp} {p : Addr} (s : Same H H') (h : H' p = none) : H p = none := by
  cases e : H p with
  | none => rfl
  | some o =>
    rw [s p o e] at h
    cases h
theorem Same.mutN {H H' : Hp} {p : Addr} {o : HO} (s : Same H H') (h : H p = none) : Same H (upd H' p o) := fun b u e => by
  rw [upd_ne (ne_of_none e h)]
  exact s b u e
theorem same_refl (H : Hp) : Same H H := fun _ _ h => h
end L2
namespace Lf
open PySem PySem.Spec PyProof.Rows L2
/-- a comprehension over enumerate(list): each turn's pair is a new tuple at T -/
theorem lc_enum {K : PySem.W.Frag} {a : Addr} {xs : List V} {g : TG} {tt : TT} {te : TE} {vs : List Nat} {σ : L2.St} {H1 : Hp} {D : Addr} {Qd : Hp → Prop} (Pv : Nat → Hp → Prop)
    (h0 : Pv 0 (upd H1 D (.lst []))) (hl : ∀ i H, Pv i H → SqL K H a xs)
    (hs : ∀ i x T H, xs[i]? = some x → H T = none → Pv i H → g (.ref T) (wipe σ vs) (upd H T (.tup [.int (i : Nat), x])) fun σ2 H2 => wipe σ2 vs = wipe σ vs ∧ tt σ2 H2 fun b H3 =>
      if b = true then te σ2 H3 fun y H4 => ∃ acc, H4 D = some (.lst acc) ∧ acc.length < sizeLine ∧ Pv (i + 1) (upd H4 D (.lst (acc ++ [y]))) else Pv (i + 1) H3)
    (hd : ∀ H, Pv xs.length H → Qd H) :
    ∃ W : Nat → Nat → Hp → Prop, (∃ m, W 0 m (upd H1 D (.lst []))) ∧ ∀ i m H, W i m H → ((Ite K a).stop i H ∧ Qd H) ∨
      ((Ite K a).go i H ∧ ∃ Nx : Hp → Prop, (∀ H', Nx H' → ∃ m', m' < m ∧ W (i + 1) m' H') ∧ ∀ x H', (Ite K a).yld i H x H' → g x (wipe σ vs) H' fun σ2 H2 => wipe σ2 vs = wipe σ vs ∧ tt σ2 H2 fun b H3 =>
        if b = true then te σ2 H3 fun y H4 => ∃ acc, H4 D = some (.lst acc) ∧ acc.length < sizeLine ∧ Nx (upd H4 D (.lst (acc ++ [y]))) else Nx H3) := by
  refine ⟨fun i m H => i + m = xs.length ∧ Pv i H, ⟨xs.length, Nat.zero_add _, h0⟩, fun i m H ⟨em, p⟩ => ?_⟩
  by_cases hi : i < xs.length
  · refine .inr ⟨⟨xs, xs[i], hl i H p, List.getElem?_eq_getElem hi⟩, Pv (i + 1), fun H' p' => ⟨m - 1, by omega, by omega, p'⟩, fun x H' y => ?_⟩
    obtain ⟨T, z, rfl, hT, rfl, hz⟩ := y
    exact hs i z T H (hz xs (hl i H p)) hT p
  · have e : i = xs.length := by omega
    exact .inl ⟨⟨xs, hl i H p, by omega⟩, hd H (e ▸ p)⟩
end Lf
namespace Lf
open PySem PySem.Spec PyProof.Rows L2
/-- signs that a text may hold -/
abbrev SOk (x : Str) : Prop := ∀ c ∈ x.cps.toList, c < 0x110000
theorem sok_append {x y : Str} (h1 : SOk x) (h2 : SOk y) : SOk (x ++ y) := fun c hc => by
  have e : (x ++ y).cps.toList = x.cps.toList ++ y.cps.toList := by
    show (x.cps ++ y.cps).toList = _
    rw [Array.toList_append]
  rw [e] at hc
  rcases List.mem_append.mp hc with h | h
  · exact h1 c h
  · exact h2 c h
theorem sok_join {sep : Str} (hs : SOk sep) : ∀ {ys : List Str}, (∀ y ∈ ys, SOk y) → SOk (Str.join sep ys)
  | [], _ => fun c hc => by
    have h : c ∈ ([] : List Nat) := hc
    cases h
  | [x], h => h x (List.mem_cons_self ..)
  | x :: y :: r, h => sok_append (sok_append (h x (List.mem_cons_self ..)) hs) (sok_join hs fun z hz => h z (List.mem_cons_of_mem _ hz))
end Lf
namespace Lf
open PySem PySem.Spec PyProof.Rows L2
theorem len_K {X : Cx} : CallR X (.builtin "len") (Evl.rLenS X.K) := call_len_seq
end Lf
namespace Lr
open PySem PySem.Spec PyProof.Rows L2 Lf
abbrev tl := TL.tl
abbrev numL := TL.numL
abbrev joinL := TL.joinL
/-- a text of these signs -/
def S (l : List Nat) : Str := ⟨l.toArray⟩
theorem tl_S (l : List Nat) : tl (S l) = l := rfl
theorem S_tl (x : Str) : S (tl x) = x := TL.mk_tl x
theorem S_len (l : List Nat) : (S l).length = l.length := rfl
theorem len_tl (x : Str) : x.length = (tl x).length := TL.len_tl x
theorem S_append (a b : List Nat) : S a ++ S b = S (a ++ b) := TL.ext_tl (TL.tl_append _ _)
theorem S_num (n : Nat) : Str.ofString (toString ((n : Nat) : Int)) = S (numL n) := TL.ext_tl (TL.tl_num n)
theorem S_inj {a b : List Nat} (h : S a = S b) : a = b := congrArg tl h
theorem S_join (y : List Nat) (ps : List (List Nat)) : Txt.join (S y) (ps.map S) = S (joinL y ps) := by
  refine TL.ext_tl ?_
  rw [TL.join_eq, TL.tl_join, List.map_map]
  have e : (TL.tl ∘ S) = (id : List Nat → List Nat) := rfl
  rw [e, List.map_id]
  rfl
theorem split_S (x : Str) (c : Nat) (hc : c < 256) : Txt.split x (S [c]) = (TL.spl [c] 0 [] (tl x)).map S := by
  refine TL.map_tl_inj ?_
  rw [TL.split_spl x (S [c]) (by show [c] ≠ []; simp) (TL.kind_ok (by simp [S, hc])), List.map_map]
  have e : (TL.tl ∘ S) = (id : List Nat → List Nat) := rfl
  rw [e, List.map_id]
  rfl
/-! ### the first place of a sign -/
def ix (c : Nat) : List Nat → Option Nat
  | [] => none
  | d :: r => if d = c then some 0 else (ix c r).map (· + 1)
theorem ix_none {c : Nat} : ∀ {l : List Nat}, c ∉ l → ix c l = none
  | [], _ => rfl
  | d :: r, h => by
    unfold ix
    rw [if_neg (fun e : d = c => h (by rw [e]; exact List.mem_cons_self ..)), ix_none fun m => h (List.mem_cons_of_mem _ m)]
    rfl
theorem ix_at {c : Nat} : ∀ {a r : List Nat}, c ∉ a → ix c (a ++ c :: r) = some a.length
  | [], r, _ => by
    show (if c = c then some 0 else _) = some 0
    rw [if_pos rfl]
  | d :: a, r, h => by
    show (if d = c then some 0 else (ix c (a ++ c :: r)).map (· + 1)) = some (a.length + 1)
    rw [if_neg (fun e : d = c => h (by rw [e]; exact List.mem_cons_self ..)), ix_at fun m => h (List.mem_cons_of_mem _ m)]
    rfl
theorem ix_some {c : Nat} : ∀ {l : List Nat} {k : Nat}, ix c l = some k → k < l.length ∧ ∃ r, l = l.take k ++ c :: r ∧ c ∉ l.take k
  | [], k, h => by cases h
  | d :: l, k, h => by
    unfold ix at h
    by_cases e : d = c
    · rw [if_pos e] at h
      cases h
      exact ⟨by simp, l, by simp [e], by simp⟩
    · rw [if_neg e] at h
      cases h2 : ix c l with
      | none => rw [h2] at h; cases h
      | some j =>
        rw [h2] at h
        cases h
        obtain ⟨h3, r, h4, h5⟩ := ix_some h2
        refine ⟨by simpa using h3, r, ?_, ?_⟩
        · show d :: l = (d :: l.take j) ++ c :: r
          rw [List.cons_append, ← h4]
        · show c ∉ d :: l.take j
          intro m
          rcases List.mem_cons.mp m with m | m
          · exact e m.symm
          · exact h5 m
open Builtin.Str StrLaws in
theorem occ_full (s sub : Str) (hi : Nat) : ∀ (l : List Nat) (st : Array Nat × Nat), 1 ≤ st.fst.size → (forIn l st (occBody s sub hi 1)).run.fst = st.fst
  | [], _, _ => rfl
  | a :: l, st, h => by
    rw [List.forIn_cons]
    unfold occBody
    rw [if_neg (fun c => by have := c.1.1.1; omega)]
    exact occ_full s sub hi l (st.fst, st.snd) h
open Builtin.Str StrLaws in
theorem occ_ix (x : Str) (c hi : Nat) (hhi : hi ≤ x.length) : ∀ (n a free : Nat), free ≤ a → n = hi + 1 - a →
    (forIn (List.range' a n) ((#[] : Array Nat), free) (occBody x ⟨#[c]⟩ hi 1)).run.fst.toList = (match ix c (((tl x).drop a).take (hi - a)) with | some k => [a + k] | none => [])
  | 0, a, free, hf, hn => by
    have e : hi - a = 0 := by omega
    rw [e, List.take_zero]
    rfl
  | n + 1, a, free, hf, hn => by
    rw [List.range'_succ, List.forIn_cons]
    unfold occBody
    by_cases ha : a < hi
    · have hl : a < (tl x).length := by rw [← len_tl]; omega
      have ed : ((tl x).drop a).take (hi - a) = (tl x)[a] :: ((tl x).drop (a + 1)).take (hi - (a + 1)) := by
        rw [List.drop_eq_getElem_cons hl, show hi - a = (hi - (a + 1)) + 1 by omega, List.take_succ_cons]
      rw [ed]
      unfold ix
      by_cases hc : (tl x)[a] = c
      · have h1 := (subAt_one x c a).mpr (by rw [List.getElem?_eq_getElem hl]; exact congrArg some hc)
        have h2 : ((((#[] : Array Nat), free).fst.size < 1 ∧ ((#[] : Array Nat), free).snd ≤ a) ∧ a + (⟨#[c]⟩ : Str).length ≤ hi) ∧ subAt x ⟨#[c]⟩ a = true := ⟨⟨⟨by simp, hf⟩, ha⟩, h1.2⟩
        rw [if_pos h2, if_pos hc]
        have h3 := occ_full x ⟨#[c]⟩ hi (List.range' (a + 1) n) ((#[] : Array Nat).push a, a + (⟨#[c]⟩ : Str).length) (by simp)
        show (forIn (List.range' (a + 1) n) ((#[] : Array Nat).push a, a + (⟨#[c]⟩ : Str).length) (occBody x ⟨#[c]⟩ hi 1)).run.fst.toList = [a + 0]
        rw [h3]
        rfl
      · have h2 : ¬ (((((#[] : Array Nat), free).fst.size < 1 ∧ ((#[] : Array Nat), free).snd ≤ a) ∧ a + (⟨#[c]⟩ : Str).length ≤ hi) ∧ subAt x ⟨#[c]⟩ a = true) := fun h => by
          have h3 : a + (⟨#[c]⟩ : Str).length ≤ x.length := Nat.le_trans h.1.2 hhi
          have h1 := (subAt_one x c a).mp ⟨h3, h.2⟩
          rw [List.getElem?_eq_getElem hl] at h1
          exact hc (Option.some.inj h1)
        rw [if_neg h2, if_neg hc]
        have ih := occ_ix x c hi hhi n (a + 1) free (by omega) (by omega)
        show (forIn (List.range' (a + 1) n) ((#[] : Array Nat), free) (occBody x ⟨#[c]⟩ hi 1)).run.fst.toList = _
        rw [ih]
        cases ix c (((tl x).drop (a + 1)).take (hi - (a + 1))) with
        | none => rfl
        | some k =>
          show [a + 1 + k] = [a + (k + 1)]
          congr 1
          omega
    · have e : hi - a = 0 := by omega
      have h2 : ¬ (((((#[] : Array Nat), free).fst.size < 1 ∧ ((#[] : Array Nat), free).snd ≤ a) ∧ a + (⟨#[c]⟩ : Str).length ≤ hi) ∧ subAt x ⟨#[c]⟩ a = true) := fun h => by
        have h3 : a + 1 ≤ hi := h.1.2
        omega
      rw [if_neg h2, e, List.take_zero]
      have ih := occ_ix x c hi hhi n (a + 1) free (by omega) (by omega)
      show (forIn (List.range' (a + 1) n) ((#[] : Array Nat), free) (occBody x ⟨#[c]⟩ hi 1)).run.fst.toList = _
      rw [ih, show hi - (a + 1) = 0 by omega, List.take_zero]
      rfl
theorem find_ix (x : Str) (c a m : Nat) (ha : a ≤ x.length) : Txt.findIn x ⟨#[c]⟩ (a : Int) ((a + m : Nat) : Int) = (match ix c (((tl x).drop a).take m) with | some k => ((a + k : Nat) : Int) | none => -1) := by
  unfold Txt.findIn
  have e1 : fromIndex x.length (a : Int) = a := by
    unfold fromIndex
    rw [if_neg (by omega)]
    omega
  have e2 : toIndexW x.length ((a + m : Nat) : Int) = min (a + m) x.length := by
    unfold toIndexW
    rw [if_neg (by omega)]
    omega
  rw [e1, e2, StrLaws.occ_eq, occ_ix x c _ (Nat.min_le_right _ _) _ a a (Nat.le_refl _) rfl]
  have e3 : ((tl x).drop a).take (min (a + m) x.length - a) = ((tl x).drop a).take m := by
    have hl : ((tl x).drop a).length = x.length - a := by rw [List.length_drop, ← len_tl]
    rcases Nat.le_total (a + m) x.length with h | h
    · rw [Nat.min_eq_left h, Nat.add_sub_cancel_left]
    · rw [Nat.min_eq_right h, List.take_of_length_le (by omega), List.take_of_length_le (by omega)]
  rw [e3]
  cases ix c (((tl x).drop a).take m) <;> rfl
/-! ### slices -/
theorem cutS_nat (x : Str) (a b : Nat) : cutS x (some (a : Int)) (some (b : Int)) = S (((tl x).drop a).take (b - a)) := by
  refine TL.ext_tl ?_
  show ((tl x).drop (HT.sIx x.length 0 (some (a : Int)))).take (HT.sIx x.length x.length (some (b : Int)) - HT.sIx x.length 0 (some (a : Int))) = ((tl x).drop a).take (b - a)
  rw [HT.sIx_nat, HT.sIx_nat]
  have hl := len_tl x
  rcases Nat.le_total a x.length with h | h
  · rw [Nat.min_eq_left h]
    rcases Nat.le_total b x.length with h' | h'
    · rw [Nat.min_eq_left h']
    · rw [Nat.min_eq_right h', List.take_of_length_le (by rw [List.length_drop]; omega), List.take_of_length_le (by rw [List.length_drop]; omega)]
  · rw [Nat.min_eq_right h, List.drop_of_length_le (by omega), List.drop_of_length_le (by omega), List.take_nil, List.take_nil]
/-! ### numbers written and read -/
def Dig (c : Nat) : Prop := 48 ≤ c ∧ c ≤ 57
instance (c : Nat) : Decidable (Dig c) := inferInstanceAs (Decidable (_ ∧ _))
def numOk (l : List Nat) : Prop := l ≠ [] ∧ (∀ c ∈ l, Dig c) ∧ l.length ≤ 60 ∧ (l.head? = some 48 → l = [48])
instance (l : List Nat) : Decidable (numOk l) := inferInstanceAs (Decidable (_ ∧ _))
def numIn (l : List Nat) : Option Nat := if numOk l then some (NumText.digitsVal l) else none
theorem numL_head {n : Nat} (h : (numL n).head? = some 48) : n = 0 := by
  induction n using Nat.strongRecOn with
  | _ n ih =>
    by_cases h1 : n < 10
    · rw [show numL n = [48 + n] from TL.numL_lt h1] at h
      simp at h
      exact h
    · rw [show numL n = numL (n / 10) ++ [48 + n % 10] from TL.numL_step (by omega)] at h
      have h2 : (numL (n / 10)).head? = some 48 := by
        cases e : numL (n / 10) with
        | nil => exact absurd e (TL.numL_ne _)
        | cons c r =>
          rw [e] at h
          exact h
      have := ih (n / 10) (by omega) h2
      omega
theorem numOk_num {n : Nat} (h : n < 10 ^ 60) : numOk (numL n) := by
  refine ⟨TL.numL_ne n, fun c hc => ?_, TL.numL_len (by decide) h, fun e => ?_⟩
  · exact TL.numL_digits n c hc
  · rw [numL_head e]
    exact TL.numL_lt (by decide)
theorem numIn_num {n : Nat} (h : n < 10 ^ 60) : numIn (numL n) = some n := by
  unfold numIn
  rw [if_pos (numOk_num h), show NumText.digitsVal (numL n) = n from TL.numL_val n]
theorem digitsVal_snoc (l : List Nat) (c : Nat) : NumText.digitsVal (l ++ [c]) = NumText.digitsVal l * 10 + (c - 48) := by
  unfold NumText.digitsVal
  rw [List.foldl_append]
  rfl
/-- the number's signs are all that reads as it -/
theorem numL_back : ∀ (k : Nat) (l : List Nat), l.length = k → l ≠ [] → (∀ c ∈ l, Dig c) → (l.head? = some 48 → l = [48]) → l = numL (NumText.digitsVal l)
  | 0, l, h, hn, _, _ => absurd (List.length_eq_zero_iff.mp h) hn
  | k + 1, l, h, hn, hd, h0 => by
    obtain ⟨l', c, rfl⟩ : ∃ l' c, l = l' ++ [c] := ⟨l.dropLast, l.getLast hn, (List.dropLast_concat_getLast hn).symm⟩
    have hc : Dig c := hd c (by simp)
    unfold Dig at hc
    have hl : l'.length = k := by simpa using h
    rw [digitsVal_snoc]
    by_cases e : l' = []
    · subst e
      have e2 : NumText.digitsVal [] = 0 := rfl
      rw [e2, Nat.zero_mul, Nat.zero_add, show numL (c - 48) = [48 + (c - 48)] from TL.numL_lt (by omega)]
      simp
      omega
    · have hh : l'.head? ≠ some 48 := fun z => by
        have : (l' ++ [c]).head? = some 48 := by
          rw [List.head?_append, z]
          rfl
        have e2 := congrArg List.length (h0 this)
        simp at e2
        exact e e2
      have ih := numL_back k l' hl e (fun d hd' => hd d (by simp [hd'])) (fun z => absurd z hh)
      have hpos : 0 < NumText.digitsVal l' := by
        rcases Nat.eq_zero_or_pos (NumText.digitsVal l') with z | z
        · rw [z] at ih
          rw [ih, show numL 0 = [48] from TL.numL_lt (by decide)] at hh
          exact absurd rfl hh
        · exact z
      have h10 : 10 ≤ NumText.digitsVal l' * 10 + (c - 48) := by omega
      rw [show numL (NumText.digitsVal l' * 10 + (c - 48)) = _ from TL.numL_step h10]
      have e3 : (NumText.digitsVal l' * 10 + (c - 48)) / 10 = NumText.digitsVal l' := by omega
      have e4 : (NumText.digitsVal l' * 10 + (c - 48)) % 10 = c - 48 := by omega
      rw [e3, e4]
      have e5 : TL.numL (NumText.digitsVal l') = l' := ih.symm
      rw [e5, show 48 + (c - 48) = c by omega]
theorem numIn_some {l : List Nat} {n : Nat} (h : numIn l = some n) : l = numL n ∧ numOk l := by
  unfold numIn at h
  by_cases c : numOk l
  · rw [if_pos c] at h
    cases h
    exact ⟨numL_back _ l rfl c.1 c.2.1 c.2.2.2, c⟩
  · rw [if_neg c] at h
    cases h
theorem digitsVal_lt : ∀ (k : Nat) (l : List Nat), l.length = k → (∀ c ∈ l, Dig c) → NumText.digitsVal l < 10 ^ k
  | 0, l, h, _ => by
    rw [List.length_eq_zero_iff.mp h]
    decide
  | k + 1, l, h, hd => by
    have hn : l ≠ [] := fun e => by rw [e] at h; cases h
    obtain ⟨l', c, rfl⟩ : ∃ l' c, l = l' ++ [c] := ⟨l.dropLast, l.getLast hn, (List.dropLast_concat_getLast hn).symm⟩
    have hc : Dig c := hd c (by simp)
    unfold Dig at hc
    have ih := digitsVal_lt k l' (by simpa using h) (fun d hd' => hd d (by simp [hd']))
    rw [digitsVal_snoc, Nat.pow_succ]
    omega
theorem numIn_lt {l : List Nat} {n : Nat} (h : numIn l = some n) : n < 10 ^ 60 := by
  have ⟨_, c⟩ := numIn_some h
  unfold numIn at h
  rw [if_pos c] at h
  cases h
  exact Nat.lt_of_lt_of_le (digitsVal_lt _ l rfl c.2.1) (Nat.pow_le_pow_right (by decide) c.2.2.1)
theorem log2_num {n : Nat} (h : n < 10 ^ 60) : ((n : Int)).natAbs.log2 < 1920 := by
  have e : ((n : Int)).natAbs = n := rfl
  rw [e]
  rcases Nat.eq_zero_or_pos n with z | z
  · rw [z]
    decide
  · exact (Nat.log2_lt (by omega)).mpr (Nat.lt_trans h (by decide +kernel))
/-! ### the mirror -/
def chkL (l : List Nat) : Nat := l.foldl (fun c x => (33 * c + x) % 1000003) 7
def upto (l : List Nat) (a c : Nat) : Option Nat × Nat :=
  match ix c ((l.drop a).take 61) with
  | some k => (numIn ((l.drop a).take k), a + k + 1)
  | none => (none, a)
def signOk (c : Nat) : Prop := 32 ≤ c ∧ c ≤ 126
instance (c : Nat) : Decidable (signOk c) := inferInstanceAs (Decidable (_ ∧ _))
def rowOk (r : List Nat) : Prop := r ≠ [] ∧ ∀ c ∈ r, signOk c
instance (r : List Nat) : Decidable (rowOk r) := inferInstanceAs (Decidable (_ ∧ _))
def headL (n m : Nat) (body : List Nat) : List Nat := numL n ++ [32] ++ numL m ++ [58] ++ body
def recAt (l : List Nat) (a : Nat) : Option (Nat × List (List Nat) × Nat) :=
  match (upto l a 32).1, (upto l (upto l a 32).2 58).1, (upto l (upto l (upto l a 32).2 58).2 61).1 with
  | some n, some m, some k =>
    let b := (upto l (upto l (upto l a 32).2 58).2 61).2
    if (l.drop (b + m)).take 1 = [10] then
      let body := (l.drop b).take m
      let rows := TL.spl [10] 0 [] body
      if (∀ r ∈ rows, rowOk r) ∧ k = chkL (headL n m body) then some (n, rows, b + m + 1) else none
    else none
  | _, _, _ => none
def recFin (l : List Nat) : Option Nat → Option Nat → Option Nat → Nat → Option (Nat × List (List Nat) × Nat)
  | some n, some m, some k, b => if (l.drop (b + m)).take 1 = [10] then
      if (∀ r ∈ TL.spl [10] 0 [] ((l.drop b).take m), rowOk r) ∧ k = chkL (headL n m ((l.drop b).take m)) then some (n, TL.spl [10] 0 [] ((l.drop b).take m), b + m + 1) else none
    else none
  | _, _, _, _ => none
theorem recAt_eq {l : List Nat} {a a1 a2 a3 : Nat} {o1 o2 o3 : Option Nat} (e1 : upto l a 32 = (o1, a1)) (e2 : upto l a1 58 = (o2, a2)) (e3 : upto l a2 61 = (o3, a3)) : recAt l a = recFin l o1 o2 o3 a3 := by
  unfold recAt
  rw [e1, e2, e3]
  cases o1 <;> cases o2 <;> cases o3 <;> rfl
def runL (l : List Nat) : Nat → Nat → Nat → List (List (List Nat)) × Nat
  | 0, _, a => ([], a)
  | f + 1, n, a => match recAt l a with
    | some (n', rows, b) => if n' = n then (rows :: (runL l f (n + 1) b).1, (runL l f (n + 1) b).2) else ([], a)
    | none => ([], a)
def parseL (l : List Nat) : Option Nat × List (List (List Nat)) × Nat :=
  match recAt l 0 with
  | none => (none, [], 0)
  | some (n, _, _) => (some n, (runL l (l.length + 1) n 0).1, (runL l (l.length + 1) n 0).2)
def recL (n : Nat) (rows : List (List Nat)) : List Nat :=
  numL n ++ [32] ++ numL (joinL [10] rows).length ++ [58] ++ numL (chkL (headL n (joinL [10] rows).length (joinL [10] rows))) ++ [61] ++ joinL [10] rows ++ [10]
theorem upto_le {l : List Nat} {a c : Nat} (h : a ≤ l.length) : (upto l a c).2 ≤ l.length ∧ a ≤ (upto l a c).2 := by
  unfold upto
  split
  · rename_i k e
    obtain ⟨h1, _⟩ := ix_some e
    have h2 : ((l.drop a).take 61).length ≤ l.length - a := by
      rw [List.length_take, List.length_drop]
      omega
    constructor
    · show a + k + 1 ≤ l.length
      omega
    · show a ≤ a + k + 1
      omega
  · exact ⟨h, Nat.le_refl _⟩
theorem upto_num {l : List Nat} {a c n : Nat} (h : (upto l a c).1 = some n) : n < 10 ^ 60 := by
  unfold upto at h
  split at h
  · exact numIn_lt h
  · cases h
theorem chk_lt (l : List Nat) : chkL l < 1000003 := by
  unfold chkL
  rcases List.eq_nil_or_concat l with rfl | ⟨l', c, rfl⟩
  · decide
  · rw [List.concat_eq_append, List.foldl_append]
    exact Nat.mod_lt _ (by decide)
theorem recAt_up {l : List Nat} {a n b : Nat} {rows : List (List Nat)} (ha : a ≤ l.length) (h : recAt l a = some (n, rows, b)) : a < b ∧ b ≤ l.length := by
  unfold recAt at h
  have h1 := upto_le (c := 32) ha
  have h2 := upto_le (c := 58) h1.1
  have h3 := upto_le (c := 61) h2.1
  split at h
  · rename_i n m k e1 e2 e3
    dsimp only at h
    split at h
    · rename_i e4
      split at h
      · cases h
        have h5 : (upto l (upto l (upto l a 32).2 58).2 61).2 + m < l.length := by
          refine Nat.lt_of_not_le fun hge => ?_
          rw [List.drop_of_length_le hge] at e4
          cases e4
        exact ⟨by omega, by omega⟩
      · cases h
    · cases h
  · cases h
theorem recAt_num {l : List Nat} {a n b : Nat} {rows : List (List Nat)} (h : recAt l a = some (n, rows, b)) : n < 10 ^ 60 := by
  unfold recAt at h
  split at h
  · rename_i n m k e1 e2 e3
    dsimp only at h
    split at h
    · split at h
      · cases h
        unfold upto at e1
        split at e1
        · exact numIn_lt e1
        · cases e1
      · cases h
    · cases h
  · cases h
/-- the pieces are no longer than the whole -/
theorem spl_len {c : Nat} : ∀ (l : List Nat) (k : Nat) (acc : List Nat), (TL.spl [c] k acc l).length ≤ l.length + 1 ∧ ∀ r ∈ TL.spl [c] k acc l, r.length ≤ acc.length + l.length
  | [], k, acc => by
    rw [TL.spl_nil]
    exact ⟨by simp, fun r hr => by rw [List.mem_singleton.mp hr]; omega⟩
  | d :: l, 0, acc => by
    cases h : TL.pre [c] (d :: l) with
    | true =>
      rw [TL.spl_hit h, show [c].length - 1 = 0 from rfl]
      have ih := spl_len (c := c) l 0 []
      refine ⟨by rw [List.length_cons, List.length_cons]; omega, fun r hr => ?_⟩
      rcases List.mem_cons.mp hr with rfl | hr
      · omega
      · have := ih.2 r hr
        simp only [List.length_cons, List.length_nil] at this ⊢
        omega
    | false =>
      rw [TL.spl_miss h]
      have ih := spl_len (c := c) l 0 (acc ++ [d])
      refine ⟨by simp only [List.length_cons]; omega, fun r hr => ?_⟩
      have := ih.2 r hr
      simp only [List.length_append, List.length_cons, List.length_nil] at this ⊢
      omega
  | d :: l, k + 1, acc => by
    have ih := spl_len (c := c) l k acc
    show (TL.spl [c] k acc l).length ≤ _ ∧ ∀ r ∈ TL.spl [c] k acc l, _
    exact ⟨by simp only [List.length_cons]; omega, fun r hr => by have := ih.2 r hr; simp only [List.length_cons]; omega⟩
end Lr
namespace Lr
open PySem PySem.Spec PyProof.Rows L2 Lf
def topS (i : Nat) : Stmt := PySem.Challenge.pw_leafround_k68_logs_parsed.main.body.getD i (.Pass ⟨0, 0, 0, 0⟩)
/-- the built-ins stand -/
structure Bs (mg : Str → Option Value) : Prop where
  len : mg "len" = none
  range : mg "range" = none
  abs : mg "abs" = none
  list : mg "list" = none
  tuple : mg "tuple" = none
  enumerate : mg "enumerate" = none
  isinstance : mg "isinstance" = none
  max : mg "max" = none
  min : mg "min" = none
  all : mg "all" = none
  ord : mg "ord" = none
  str : mg "str" = none
  int : mg "int" = none
  bool : mg "bool" = none
  g_FIGURES_MOST : ∃ t, mg "FIGURES_MOST" = some (.int 60 t)
section
variable {P : Program} {w : World} {K : PySem.W.Frag} {mg : Str → Option Value} {base : Heap}
abbrev sNum : Stmt := topS 1
theorem scNum : FnScope ["word"] ["word"] (defScope sNum) := ⟨rfl, rfl, rfl, by decide +kernel, rfl, by decide +kernel, by decide +kernel⟩
def optV : Option Nat → V
  | some n => .int (n : Int)
  | none => .non
def spNum : Sp := fun vs H Q _ => ∃ x : Str, vs = [.str x] ∧ x.length ≤ 1000000 ∧ Q (optV (numIn (tl x))) H
/-- signs that are digits, below 128 -/
theorem dig_ascii : ∀ c, c < 128 → Unicode.isDigit c = decide (Dig c) := by
  have h : (List.range 128).all (fun c => Unicode.isDigit c == decide (Dig c)) = true := by decide +kernel
  intro c hc
  exact eq_of_beq (List.all_eq_true.mp h c (List.mem_range.mpr hc))
theorem ascii_iff (x : Str) : Txt.isascii x = true ↔ ∀ c ∈ tl x, c < 128 := by
  unfold Txt.isascii
  rw [← Array.all_toList, List.all_eq_true]
  exact ⟨fun h c hc => of_decide_eq_true (h c hc), fun h c hc => decide_eq_true (h c hc)⟩
theorem digit_iff {x : Str} (ha : ∀ c ∈ tl x, c < 128) : Txt.isdigit x = true ↔ tl x ≠ [] ∧ ∀ c ∈ tl x, Dig c := by
  unfold Txt.isdigit
  rw [Bool.and_eq_true, ← Array.all_toList, List.all_eq_true]
  refine and_congr ?_ ⟨fun h c hc => of_decide_eq_true ((dig_ascii c (ha c hc)) ▸ h c hc), fun h c hc => (dig_ascii c (ha c hc)).trans (decide_eq_true (h c hc))⟩
  rw [decide_eq_true_eq]
  have e := len_tl x
  constructor
  · intro h z
    rw [z] at e
    rw [e] at h
    exact Nat.lt_irrefl _ h
  · intro h
    rw [e]
    exact List.length_pos_iff.mpr h
theorem str1 (x : Str) (c : Nat) : (x = ⟨#[c]⟩) ↔ tl x = [c] := ⟨fun h => by rw [h], fun h => TL.ext_tl h⟩
theorem z0 : ("0" : Str) = ⟨#[48]⟩ := by decide +kernel
theorem ok_num {f : Addr} {fd : FuncData} (F : Fun K "number_in" "number_in" sNum f fd) (T : Bs mg) : FnOk P w K mg base CX0 1 f fd ["word"] spNum := by
  refine F.ok scNum (fun vs H Q E h => ?_) (fun cdv A outer s H vs Q E hr h => ?_)
  · obtain ⟨x, rfl, _⟩ := h
    rfl
  · obtain ⟨x, rfl, hx, q⟩ := h
    have nd := scNum.nd
    refine ⟨_, (pss_cons (ps_if (PW.pt (pw_or (pt_not (pt_val (pe_m0 PySem.F.slot_str_isascii PySem.F.type_str_isascii mt_isascii (pv 0)))) (pw_or (pt_not (pt_val (pe_m0 PySem.F.slot_str_isdigit PySem.F.type_str_isdigit mt_isdigit (pv 0)))) (pw_or1 (pt_cmpR op_gt (pe_callB call_len_str (by rfl) T.len PySem.boot_len (pa_cons (pv 0) pa_nil)) pe_int (nomark _))))))
  (pss_one (ps_ret pe_non))
  pss_nil)
  (pss_cons (ps_if (PW.pt (pw_and (pt_cmpR op_eq (pe_ix ix_str (pv 0) pe_int (fun _ _ => rfl)) pe_str (nomark _)) (pw_and1 (pt_cmpR op_ne (pv 0) pe_str (nomark _)))))
  (pss_one (ps_ret pe_non))
  pss_nil)
  (pss_one (ps_ret (pe_callTy call_int_str (by rfl) T.int (by decide +kernel) (pa_cons (pv 0) pa_nil)))))), ?_⟩
    have no : ¬ numOk (tl x) → Q V.non H := fun c => by
      unfold numIn at q
      rw [if_neg c] at q
      exact q
    have hz : x.length ≤ sizeLine := Nat.le_trans hx (by decide)
    refine ⟨.str x, rfl, ⟨x, rfl⟩, x, rfl, rfl, trivial, _, rfl, ite2 (fun c => iteT (no fun o => ?_)) (fun c1 => ?_)⟩
    · have h2 : Txt.isascii x = true := (ascii_iff x).mpr fun d hd => by
        have := o.2.1 d hd
        unfold Dig at this
        omega
      rw [h2] at c
      cases c
    have ha : ∀ c ∈ tl x, c < 128 := (ascii_iff x).mp (by simpa using c1)
    refine ⟨.str x, rfl, ⟨x, rfl⟩, x, rfl, rfl, trivial, _, rfl, ite2 (fun c => iteT (no fun o => ?_)) (fun c2 => ?_)⟩
    · have h2 : Txt.isdigit x = true := (digit_iff ha).mpr ⟨o.1, o.2.1⟩
      rw [h2] at c
      cases c
    have hd := (digit_iff ha).mp (by simpa using c2)
    refine ⟨.str x, rfl, x, rfl, hz, _, _, rfl, rfl, _, rfl, ite2 (fun c => no fun o => ?_) (fun c3 => ?_)⟩
    · have h1 := of_decide_eq_true c
      have h2 := o.2.2.1
      rw [← len_tl] at h2
      omega
    have h60 : (tl x).length ≤ 60 := by
      have h1 : ¬ (60 < ((x.length : Nat) : Int)) := fun z => c3 (decide_eq_true z)
      rw [← len_tl]
      omega
    obtain ⟨d, r, e⟩ : ∃ d r, tl x = d :: r := by
      cases e : tl x with
      | nil => exact absurd e hd.1
      | cons d r => exact ⟨d, r, rfl⟩
    have last : (d = 48 → r = []) → Q (.int ((NumText.digitsVal (tl x) : Nat) : Int)) H := fun o => by
      have ok : numOk (tl x) := ⟨hd.1, hd.2, h60, fun z => by
        rw [e] at z ⊢
        have z' : d = 48 := by simpa using z
        rw [z', o z']⟩
      unfold numIn at q
      rw [if_pos ok] at q
      exact q
    have hv : intText? x = some ((NumText.digitsVal (tl x) : Nat) : Int) := intText_digits (fun c hc => hd.2 c hc) hd.1 (by rw [len_tl]; omega)
    have fin : (d = 48 → r = []) → tRet (tCB (fun xs H Q => ∃ a n, xs = [V.str a] ∧ intText? a = some n ∧ a.length ≤ 640 ∧ Q (V.int n) H) (tCons (tVar 0) tNil)) { nx := fun x H' => Q V.non H', rt := Q } [some (.str x)] H :=
      fun o => ⟨.str x, rfl, x, _, rfl, hv, by rw [len_tl]; omega, last o⟩
    have e0 : atI x.cps.toList 0 = some d := by
      have z : x.cps.toList = d :: r := e
      rw [z]
      exact atI_nat (j := 0) rfl
    refine ⟨.str x, rfl, x, 0, d, rfl, rfl, hz, e0, rfl, _, rfl, ite2 (fun c => ?_) (fun c => iteF (fin fun z => ?_))⟩
    · have hd48 : d = 48 := by
        have z := of_decide_eq_true c
        rw [z0] at z
        injection z with z
        have z2 := congrArg tl z
        simpa using z2
      refine ⟨.str x, rfl, rfl, _, rfl, ite2 (fun c => no fun o => ?_) (fun c => fin fun _ => ?_)⟩
      · have e2 := o.2.2.2 (by rw [e, hd48]; rfl)
        have e3 : x = "0" := by rw [z0]; exact (str1 x 48).mpr e2
        rw [e3] at c
        have c' : (!decide (V.str "0" = V.str "0")) = true := c
        rw [decide_eq_true rfl] at c'
        cases c'
      · have c' : decide (V.str x = V.str "0") = true := by simpa using c
        have z := of_decide_eq_true c'
        rw [z0] at z
        injection z with z
        have z2 := (str1 x 48).mp z
        rw [e] at z2
        injection z2
    · refine absurd ?_ c
      rw [z, z0]
      exact decide_eq_true rfl
abbrev sChk : Stmt := topS 4
theorem scChk : FnScope ["text", "check", "sign"] ["text"] (defScope sChk) := ⟨rfl, rfl, rfl, by decide +kernel, rfl, by decide +kernel, by decide +kernel⟩
def spChk : Sp := fun vs H Q _ => ∃ x : Str, vs = [.str x] ∧ Q (.int ((chkL (tl x) : Nat) : Int)) H
theorem ok_chk {f : Addr} {fd : FuncData} (F : Fun K "check_of" "check_of" sChk f fd) (T : Bs mg) : FnOk P w K mg base CX0 1 f fd ["text"] spChk := by
  refine F.ok scChk (fun vs H Q E h => ?_) (fun cdv A outer s H vs Q E hr h => ?_)
  · obtain ⟨x, rfl, _⟩ := h
    rfl
  · obtain ⟨x, rfl, q⟩ := h
    have nd := scChk.nd
    refine ⟨_, (pss_cons (ps_set (i := 1) nd rfl (Or.inl rfl) pe_int)
  (pss_cons (ps_for PassesOwn.never rfl (pi_str (pv 0)) (pg_name (i := 2) nd rfl (Or.inl rfl))
  (pss_one (ps_set (i := 1) nd rfl (Or.inl rfl) (pe_op op_mod (pe_op op_add (pe_op op_mulW pe_int (pv 1)) (pe_callB call_ord (by rfl) T.ord (by decide +kernel) (pa_cons (pv 2) pa_nil))) pe_int))))
  (pss_one (ps_ret (pv 1))))), ?_⟩
    refine ⟨.str x, rfl, x, rfl, ?_⟩
    refine for_it walk_str (fun i σ H' => H' = H ∧ ∃ y, σ = [some (.str x), some (.int ((((tl x).take i).foldl (fun c x => (33 * c + x) % 1000003) 7 : Nat) : Int)), y]) ⟨rfl, _, rfl⟩ (fun _ _ _ _ _ => trivial) (fun i v σ H1 H2 hi p y => ?_) (fun σ H1 p => ?_)
    · obtain ⟨rfl, y0, rfl⟩ := p
      obtain ⟨rfl, c, hc, rfl⟩ := y
      have hc' : (tl x)[i]? = some c := by
        have := hc
        rw [← Array.getElem?_toList] at this
        exact this
      have et : (tl x).take (i + 1) = (tl x).take i ++ [c] := by
        rw [List.take_add_one, hc']
        rfl
      generalize hg : ((tl x).take i).foldl (fun c x => (33 * c + x) % 1000003) 7 = g
      have hgl : g < 1000003 := by
        rw [← hg]
        exact chk_lt _
      have w1 : CMulW 33 (g : Int) := wide_mul (a := 32) (b := 32) (by decide) (by omega) (by decide) (by decide) (by decide)
      refine ⟨_, rfl, 33, (g : Int), rfl, rfl, w1, .str ⟨#[c]⟩, rfl, ⟨#[c]⟩, rfl, rfl, _, _, rfl, rfl, _, 1000003, rfl, rfl, (by show (0 : Int) < 1000003; decide), ?_⟩
      refine ⟨rfl, some (.str ⟨#[c]⟩), ?_⟩
      rw [et, List.foldl_append, hg]
      have e3 : (33 * (g : Int) + ((c : Nat) : Int)) % 1000003 = (((33 * g + c) % 1000003 : Nat) : Int) := by omega
      show [some (V.str x), some (V.int ((33 * (g : Int) + ((c : Nat) : Int)) % 1000003)), some (V.str ⟨#[c]⟩)] = _
      rw [e3]
      rfl
    · obtain ⟨rfl, y0, rfl⟩ := p
      refine ⟨_, rfl, ?_⟩
      rw [List.take_of_length_le (by rw [Array.length_toList]; exact Nat.le_refl _)]
      exact q

abbrev sUnt : Stmt := topS 7
theorem scUnt : FnScope ["log", "at", "closing", "end"] ["log", "at", "closing"] (defScope sUnt) := ⟨rfl, rfl, rfl, by decide +kernel, rfl, by decide +kernel, by decide +kernel⟩
def spUnt : Sp := fun vs H Q _ => ∃ (x : Str) (a c : Nat), vs = [.str x, .int (a : Int), .str ⟨#[c]⟩] ∧ x.length ≤ 1000000 ∧ a ≤ x.length ∧
  ∀ p H', Same H H' → H p = none → H' p = some (.tup [optV (upto (tl x) a c).1, .int (((upto (tl x) a c).2 : Nat) : Int)]) → Q (.ref p) H'
theorem ok_unt {f : Addr} {fd : FuncData} (F : Fun K "number_until" "number_until" sUnt f fd) (T : Bs mg) (c_number_in : Callee P w K mg base 1 "number_in" ["word"] spNum) : FnOk P w K mg base CX0 2 f fd ["log", "at", "closing"] spUnt := by
  refine F.ok scUnt (fun vs H Q E h => ?_) (fun cdv A outer s H vs Q E hr h => ?_)
  · obtain ⟨x, a, c, rfl, _⟩ := h
    rfl
  · obtain ⟨x, a, c, rfl, hx, ha, q⟩ := h
    have nd := scUnt.nd
    obtain ⟨tFig, hFig⟩ := T.g_FIGURES_MOST
    refine ⟨_, (pss_cons (ps_set (i := 3) nd rfl (Or.inl rfl) (pe_bm PySem.F.plainAttrs_str PySem.F.slot_str_find PySem.F.type_str_find mt_find4 (pv 0) (pa_cons (pv 2) (pa_cons (pv 1) (pa_cons (pe_op op_add (pe_op op_add (pv 1) (pe_glob (v := V.int 60) rfl hFig ⟨_, rfl⟩)) pe_int) pa_nil)))))
  (pss_one (ps_ret (pe_ifExp (pt_cmpR op_lt (pv 3) pe_int (nomark _)) (pe_tup (pa_cons pe_non (pa_cons (pv 1) pa_nil))) (pe_tup (pa_cons (pe_own c_number_in (hr.mono (by decide)) (by rfl) (pa_cons (pe_slice sl_str (pv 0) (po_some (pv 1)) (po_some (pv 3))) pa_nil)) (pa_cons (pe_op op_add (pv 3) pe_int) pa_nil))))))), ?_⟩
    have e61 : (a : Int) + 60 + 1 = ((a + 61 : Nat) : Int) := by omega
    refine ⟨.str x, rfl, rfl, .str ⟨#[c]⟩, rfl, .int a, rfl, .int a, rfl, (a : Int), 60, rfl, rfl, _, 1, rfl, rfl, x, ⟨#[c]⟩, (a : Int), _, rfl, rfl, ?_⟩
    rw [e61, find_ix x c a 61 ha]
    unfold upto at q
    cases e : ix c (((tl x).drop a).take 61) with
    | none =>
      rw [e] at q
      refine ⟨.int (-1), rfl, -1, 0, rfl, rfl, _, rfl, iteT ?_⟩
      refine ⟨.int a, rfl, (by show 2 ≤ sizeLine; decide), fun p hp => q p _ (same_new hp) hp upd_same⟩
    | some k =>
      rw [e] at q
      obtain ⟨hk, r, hr1, hr2⟩ := ix_some e
      have hk2 : k < 61 := by
        rw [List.length_take] at hk
        omega
      have hk3 : a + k < x.length := by
        rw [List.length_take, List.length_drop, ← len_tl] at hk
        omega
      have e2 : (decide (((a + k : Nat) : Int) < 0)) = false := decide_eq_false (by omega)
      refine ⟨.int ((a + k : Nat) : Int), rfl, ((a + k : Nat) : Int), 0, rfl, rfl, _, rfl, ?_⟩
      rw [e2]
      refine iteF ?_
      refine ⟨.str x, rfl, .int a, rfl, (a : Int), rfl, .int ((a + k : Nat) : Int), rfl, ((a + k : Nat) : Int), rfl, x, rfl, Nat.le_trans hx (by decide), ?_⟩
      have e3 : cutS x (some (a : Int)) (some ((a + k : Nat) : Int)) = S (((tl x).drop a).take k) := by
        rw [cutS_nat, Nat.add_sub_cancel_left]
      rw [e3]
      refine ⟨_, rfl, ?_, .int ((a + k : Nat) : Int), rfl, ((a + k : Nat) : Int), 1, rfl, rfl, (by show 2 ≤ sizeLine; decide), fun p hp => q p _ (same_new hp) hp upd_same⟩
      rw [S_len, List.length_take]
      omega
abbrev sRow : Stmt := topS 8
theorem scRow : FnScope ["row", "sign"] ["row"] (defScope sRow) := ⟨rfl, rfl, rfl, by decide +kernel, rfl, by decide +kernel, by decide +kernel⟩
def spRow : Sp := fun vs H Q _ => ∃ (x : Str), vs = [.str x] ∧ x.length ≤ 1000000 ∧
  ∀ H', Same H H' → Q (.bl (decide (rowOk (tl x)))) H'
theorem zb : (" " : Str) = ⟨#[32]⟩ := by decide +kernel
theorem zt : ("~" : Str) = ⟨#[126]⟩ := by decide +kernel
theorem zn : ("\n" : Str) = S [10] := by decide +kernel
theorem zc : (":" : Str) = S [58] := by decide +kernel
theorem ze : ("=" : Str) = S [61] := by decide +kernel
theorem le1 (a b : Nat) : (!decide ((⟨#[b]⟩ : Str).cps.toList < (⟨#[a]⟩ : Str).cps.toList)) = decide (a ≤ b) := by
  have h : (([b] : List Nat) < [a]) ↔ b < a := by
    rw [List.cons_lt_cons_iff]
    constructor
    · rintro (h | ⟨_, h⟩)
      · exact h
      · exact absurd h (List.not_lt_nil _)
    · exact .inl
  rw [Bool.eq_iff_iff, Bool.not_eq_true', decide_eq_false_iff_not, decide_eq_true_eq]
  show ¬ (([b] : List Nat) < [a]) ↔ a ≤ b
  rw [h]
  omega
theorem ok_row {f : Addr} {fd : FuncData} (F : Fun K "is_row" "is_row" sRow f fd) (T : Bs mg) : FnOk P w K mg base CX0 1 f fd ["row"] spRow := by
  refine F.ok scRow (fun vs H Q E h => ?_) (fun cdv A outer s H vs Q E hr h => ?_)
  · obtain ⟨x, rfl, _⟩ := h
    rfl
  · obtain ⟨x, rfl, hx, q⟩ := h
    have nd := scRow.nd
    refine ⟨_, (pss_one (ps_ret (pe_and (pe_cmpR op_ne (pv 0) pe_str (nomark _)) (pe_one (pe_callB (cr_all rfl) (by rfl) T.all (by decide +kernel) (pa_cons (pe_lc (own := [("sign", 1)]) (g := gName 1) (tt := tYes) rfl nd (pi_str (pv 0)) (blkOk_by (own := [("sign", 1)]) (N := ["row", "sign"]) (sc := defScope (topS 8)) (by decide +kernel)) (fun _ _ _ _ _ => (pg_name (i := 1) nd rfl (Or.inl rfl))) (fun _ _ _ _ _ => pts_nil) (fun _ _ _ _ _ => (pe_chain op_le_str op_le_str pe_str (pv 1) pe_str))) pa_nil)))))), ?_⟩
    refine ⟨.str x, rfl, rfl, _, rfl, ite2 (fun c => ?_) (fun c => ?_)⟩
    · have hne : tl x ≠ [] := fun z => by
        have z2 : x = "" := TL.ext_tl (z.trans (by decide +kernel))
        rw [z2] at c
        have c' : (!decide (V.str "" = V.str "")) = true := c
        rw [decide_eq_true rfl] at c'
        cases c'
      refine ⟨.str x, rfl, x, rfl, fun D hD => ?_⟩
      refine lc_it walk_str (fun i H' => Same H H' ∧ H' D = some (.lst (((tl x).take i).map fun c => V.bl (decide (signOk c))))) ⟨same_new hD, upd_same⟩ (fun _ _ _ _ => trivial) (fun i v H1 H2 hi p y => ?_) (fun H1 p => ?_)
      · obtain ⟨s1, e1⟩ := p
        obtain ⟨rfl, c, hc, rfl⟩ := y
        have hc' : (tl x)[i]? = some c := by
          have := hc
          rw [← Array.getElem?_toList] at this
          exact this
        have et : (tl x).take (i + 1) = (tl x).take i ++ [c] := by
          rw [List.take_add_one, hc']
          rfl
        have step : ∀ b : Bool, b = decide (signOk c) → ∃ acc, H2 D = some (.lst acc) ∧ acc.length < sizeLine ∧ (Same H (upd H2 D (.lst (acc ++ [V.bl b]))) ∧ (upd H2 D (.lst (acc ++ [V.bl b]))) D = some (.lst (((tl x).take (i + 1)).map fun c => V.bl (decide (signOk c))))) := fun b hb => by
          refine ⟨_, e1, ?_, s1.mutN hD, ?_⟩
          · rw [List.length_map, List.length_take, ← len_tl]
            exact Nat.lt_of_le_of_lt (Nat.le_trans (Nat.min_le_right _ _) hx) (by decide)
          · rw [upd_same, et, List.map_append, hb]
            rfl
        refine ⟨rfl, .str ⟨#[c]⟩, rfl, _, _, rfl, rfl, _, rfl, ite2 (fun c1 => ?_) (fun c1 => ?_)⟩
        · have h1 : 32 ≤ c := by
            have z := c1
            rw [zb, le1] at z
            exact of_decide_eq_true z
          refine ⟨_, _, rfl, rfl, ?_⟩
          refine step _ ?_
          rw [zt, show (!decide ((⟨#[126]⟩ : Str).cps.toList < (⟨#[c]⟩ : Str).cps.toList)) = decide (c ≤ 126) from le1 c 126]
          rw [Bool.eq_iff_iff, decide_eq_true_eq, decide_eq_true_eq]
          exact ⟨fun h => ⟨h1, h⟩, fun h => h.2⟩
        · have h1 : ¬ 32 ≤ c := fun h => c1 (by rw [zb, le1]; exact decide_eq_true h)
          refine step _ ?_
          symm
          exact decide_eq_false fun h => h1 h.1
      · obtain ⟨s1, e1⟩ := p
        rw [List.take_of_length_le (by rw [Array.length_toList]; exact Nat.le_refl _)] at e1
        refine ⟨D, (tl x).map fun c => decide (signOk c), rfl, SqL.of (by rw [e1, List.map_map]; rfl), ?_⟩
        have z := q _ s1
        have e2 : ((tl x).map fun c => decide (signOk c)).all id = decide (rowOk (tl x)) := by
          rw [Bool.eq_iff_iff, List.all_map, List.all_eq_true, decide_eq_true_eq]
          exact ⟨fun h => ⟨hne, fun c hc => of_decide_eq_true (h c hc)⟩, fun h c hc => decide_eq_true (h.2 c hc)⟩
        rw [e2]
        exact z
    · have c' : decide (V.str x = V.str "") = true := by simpa using c
      have z := of_decide_eq_true c'
      injection z with z
      have e2 : decide (rowOk (tl x)) = false := decide_eq_false fun h => h.1 (by rw [z]; decide +kernel)
      have z := q H (same_refl H)
      rw [e2] at z
      exact z

section
variable {ts : List TE} {l m : List Nat} {σ : L2.St} {H : Hp} {Q : Str → Hp → Prop}
theorem S_e : Str.empty = S [] := rfl
theorem jsC {x : Str} (hx : x = S m) (hl : l.length + m.length ≤ sizeLine) (h : tJs ts (S (l ++ m)) σ H Q) : tJs (tC (.str x) :: ts) (S l) σ H Q := by
  subst hx
  exact ⟨_, rfl, by rw [S_append, S_len, List.length_append]; exact hl, by rw [S_append]; exact h⟩
theorem jsN {i : Nat} (n : Nat) (hσ : σ[i]? = some (some (.int (n : Int)))) (hn : n < 10 ^ 60) (hl : l.length + 60 ≤ sizeLine) (h : tJs ts (S (l ++ numL n)) σ H Q) : tJs (tFmt (tVar i) :: ts) (S l) σ H Q :=
  ⟨_, hσ, .inr ⟨_, rfl, log2_num hn, _, rfl, by
    rw [S_num, S_append, S_len, List.length_append]
    have : (numL n).length ≤ 60 := TL.numL_len (by decide) hn
    omega, by rw [S_num, S_append]; exact h⟩⟩
theorem jsV {i : Nat} (hσ : σ[i]? = some (some (.str (S m)))) (hl : l.length + m.length ≤ sizeLine) (h : tJs ts (S (l ++ m)) σ H Q) : tJs (tFmt (tVar i) :: ts) (S l) σ H Q :=
  ⟨_, hσ, .inl ⟨_, rfl, by rw [S_len]; omega, _, rfl, by rw [S_append, S_len, List.length_append]; exact hl, by rw [S_append]; exact h⟩⟩
theorem jsL {i : Nat} (hσ : σ[i]? = some (some (.str (S m)))) (hm : m.length ≤ sizeLine) (hl : l.length + 60 ≤ sizeLine) (h : tJs ts (S (l ++ numL m.length)) σ H Q) :
    tJs (tFmt (tCB (fun xs H Q => ∃ z, xs = [V.str z] ∧ z.length ≤ sizeLine ∧ Q (V.int ((z.length : Nat) : Int)) H) (tCons (tVar i) tNil)) :: ts) (S l) σ H Q := by
  have h60 : m.length < 10 ^ 60 := Nat.lt_of_le_of_lt hm (by decide)
  refine ⟨_, hσ, _, rfl, hm, .inr ⟨_, rfl, log2_num h60, _, rfl, ?_, ?_⟩⟩
  · rw [S_len, S_num, S_append, S_len, List.length_append]
    have : (numL m.length).length ≤ 60 := TL.numL_len (by decide) h60
    omega
  · rw [S_len, S_num, S_append]
    exact h
end
theorem joinL_len (y : List Nat) : ∀ ps : List (List Nat), (joinL y ps).length ≤ (ps.map List.length).sum + ps.length * y.length
  | [] => Nat.zero_le _
  | [p] => by
    show p.length ≤ _
    simp
  | p :: q :: r => by
    have h := joinL_len y (q :: r)
    show (p ++ (y ++ joinL y (q :: r))).length ≤ _
    rw [List.length_append, List.length_append, List.map_cons, List.sum_cons, List.length_cons, Nat.succ_mul]
    omega
def rowV (rows : List (List Nat)) : List V := rows.map fun r => V.str (S r)
def spRec (K : PySem.W.Frag) : Sp := fun vs H Q _ => ∃ (n : Nat) (a : Addr) (rows : List (List Nat)), vs = [.int (n : Int), .ref a] ∧ n < 10 ^ 60 ∧ SqL K H a (rowV rows) ∧ (rows.map List.length).sum + rows.length ≤ 100000 ∧
  Q (.str (S (recL n rows))) H
/-! ### one record read -/
def rowsAt (H : Hp) (p : Addr) (rows : List (List Nat)) : Prop := H p = some (.lst (rowV rows))
abbrev sRat : Stmt := topS 6
theorem scRat : FnScope ["log", "at", "number", "at_length", "length", "at_check", "check", "at_body", "end", "body", "rows", "row"] ["log", "at"] (defScope sRat) := ⟨rfl, rfl, rfl, by decide +kernel, rfl, by decide +kernel, by decide +kernel⟩
def spRat : Sp := fun vs H Q _ => ∃ (x : Str) (a : Nat), vs = [.str x, .int (a : Int)] ∧ x.length ≤ 1000000 ∧ a ≤ x.length ∧
  ((recAt (tl x) a = none → ∀ H', Same H H' → Q .non H') ∧
   ∀ n rows b, recAt (tl x) a = some (n, rows, b) → ∀ p r H', Same H H' → H p = none → H r = none → H' r = some (.lst (rowV rows)) → H' p = some (.tup [.int (n : Nat), .ref r, .int (b : Nat)]) → Q (.ref p) H')
set_option maxHeartbeats 4000000 in
theorem ok_rat {f : Addr} {fd : FuncData} (F : Fun K "record_at" "record_at" sRat f fd) (T : Bs mg) (c_check_of : Callee P w K mg base 1 "check_of" ["text"] spChk)
    (c_number_until : Callee P w K mg base 2 "number_until" ["log", "at", "closing"] spUnt) (c_is_row : Callee P w K mg base 1 "is_row" ["row"] spRow) : FnOk P w K mg base CX0 3 f fd ["log", "at"] spRat := by
  refine F.ok scRat (fun vs H Q E h => ?_) (fun cdv A outer s H vs Q E hr h => ?_)
  · obtain ⟨x, a, rfl, _⟩ := h
    rfl
  · obtain ⟨x, a, rfl, hx, ha, q1, q2⟩ := h
    have nd := scRat.nd
    refine ⟨_, (pss_cons (ps_asg (pe_own c_number_until (hr.mono (by decide)) (by rfl) (pa_cons (pv 0) (pa_cons (pv 1) (pa_cons pe_str pa_nil)))) (pg_tup rfl (pgs_cons (pg_name (i := 2) nd rfl (Or.inl rfl)) (pgs_cons (pg_name (i := 3) nd rfl (Or.inl rfl)) pgs_nil))))
  (pss_cons (ps_asg (pe_own c_number_until (hr.mono (by decide)) (by rfl) (pa_cons (pv 0) (pa_cons (pv 3) (pa_cons pe_str pa_nil)))) (pg_tup rfl (pgs_cons (pg_name (i := 4) nd rfl (Or.inl rfl)) (pgs_cons (pg_name (i := 5) nd rfl (Or.inl rfl)) pgs_nil))))
  (pss_cons (ps_asg (pe_own c_number_until (hr.mono (by decide)) (by rfl) (pa_cons (pv 0) (pa_cons (pv 5) (pa_cons pe_str pa_nil)))) (pg_tup rfl (pgs_cons (pg_name (i := 6) nd rfl (Or.inl rfl)) (pgs_cons (pg_name (i := 7) nd rfl (Or.inl rfl)) pgs_nil))))
  (pss_cons (ps_if (PW.pt (pw_or (pt_cmpR op_isN (pv 2) pe_non (nomark _)) (pw_or (pt_cmpR op_isN (pv 4) pe_non (nomark _)) (pw_or1 (pt_cmpR op_isN (pv 6) pe_non (nomark _))))))
  (pss_one (ps_ret pe_non))
  pss_nil)
  (pss_cons (ps_set (i := 8) nd rfl (Or.inl rfl) (pe_op op_add (pv 7) (pv 4)))
  (pss_cons (ps_if (pt_cmpR op_ne (pe_slice sl_str (pv 0) (po_some (pv 8)) (po_some (pe_op op_add (pv 8) pe_int))) pe_str (nomark _))
  (pss_one (ps_ret pe_non))
  pss_nil)
  (pss_cons (ps_set (i := 9) nd rfl (Or.inl rfl) (pe_slice sl_str (pv 0) (po_some (pv 7)) (po_some (pv 8))))
  (pss_cons (ps_set (i := 10) nd rfl (Or.inl rfl) (pe_split (pv 9) pe_str))
  (pss_cons (ps_if (PW.pt (pw_or (pt_not (pt_val (pe_callB (cr_all rfl) (by rfl) T.all (by decide +kernel) (pa_cons (pe_lc (own := [("row", 11)]) (g := gName 11) (tt := tYes) rfl nd (pi_list (pv 10)) (blkOk_by (own := [("row", 11)]) (N := ["log", "at", "number", "at_length", "length", "at_check", "check", "at_body", "end", "body", "rows", "row"]) (sc := defScope (topS 6)) (by decide +kernel)) (fun _ _ _ _ _ => (pg_name (i := 11) nd rfl (Or.inl rfl))) (fun _ _ _ _ _ => pts_nil) (fun _ _ _ _ _ => (pe_own c_is_row (hr.mono (by decide)) (by rfl) (pa_cons (pv 11) pa_nil)))) pa_nil)))) (pw_or1 (pt_cmpR op_ne (pv 6) (pe_own c_check_of (hr.mono (by decide)) (by rfl) (pa_cons (pe_joined (.cons (pe_fmt (pv 2)) (.cons pe_str (.cons (pe_fmt (pv 4)) (.cons pe_str (.cons (pe_fmt (pv 9)) .nil)))))) pa_nil)) (nomark _)))))
  (pss_one (ps_ret pe_non))
  pss_nil)
  (pss_one (ps_ret (pe_tup (pa_cons (pv 2) (pa_cons (pv 10) (pa_cons (pe_op op_add (pv 8) pe_int) pa_nil))))))))))))))), ?_⟩
    obtain ⟨o1, a1, e1⟩ : ∃ o1 a1, upto (tl x) a 32 = (o1, a1) := ⟨_, _, rfl⟩
    obtain ⟨o2, a2, e2⟩ : ∃ o2 a2, upto (tl x) a1 58 = (o2, a2) := ⟨_, _, rfl⟩
    obtain ⟨o3, a3, e3⟩ : ∃ o3 a3, upto (tl x) a2 61 = (o3, a3) := ⟨_, _, rfl⟩
    have u1 := upto_le (l := tl x) (c := 32) (a := a) (by rw [← len_tl]; exact ha)
    rw [e1] at u1
    have u2 := upto_le (c := 58) u1.1
    rw [e2] at u2
    have u3 := upto_le (c := 61) u2.1
    rw [e3] at u3
    rw [← len_tl] at u1 u2 u3
    have ez : sizeLine = 16777216 := by decide +kernel
    have hz : x.length ≤ sizeLine := by omega
    have b1 : ∀ n, o1 = some n → n < 10 ^ 60 := fun n h => upto_num (by rw [e1]; exact h)
    have b2 : ∀ n, o2 = some n → n < 10 ^ 60 := fun n h => upto_num (by rw [e2]; exact h)
    rw [recAt_eq e1 e2 e3] at q1 q2
    refine ⟨.str x, rfl, .int a, rfl, x, a, 32, rfl, hx, ha, fun p1 H1 s1 n1 f1 => ?_⟩
    rw [e1] at f1
    refine ⟨p1, _, rfl, SqT.of f1, rfl, _, _, rfl, _, _, rfl, rfl, ?_⟩
    refine ⟨.str x, rfl, .int a1, rfl, x, a1, 58, rfl, hx, u1.1, fun p2 H2 s2 n2 f2 => ?_⟩
    rw [e2] at f2
    refine ⟨p2, _, rfl, SqT.of f2, rfl, _, _, rfl, _, _, rfl, rfl, ?_⟩
    refine ⟨.str x, rfl, .int a2, rfl, x, a2, 61, rfl, hx, u2.1, fun p3 H3 s3 n3 f3 => ?_⟩
    rw [e3] at f3
    refine ⟨p3, _, rfl, SqT.of f3, rfl, _, _, rfl, _, _, rfl, rfl, ?_⟩
    have s03 : Same H H3 := (s1.tr s2).tr s3
    clear e1 e2 e3 f1 f2 f3 n1 n2 n3
    cases o1 with
    | none => exact ⟨.non, rfl, rfl, _, rfl, iteT (iteT (q1 rfl _ s03))⟩
    | some n =>
    cases o2 with
    | none => exact ⟨.int n, rfl, rfl, _, rfl, iteF ⟨.non, rfl, rfl, _, rfl, iteT (iteT (q1 rfl _ s03))⟩⟩
    | some m =>
    cases o3 with
    | none => exact ⟨.int n, rfl, rfl, _, rfl, iteF ⟨.int m, rfl, rfl, _, rfl, iteF ⟨.non, rfl, rfl, _, rfl, iteT (q1 rfl _ s03)⟩⟩⟩
    | some k =>
    refine ⟨.int n, rfl, rfl, _, rfl, iteF ⟨.int m, rfl, rfl, _, rfl, iteF ⟨.int k, rfl, rfl, _, rfl, iteF ?_⟩⟩⟩
    refine ⟨.int a3, rfl, .int m, rfl, (a3 : Int), (m : Int), rfl, rfl, ?_⟩
    have em : (a3 : Int) + (m : Int) = ((a3 + m : Nat) : Int) := by omega
    have em1 : ((a3 + m : Nat) : Int) + 1 = ((a3 + m + 1 : Nat) : Int) := by omega
    dsimp only
    rw [em]
    refine ⟨.str x, rfl, .int ((a3 + m : Nat) : Int), rfl, ((a3 + m : Nat) : Int), rfl, .int ((a3 + m : Nat) : Int), rfl, ((a3 + m : Nat) : Int), 1, rfl, rfl, _, rfl, x, rfl, hz, ?_⟩
    dsimp only
    rw [em1, cutS_nat, zn, show a3 + m + 1 - (a3 + m) = 1 by omega]
    refine ⟨rfl, _, rfl, ite2 (fun c => q1 ?_ _ s03) (fun c => ?_)⟩
    · have c' : ((tl x).drop (a3 + m)).take 1 ≠ [10] := fun z => by
        rw [z, decide_eq_true rfl] at c
        cases c
      show (if _ then _ else none) = none
      rw [if_neg c']
    have c1 : ((tl x).drop (a3 + m)).take 1 = [10] := by
      have c' : decide (V.str (S (((tl x).drop (a3 + m)).take 1)) = V.str (S [10])) = true := by simpa using c
      have z := of_decide_eq_true c'
      injection z with z
      exact S_inj z
    have r0 : recFin (tl x) (some n) (some m) (some k) a3 = if (∀ r ∈ TL.spl [10] 0 [] (((tl x).drop a3).take m), rowOk r) ∧ k = chkL (headL n m (((tl x).drop a3).take m)) then some (n, TL.spl [10] 0 [] (((tl x).drop a3).take m), a3 + m + 1) else none := if_pos c1
    rw [r0] at q1 q2
    refine ⟨.str x, rfl, .int a3, rfl, (a3 : Int), rfl, .int ((a3 + m : Nat) : Int), rfl, ((a3 + m : Nat) : Int), rfl, x, rfl, hz, ?_⟩
    rw [cutS_nat, Nat.add_sub_cancel_left]
    generalize hB : ((tl x).drop a3).take m = B at q1 q2 ⊢
    have hBl : B.length ≤ 1000000 := by
      rw [← hB, List.length_take, List.length_drop, ← len_tl]
      omega
    refine ⟨.str (S B), rfl, ⟨_, rfl⟩, S B, S [10], rfl, rfl, rfl, by rw [S_len]; omega, fun D hD => ?_⟩
    rw [split_S _ _ (by decide), tl_S]
    generalize hR : TL.spl [10] 0 [] B = R at q1 q2 ⊢
    have eR : (R.map S).map V.str = rowV R := by
      rw [List.map_map]
      rfl
    rw [eR]
    have s04 : Same H (upd H3 D (.lst (rowV R))) := s03.tr (same_new hD)
    generalize hH4 : upd H3 D (.lst (rowV R)) = H4 at s04 ⊢
    have hD4 : H4 D = some (.lst (rowV R)) := by
      rw [← hH4]
      exact upd_same
    have hRl : R.length ≤ 1000001 ∧ ∀ r ∈ R, r.length ≤ 1000000 := by
      rw [← hR]
      have z := spl_len (c := 10) B 0 []
      exact ⟨by omega, fun r hr => by have := z.2 r hr; simp at this; omega⟩
    refine ⟨.ref D, rfl, D, rfl, ⟨_, SqL.of hD4⟩, fun D2 hD2 => ?_⟩
    refine lc_list (xs := rowV R) (fun i H' => Same H4 H' ∧ H' D2 = some (.lst ((R.take i).map fun r => V.bl (decide (rowOk r))))) ⟨same_new hD2, upd_same⟩ (fun i H' _ p => SqL.of (p.1 _ _ hD4)) (fun i v H5 hv p => ?_) (fun H5 p => ?_)
    · obtain ⟨s5, e5⟩ := p
      have hi : i < R.length := by
        have := (List.getElem?_eq_some_iff.mp hv).1
        simpa [rowV] using this
      have ev : v = V.str (S R[i]) := by
        have z : (rowV R)[i]? = some (V.str (S R[i])) := by simp [rowV, hi]
        rw [z] at hv
        exact (Option.some.inj hv).symm
      subst ev
      refine ⟨rfl, _, rfl, _, rfl, by rw [S_len]; exact hRl.2 _ (List.getElem_mem hi), fun H6 s6 => ⟨_, s6 _ _ e5, ?_, (s5.tr s6).mutN hD2, ?_⟩⟩
      · rw [List.length_map, List.length_take]
        omega
      · rw [upd_same, List.take_add_one, List.getElem?_eq_getElem hi, tl_S, List.map_append]
        rfl
    · obtain ⟨s5, e5⟩ := p
      rw [show (rowV R).length = R.length by simp [rowV], List.take_length] at e5
      have s05 := s04.tr s5
      refine ⟨D2, R.map fun r => decide (rowOk r), rfl, SqL.of (by rw [e5, List.map_map]; rfl), _, rfl, ite2 (fun c => iteT (q1 ?_ _ s05)) (fun c => ?_)⟩
      · rw [if_neg]
        intro z
        have z2 : (R.map fun r => decide (rowOk r)).all id = true := by
          rw [List.all_map, List.all_eq_true]
          exact fun r hr => decide_eq_true (z.1 r hr)
        rw [z2] at c
        cases c
      have c2 : ∀ r ∈ R, rowOk r := by
        have c' : (R.map fun r => decide (rowOk r)).all id = true := by simpa using c
        rw [List.all_map, List.all_eq_true] at c'
        exact fun r hr => of_decide_eq_true (c' r hr)
      have hn := b1 n rfl
      have hm := b2 m rfl
      have h1 : (numL n).length ≤ 60 := TL.numL_len (by decide) hn
      have h2 : (numL m).length ≤ 60 := TL.numL_len (by decide) hm
      refine ⟨.int k, rfl, ?_⟩
      refine jsN n rfl hn (by decide) (jsC zb (by simp only [List.length_append, List.length_nil, List.length_cons]; omega) (jsN m rfl hm (by simp only [List.length_append, List.length_nil, List.length_cons]; omega)
        (jsC zc (by simp only [List.length_append, List.length_nil, List.length_cons]; omega) (jsV (m := B) rfl (by simp only [List.length_append, List.length_nil, List.length_cons]; omega) ?_))))
      refine ⟨_, rfl, rfl, _, rfl, ite2 (fun c => q1 ?_ _ s05) (fun c => ?_)⟩
      · rw [if_neg]
        intro z
        have z2 := z.2
        rw [tl_S] at c
        rw [z2] at c
        have c' : (!decide (V.int ((chkL (headL n m B) : Nat) : Int) = V.int ((chkL (headL n m B) : Nat) : Int))) = true := c
        rw [decide_eq_true rfl] at c'
        cases c'
      have c3 : k = chkL (headL n m B) := by
        rw [tl_S] at c
        have c' : decide (V.int ((k : Nat) : Int) = V.int ((chkL (headL n m B) : Nat) : Int)) = true := by
          have c2 : ¬ (!decide (V.int ((k : Nat) : Int) = V.int ((chkL (headL n m B) : Nat) : Int))) = true := c
          simpa using c2
        have z := of_decide_eq_true c'
        injection z with z
        exact Int.ofNat_inj.mp z
      rw [if_pos ⟨c2, c3⟩] at q2
      refine ⟨.int n, rfl, .ref D, rfl, .int ((a3 + m : Nat) : Int), rfl, ((a3 + m : Nat) : Int), 1, rfl, rfl, (by show 3 ≤ sizeLine; decide), fun p hp => ?_⟩
      dsimp only
      rw [em1]
      refine q2 _ _ _ rfl p D _ (s05.tr (same_new hp)) (s05.fresh hp) (s03.fresh hD) ?_ upd_same
      rw [upd_ne (ne_of_none (s5 _ _ hD4) hp)]
      exact s5 _ _ hD4
end
end Lr
namespace Lr
open PySem PySem.Spec PyProof.Rows L2 Lf
section
variable {P : Program} {w : World} {K : PySem.W.Frag} {mg : Str → Option Value} {base : Heap}
/-- the lists of rows at their addresses, new ones -/
def RowsAll (H0 : Hp) (r : Addr) (H : Hp) : List Addr → List (List (List Nat)) → Prop
  | [], [] => True
  | q :: qs, x :: xs => (H0 q = none ∧ q ≠ r ∧ H q = some (.lst (rowV x))) ∧ RowsAll H0 r H qs xs
  | _, _ => False
theorem RowsAll.keep {H0 H H' : Hp} {r : Addr} (k : ∀ q o, H0 q = none → q ≠ r → H q = some o → H' q = some o) : ∀ {qs : List Addr} {xs : List (List (List Nat))}, RowsAll H0 r H qs xs → RowsAll H0 r H' qs xs
  | [], [], _ => trivial
  | _ :: _, _ :: _, ⟨⟨h1, h2, h3⟩, h4⟩ => ⟨⟨h1, h2, k _ _ h1 h2 h3⟩, h4.keep k⟩
  | [], _ :: _, h => h.elim
  | _ :: _, [], h => h.elim
theorem RowsAll.snoc {H0 H : Hp} {r q : Addr} {x : List (List Nat)} (h1 : H0 q = none) (h2 : q ≠ r) (h3 : H q = some (.lst (rowV x))) : ∀ {qs : List Addr} {xs : List (List (List Nat))}, RowsAll H0 r H qs xs → RowsAll H0 r H (qs ++ [q]) (xs ++ [x])
  | [], [], _ => ⟨⟨h1, h2, h3⟩, trivial⟩
  | _ :: _, _ :: _, ⟨h, h4⟩ => ⟨h, RowsAll.snoc h1 h2 h3 h4⟩
  | [], _ :: _, h => h.elim
  | _ :: _, [], h => h.elim
theorem RowsAll.len {H0 H : Hp} {r : Addr} : ∀ {qs : List Addr} {xs : List (List (List Nat))}, RowsAll H0 r H qs xs → qs.length = xs.length
  | [], [], _ => rfl
  | _ :: _, _ :: _, ⟨_, h⟩ => congrArg (· + 1) h.len
  | [], _ :: _, h => h.elim
  | _ :: _, [], h => h.elim
/-- what stands at the loop's head -/
def Jst (l : List Nat) (fst : Option Nat) (rs : List (List (List Nat))) (a : Nat) : Prop :=
  (fst = none ∧ rs = [] ∧ a = 0) ∨ ∃ f fuel, fst = some f ∧ l.length + 1 ≤ fuel + a ∧ parseL l = (some f, rs ++ (runL l fuel (f + rs.length) a).1, (runL l fuel (f + rs.length) a).2)
theorem Jst.end_none {l : List Nat} {fst : Option Nat} {rs : List (List (List Nat))} {a : Nat} (j : Jst l fst rs a) (ha : a ≤ l.length) (h : recAt l a = none) : parseL l = (fst, rs, a) := by
  rcases j with ⟨rfl, rfl, rfl⟩ | ⟨f, fuel, rfl, h1, h2⟩
  · unfold parseL
    rw [h]
  · rw [h2]
    obtain ⟨g, rfl⟩ : ∃ g, fuel = g + 1 := ⟨fuel - 1, by omega⟩
    unfold runL
    rw [h]
    simp
theorem Jst.end_other {l : List Nat} {f : Nat} {rs : List (List (List Nat))} {rw' : List (List Nat)} {a n b : Nat} (j : Jst l (some f) rs a) (ha : a ≤ l.length) (h : recAt l a = some (n, rw', b)) (hne : n ≠ f + rs.length) : parseL l = (some f, rs, a) := by
  rcases j with ⟨h0, _, _⟩ | ⟨f', fuel, h0, h1, h2⟩
  · cases h0
  · cases h0
    rw [h2]
    obtain ⟨g, rfl⟩ : ∃ g, fuel = g + 1 := ⟨fuel - 1, by omega⟩
    unfold runL
    rw [h]
    dsimp only
    rw [if_neg hne]
    simp
theorem Jst.first {l : List Nat} {rs : List (List (List Nat))} {a n b : Nat} {rw' : List (List Nat)} (j : Jst l none rs a) (h : recAt l a = some (n, rw', b)) : Jst l (some n) rs a := by
  rcases j with ⟨_, rfl, rfl⟩ | ⟨f', fuel, h0, h1, h2⟩
  · refine .inr ⟨n, l.length + 1, rfl, by omega, ?_⟩
    unfold parseL
    rw [h]
    simp
  · cases h0
theorem Jst.step {l : List Nat} {f a b : Nat} {rs : List (List (List Nat))} {rw' : List (List Nat)} (j : Jst l (some f) rs a) (ha : a ≤ l.length) (h : recAt l a = some (f + rs.length, rw', b)) : Jst l (some f) (rs ++ [rw']) b := by
  rcases j with ⟨h0, _, _⟩ | ⟨f', fuel, h0, h1, h2⟩
  · cases h0
  · cases h0
    obtain ⟨g, rfl⟩ : ∃ g, fuel = g + 1 := ⟨fuel - 1, by omega⟩
    have hb := recAt_up ha h
    refine .inr ⟨f, g, rfl, by omega, ?_⟩
    rw [h2]
    have er : runL l (g + 1) (f + rs.length) a = (rw' :: (runL l g (f + rs.length + 1) b).1, (runL l g (f + rs.length + 1) b).2) := by
      show (match recAt l a with
        | some (n', rows, b) => if n' = f + rs.length then (rows :: (runL l g (f + rs.length + 1) b).1, (runL l g (f + rs.length + 1) b).2) else ([], a)
        | none => ([], a)) = _
      rw [h]
      exact if_pos rfl
    rw [er, List.length_append, List.append_assoc]
    rfl
abbrev sPar : Stmt := topS 5
theorem scPar : FnScope ["log", "first", "records", "at", "found", "number", "rows", "behind"] ["log"] (defScope sPar) := ⟨rfl, rfl, rfl, by decide +kernel, rfl, by decide +kernel, by decide +kernel⟩
def spPar : Sp := fun vs H Q _ => ∃ (x : Str), vs = [.str x] ∧ x.length ≤ 1000000 ∧
  ∀ p r qs H', Same H H' → H p = none → H r = none → p ≠ r → H' p = some (.tup [optV (parseL (tl x)).1, .ref r, .int (((parseL (tl x)).2.2 : Nat) : Int)]) → H' r = some (.lst (qs.map V.ref)) → RowsAll H r H' qs (parseL (tl x)).2.1 → Q (.ref p) H'
def ParInv (x : Str) (H0 : Hp) (σ : L2.St) (H : Hp) : Prop := ∃ (fst : Option Nat) (rs : List (List (List Nat))) (r : Addr) (qs : List Addr) (a : Nat) (fv : V) (s5 s6 s7 : Option V),
  σ = [some (.str x), some (optV fst), some (.ref r), some (.int (a : Int)), some fv, s5, s6, s7] ∧ Same H0 H ∧ H0 r = none ∧ H r = some (.lst (qs.map V.ref)) ∧ RowsAll H0 r H qs rs ∧ a ≤ x.length ∧ rs.length ≤ a ∧ Jst (tl x) fst rs a ∧
  ((fv = .non ∧ recAt (tl x) a = none) ∨ ∃ n rows b p q, fv = .ref p ∧ recAt (tl x) a = some (n, rows, b) ∧ H p = some (.tup [.int (n : Nat), .ref q, .int (b : Nat)]) ∧ H q = some (.lst (rowV rows)) ∧ H0 q = none ∧ q ≠ r)
theorem ParInv.mk0 {x : Str} {H0 H : Hp} {fst : Option Nat} {rs : List (List (List Nat))} {r : Addr} {qs : List Addr} {a : Nat} {s5 s6 s7 : Option V}
    (h1 : Same H0 H) (h2 : H0 r = none) (h3 : H r = some (.lst (qs.map V.ref))) (h4 : RowsAll H0 r H qs rs) (h5 : a ≤ x.length) (h6 : rs.length ≤ a) (h7 : Jst (tl x) fst rs a) :
    (recAt (tl x) a = none → ∀ H', Same H H' → ParInv x H0 [some (.str x), some (optV fst), some (.ref r), some (.int (a : Int)), some .non, s5, s6, s7] H') ∧
    ∀ n rows b, recAt (tl x) a = some (n, rows, b) → ∀ p q H', Same H H' → H p = none → H q = none → H' q = some (.lst (rowV rows)) → H' p = some (.tup [.int (n : Nat), .ref q, .int (b : Nat)]) →
      ParInv x H0 [some (.str x), some (optV fst), some (.ref r), some (.int (a : Int)), some (.ref p), s5, s6, s7] H' :=
  ⟨fun e H' s => ⟨fst, rs, r, qs, a, .non, s5, s6, s7, rfl, h1.tr s, h2, s _ _ h3, h4.keep fun q o _ _ h => s q o h, h5, h6, h7, .inl ⟨rfl, e⟩⟩,
   fun n rows b e p q H' s hp hq eq ep => ⟨fst, rs, r, qs, a, .ref p, s5, s6, s7, rfl, h1.tr s, h2, s _ _ h3, h4.keep fun q o _ _ h => s q o h, h5, h6, h7, .inr ⟨n, rows, b, p, q, rfl, e, ep, eq, h1.fresh hq, fun z => by rw [z, h3] at hq; cases hq⟩⟩⟩
def parMu (x : Str) : L2.St → Hp → Nat := fun σ _ => match (σ[3]? : Option (Option V)) with
  | some (some (V.int a)) => x.length + 1 - a.toNat
  | _ => 0
set_option maxHeartbeats 4000000 in
theorem ok_par {f : Addr} {fd : FuncData} (F : Fun K "parsed" "parsed" sPar f fd) (T : Bs mg) (c_record_at : Callee P w K mg base 3 "record_at" ["log", "at"] spRat) : FnOk P w K mg base CX0 4 f fd ["log"] spPar := by
  refine F.ok scPar (fun vs H Q E h => ?_) (fun cdv A outer s H vs Q E hr h => ?_)
  · obtain ⟨x, rfl, _⟩ := h
    rfl
  · obtain ⟨x, rfl, hx, q⟩ := h
    have nd := scPar.nd
    refine ⟨_, (pss_cons (ps_par3 (i := 1) (j := 2) (l := 3) (by rfl) nd rfl rfl rfl (by decide) (by decide) (by decide) rfl rfl rfl (pa_cons pe_non (pa_cons (pe_lst pa_nil) (pa_cons pe_int pa_nil))) (by rfl))
  (Evl.pss_cut (ps_set (i := 4) nd rfl (Or.inl rfl) (pe_own c_record_at (hr.mono (by decide)) (by rfl) (pa_cons (pv 0) (pa_cons pe_int pa_nil))))
  (pss_cons (ps_while PassesOwn.never (pt_cmpR op_notN (pv 4) pe_non (nomark _))
  (pss_cons (ps_asg (pv 4) (pg_tup rfl (pgs_cons (pg_name (i := 5) nd rfl (Or.inl rfl)) (pgs_cons (pg_name (i := 6) nd rfl (Or.inl rfl)) (pgs_cons (pg_name (i := 7) nd rfl (Or.inl rfl)) pgs_nil)))))
  (Evl.pss_cut (ps_if (pt_cmpR op_isN (pv 1) pe_non (nomark _))
  (pss_one (ps_set (i := 1) nd rfl (Or.inl rfl) (pv 5)))
  pss_nil)
  (pss_cons (ps_if (pt_cmpR op_ne (pv 5) (pe_op op_add (pv 1) (pe_callB call_len_seq (by rfl) T.len PySem.boot_len (pa_cons (pv 2) pa_nil))) (nomark _))
  (pss_one ps_break)
  pss_nil)
  (pss_cons (ps_expr (pe_bm PySem.F.plainAttrs_list PySem.F.slot_list_append PySem.F.type_list_append mt_append (pv 2) (pa_cons (pv 6) pa_nil)))
  (pss_cons (ps_set (i := 3) nd rfl (Or.inl rfl) (pv 7))
  (pss_one (ps_set (i := 4) nd rfl (Or.inl rfl) (pe_own c_record_at (hr.mono (by decide)) (by rfl) (pa_cons (pv 0) (pa_cons (pv 3) pa_nil)))))))))))
  (pss_one (ps_ret (pe_tup (pa_cons (pv 1) (pa_cons (pv 2) (pa_cons (pv 3) pa_nil))))))))), ?_⟩
    refine ⟨(by show 0 ≤ sizeLine; decide), fun r hr0 => ⟨_, _, _, rfl, ?_⟩⟩
    have s1 : Same H (upd H r (.lst [])) := same_new hr0
    have e1 : (upd H r (.lst [])) r = some (.lst []) := upd_same
    generalize (upd H r (.lst [])) = H1 at s1 e1
    refine ⟨ParInv x H, ⟨.str x, rfl, x, 0, rfl, hx, Nat.zero_le _, ParInv.mk0 (fst := none) (rs := []) (qs := []) s1 hr0 e1 trivial (Nat.zero_le _) (Nat.zero_le _) (.inl ⟨rfl, rfl, rfl⟩)⟩, fun σ H2 hI => ?_⟩
    have fin : ∀ (fst : Option Nat) (rs : List (List (List Nat))) (r : Addr) (qs : List Addr) (a : Nat) (fv s5 s6 s7) (H' : Hp), Same H H' → H r = none → H' r = some (.lst (qs.map V.ref)) → RowsAll H r H' qs rs → parseL (tl x) = (fst, rs, a) →
        tRet (tTup (tCons (tVar 1) (tCons (tVar 2) (tCons (tVar 3) tNil)))) { nx := fun x H' => Q V.non H', rt := Q } [some (.str x), some (optV fst), some (.ref r), some (.int (a : Int)), some fv, s5, s6, s7] H' := by
      intro fst rs r qs a fv s5 s6 s7 H' h1 h2 h3 h4 h5
      rw [h5] at q
      refine ⟨_, rfl, _, rfl, _, rfl, (by show 3 ≤ sizeLine; decide), fun p hp => q p r qs _ (h1.tr (same_new hp)) (h1.fresh hp) h2 (fun z => by rw [z, h3] at hp; cases hp) upd_same ?_ ?_⟩
      · rw [upd_ne (ne_of_none h3 hp)]
        exact h3
      · exact h4.keep fun q o _ _ h => by rw [upd_ne (ne_of_none h hp)]; exact h
    refine while_by (ParInv x H) (parMu x) hI (fun σ H3 hP => ?_) (fun σ H Q Q' hq h => ?_)
    · obtain ⟨fst, rs, r, qs, a, fv, s5, s6, s7, rfl, h1, h2, h3, h4, h5, h6, h7, h8⟩ := hP
      have ha : a ≤ (tl x).length := by rw [← len_tl]; exact h5
      rcases h8 with ⟨rfl, e0⟩ | ⟨n, rows, b, p, q0, rfl, e0, ep, eq, hq0, hqr⟩
      · exact ⟨_, rfl, rfl, _, rfl, iteF (fin _ _ _ _ _ _ _ _ _ _ h1 h2 h3 h4 (h7.end_none ha e0))⟩
      · have hb := recAt_up ha e0
        rw [← len_tl] at hb
        refine ⟨_, rfl, rfl, _, rfl, iteT ?_⟩
        refine ⟨_, rfl, p, _, rfl, SqT.of ep, rfl, _, _, rfl, _, _, rfl, _, _, rfl, rfl, ?_⟩
        refine ⟨fun σ' H' => H' = H3 ∧ ∃ f, Jst (tl x) (some f) rs a ∧ σ' = [some (.str x), some (.int (f : Nat)), some (.ref r), some (.int (a : Int)), some (.ref p), some (.int (n : Nat)), some (.ref q0), some (.int (b : Nat))], ?_, fun σ' H' hm => ?_⟩
        · cases fst with
          | none => exact ⟨_, rfl, rfl, _, rfl, iteT ⟨_, rfl, rfl, n, h7.first e0, rfl⟩⟩
          | some f => exact ⟨.int f, rfl, rfl, _, rfl, iteF ⟨rfl, f, h7, rfl⟩⟩
        · obtain ⟨rfl, f, hJ, rfl⟩ := hm
          have hlen := h4.len
          refine ⟨_, rfl, .int f, rfl, .ref r, rfl, r, _, rfl, .inl (SqL.of h3), (f : Int), _, rfl, rfl, rfl, _, rfl, ?_⟩
          have el : ((f : Nat) : Int) + (((qs.map V.ref).length : Nat) : Int) = ((f + rs.length : Nat) : Int) := by
            rw [List.length_map, hlen]
            omega
          have eq2 : n = f + rs.length → V.int ((n : Nat) : Int) = V.int ((f : Int) + (((qs.map V.ref).length : Nat) : Int)) := fun z => by rw [el, z]
          refine ite2 (fun c => ?_) (fun c => ?_)
          · refine fin _ _ _ _ _ _ _ _ _ _ h1 h2 h3 h4 (hJ.end_other ha e0 fun z => ?_)
            have c' : (!decide (V.int ((n : Nat) : Int) = V.int ((f : Int) + (((qs.map V.ref).length : Nat) : Int)))) = true := c
            rw [decide_eq_true (eq2 z)] at c'
            cases c'
          · have c1 : n = f + rs.length := by
              have c0 : ¬ (!decide (V.int ((n : Nat) : Int) = V.int ((f : Int) + (((qs.map V.ref).length : Nat) : Int)))) = true := c
              have c' : decide (V.int ((n : Nat) : Int) = V.int ((f : Int) + (((qs.map V.ref).length : Nat) : Int))) = true := by
                cases hh : decide (V.int ((n : Nat) : Int) = V.int ((f : Int) + (((qs.map V.ref).length : Nat) : Int))) with
                | true => rfl
                | false => rw [hh] at c0; exact absurd rfl c0
              have z := of_decide_eq_true c'
              injection z with z
              rw [el] at z
              exact Int.ofNat_inj.mp z
            subst c1
            refine ⟨.ref r, rfl, .inl ⟨rfl, _, SqL.of h3⟩, .ref q0, rfl, r, _, _, rfl, rfl, h3, ?_, ?_⟩
            · rw [List.length_map, hlen]
              exact Nat.lt_of_le_of_lt (Nat.le_trans (Nat.le_trans h6 h5) hx) (by decide)
            · refine ⟨.int b, rfl, .str x, rfl, .int b, rfl, x, b, rfl, hx, hb.2, ?_⟩
              have keep : ∀ q o, H q = none → q ≠ r → H' q = some o → (upd H' r (.lst (qs.map V.ref ++ [V.ref q0]))) q = some o := fun q o _ hne h => by
                rw [upd_ne hne]
                exact h
              have z := ParInv.mk0 (x := x) (H0 := H) (H := upd H' r (.lst (qs.map V.ref ++ [V.ref q0]))) (fst := some f) (rs := rs ++ [rows]) (r := r) (qs := qs ++ [q0]) (a := b) (s5 := some (.int ((f + rs.length : Nat) : Int))) (s6 := some (.ref q0)) (s7 := some (.int (b : Nat)))
                (h1.mutN h2) h2 (by rw [upd_same, List.map_append]; rfl) ((h4.keep keep).snoc hq0 hqr (keep _ _ hq0 hqr eq)) hb.2 (by rw [List.length_append]; show rs.length + 1 ≤ b; omega) (hJ.step ha e0)
              refine ⟨fun e H5 s5 => ⟨z.1 e H5 s5, ?_⟩, fun n' rows' b' e p' q' H5 s5 hp' hq' eq' ep' => ⟨z.2 n' rows' b' e p' q' H5 s5 hp' hq' eq' ep', ?_⟩⟩
              · show x.length + 1 - b < x.length + 1 - a
                omega
              · show x.length + 1 - b < x.length + 1 - a
                omega
    · obtain ⟨v, h1, h2, k, h3, h4⟩ := h
      exact ⟨v, h1, h2, k, h3, hq _ _ h4⟩
end
end Lr
namespace Lr
open PySem PySem.Spec PyProof.Rows L2 Lf
section
variable {X : Cx} {k : Nat} {x : Str} {ps : List Str} {sp : Sp} {p pos : Pos}
theorem pe_own0 (C : Callee X.prog X.w X.K X.mg X.base k x ps sp) (hr : Room k X.A) (hg : Gl X x)
    (hdb : (x == ("__debug__" : Str)) = false := by decide) : PE X (.Call (.Name x p) [] [] pos) (tCall sp [] E0 tNil) := by
  obtain ⟨f, fd, F, hm, hk, hb⟩ := C
  exact pe_call0 F hr hg hm hk hb .nil pass0 hdb
end
/-- the feed: two ints -/
def FeedAt (H : Hp) (a : Addr) : Prop := ∃ u v : Int, H a = some (.lst [.int u, .int v]) ∧ 0 ≤ u ∧ 0 ≤ v ∧ v < 2305843009213693951
theorem FeedAt.keep {a b : Addr} {H H' : Hp} (h : FeedAt H a) (k : Kp b H H') (n : a ≠ b) : FeedAt H' a := by
  obtain ⟨u, v, e, r⟩ := h
  exact ⟨u, v, k _ _ n e, r⟩
theorem FeedAt.same {a : Addr} {H H' : Hp} (h : FeedAt H a) (k : Same H H') : FeedAt H' a := by
  obtain ⟨u, v, e, r⟩ := h
  exact ⟨u, v, k _ _ e, r⟩
theorem FeedAt.new {a p : Addr} {H : Hp} {o : HO} (h : FeedAt H a) (n : H p = none) : FeedAt (upd H p o) a := h.same (same_new n)
theorem FeedAt.ne {a p : Addr} {H : Hp} (h : FeedAt H a) (n : H p = none) : p ≠ a := fun e => by
  obtain ⟨u, v, h, _⟩ := h
  rw [e, h] at n
  cases n
theorem FeedAt.mut {a p : Addr} {H : Hp} {o : HO} (h : FeedAt H a) (n : p ≠ a) : FeedAt (upd H p o) a := by
  obtain ⟨u, v, e, r⟩ := h
  exact ⟨u, v, by rw [upd_ne n.symm]; exact e, r⟩
section
variable {P : Program} {w : World} {K : PySem.W.Frag} {mg : Str → Option Value} {base : Heap}
def spTake : Sp := fun vs H Q _ => ∃ (a : Addr) (n : Int), vs = [.ref a, .int n] ∧ FeedAt H a ∧ 0 < n ∧ n ≤ 10 ^ 60 ∧
  ∀ (v : Int) (H' : Hp), Kp a H H' → FeedAt H' a → 0 ≤ v → v < n → Q (.int v) H'
abbrev sTake : Stmt := topS 11
theorem scTake : FnScope ["_law_feed_here", "_law_many", "_law_found"] ["_law_feed_here", "_law_many"] (defScope sTake) := ⟨rfl, rfl, rfl, by decide +kernel, rfl, by decide +kernel, by decide +kernel⟩
theorem pow60 : (10 : Int) ^ 60 < 2 ^ 200 := by decide +kernel
theorem ok_take {f : Addr} {fd : FuncData} (F : Fun K "_law_take" "_law_take" sTake f fd) : FnOk P w K mg base CX0 1 f fd ["_law_feed_here", "_law_many"] spTake := by
  refine F.ok scTake (fun vs H Q E h => ?_) (fun cdv A outer s H vs Q E hr h => ?_)
  · obtain ⟨a, n, rfl, _⟩ := h
    rfl
  · obtain ⟨a, n, rfl, ⟨u, v, hT, hu, hv, hv2⟩, hn, hn2, q⟩ := h
    have nd := scTake.nd
    refine ⟨_, (pss_cons (ps_if (pt_cmpR op_gt (pe_ix ix_list (pv 0) pe_int (fun _ _ => rfl)) pe_int (nomark _))
  (pss_cons (ps_set (i := 2) nd rfl (Or.inl rfl) (pe_op op_mod (pe_ix ix_list (pv 0) pe_int (fun _ _ => rfl)) (pv 1)))
  (pss_cons (ps_asg (pe_op op_fdivW (pe_ix ix_list (pv 0) pe_int (fun _ _ => rfl)) (pv 1)) (pg_sub (pv 0) pe_int set_list))
  (pss_one (ps_ret (pv 2)))))
  pss_nil)
  (pss_cons (ps_asg (pe_op op_mod (pe_op op_add (pe_op op_mulW (pe_ix ix_list (pv 0) pe_int (fun _ _ => rfl)) pe_int) pe_int) pe_int) (pg_sub (pv 0) pe_int set_list))
  (pss_one (ps_ret (pe_op op_mod (pe_op op_fdivW (pe_ix ix_list (pv 0) pe_int (fun _ _ => rfl)) pe_int) (pv 1)))))), ?_⟩
    have nW : n.natAbs < 2 ^ 200 := by
      have h := pow60
      omega
    refine ⟨.ref a, rfl, a, _, 0, .int u, rfl, rfl, SqL.of hT, atI_nat (j := 0) rfl, u, 0, rfl, rfl, _, rfl, ite2 (fun c => ?_) (fun c => ?_)⟩
    · have c' : 0 < u := of_decide_eq_true c
      refine ⟨.ref a, rfl, a, _, 0, .int u, rfl, rfl, SqL.of hT, atI_nat (j := 0) rfl, .int n, rfl, u, n, rfl, rfl, hn, ?_⟩
      refine ⟨.ref a, rfl, a, _, 0, .int u, rfl, rfl, SqL.of hT, atI_nat (j := 0) rfl, .int n, rfl, u, n, rfl, rfl, wide_div hn nW (by decide) (by decide), ?_⟩
      refine ⟨.ref a, rfl, a, _, 0, 0, rfl, rfl, hT, rfl, ?_⟩
      refine ⟨_, rfl, ?_⟩
      refine q _ _ (Kp.refl a H).mut ⟨u / n, v, upd_same, Int.ediv_nonneg hu (by omega), hv, hv2⟩ (Int.emod_nonneg _ (by omega)) (Int.emod_lt_of_pos _ hn)
    · have w1 : CMulW v 48271 := wide_mul (a := 64) (b := 32) (by omega) (by decide) (by decide) (by decide) (by decide)
      refine ⟨.ref a, rfl, a, _, 1, .int v, rfl, rfl, SqL.of hT, atI_nat (j := 1) rfl, v, 48271, rfl, rfl, w1, _, 12345, rfl, rfl, _, 2305843009213693951, rfl, rfl, (by show (0 : Int) < 2305843009213693951; decide), ?_⟩
      refine ⟨.ref a, rfl, a, _, 1, 1, rfl, rfl, hT, rfl, ?_⟩
      have r0 : 0 ≤ (v * 48271 + 12345) % 2305843009213693951 := Int.emod_nonneg _ (by decide)
      have r1 : (v * 48271 + 12345) % 2305843009213693951 < 2305843009213693951 := Int.emod_lt_of_pos _ (by decide)
      dsimp only
      generalize (v * 48271 + 12345) % 2305843009213693951 = v1 at r0 r1 ⊢
      have hT1 : (upd H a (.lst ([V.int u, .int v].set 1 (.int v1)))) a = some (.lst [.int u, .int v1]) := upd_same
      refine ⟨.ref a, rfl, a, _, 1, .int v1, rfl, rfl, SqL.of hT1, atI_nat (j := 1) rfl, v1, 2097152, rfl, rfl, wide_div (b := 32) (by decide) (by decide) (by decide) (by decide), .int n, rfl, _, n, rfl, rfl, hn, ?_⟩
      exact q _ _ (Kp.refl a H).mut ⟨u, v1, upd_same, hu, r0, by omega⟩ (Int.emod_nonneg _ (by omega)) (Int.emod_lt_of_pos _ hn)
/-- a new feed of the script -/
def spFeed (K : PySem.W.Frag) : Sp := fun vs H Q _ => ∃ (a : Addr) (ns : List Int) (k : Int), vs = [.ref a, .int k] ∧ SqL K H a (ns.map V.int) ∧ 0 ≤ k ∧ k ≤ 100 ∧
  ∀ (p : Addr) (H' : Hp), Same H H' → H p = none → FeedAt H' p → Q (.ref p) H'
abbrev sFeed : Stmt := topS 10
theorem scFeed : FnScope ["_law_script", "_law_k", "_law_seed", "_law_digits"] ["_law_script", "_law_k"] (defScope sFeed) := ⟨rfl, rfl, rfl, by decide +kernel, rfl, by decide +kernel, by decide +kernel⟩
theorem ok_feed {f : Addr} {fd : FuncData} (F : Fun K "_law_feed" "_law_feed" sFeed f fd) (T : Bs mg) : FnOk P w K mg base CX0 1 f fd ["_law_script", "_law_k"] (spFeed K) := by
  refine F.ok scFeed (fun vs H Q E h => ?_) (fun cdv A outer s H vs Q E hr h => ?_)
  · obtain ⟨a, ns, n, rfl, _⟩ := h
    rfl
  · obtain ⟨a, ns, k, rfl, hS, hk0, hk1, q⟩ := h
    have nd := scFeed.nd
    refine ⟨_, (pss_cons (ps_set (i := 2) nd rfl (Or.inl rfl) (pe_op op_add (pe_op op_mulW pe_int (pv 1)) pe_int))
  (Evl.pss_cut (ps_if (pt_cmpR op_lt (pv 1) (pe_callB call_len_seq (by rfl) T.len PySem.boot_len (pa_cons (pv 0) pa_nil)) (nomark _))
  (pss_one (ps_set (i := 2) nd rfl (Or.inl rfl) (pe_ix ix_list (pv 0) (pv 1) (fun _ _ => rfl))))
  pss_nil)
  (pss_cons (ps_set (i := 3) nd rfl (Or.inl rfl) pe_int)
  (Evl.pss_cut (ps_if (pt_cmpR op_ge (pe_callB call_abs (by rfl) T.abs (by decide +kernel) (pa_cons (pv 2) pa_nil)) (pe_op op_pow pe_int pe_int) (nomark _))
  (pss_one (ps_set (i := 3) nd rfl (Or.inl rfl) (pe_op op_sub (pe_callB call_abs (by rfl) T.abs (by decide +kernel) (pa_cons (pv 2) pa_nil)) (pe_op op_pow pe_int pe_int))))
  pss_nil)
  (pss_one (ps_ret (pe_lst (pa_cons (pv 3) (pa_cons (pe_op op_mod (pe_op op_add (pe_op op_add (pe_op op_mul (pv 2) pe_int) (pe_op op_mulW pe_int (pv 1))) pe_int) pe_int) pa_nil))))))))), ?_⟩
    have w0 : CMulW 67 k := wide_mul (a := 32) (b := 32) (by decide) (by omega) (by decide) (by decide) (by decide)
    have w1 : CMulW 7919 k := wide_mul (a := 32) (b := 32) (by decide) (by omega) (by decide) (by decide) (by decide)
    have cp : CPow 10 18 := ⟨by decide, by decide, by decide⟩
    refine ⟨.int k, rfl, 67, k, rfl, rfl, w0, _, 19, rfl, rfl, ?_⟩
    refine ⟨fun σ' H' => H' = H ∧ ∃ sd : Int, σ' = [some (.ref a), some (.int k), some (.int sd), none], ?_, fun σ' H' hm => ?_⟩
    · refine ⟨.int k, rfl, .ref a, rfl, a, _, rfl, .inl hS, k, _, rfl, rfl, _, rfl, ite2 (fun c => ?_) (fun c => ?_)⟩
      · have c' : k < ((ns.map V.int).length : Nat) := of_decide_eq_true c
        obtain ⟨x, hx, e⟩ := atI_mem hk0 c'
        obtain ⟨z, _, rfl⟩ := List.mem_map.mp hx
        exact ⟨.ref a, rfl, .int k, rfl, a, _, k, _, rfl, rfl, hS, e, rfl, z, rfl⟩
      · exact ⟨rfl, _, rfl⟩
    · obtain ⟨rfl, sd, rfl⟩ := hm
      refine ⟨fun σ' H2 => H2 = H' ∧ ∃ d : Int, 0 ≤ d ∧ σ' = [some (.ref a), some (.int k), some (.int sd), some (.int d)], ?_, fun σ' H2 hm => ?_⟩
      · refine ⟨.int sd, rfl, sd, rfl, 10, 18, rfl, rfl, cp, _, _, rfl, rfl, _, rfl, ite2 (fun c => ?_) (fun c => ?_)⟩
        · have c' : (10 : Int) ^ (18 : Int).toNat ≤ (if sd < 0 then -sd else sd) := of_decide_eq_true c
          exact ⟨.int sd, rfl, sd, rfl, 10, 18, rfl, rfl, cp, _, _, rfl, rfl, rfl, _, Int.sub_nonneg_of_le c', rfl⟩
        · exact ⟨rfl, 0, by decide, rfl⟩
      · obtain ⟨rfl, d, hd, rfl⟩ := hm
        refine ⟨.int d, rfl, .int sd, rfl, sd, 6364136223846793005, rfl, rfl, .inr ⟨by decide, by decide⟩, .int k, rfl, 7919, k, rfl, rfl, w1, _, _, rfl, rfl, _, 1442695040888963407, rfl, rfl, _, 2305843009213693951, rfl, rfl, (by show (0 : Int) < 2305843009213693951; decide), (by show 2 ≤ sizeLine; decide), fun p hp => ?_⟩
        exact q p _ (same_new hp) hp ⟨_, _, upd_same, hd, Int.emod_nonneg _ (by decide), Int.emod_lt_of_pos _ (by decide)⟩
/-- one of a list -/
def spPick (K : PySem.W.Frag) : Sp := fun vs H Q _ => ∃ (a l : Addr) (xs : List V), vs = [.ref a, .ref l] ∧ FeedAt H a ∧ l ≠ a ∧ SqL K H l xs ∧ 0 < xs.length ∧ xs.length ≤ 1000 ∧
  ∀ (i : Nat) (v : V) (H' : Hp), xs[i]? = some v → Kp a H H' → FeedAt H' a → Q v H'
abbrev sPick : Stmt := topS 12
theorem scPick : FnScope ["_law_feed_here", "_law_some"] ["_law_feed_here", "_law_some"] (defScope sPick) := ⟨rfl, rfl, rfl, by decide +kernel, rfl, by decide +kernel, by decide +kernel⟩
theorem ok_pick {f : Addr} {fd : FuncData} (F : Fun K "_law_pick" "_law_pick" sPick f fd) (T : Bs mg) (c__law_take : Callee P w K mg base 1 "_law_take" ["_law_feed_here", "_law_many"] spTake) : FnOk P w K mg base CX0 2 f fd ["_law_feed_here", "_law_some"] (spPick K) := by
  refine F.ok scPick (fun vs H Q E h => ?_) (fun cdv A outer s H vs Q E hr h => ?_)
  · obtain ⟨a, l, xs, rfl, _⟩ := h
    rfl
  · obtain ⟨a, l, xs, rfl, hF, hla, hl, hp0, hp1, q⟩ := h
    have nd := scPick.nd
    refine ⟨_, (pss_one (ps_ret (pe_ix ix_list (pv 1) (pe_own c__law_take (hr.mono (by decide)) (by rfl) (pa_cons (pv 0) (pa_cons (pe_callB call_len_seq (by rfl) T.len PySem.boot_len (pa_cons (pv 1) pa_nil)) pa_nil))) (fun _ _ => rfl)))), ?_⟩
    refine ⟨.ref l, rfl, .ref a, rfl, .ref l, rfl, l, xs, rfl, .inl hl, a, _, rfl, hF, by omega, Int.le_trans (b := 1000) (by omega) (by decide +kernel), fun v H1 k1 f1 v0 v1 => ?_⟩
    obtain ⟨i, rfl⟩ := Int.eq_ofNat_of_zero_le v0
    have hi : i < xs.length := by omega
    exact ⟨l, xs, i, xs[i], rfl, rfl, k1.seqL hla hl, atI_nat (List.getElem?_eq_getElem hi), q i _ H1 (List.getElem?_eq_getElem hi) k1 f1⟩
def spSigns : Sp := fun vs H Q _ => vs = [] ∧ ∀ z : Str, 0 < z.length → z.length ≤ 100 → (∀ c ∈ tl z, signOk c) → Q (.str z) H
abbrev sSigns : Stmt := topS 14
theorem scSigns : FnScope [] [] (defScope sSigns) := ⟨rfl, rfl, rfl, by decide +kernel, rfl, by decide +kernel, by decide +kernel⟩
theorem ok_signs {f : Addr} {fd : FuncData} (F : Fun K "_law_signs" "_law_signs" sSigns f fd) : FnOk P w K mg base CX0 1 f fd [] spSigns := by
  refine F.ok scSigns (fun vs H Q E h => ?_) (fun cdv A outer s H vs Q E hr h => ?_)
  · obtain ⟨rfl, _⟩ := h
    rfl
  · obtain ⟨rfl, q⟩ := h
    have nd := scSigns.nd
    refine ⟨_, (pss_one (ps_ret pe_str)), ?_⟩
    exact q _ (by decide +kernel) (by decide +kernel) (by decide +kernel)
def spWhole : Sp := fun vs H Q _ => ∃ i : Int, vs = [.int i] ∧ Q (.bl true) H
abbrev sWhole : Stmt := topS 13
theorem scWhole : FnScope ["_law_found"] ["_law_found"] (defScope sWhole) := ⟨rfl, rfl, rfl, by decide +kernel, rfl, by decide +kernel, by decide +kernel⟩
theorem ok_whole {f : Addr} {fd : FuncData} (F : Fun K "_law_whole" "_law_whole" sWhole f fd) (T : Bs mg) : FnOk P w K mg base CX0 1 f fd ["_law_found"] spWhole := by
  refine F.ok scWhole (fun vs H Q E h => ?_) (fun cdv A outer s H vs Q E hr h => ?_)
  · obtain ⟨x, rfl, _⟩ := h
    rfl
  · obtain ⟨i, rfl, q⟩ := h
    have nd := scWhole.nd
    refine ⟨_, (pss_one (ps_ret (pe_and (pe_callB call_isi (by rfl) T.isinstance (by decide +kernel) (pa_cons (pv 0) (pa_cons (pe_bltn (v := V.ty "int") (u := Value.type "int") (by rfl) T.int (by decide +kernel) rfl) pa_nil))) (pe_one (pe_not (pe_callB call_isi (by rfl) T.isinstance (by decide +kernel) (pa_cons (pv 0) (pa_cons (pe_bltn (v := V.ty "bool") (u := Value.type "bool") (by rfl) T.bool (by decide +kernel) rfl) pa_nil)))))))), ?_⟩
    refine ⟨_, rfl, _, _, _, _, true, rfl, .ty "int", .base (.int i), kit_ty (by decide +kernel), _, rfl, iteT ⟨_, rfl, _, _, _, _, false, rfl, .ty "bool", .base (.int i), kit_ty (by decide +kernel), _, rfl, q⟩⟩

theorem zea : ("=a" : Str) = S [61, 97] := by decide +kernel
theorem num_ok (n d : Nat) (h : d ∈ numL n) : signOk d := by
  have z := TL.numL_digits n d h
  unfold signOk
  omega
theorem sum1 : ∀ cs : List Nat, (cs.map fun _ => 1).sum = cs.length
  | [] => rfl
  | c :: r => by
    rw [List.map_cons, List.sum_cons, sum1 r, List.length_cons]
    omega
theorem joinL_one : ∀ cs : List Nat, joinL [] (cs.map fun c => [c]) = cs
  | [] => rfl
  | [c] => rfl
  | c :: d :: r => by
    show [c] ++ ([] ++ joinL [] ((d :: r).map fun c => [c])) = c :: d :: r
    rw [joinL_one (d :: r)]
    rfl
/-- a drawn row -/
def Drawn (r : List Nat) : Prop := rowOk r ∧ r.length ≤ 40
def spRowD : Sp := fun vs H Q _ => ∃ (a : Addr), vs = [.ref a] ∧ FeedAt H a ∧
  ∀ (r : List Nat) (H' : Hp), Drawn r → Kp a H H' → FeedAt H' a → Q (.str (S r)) H'
abbrev sRowD : Stmt := topS 15
theorem scRowD : FnScope ["_law_feed_here", "_law_signs_here", "_law_way", "_law_many", "_law_k"] ["_law_feed_here"] (defScope sRowD) := ⟨rfl, rfl, rfl, by decide +kernel, rfl, by decide +kernel, by decide +kernel⟩
theorem ok_rowd {f : Addr} {fd : FuncData} (F : Fun K "_law_row" "_law_row" sRowD f fd) (T : Bs mg) (c__law_take : Callee P w K mg base 1 "_law_take" ["_law_feed_here", "_law_many"] spTake)
    (c__law_pick : Callee P w K mg base 2 "_law_pick" ["_law_feed_here", "_law_some"] (spPick K)) (c__law_signs : Callee P w K mg base 1 "_law_signs" [] spSigns) : FnOk P w K mg base CX0 3 f fd ["_law_feed_here"] spRowD := by
  refine F.ok scRowD (fun vs H Q E h => ?_) (fun cdv A outer s H vs Q E hr h => ?_)
  · obtain ⟨a, rfl, _⟩ := h
    rfl
  · obtain ⟨a, rfl, hF, q⟩ := h
    have nd := scRowD.nd
    refine ⟨_, (pss_cons (ps_set (i := 1) nd rfl (Or.inr rfl) (pe_own0 c__law_signs (hr.mono (by decide)) (by rfl)))
  (pss_cons (ps_set (i := 2) nd rfl (Or.inl rfl) (pe_own c__law_take (hr.mono (by decide)) (by rfl) (pa_cons (pv 0) (pa_cons pe_int pa_nil))))
  (pss_cons (ps_if (pt_cmpR op_eq (pv 2) pe_int (nomark _))
  (pss_one (ps_ret (pe_op op_add_str (pe_op op_add_str (pe_op op_add_str (pe_op op_add_str (pe_op op_add_str (pe_callTy call_str_int (by rfl) T.str (by decide +kernel) (pa_cons (pe_own c__law_take (hr.mono (by decide)) (by rfl) (pa_cons (pv 0) (pa_cons pe_int pa_nil))) pa_nil)) pe_str) (pe_callTy call_str_int (by rfl) T.str (by decide +kernel) (pa_cons (pe_own c__law_take (hr.mono (by decide)) (by rfl) (pa_cons (pv 0) (pa_cons pe_int pa_nil))) pa_nil))) pe_str) (pe_callTy call_str_int (by rfl) T.str (by decide +kernel) (pa_cons (pe_own c__law_take (hr.mono (by decide)) (by rfl) (pa_cons (pv 0) (pa_cons pe_int pa_nil))) pa_nil))) pe_str)))
  pss_nil)
  (Evl.pss_cut (ps_if (pt_cmpR op_eq (pv 2) pe_int (nomark _))
  (pss_one (ps_set (i := 1) nd rfl (Or.inr rfl) pe_str))
  pss_nil)
  (pss_cons (ps_set (i := 3) nd rfl (Or.inl rfl) (pe_op op_add pe_int (pe_own c__law_take (hr.mono (by decide)) (by rfl) (pa_cons (pv 0) (pa_cons (pe_own c__law_pick (hr.mono (by decide)) (by rfl) (pa_cons (pv 0) (pa_cons (pe_lst (pa_cons pe_int (pa_cons pe_int (pa_cons pe_int (pa_cons pe_int pa_nil))))) pa_nil))) pa_nil)))))
  (pss_one (ps_ret (pe_join pe_str (pe_lc (own := [("_law_k", 4)]) (g := gName 4) (tt := tYes) rfl nd (pi_range1 (by rfl) T.range (pa_cons (pv 3) pa_nil)) (blkOk_by (own := [("_law_k", 4)]) (N := ["_law_feed_here", "_law_signs_here", "_law_way", "_law_many", "_law_k"]) (sc := defScope (topS 15)) (by decide +kernel)) (fun _ _ _ _ _ => (pg_name (i := 4) nd rfl (Or.inl rfl))) (fun _ _ _ _ _ => pts_nil) (fun _ _ _ _ _ => (pe_ix ix_str (pv 1) (pe_own c__law_take (hr.mono (by decide)) (by rfl) (pa_cons (pv 0) (pa_cons (pe_callB call_len_str (by rfl) T.len PySem.boot_len (pa_cons (pv 1) pa_nil)) pa_nil))) (fun _ _ => rfl)))))))))))), ?_⟩
    have big : ∀ n : Int, n ≤ 2000000 → n ≤ 10 ^ 60 := fun n hn => Int.le_trans hn (by decide +kernel)
    have ez : sizeLine = 16777216 := by decide +kernel
    refine ⟨rfl, fun z hz0 hz1 hz2 => ?_⟩
    refine ⟨.ref a, rfl, a, 5, rfl, hF, by decide, big _ (by decide), fun way H1 k1 f1 y0 y1 => ?_⟩
    refine ⟨.int way, rfl, rfl, _, rfl, ite2 (fun c => ?_) (fun c => ?_)⟩
    · refine ⟨.ref a, rfl, a, 12, rfl, f1, by decide, big _ (by decide), fun v1 H2 k2 f2 v10 v11 => ?_⟩
      obtain ⟨n1, rfl⟩ := Int.eq_ofNat_of_zero_le v10
      have l1 : (numL n1).length ≤ 2 := TL.numL_len (by decide) (by omega)
      refine ⟨(n1 : Int), rfl, log2_num (Nat.lt_of_lt_of_le (m := 12) (by omega) (by decide)), S (numL n1), S [32], by rw [S_num], by rw [zb]; rfl, ?_, ?_⟩
      · rw [S_len, S_len]
        exact Nat.le_trans (Nat.add_le_add_right l1 1) (by decide)
      refine ⟨.ref a, rfl, a, 9, rfl, f2, by decide, big _ (by decide), fun v2 H3 k3 f3 v20 v21 => ?_⟩
      obtain ⟨n2, rfl⟩ := Int.eq_ofNat_of_zero_le v20
      have l2 : (numL n2).length ≤ 1 := TL.numL_len (by decide) (by omega)
      refine ⟨(n2 : Int), rfl, log2_num (Nat.lt_of_lt_of_le (m := 9) (by omega) (by decide)), S (numL n1 ++ [32]), S (numL n2), by rw [S_append], by rw [S_num], ?_, S (numL n1 ++ [32] ++ numL n2), S [58], by rw [S_append], by rw [zc], ?_, ?_⟩
      · rw [S_len, S_len]
        simp only [List.length_append, List.length_cons, List.length_nil]
        omega
      · rw [S_len, S_len]
        simp only [List.length_append, List.length_cons, List.length_nil]
        omega
      refine ⟨.ref a, rfl, a, 1000003, rfl, f3, by decide, big _ (by decide), fun v3 H4 k4 f4 v30 v31 => ?_⟩
      obtain ⟨n3, rfl⟩ := Int.eq_ofNat_of_zero_le v30
      have l3 : (numL n3).length ≤ 7 := TL.numL_len (by decide) (by omega)
      refine ⟨(n3 : Int), rfl, log2_num (Nat.lt_of_lt_of_le (m := 1000003) (by omega) (by decide)), S (numL n1 ++ [32] ++ numL n2 ++ [58]), S (numL n3), by rw [S_append], by rw [S_num], ?_, S (numL n1 ++ [32] ++ numL n2 ++ [58] ++ numL n3), S [61, 97], by rw [S_append], by rw [zea], ?_, ?_⟩
      · rw [S_len, S_len]
        simp only [List.length_append, List.length_cons, List.length_nil]
        omega
      · rw [S_len, S_len]
        simp only [List.length_append, List.length_cons, List.length_nil]
        omega
      rw [S_append]
      refine q _ H4 ⟨⟨?_, ?_⟩, ?_⟩ (((k1.trans k2).trans k3).trans k4) f4
      · intro z
        have := congrArg List.length z
        simp at this
      · intro d hd
        simp only [List.mem_append, List.mem_cons, List.not_mem_nil, or_false] at hd
        rcases hd with ((((hd | hd) | hd) | hd) | hd) | hd | hd
        · exact num_ok n1 d hd
        · rw [hd]; decide
        · exact num_ok n2 d hd
        · rw [hd]; decide
        · exact num_ok n3 d hd
        · rw [hd]; decide
        · rw [hd]; decide
      · simp only [List.length_append, List.length_cons, List.length_nil]
        omega
    · refine ⟨fun σ' H' => H' = H1 ∧ ∃ z : Str, 0 < z.length ∧ z.length ≤ 100 ∧ (∀ c ∈ tl z, signOk c) ∧ σ' = [some (.ref a), some (.str z), some (.int way), none, none], ?_, fun σ' H' hm => ?_⟩
      · refine ⟨.int way, rfl, rfl, _, rfl, ite2 (fun c => ?_) (fun c => ?_)⟩
        · exact ⟨rfl, _, (by decide +kernel), (by decide +kernel), (by decide +kernel), rfl⟩
        · exact ⟨rfl, z, hz0, hz1, hz2, rfl⟩
      · obtain ⟨rfl, z, hz0, hz1, hz2, rfl⟩ := hm
        refine ⟨.ref a, rfl, .ref a, rfl, (by show 4 ≤ sizeLine; decide), fun l hl => ⟨a, l, _, rfl, f1.new hl, f1.ne hl, SqL.of upd_same, (by show 0 < 4; decide), (by show 4 ≤ 1000; decide), fun i v H2 hv k2 f2 => ?_⟩⟩
        obtain ⟨m, rfl, hm0, hm1⟩ : ∃ m : Nat, v = .int (m : Int) ∧ 0 < m ∧ m ≤ 40 := by
          rcases i with _ | _ | _ | _ | i
          · exact ⟨1, (Option.some.inj hv).symm, by decide, by decide⟩
          · exact ⟨2, (Option.some.inj hv).symm, by decide, by decide⟩
          · exact ⟨6, (Option.some.inj hv).symm, by decide, by decide⟩
          · exact ⟨40, (Option.some.inj hv).symm, by decide, by decide⟩
          · cases hv
        refine ⟨a, (m : Int), rfl, f2, by omega, big _ (by omega), fun v3 H3 k3 f3 v0 v1 => ?_⟩
        obtain ⟨n, rfl⟩ := Int.eq_ofNat_of_zero_le v0
        refine ⟨1, _, rfl, rfl, ?_⟩
        have k03 : Kp a H H3 := ((k1.new hl).trans k2).trans k3
        have en : (1 : Int) + (n : Int) = ((1 + n : Nat) : Int) := by omega
        dsimp only
        rw [en]
        refine ⟨⟨_, rfl⟩, .int ((1 + n : Nat) : Int), rfl, ((1 + n : Nat) : Int), rfl, by omega, by omega, fun D hD => ?_⟩
        refine lc_range (lo := 0) (n := 1 + n) (fun i H' => Kp a H3 H' ∧ FeedAt H' a ∧ ∃ cs : List Nat, cs.length = i ∧ (∀ c ∈ cs, signOk c) ∧ H' D = some (.lst (cs.map fun c => V.str (S [c])))) ⟨(Kp.refl a H3).new hD, f3.new hD, [], rfl, by simp, upd_same⟩ (fun i H4 hi p => ?_) (fun H4 p => ?_)
        · obtain ⟨k4, f4, cs, hl4, hok, e4⟩ := p
          have hz : z.length ≤ sizeLine := Nat.le_trans hz1 (by decide)
          refine ⟨rfl, .str z, rfl, .ref a, rfl, .str z, rfl, z, rfl, hz, a, _, rfl, f4, by omega, big _ (by omega), fun v5 H5 k5 f5 v50 v51 => ?_⟩
          obtain ⟨j, rfl⟩ := Int.eq_ofNat_of_zero_le v50
          have hj : j < (tl z).length := by rw [← len_tl]; omega
          refine ⟨z, (j : Int), (tl z)[j], rfl, rfl, hz, atI_nat (List.getElem?_eq_getElem hj), ?_⟩
          have hDa := f3.ne hD
          refine ⟨_, k5 _ _ hDa e4, ?_, (k4.trans k5).mutN hD, f5.mut hDa, cs ++ [(tl z)[j]], by rw [List.length_append, hl4]; rfl, ?_, ?_⟩
          · rw [List.length_map, hl4]
            exact Nat.lt_of_lt_of_le (m := 100) (by omega) (by decide)
          · intro c hc
            rcases List.mem_append.mp hc with hc | hc
            · exact hok c hc
            · rw [List.mem_singleton.mp hc]
              exact hz2 _ (List.getElem_mem hj)
          · rw [upd_same, List.map_append]
            rfl
        · obtain ⟨k4, f4, cs, hl4, hok, e4⟩ := p
          refine ⟨_, D, cs.map fun c => S [c], rfl, rfl, .inl (SqL.of (by rw [e4, List.map_map]; rfl)), ?_, ?_⟩
          · rw [List.map_map, List.length_map]
            show (cs.map fun c => 1).sum + cs.length * 0 ≤ 16777216
            rw [Nat.mul_zero, Nat.add_zero, sum1, hl4]
            omega
          · have ej : Txt.join "" (cs.map fun c => S [c]) = S cs := by
              have h := S_join [] (cs.map fun c => [c])
              rw [List.map_map] at h
              rw [joinL_one] at h
              exact h
            rw [ej]
            exact q cs H4 ⟨⟨fun z => by rw [z] at hl4; simp at hl4; omega, hok⟩, by omega⟩ (k03.trans k4) f4
def spRowsD : Sp := fun vs H Q _ => ∃ (a : Addr), vs = [.ref a] ∧ FeedAt H a ∧
  ∀ (p : Addr) (rows : List (List Nat)) (H' : Hp), rows ≠ [] → rows.length ≤ 5 → (∀ r ∈ rows, Drawn r) → Kp a H H' → FeedAt H' a → H p = none → H' p = some (.lst (rowV rows)) → Q (.ref p) H'
abbrev sRowsD : Stmt := topS 16
theorem scRowsD : FnScope ["_law_feed_here", "_law_turn"] ["_law_feed_here"] (defScope sRowsD) := ⟨rfl, rfl, rfl, by decide +kernel, rfl, by decide +kernel, by decide +kernel⟩
theorem ok_rowsd {f : Addr} {fd : FuncData} (F : Fun K "_law_rows_drawn" "_law_rows_drawn" sRowsD f fd) (T : Bs mg) (c__law_take : Callee P w K mg base 1 "_law_take" ["_law_feed_here", "_law_many"] spTake)
    (c__law_pick : Callee P w K mg base 2 "_law_pick" ["_law_feed_here", "_law_some"] (spPick K)) (c__law_row : Callee P w K mg base 3 "_law_row" ["_law_feed_here"] spRowD) : FnOk P w K mg base CX0 4 f fd ["_law_feed_here"] spRowsD := by
  refine F.ok scRowsD (fun vs H Q E h => ?_) (fun cdv A outer s H vs Q E hr h => ?_)
  · obtain ⟨a, rfl, _⟩ := h
    rfl
  · obtain ⟨a, rfl, hF, q⟩ := h
    have nd := scRowsD.nd
    refine ⟨_, (pss_one (ps_ret (pe_lc (own := [("_law_turn", 1)]) (g := gName 1) (tt := tYes) rfl nd (pi_range1 (by rfl) T.range (pa_cons (pe_op op_add pe_int (pe_own c__law_take (hr.mono (by decide)) (by rfl) (pa_cons (pv 0) (pa_cons (pe_own c__law_pick (hr.mono (by decide)) (by rfl) (pa_cons (pv 0) (pa_cons (pe_lst (pa_cons pe_int (pa_cons pe_int (pa_cons pe_int pa_nil)))) pa_nil))) pa_nil)))) pa_nil)) (blkOk_by (own := [("_law_turn", 1)]) (N := ["_law_feed_here", "_law_turn"]) (sc := defScope (topS 16)) (by decide +kernel)) (fun _ _ _ _ _ => (pg_name (i := 1) nd rfl (Or.inl rfl))) (fun _ _ _ _ _ => pts_nil) (fun _ _ _ _ _ => (pe_own c__law_row (hr.mono (by decide)) (by rfl) (pa_cons (pv 0) pa_nil)))))), ?_⟩
    have big : ∀ n : Int, n ≤ 2000000 → n ≤ 10 ^ 60 := fun n hn => Int.le_trans hn (by decide +kernel)
    refine ⟨.ref a, rfl, .ref a, rfl, (by show 3 ≤ sizeLine; decide), fun l hl => ⟨a, l, _, rfl, hF.new hl, hF.ne hl, SqL.of upd_same, (by show 0 < 3; decide), (by show 3 ≤ 1000; decide), fun i v H1 hv k1 f1 => ?_⟩⟩
    obtain ⟨m, rfl, hm0, hm1⟩ : ∃ m : Nat, v = .int (m : Int) ∧ 0 < m ∧ m ≤ 5 := by
      rcases i with _ | _ | _ | i
      · exact ⟨1, (Option.some.inj hv).symm, by decide, by decide⟩
      · exact ⟨2, (Option.some.inj hv).symm, by decide, by decide⟩
      · exact ⟨5, (Option.some.inj hv).symm, by decide, by decide⟩
      · cases hv
    refine ⟨a, (m : Int), rfl, f1, by omega, big _ (by omega), fun v3 H3 k3 f3 v0 v1 => ?_⟩
    obtain ⟨n, rfl⟩ := Int.eq_ofNat_of_zero_le v0
    have k03 : Kp a H H3 := (((Kp.refl a H).new hl).trans k1).trans k3
    refine ⟨1, _, rfl, rfl, ?_⟩
    have en : (1 : Int) + (n : Int) = ((1 + n : Nat) : Int) := by omega
    dsimp only
    rw [en]
    refine ⟨((1 + n : Nat) : Int), rfl, by omega, by omega, fun D hD => ?_⟩
    have hDa := f3.ne hD
    refine lc_range (lo := 0) (n := 1 + n) (fun i H' => Kp a H3 H' ∧ FeedAt H' a ∧ ∃ rows : List (List Nat), rows.length = i ∧ (∀ r ∈ rows, Drawn r) ∧ H' D = some (.lst (rowV rows))) ⟨(Kp.refl a H3).new hD, f3.new hD, [], rfl, by simp, upd_same⟩ (fun i H4 hi p => ?_) (fun H4 p => ?_)
    · obtain ⟨k4, f4, rows, hl4, hok, e4⟩ := p
      refine ⟨rfl, .ref a, rfl, a, rfl, f4, fun r H5 hr5 k5 f5 => ?_⟩
      refine ⟨_, k5 _ _ hDa e4, ?_, (k4.trans k5).mutN hD, f5.mut hDa, rows ++ [r], by rw [List.length_append, hl4]; rfl, ?_, ?_⟩
      · rw [rowV, List.length_map, hl4]
        exact Nat.lt_of_lt_of_le (m := 100) (by omega) (by decide)
      · intro c hc
        rcases List.mem_append.mp hc with hc | hc
        · exact hok c hc
        · rw [List.mem_singleton.mp hc]
          exact hr5
      · rw [upd_same, rowV, rowV, List.map_append]
        rfl
    · obtain ⟨k4, f4, rows, hl4, hok, e4⟩ := p
      exact q D rows H4 (fun z => by rw [z] at hl4; simp at hl4; omega) (by omega) hok (k03.trans k4) f4 (k03.fresh hD hDa) e4

end
end Lr
namespace Lr
open PySem PySem.Spec PyProof.Rows L2 Lf
/-! ### data that can be compared -/
def Lay (k : Nat) (d : PyData) : Prop := d.canLay0 = true ∧ d.depth ≤ k
theorem Lay.all {k : Nat} : ∀ {ds : List PyData}, (∀ d ∈ ds, Lay k d) → PyData.canLayAll0 ds = true ∧ PyData.depthAll ds ≤ k
  | [], _ => by
    simp [PyData.canLayAll0, PyData.depthAll]
  | d :: r, h => by
    have h1 := h d (List.mem_cons_self ..)
    have h2 := Lay.all fun z hz => h z (List.mem_cons_of_mem _ hz)
    simp only [PyData.canLayAll0, PyData.depthAll, h1.1, h2.1, Bool.and_self, true_and]
    exact Nat.max_le.mpr ⟨h1.2, h2.2⟩
theorem Lay.lst {k : Nat} {ds : List PyData} (h : ∀ d ∈ ds, Lay k d) : Lay (k + 1) (.list ds) := by
  have z := Lay.all h
  unfold Lay
  simp only [PyData.canLay0, PyData.depth]
  exact ⟨z.1, by omega⟩
theorem Lay.tup {k : Nat} {ds : List PyData} (h : ∀ d ∈ ds, Lay k d) : Lay (k + 1) (.tuple ds) := by
  have z := Lay.all h
  unfold Lay
  simp only [PyData.canLay0, PyData.depth]
  exact ⟨z.1, by omega⟩
theorem Lay.int {k : Nat} (i : Int) : Lay k (.int i) := by
  unfold Lay
  simp [PyData.canLay0, PyData.depth]
theorem Lay.non {k : Nat} : Lay k .none := by
  unfold Lay
  simp [PyData.canLay0, PyData.depth]
theorem Lay.str {k : Nat} {x : Str} (h : SOk x) : Lay k (.str x) := by
  unfold Lay
  refine ⟨?_, by simp [PyData.depth]⟩
  simp only [PyData.canLay0]
  unfold PyData.strOk
  rw [← Array.all_toList, List.all_eq_true]
  exact fun c hc => decide_eq_true (h c hc)
theorem Lay.up {k j : Nat} {d : PyData} (h : Lay k d) (hj : k ≤ j) : Lay j d := ⟨h.1, Nat.le_trans h.2 hj⟩
theorem Lay.shaped {k : Nat} {d : PyData} (h : Lay k d) (hk : k ≤ 64) : SeqAt.shaped d = true := by
  unfold SeqAt.shaped
  rw [Bool.and_eq_true]
  exact ⟨h.1, decide_eq_true (Nat.le_trans h.2 hk)⟩
theorem Lay.eqv {k : Nat} {d : PyData} (h : Lay k d) : PyData.eqv d d = true := SeqAt.eqv_refl d h.1
def rowsD (rows : List (List Nat)) : PyData := .list (rows.map fun r => .str (S r))
def recsD (recs : List (List (List Nat))) : PyData := .list (recs.map rowsD)
theorem sok_row {r : List Nat} (h : rowOk r) : SOk (S r) := fun c hc => by
  have h1 : 32 ≤ c ∧ c ≤ 126 := h.2 c hc
  omega
theorem rowsD_lay {rows : List (List Nat)} (h : ∀ r ∈ rows, rowOk r) : Lay 1 (rowsD rows) := .lst (k := 0) fun d hd => by
  obtain ⟨r, hr, rfl⟩ := List.mem_map.mp hd
  exact .str (sok_row (h r hr))
theorem recsD_lay {recs : List (List (List Nat))} (h : ∀ rows ∈ recs, ∀ r ∈ rows, rowOk r) : Lay 2 (recsD recs) := .lst (k := 1) fun d hd => by
  obtain ⟨r, hr, rfl⟩ := List.mem_map.mp hd
  exact rowsD_lay (h r hr)
section
variable {K : PySem.W.Frag} {H : Hp}
theorem dp_strs : ∀ rows : List (List Nat), DpAll K H (rowV rows) (rows.map fun r => .str (S r))
  | [] => .nil
  | r :: rs => .cons (.str _) (dp_strs rs)
theorem dp_rows {p : Addr} {rows : List (List Nat)} (h : SqL K H p (rowV rows)) : Dp K H (.ref p) (rowsD rows) := .lst h (dp_strs rows)
end
/-! ### a record read back -/
theorem upto_hit {l rest : List Nat} {a c n : Nat} (h : l.drop a = numL n ++ c :: rest) (hn : n < 10 ^ 60) (hc : c < 48 ∨ 57 < c) : upto l a c = (some n, a + (numL n).length + 1) := by
  have hl : (numL n).length ≤ 60 := TL.numL_len (by decide) hn
  have e : (l.drop a).take 61 = numL n ++ c :: rest.take (60 - (numL n).length) := by
    rw [h, List.take_append, List.take_of_length_le (by omega), show 61 - (numL n).length = (60 - (numL n).length) + 1 by omega, List.take_succ_cons]
  unfold upto
  rw [e, ix_at (TL.numL_free hc)]
  have e2 : (l.drop a).take (numL n).length = numL n := by
    rw [h]
    exact List.take_left
  dsimp only
  rw [e2, numIn_num hn]
theorem drop_hit {l x rest : List Nat} {a c : Nat} (h : l.drop a = x ++ c :: rest) : l.drop (a + x.length + 1) = rest := by
  have e : l.drop (a + x.length + 1) = (l.drop a).drop (x.length + 1) := by
    rw [List.drop_drop, Nat.add_assoc]
  rw [e, h, List.drop_append]
  simp
def bodyL (rows : List (List Nat)) : List Nat := joinL [10] rows
theorem row_no10 {r : List Nat} (h : rowOk r) : 10 ∉ r := fun m => by
  have h1 : 32 ≤ 10 ∧ 10 ≤ 126 := h.2 10 m
  omega
theorem recAt_rec {l B : List Nat} {a n : Nat} {rows : List (List Nat)} (hl : l.drop a = recL n rows ++ B) (hn : n < 10 ^ 60) (hne : rows ≠ []) (hr : ∀ r ∈ rows, rowOk r) (hb : (joinL [10] rows).length < 10 ^ 60) :
    recAt l a = some (n, rows, a + (recL n rows).length) := by
  have hk : chkL (headL n (joinL [10] rows).length (joinL [10] rows)) < 10 ^ 60 := Nat.lt_trans (chk_lt _) (by decide)
  have hs : TL.spl [10] 0 [] (joinL [10] rows) = rows := TL.spl_join hne fun p hp => row_no10 (hr p hp)
  unfold recL at hl ⊢
  generalize joinL [10] rows = body at *
  generalize hK : chkL (headL n body.length body) = k at *
  have d0 : l.drop a = numL n ++ 32 :: (numL body.length ++ 58 :: (numL k ++ 61 :: (body ++ 10 :: B))) := by
    rw [hl]
    simp
  have e1 := upto_hit d0 hn (by decide)
  have d1 := drop_hit d0
  have e2 := upto_hit d1 hb (by decide)
  have d2 := drop_hit d1
  have e3 := upto_hit d2 hk (by decide)
  have d3 := drop_hit d2
  rw [recAt_eq e1 e2 e3]
  generalize hb3 : a + (numL n).length + 1 + (numL body.length).length + 1 + (numL k).length + 1 = b3 at *
  have t1 : (l.drop (b3 + body.length)).take 1 = [10] := by
    have e : l.drop (b3 + body.length) = (l.drop b3).drop body.length := by rw [List.drop_drop]
    rw [e, d3, List.drop_left]
    rfl
  have t2 : (l.drop b3).take body.length = body := by
    rw [d3]
    exact List.take_left
  unfold recFin
  dsimp only
  rw [if_pos t1, t2, hs, if_pos ⟨hr, hK.symm⟩]
  simp only [List.length_append, List.length_cons, List.length_nil]
  congr 3
  omega
/-! ### a log read back -/
def logL : Nat → List (List (List Nat)) → List Nat
  | _, [] => []
  | n, r :: rs => recL n r ++ logL (n + 1) rs
def GoodRec (rows : List (List Nat)) : Prop := rows ≠ [] ∧ (∀ r ∈ rows, rowOk r) ∧ (joinL [10] rows).length < 10 ^ 60
theorem upto_nil {l : List Nat} {a c : Nat} (h : l.drop a = []) : upto l a c = (none, a) := by
  unfold upto
  rw [h]
  rfl
theorem recAt_nil {l : List Nat} {a : Nat} (h : l.drop a = []) : recAt l a = none := by
  rw [recAt_eq (upto_nil h) (upto_nil h) (upto_nil h)]
  rfl
theorem runL_hit {l : List Nat} {f n a b : Nat} {rows : List (List Nat)} (h : recAt l a = some (n, rows, b)) : runL l (f + 1) n a = (rows :: (runL l f (n + 1) b).1, (runL l f (n + 1) b).2) := by
  show (match recAt l a with
    | some (n', rows, b) => if n' = n then (rows :: (runL l f (n + 1) b).1, (runL l f (n + 1) b).2) else ([], a)
    | none => ([], a)) = _
  rw [h]
  exact if_pos rfl
theorem runL_miss {l : List Nat} {f n n' a b : Nat} {rows : List (List Nat)} (h : recAt l a = some (n', rows, b)) (hn : n' ≠ n) : runL l (f + 1) n a = ([], a) := by
  show (match recAt l a with
    | some (n', rows, b) => if n' = n then (rows :: (runL l f (n + 1) b).1, (runL l f (n + 1) b).2) else ([], a)
    | none => ([], a)) = _
  rw [h]
  exact if_neg hn
theorem num_ok' (n d : Nat) (h : d ∈ numL n) : Dig d := TL.numL_digits n d h
/-- whole records ahead are told, then it goes on behind them -/
theorem runL_log {l B : List Nat} : ∀ (recs : List (List (List Nat))) (n a fuel : Nat), (∀ r ∈ recs, GoodRec r) → n + recs.length ≤ 10 ^ 60 → l.drop a = logL n recs ++ B →
    runL l (fuel + recs.length) n a = (recs ++ (runL l fuel (n + recs.length) (a + (logL n recs).length)).1, (runL l fuel (n + recs.length) (a + (logL n recs).length)).2)
  | [], n, a, fuel, _, _, _ => rfl
  | r :: rs, n, a, fuel, hg, hn, hd => by
    have g := hg r (List.mem_cons_self ..)
    have hn' : n + (rs.length + 1) ≤ 10 ^ 60 := hn
    have hd' : l.drop a = recL n r ++ (logL (n + 1) rs ++ B) := by
      rw [hd]
      show recL n r ++ logL (n + 1) rs ++ B = _
      rw [List.append_assoc]
    have e := recAt_rec hd' (by omega) g.1 g.2.1 g.2.2
    have d2 : l.drop (a + (recL n r).length) = logL (n + 1) rs ++ B := by
      rw [← List.drop_drop, hd', List.drop_left]
    have ih := runL_log rs (n + 1) (a + (recL n r).length) fuel (fun z hz => hg z (List.mem_cons_of_mem _ hz)) (by omega) d2
    show runL l (fuel + rs.length + 1) n a = _
    rw [runL_hit e, ih]
    have e3 : n + 1 + rs.length = n + (r :: rs).length := by
      rw [List.length_cons]
      omega
    have e4 : a + (recL n r).length + (logL (n + 1) rs).length = a + (logL n (r :: rs)).length := by
      show _ = a + (recL n r ++ logL (n + 1) rs).length
      rw [List.length_append]
      omega
    rw [e3, e4]
    rfl
theorem recL_pos (n : Nat) (r : List (List Nat)) : 0 < (recL n r).length := by
  unfold recL
  simp only [List.length_append, List.length_cons, List.length_nil]
  omega
theorem logL_len : ∀ (recs : List (List (List Nat))) (n : Nat), recs.length ≤ (logL n recs).length
  | [], _ => Nat.zero_le _
  | r :: rs, n => by
    show rs.length + 1 ≤ (recL n r ++ logL (n + 1) rs).length
    rw [List.length_append]
    have h1 := logL_len rs (n + 1)
    have h2 := recL_pos n r
    omega
theorem runL_end {l : List Nat} (fuel n : Nat) {a : Nat} (h : recAt l a = none) : runL l fuel n a = ([], a) := by
  cases fuel with
  | zero => rfl
  | succ f =>
    unfold runL
    rw [h]
theorem parse_log {recs : List (List (List Nat))} {n : Nat} (hne : recs ≠ []) (hg : ∀ r ∈ recs, GoodRec r) (hn : n + recs.length ≤ 10 ^ 60) : parseL (logL n recs) = (some n, recs, (logL n recs).length) := by
  have hd : (logL n recs).drop 0 = logL n recs ++ [] := by simp
  have hl := logL_len recs n
  have e := runL_log recs n 0 ((logL n recs).length + 1 - recs.length) hg hn hd
  rw [show (logL n recs).length + 1 - recs.length + recs.length = (logL n recs).length + 1 by omega, Nat.zero_add] at e
  rw [runL_end (l := logL n recs) (a := (logL n recs).length) _ _ (recAt_nil (List.drop_length ..))] at e
  cases recs with
  | nil => exact absurd rfl hne
  | cons r rs =>
    have g := hg r (List.mem_cons_self ..)
    have hn' : n + (rs.length + 1) ≤ 10 ^ 60 := hn
    have e1 := recAt_rec (l := logL n (r :: rs)) (a := 0) (B := logL (n + 1) rs) rfl (by omega) g.1 g.2.1 g.2.2
    unfold parseL
    rw [e1]
    dsimp only
    rw [e]
    simp
theorem parse_nil : parseL [] = (none, [], 0) := by
  unfold parseL
  rw [recAt_nil rfl]
theorem parse_one {rows : List (List Nat)} {n : Nat} (g : GoodRec rows) (hn : n < 10 ^ 60) : parseL (recL n rows) = (some n, [rows], (recL n rows).length) := by
  have h := parse_log (recs := [rows]) (n := n) (by simp) (fun r hr => by rw [List.mem_singleton.mp hr]; exact g) hn
  have e : logL n [rows] = recL n rows := by
    show recL n rows ++ [] = _
    rw [List.append_nil]
  rw [e] at h
  exact h
theorem logL_snoc : ∀ (recs : List (List (List Nat))) (n : Nat) (r : List (List Nat)), logL n (recs ++ [r]) = logL n recs ++ recL (n + recs.length) r
  | [], n, r => by
    show recL n r ++ [] = [] ++ recL (n + 0) r
    simp
  | x :: xs, n, r => by
    show recL n x ++ logL (n + 1) (xs ++ [r]) = recL n x ++ logL (n + 1) xs ++ recL (n + (xs.length + 1)) r
    rw [logL_snoc xs (n + 1) r, List.append_assoc, show n + 1 + xs.length = n + (xs.length + 1) by omega]
theorem sum_rows : ∀ {rows : List (List Nat)} {k : Nat}, (∀ r ∈ rows, r.length ≤ k) → (rows.map List.length).sum ≤ rows.length * k
  | [], _, _ => Nat.zero_le _
  | r :: rs, k, h => by
    have h1 := h r (List.mem_cons_self ..)
    have h2 := sum_rows fun z hz => h z (List.mem_cons_of_mem _ hz)
    rw [List.map_cons, List.sum_cons, List.length_cons, Nat.succ_mul]
    omega
theorem recL_len {n : Nat} {rows : List (List Nat)} (hn : n < 10 ^ 60) (hb : (joinL [10] rows).length ≤ 100000) : (recL n rows).length ≤ (joinL [10] rows).length + 184 := by
  have h1 : (numL n).length ≤ 60 := TL.numL_len (by decide) hn
  have h2 : (numL (joinL [10] rows).length).length ≤ 60 := TL.numL_len (by decide) (Nat.lt_of_le_of_lt hb (by decide))
  have h3 : (numL (chkL (headL n (joinL [10] rows).length (joinL [10] rows)))).length ≤ 60 := TL.numL_len (by decide) (Nat.lt_trans (chk_lt _) (by decide))
  unfold recL
  simp only [List.length_append, List.length_cons, List.length_nil]
  omega
end Lr
namespace Lr
open PySem PySem.Spec PyProof.Rows L2 Lf
theorem Drawn.len {rows : List (List Nat)} (h : ∀ r ∈ rows, Drawn r) (h5 : rows.length ≤ 5) : (rows.map List.length).sum + rows.length ≤ 205 := by
  have h1 := sum_rows (k := 40) fun r hr => (h r hr).2
  omega
theorem Drawn.good {rows : List (List Nat)} (hne : rows ≠ []) (h : ∀ r ∈ rows, Drawn r) (h5 : rows.length ≤ 5) : GoodRec rows := by
  refine ⟨hne, fun r hr => (h r hr).1, ?_⟩
  have h1 := Drawn.len h h5
  have h2 := joinL_len [10] rows
  rw [show [10].length = 1 from rfl] at h2
  exact Nat.lt_of_le_of_lt (m := 205) (by omega) (by decide)
theorem Drawn.rec_len {rows : List (List Nat)} {n : Nat} (hn : n < 10 ^ 60) (h : ∀ r ∈ rows, Drawn r) (h5 : rows.length ≤ 5) : (recL n rows).length ≤ 400 := by
  have h1 := Drawn.len h h5
  have h2 := joinL_len [10] rows
  rw [show [10].length = 1 from rfl] at h2
  have h3 := recL_len (n := n) (rows := rows) hn (by omega)
  omega
/-- what was drawn for one record -/
def DrawnRec (rows : List (List Nat)) : Prop := rows ≠ [] ∧ rows.length ≤ 5 ∧ ∀ r ∈ rows, Drawn r
theorem log_len : ∀ {recs : List (List (List Nat))} {n : Nat}, (∀ r ∈ recs, DrawnRec r) → n + recs.length ≤ 10 ^ 60 → (logL n recs).length ≤ recs.length * 400
  | [], _, _, _ => Nat.zero_le _
  | r :: rs, n, h, hn => by
    have hn' : n + (rs.length + 1) ≤ 10 ^ 60 := hn
    have d := h r (List.mem_cons_self ..)
    have h1 := Drawn.rec_len (n := n) (by omega) d.2.2 d.2.1
    have h2 := log_len (recs := rs) (n := n + 1) (fun z hz => h z (List.mem_cons_of_mem _ hz)) (by omega)
    show (recL n r ++ logL (n + 1) rs).length ≤ (rs.length + 1) * 400
    rw [List.length_append]
    omega
section
variable {P : Program} {w : World} {K : PySem.W.Frag} {mg : Str → Option Value} {base : Heap}
theorem RowsAll.get {H0 H : Hp} {r : Addr} : ∀ {qs : List Addr} {xs : List (List (List Nat))} (i : Nat), RowsAll H0 r H qs xs → i < xs.length → ∃ q x, qs[i]? = some q ∧ xs[i]? = some x ∧ H0 q = none ∧ q ≠ r ∧ H q = some (.lst (rowV x))
  | [], [], _, _, h => by cases h
  | q :: _, x :: _, 0, ⟨⟨h1, h2, h3⟩, _⟩, _ => ⟨q, x, rfl, rfl, h1, h2, h3⟩
  | _ :: _, _ :: xs, i + 1, ⟨_, h4⟩, h => RowsAll.get (xs := xs) i h4 (Nat.lt_of_succ_lt_succ h)
  | [], _ :: _, _, h, _ => h.elim
  | _ :: _, [], _, h, _ => h.elim
theorem RowsAll.dp {H0 H : Hp} {r : Addr} : ∀ {qs : List Addr} {xs : List (List (List Nat))}, RowsAll H0 r H qs xs → DpAll K H (qs.map V.ref) (xs.map rowsD)
  | [], [], _ => .nil
  | _ :: _, _ :: _, ⟨⟨_, _, h3⟩, h4⟩ => .cons (dp_rows (SqL.of h3)) h4.dp
  | [], _ :: _, h => h.elim
  | _ :: _, [], h => h.elim
end
end Lr
namespace Lr
open PySem PySem.Spec PyProof.Rows L2 Lf
theorem upto_shift (A X : List Nat) (a c : Nat) : upto (A ++ X) (A.length + a) c = ((upto X a c).1, A.length + (upto X a c).2) := by
  unfold upto
  have e : (A ++ X).drop (A.length + a) = X.drop a := by
    rw [← List.drop_drop, List.drop_left]
  rw [e]
  cases ix c ((X.drop a).take 61) with
  | none => rfl
  | some k =>
    show (numIn ((X.drop a).take k), A.length + a + k + 1) = (numIn ((X.drop a).take k), A.length + (a + k + 1))
    congr 1
    omega
theorem recFin_shift (A X : List Nat) (o1 o2 o3 : Option Nat) (b : Nat) : recFin (A ++ X) o1 o2 o3 (A.length + b) = (recFin X o1 o2 o3 b).map fun z => (z.1, z.2.1, A.length + z.2.2) := by
  cases o1 with
  | none => rfl
  | some n =>
  cases o2 with
  | none => rfl
  | some m =>
  cases o3 with
  | none => rfl
  | some k =>
  have e1 : (A ++ X).drop (A.length + b + m) = X.drop (b + m) := by
    rw [Nat.add_assoc, ← List.drop_drop, List.drop_left]
  have e2 : (A ++ X).drop (A.length + b) = X.drop b := by
    rw [← List.drop_drop, List.drop_left]
  unfold recFin
  dsimp only
  rw [e1, e2]
  split
  · split
    · have e4 : A.length + b + m + 1 = A.length + (b + m + 1) := by omega
      rw [e4]
      rfl
    · rfl
  · rfl
theorem recAt_shift (A X : List Nat) (a : Nat) : recAt (A ++ X) (A.length + a) = (recAt X a).map fun z => (z.1, z.2.1, A.length + z.2.2) := by
  obtain ⟨o1, a1, e1⟩ : ∃ o1 a1, upto X a 32 = (o1, a1) := ⟨_, _, rfl⟩
  obtain ⟨o2, a2, e2⟩ : ∃ o2 a2, upto X a1 58 = (o2, a2) := ⟨_, _, rfl⟩
  obtain ⟨o3, a3, e3⟩ : ∃ o3 a3, upto X a2 61 = (o3, a3) := ⟨_, _, rfl⟩
  have f1 := upto_shift A X a 32
  rw [e1] at f1
  have f2 := upto_shift A X a1 58
  rw [e2] at f2
  have f3 := upto_shift A X a2 61
  rw [e3] at f3
  rw [recAt_eq e1 e2 e3, recAt_eq f1 f2 f3]
  exact recFin_shift A X o1 o2 o3 a3
theorem runL_shift (A X : List Nat) : ∀ (f n a : Nat), runL (A ++ X) f n (A.length + a) = ((runL X f n a).1, A.length + (runL X f n a).2)
  | 0, _, _ => rfl
  | f + 1, n, a => by
    have h := recAt_shift A X a
    cases e : recAt X a with
    | none =>
      rw [e] at h
      rw [runL_end _ _ h, runL_end _ _ e]
    | some z =>
      obtain ⟨n', rows, b⟩ := z
      rw [e] at h
      by_cases hn : n' = n
      · subst hn
        rw [runL_hit h, runL_hit e, runL_shift A X f (n' + 1) b]
      · rw [runL_miss h hn, runL_miss e hn]
theorem recAt_bad {l rest : List Nat} {a c : Nat} (h : l.drop a = c :: rest) (hc : ¬ Dig c ∨ (c = 48 ∧ rest.head? ≠ some 32)) : recAt l a = none := by
  have key : (upto l a 32).1 = none := by
    unfold upto
    rw [h]
    cases e : ix 32 ((c :: rest).take 61) with
    | none => rfl
    | some k =>
      show numIn ((c :: rest).take k) = none
      unfold numIn
      rw [if_neg]
      intro ok
      cases k with
      | zero => exact ok.1 rfl
      | succ k =>
        rw [List.take_succ_cons] at ok
        rcases hc with hc | ⟨rfl, hc⟩
        · exact hc (ok.2.1 c (List.mem_cons_self ..))
        · have h2 := ok.2.2.2 rfl
          have h3 : rest.take k = [] := by
            injection h2
          obtain ⟨hk, r, hr, _⟩ := ix_some e
          rw [List.take_succ_cons, List.take_succ_cons] at hr
          rw [List.take_take] at hr
          have hk' : k < 60 := by
            rw [List.length_take] at hk
            omega
          rw [Nat.min_eq_left (by omega), h3] at hr
          injection hr with _ hr
          apply hc
          cases rest with
          | nil => simp at hr
          | cons d rest =>
            rw [show (60 : Nat) = 59 + 1 from rfl, List.take_succ_cons] at hr
            injection hr with hr _
            rw [hr]
            rfl
  obtain ⟨o1, a1, e1⟩ : ∃ o1 a1, upto l a 32 = (o1, a1) := ⟨_, _, rfl⟩
  rw [e1] at key
  have key' : o1 = none := key
  subst key'
  rw [recAt_eq e1 rfl rfl]
  rfl
theorem recAt_rows {l : List Nat} {a n b : Nat} {rows : List (List Nat)} (h : recAt l a = some (n, rows, b)) : ∀ r ∈ rows, rowOk r := by
  obtain ⟨o1, a1, e1⟩ : ∃ o1 a1, upto l a 32 = (o1, a1) := ⟨_, _, rfl⟩
  obtain ⟨o2, a2, e2⟩ : ∃ o2 a2, upto l a1 58 = (o2, a2) := ⟨_, _, rfl⟩
  obtain ⟨o3, a3, e3⟩ : ∃ o3 a3, upto l a2 61 = (o3, a3) := ⟨_, _, rfl⟩
  rw [recAt_eq e1 e2 e3] at h
  cases o1 with
  | none => cases h
  | some n =>
  cases o2 with
  | none => cases h
  | some m =>
  cases o3 with
  | none => cases h
  | some k =>
  unfold recFin at h
  dsimp only at h
  split at h
  · split at h
    · rename_i hh
      cases h
      exact hh.1
    · cases h
  · cases h
theorem runL_rows {l : List Nat} : ∀ (f n a : Nat), ∀ rows ∈ (runL l f n a).1, ∀ r ∈ rows, rowOk r
  | 0, _, _, _, h => by cases h
  | f + 1, n, a, rows, h => by
    cases e : recAt l a with
    | none =>
      rw [runL_end _ _ e] at h
      cases h
    | some z =>
      obtain ⟨n', rw', b⟩ := z
      by_cases hn : n' = n
      · subst hn
        rw [runL_hit e] at h
        rcases List.mem_cons.mp h with rfl | h
        · exact recAt_rows e
        · exact runL_rows f _ _ rows h
      · rw [runL_miss e hn] at h
        cases h
theorem parse_rows (l : List Nat) : ∀ rows ∈ (parseL l).2.1, ∀ r ∈ rows, rowOk r := by
  unfold parseL
  cases e : recAt l 0 with
  | none =>
    intro rows h
    cases h
  | some z => exact runL_rows _ _ _
theorem runL_fuel {l : List Nat} : ∀ (f g n a : Nat), a ≤ l.length → l.length + 1 ≤ f + a → l.length + 1 ≤ g + a → runL l f n a = runL l g n a
  | 0, _, _, _, h, h1, _ => by omega
  | _, 0, _, _, h, _, h2 => by omega
  | f + 1, g + 1, n, a, h, h1, h2 => by
    cases e : recAt l a with
    | none => rw [runL_end _ _ e, runL_end _ _ e]
    | some z =>
      obtain ⟨n', rows, b⟩ := z
      have hb := recAt_up h e
      by_cases hn : n' = n
      · subst hn
        rw [runL_hit e, runL_hit e, runL_fuel f g (n' + 1) b hb.2 (by omega) (by omega)]
      · rw [runL_miss e hn, runL_miss e hn]
/-- behind whole records -/
theorem parse_behind {recs : List (List (List Nat))} {n : Nat} {Y : List Nat} (hne : recs ≠ []) (hg : ∀ r ∈ recs, GoodRec r) (hn : n + recs.length ≤ 10 ^ 60) :
    parseL (logL n recs ++ Y) = (some n, recs ++ (runL Y (Y.length + 1) (n + recs.length) 0).1, (logL n recs).length + (runL Y (Y.length + 1) (n + recs.length) 0).2) := by
  have hl := logL_len recs n
  have e := runL_log (l := logL n recs ++ Y) recs n 0 ((logL n recs ++ Y).length + 1 - recs.length) hg hn rfl
  have hl2 : (logL n recs ++ Y).length = (logL n recs).length + Y.length := List.length_append ..
  rw [show (logL n recs ++ Y).length + 1 - recs.length + recs.length = (logL n recs ++ Y).length + 1 by omega, Nat.zero_add] at e
  have e2 := runL_shift (logL n recs) Y ((logL n recs ++ Y).length + 1 - recs.length) (n + recs.length) 0
  rw [Nat.add_zero (logL n recs).length] at e2
  rw [e2] at e
  have e3 := runL_fuel (l := Y) ((logL n recs ++ Y).length + 1 - recs.length) (Y.length + 1) (n + recs.length) 0 (Nat.zero_le _) (by omega) (by omega)
  rw [e3] at e
  cases recs with
  | nil => exact absurd rfl hne
  | cons r rs =>
    have g := hg r (List.mem_cons_self ..)
    have hn' : n + (rs.length + 1) ≤ 10 ^ 60 := hn
    have e1 := recAt_rec (l := logL n (r :: rs) ++ Y) (a := 0) (B := logL (n + 1) rs ++ Y) (by show recL n r ++ logL (n + 1) rs ++ Y = _; rw [List.append_assoc]) (by omega) g.1 g.2.1 g.2.2
    unfold parseL
    rw [e1]
    dsimp only
    rw [e]
theorem runL_len {l : List Nat} : ∀ (f n a : Nat), a ≤ l.length → (runL l f n a).1.length + a ≤ l.length
  | 0, _, _, h => by
    show 0 + _ ≤ _
    omega
  | f + 1, n, a, h => by
    cases e : recAt l a with
    | none =>
      rw [runL_end _ _ e]
      show 0 + a ≤ _
      omega
    | some z =>
      obtain ⟨n', rows, b⟩ := z
      have hb := recAt_up h e
      by_cases hn : n' = n
      · subst hn
        rw [runL_hit e]
        have ih := runL_len f (n' + 1) b hb.2
        show (_ :: _).length + a ≤ _
        rw [List.length_cons]
        omega
      · rw [runL_miss e hn]
        show 0 + a ≤ _
        omega
theorem parse_len (l : List Nat) : (parseL l).2.1.length ≤ l.length := by
  unfold parseL
  cases e : recAt l 0 with
  | none => exact Nat.zero_le _
  | some z =>
    have h := runL_len (l := l) (l.length + 1) z.1 0 (Nat.zero_le _)
    exact h
theorem run_bad {Y : List Nat} (n : Nat) (h : recAt Y 0 = none) : runL Y (Y.length + 1) n 0 = ([], 0) := runL_end _ _ h
theorem run_told {Y : List Nat} (n : Nat) : (runL Y (Y.length + 1) n 0) = if (parseL Y).1 = some n then ((parseL Y).2.1, (parseL Y).2.2) else ([], 0) := by
  unfold parseL
  cases e : recAt Y 0 with
  | none =>
    rw [runL_end _ _ e]
    rfl
  | some z =>
    obtain ⟨n', rows, b⟩ := z
    dsimp only
    by_cases hn : n' = n
    · subst hn
      rw [if_pos rfl]
    · rw [runL_miss e hn, if_neg (fun h => hn (Option.some.inj h))]
theorem parse_bad {Y : List Nat} (h : recAt Y 0 = none) : parseL Y = (none, [], 0) := by
  unfold parseL
  rw [h]
/-- a log begins by a figure -/
theorem log_head (n : Nat) (recs : List (List (List Nat))) (k : Nat) : ((logL n recs).take k).head? ≠ some 32 := by
  cases recs with
  | nil =>
    show (([] : List Nat).take k).head? ≠ _
    rw [List.take_nil]
    simp
  | cons r rs =>
    cases k with
    | zero =>
      rw [List.take_zero]
      simp
    | succ k =>
      cases e : numL n with
      | nil => exact absurd e (TL.numL_ne n)
      | cons d t =>
        have hd := num_ok' n d (by rw [e]; exact List.mem_cons_self ..)
        have : logL n (r :: rs) = d :: (t ++ ([32] ++ numL (joinL [10] r).length ++ [58] ++ numL (chkL (headL n (joinL [10] r).length (joinL [10] r))) ++ [61] ++ joinL [10] r ++ [10] ++ logL (n + 1) rs)) := by
          show recL n r ++ logL (n + 1) rs = _
          unfold recL
          rw [e]
          simp
        rw [this, List.take_succ_cons]
        intro h
        have : d = 32 := Option.some.inj h
        unfold Dig at hd
        omega
end Lr
namespace Lr
open PySem PySem.Spec PyProof.Rows L2 Lf
/-! ### the law's own reading of a head -/
/-- how many figures stand ahead -/
def figs : List Nat → Nat
  | [] => 0
  | d :: r => if Dig d then figs r + 1 else 0
theorem figs_le : ∀ l : List Nat, figs l ≤ l.length
  | [] => Nat.le_refl _
  | d :: r => by
    unfold figs
    split
    · have := figs_le r
      rw [List.length_cons]
      omega
    · exact Nat.zero_le _
theorem figs_dig : ∀ (l : List Nat), ∀ c ∈ l.take (figs l), Dig c
  | [], c, h => by cases h
  | d :: r, c, h => by
    unfold figs at h
    by_cases hd : Dig d
    · rw [if_pos hd, List.take_succ_cons] at h
      rcases List.mem_cons.mp h with rfl | h
      · exact hd
      · exact figs_dig r c h
    · rw [if_neg hd] at h
      cases h
theorem figs_end : ∀ (l : List Nat), figs l < l.length → ∃ c, l[figs l]? = some c ∧ ¬ Dig c
  | [], h => by cases h
  | d :: r, h => by
    unfold figs at h ⊢
    by_cases hd : Dig d
    · rw [if_pos hd] at h ⊢
      exact figs_end r (Nat.lt_of_succ_lt_succ h)
    · rw [if_neg hd]
      exact ⟨d, rfl, hd⟩
theorem figs_app : ∀ (w : List Nat) {c : Nat} {r : List Nat}, (∀ d ∈ w, Dig d) → ¬ Dig c → figs (w ++ c :: r) = w.length
  | [], c, r, _, hc => by
    show (if Dig c then _ else 0) = 0
    rw [if_neg hc]
  | d :: w, c, r, h, hc => by
    show (if Dig d then figs (w ++ c :: r) + 1 else 0) = w.length + 1
    rw [if_pos (h d (List.mem_cons_self ..)), figs_app w (fun z hz => h z (List.mem_cons_of_mem _ hz)) hc]
/-- the head's word as the law reads it -/
def wordL (l : List Nat) (a c : Nat) : Option (Nat × Nat) :=
  if (l.drop a)[figs (l.drop a)]? = some c then (numIn ((l.drop a).take (figs (l.drop a)))).map fun n => (n, a + figs (l.drop a) + 1) else none
theorem wordL_eq {c : Nat} (hc : ¬ Dig c) (l : List Nat) (a : Nat) : wordL l a c = match upto l a c with | (some n, b) => some (n, b) | (none, _) => none := by
  unfold wordL upto
  generalize l.drop a = z
  cases e : ix c (z.take 61) with
  | some k =>
    obtain ⟨hk, r, hr, hn⟩ := ix_some e
    have hk2 : k < z.length := by rw [List.length_take] at hk; omega
    have hk3 : k < 61 := by rw [List.length_take] at hk; omega
    have ht : (z.take 61).take k = z.take k := by rw [List.take_take, Nat.min_eq_left (by omega)]
    rw [ht] at hr hn
    have hz : z[k]? = some c := by
      have h1 : (z.take 61)[k]? = some c := by
        rw [hr, List.getElem?_append_right (by rw [List.length_take]; omega), List.length_take, Nat.min_eq_left (by omega), Nat.sub_self]
        rfl
      rw [List.getElem?_take_of_lt hk3] at h1
      exact h1
    have hzd : z = z.take k ++ c :: z.drop (k + 1) := by
      obtain ⟨hlt, hget⟩ := List.getElem?_eq_some_iff.mp hz
      rw [← hget, List.getElem_cons_drop, List.take_append_drop]
    dsimp only
    by_cases hd : ∀ d ∈ z.take k, Dig d
    · have hf : figs z = k := by
        rw [hzd, figs_app _ hd hc, List.length_take]
        omega
      rw [hf, if_pos hz]
      cases numIn (z.take k) with
      | none => rfl
      | some n => rfl
    · have hnn : numIn (z.take k) = none := by
        unfold numIn
        rw [if_neg (fun o => hd o.2.1)]
      rw [hnn]
      by_cases hf : z[figs z]? = some c
      · rw [if_pos hf]
        have hfk : k ≤ figs z := by
          refine Nat.le_of_not_lt fun hlt => ?_
          have : c ∈ z.take k := by
            refine List.mem_of_getElem? (i := figs z) ?_
            rw [List.getElem?_take_of_lt hlt]
            exact hf
          exact hn this
        exact absurd (fun d hdm => figs_dig z d ((List.take_subset_take_left z hfk) hdm)) hd
      · rw [if_neg hf]
  | none =>
    dsimp only
    by_cases hf : z[figs z]? = some c
    · rw [if_pos hf]
      have hlen : 61 ≤ figs z := by
        refine Nat.le_of_not_lt fun hlt => ?_
        have hm : c ∈ z.take 61 := by
          refine List.mem_of_getElem? (i := figs z) ?_
          rw [List.getElem?_take_of_lt hlt]
          exact hf
        have : ∀ {p : List Nat}, ix c p = none → c ∉ p := fun {p} => by
          induction p with
          | nil => intro _ h; cases h
          | cons d p ih =>
            intro h hm
            unfold ix at h
            by_cases e : d = c
            · rw [if_pos e] at h
              cases h
            · rw [if_neg e] at h
              cases h2 : ix c p with
              | some j => rw [h2] at h; cases h
              | none =>
                rcases List.mem_cons.mp hm with hm | hm
                · exact e hm.symm
                · exact ih h2 hm
        exact this e hm
      have hnn : numIn (z.take (figs z)) = none := by
        unfold numIn
        rw [if_neg]
        intro o
        have h1 := o.2.2.1
        rw [List.length_take] at h1
        have h2 := figs_le z
        omega
      rw [hnn]
      rfl
    · rw [if_neg hf]
/-! ### rows and signs -/
def signN (c : Nat) : Prop := signOk c ∨ c = 10
instance (c : Nat) : Decidable (signN c) := inferInstanceAs (Decidable (_ ∨ _))
theorem spl_signs : ∀ (l acc : List Nat), (∀ r ∈ TL.spl [10] 0 acc l, ∀ c ∈ r, signOk c) ↔ (∀ c ∈ acc, signOk c) ∧ ∀ c ∈ l, signN c
  | [], acc => by
    rw [TL.spl_nil]
    exact ⟨fun h => ⟨h acc (List.mem_singleton.mpr rfl), fun c hc => by cases hc⟩, fun h r hr => by rw [List.mem_singleton.mp hr]; exact h.1⟩
  | d :: l, acc => by
    by_cases hd : d = 10
    · subst hd
      have hp : TL.pre [10] (10 :: l) = true := by simp [TL.pre]
      rw [TL.spl_hit hp, show [10].length - 1 = 0 from rfl]
      have ih := spl_signs l []
      constructor
      · intro h
        have h2 := ih.mp fun r hr => h r (List.mem_cons_of_mem _ hr)
        refine ⟨h acc (List.mem_cons_self ..), fun c hc => ?_⟩
        rcases List.mem_cons.mp hc with rfl | hc
        · exact .inr rfl
        · exact h2.2 c hc
      · intro h r hr
        rcases List.mem_cons.mp hr with rfl | hr
        · exact h.1
        · exact ih.mpr ⟨fun c hc => absurd hc List.not_mem_nil, fun c hc => h.2 c (List.mem_cons_of_mem _ hc)⟩ r hr
    · have hp : TL.pre [10] (d :: l) = false := by simpa [TL.pre] using hd
      rw [TL.spl_miss hp]
      have ih := spl_signs l (acc ++ [d])
      rw [ih]
      constructor
      · intro h
        refine ⟨fun c hc => h.1 c (List.mem_append_left _ hc), fun c hc => ?_⟩
        rcases List.mem_cons.mp hc with rfl | hc
        · exact .inl (h.1 c (List.mem_append_right _ (List.mem_singleton.mpr rfl)))
        · exact h.2 c hc
      · intro h
        refine ⟨fun c hc => ?_, fun c hc => h.2 c (List.mem_cons_of_mem _ hc)⟩
        rcases List.mem_append.mp hc with hc | hc
        · exact h.1 c hc
        · rw [List.mem_singleton.mp hc]
          rcases h.2 d (List.mem_cons_self ..) with h | h
          · exact h
          · exact absurd h hd
theorem rows_iff (l : List Nat) : (∀ r ∈ TL.spl [10] 0 [] l, rowOk r) ↔ ([] ∉ TL.spl [10] 0 [] l) ∧ ∀ c ∈ l, signN c := by
  have h := spl_signs l []
  constructor
  · intro z
    exact ⟨fun hm => (z [] hm).1 rfl, (h.mp fun r hr => (z r hr).2).2⟩
  · intro z r hr
    exact ⟨fun e => z.1 (e ▸ hr), h.mpr ⟨fun c hc => absurd hc List.not_mem_nil, z.2⟩ r hr⟩
end Lr
namespace Lr
open PySem PySem.Spec PyProof.Rows L2 Lf
section
variable {P : Program} {w : World} {K : PySem.W.Frag} {mg : Str → Option Value} {base : Heap}
abbrev sLChk : Stmt := topS 17
theorem scLChk : FnScope ["_law_text", "_law_found", "_law_sign"] ["_law_text"] (defScope sLChk) := ⟨rfl, rfl, rfl, by decide +kernel, rfl, by decide +kernel, by decide +kernel⟩
theorem ok_lchk {f : Addr} {fd : FuncData} (F : Fun K "_law_check" "_law_check" sLChk f fd) (T : Bs mg) : FnOk P w K mg base CX0 1 f fd ["_law_text"] spChk := by
  refine F.ok scLChk (fun vs H Q E h => ?_) (fun cdv A outer s H vs Q E hr h => ?_)
  · obtain ⟨x, rfl, _⟩ := h
    rfl
  · obtain ⟨x, rfl, q⟩ := h
    have nd := scLChk.nd
    refine ⟨_, (pss_cons (ps_set (i := 1) nd rfl (Or.inl rfl) pe_int)
  (pss_cons (ps_for PassesOwn.never rfl (pi_str (pv 0)) (pg_name (i := 2) nd rfl (Or.inl rfl))
  (pss_one (ps_set (i := 1) nd rfl (Or.inl rfl) (pe_op op_mod (pe_op op_add (pe_op op_mulW pe_int (pv 1)) (pe_callB call_ord (by rfl) T.ord (by decide +kernel) (pa_cons (pv 2) pa_nil))) pe_int))))
  (pss_one (ps_ret (pv 1))))), ?_⟩
    refine ⟨.str x, rfl, x, rfl, ?_⟩
    refine for_it walk_str (fun i σ H' => H' = H ∧ ∃ y, σ = [some (.str x), some (.int ((((tl x).take i).foldl (fun c x => (33 * c + x) % 1000003) 7 : Nat) : Int)), y]) ⟨rfl, _, rfl⟩ (fun _ _ _ _ _ => trivial) (fun i v σ H1 H2 hi p y => ?_) (fun σ H1 p => ?_)
    · obtain ⟨rfl, y0, rfl⟩ := p
      obtain ⟨rfl, c, hc, rfl⟩ := y
      have hc' : (tl x)[i]? = some c := by
        have := hc
        rw [← Array.getElem?_toList] at this
        exact this
      have et : (tl x).take (i + 1) = (tl x).take i ++ [c] := by
        rw [List.take_add_one, hc']
        rfl
      generalize hg : ((tl x).take i).foldl (fun c x => (33 * c + x) % 1000003) 7 = g
      have hgl : g < 1000003 := by
        rw [← hg]
        exact chk_lt _
      have w1 : CMulW 33 (g : Int) := wide_mul (a := 32) (b := 32) (by decide) (by omega) (by decide) (by decide) (by decide)
      refine ⟨_, rfl, 33, (g : Int), rfl, rfl, w1, .str ⟨#[c]⟩, rfl, ⟨#[c]⟩, rfl, rfl, _, _, rfl, rfl, _, 1000003, rfl, rfl, (by show (0 : Int) < 1000003; decide), ?_⟩
      refine ⟨rfl, some (.str ⟨#[c]⟩), ?_⟩
      rw [et, List.foldl_append, hg]
      have e3 : (33 * (g : Int) + ((c : Nat) : Int)) % 1000003 = (((33 * g + c) % 1000003 : Nat) : Int) := by omega
      show [some (V.str x), some (V.int ((33 * (g : Int) + ((c : Nat) : Int)) % 1000003)), some (V.str ⟨#[c]⟩)] = _
      rw [e3]
      rfl
    · obtain ⟨rfl, y0, rfl⟩ := p
      refine ⟨_, rfl, ?_⟩
      rw [List.take_of_length_le (by rw [Array.length_toList]; exact Nat.le_refl _)]
      exact q
abbrev sLRec : Stmt := topS 18
theorem scLRec : FnScope ["_law_number", "_law_lines", "_law_body", "_law_head_here"] ["_law_number", "_law_lines"] (defScope sLRec) := ⟨rfl, rfl, rfl, by decide +kernel, rfl, by decide +kernel, by decide +kernel⟩
def spLRec (K : PySem.W.Frag) : Sp := fun vs H Q _ => ∃ (n : Nat) (a : Addr) (rows : List (List Nat)), vs = [.int (n : Int), .ref a] ∧ n < 10 ^ 61 ∧ SqL K H a (rowV rows) ∧ (rows.map List.length).sum + rows.length ≤ 100000 ∧
  Q (.str (S (recL n rows))) H
theorem log2_num61 {n : Nat} (h : n < 10 ^ 61) : ((n : Int)).natAbs.log2 < 1920 := by
  have e : ((n : Int)).natAbs = n := rfl
  rw [e]
  rcases Nat.eq_zero_or_pos n with z | z
  · rw [z]
    decide
  · exact (Nat.log2_lt (by omega)).mpr (Nat.lt_trans h (by decide +kernel))
theorem ok_lrec {f : Addr} {fd : FuncData} (F : Fun K "_law_record" "_law_record" sLRec f fd) (T : Bs mg) (c__law_check : Callee P w K mg base 1 "_law_check" ["_law_text"] spChk) : FnOk P w K mg base CX0 2 f fd ["_law_number", "_law_lines"] (spLRec K) := by
  refine F.ok scLRec (fun vs H Q E h => ?_) (fun cdv A outer s H vs Q E hr h => ?_)
  · obtain ⟨n, a, rows, rfl, _⟩ := h
    rfl
  · obtain ⟨n, a, rows, rfl, hn, ha, hl, q⟩ := h
    have nd := scLRec.nd
    refine ⟨_, (pss_cons (ps_set (i := 2) nd rfl (Or.inl rfl) (pe_join pe_str (pv 1)))
  (pss_cons (ps_set (i := 3) nd rfl (Or.inl rfl) (pe_op op_add_str (pe_op op_add_str (pe_op op_add_str (pe_callTy call_str_int (by rfl) T.str (by decide +kernel) (pa_cons (pv 0) pa_nil)) pe_str) (pe_callTy call_str_int (by rfl) T.str (by decide +kernel) (pa_cons (pe_callB call_len_str (by rfl) T.len PySem.boot_len (pa_cons (pv 2) pa_nil)) pa_nil))) pe_str))
  (pss_one (ps_ret (pe_op op_add_str (pe_op op_add_str (pe_op op_add_str (pe_op op_add_str (pv 3) (pe_callTy call_str_int (by rfl) T.str (by decide +kernel) (pa_cons (pe_own c__law_check (hr.mono (by decide)) (by rfl) (pa_cons (pe_op op_add_str (pv 3) (pv 2)) pa_nil)) pa_nil))) pe_str) (pv 2)) pe_str))))), ?_⟩
    have hb := joinL_len [10] rows
    have hb' : (joinL [10] rows).length ≤ 100000 := by
      rw [show [10].length = 1 from rfl] at hb
      omega
    have ez : sizeLine = 16777216 := by decide +kernel
    refine ⟨⟨_, rfl⟩, .ref a, rfl, _, a, rows.map S, rfl, rfl, .inl (by rw [List.map_map]; exact ha), ?_, ?_⟩
    · rw [List.map_map, List.length_map, zn, S_len]
      show (rows.map List.length).sum + rows.length * 1 ≤ 16777216
      omega
    · rw [zn, S_join]
      have h1 : (numL n).length ≤ 61 := TL.numL_len (by decide) hn
      have hm : (joinL [10] rows).length < 10 ^ 60 := Nat.lt_of_le_of_lt hb' (by decide)
      have h2 : (numL (joinL [10] rows).length).length ≤ 60 := TL.numL_len (by decide) hm
      have hc := chk_lt (headL n (joinL [10] rows).length (joinL [10] rows))
      have h3 : (numL (chkL (headL n (joinL [10] rows).length (joinL [10] rows)))).length ≤ 60 := TL.numL_len (by decide) (Nat.lt_trans hc (by decide))
      have bd : ∀ l m : List Nat, l.length + m.length ≤ sizeLine → (S l).length + (S m).length ≤ sizeLine := fun _ _ h => h
      have hh : headL n (joinL [10] rows).length (joinL [10] rows) = numL n ++ [32] ++ numL (joinL [10] rows).length ++ [58] ++ joinL [10] rows := rfl
      rw [hh] at hc h3
      unfold recL at q
      rw [hh] at q
      generalize joinL [10] rows = B at hb' hm h2 hc h3 q ⊢
      refine ⟨.int n, rfl, n, rfl, log2_num61 hn, S (numL n), S [32], by rw [S_num], by rw [zb]; rfl, by rw [S_len, S_len]; simp only [List.length_append, List.length_cons, List.length_nil]; omega, .str (S B), rfl, S B, rfl, by rw [S_len]; omega, (B.length : Int), rfl, log2_num hm, S (numL n ++ [32]), S (numL B.length), by rw [S_append], by rw [S_num], by rw [S_len, S_len]; simp only [List.length_append, List.length_cons, List.length_nil]; omega,
        S (numL n ++ [32] ++ numL B.length), S [58], by rw [S_append], by rw [zc], by rw [S_len, S_len]; simp only [List.length_append, List.length_cons, List.length_nil]; omega, ?_⟩
      rw [S_append]
      refine ⟨_, rfl, _, rfl, _, rfl, _, _, rfl, rfl, by rw [S_len, S_len]; simp only [List.length_append, List.length_cons, List.length_nil]; omega, _, rfl, ?_⟩
      rw [S_append, tl_S]
      generalize chkL (numL n ++ [32] ++ numL B.length ++ [58] ++ B) = k at hc h3 q ⊢
      refine ⟨_, rfl, log2_num (Nat.lt_trans hc (by decide)), _, S (numL k), rfl, by rw [S_num], by rw [S_len, S_len]; simp only [List.length_append, List.length_cons, List.length_nil]; omega, S (numL n ++ [32] ++ numL B.length ++ [58] ++ numL k), S [61], by rw [S_append], by rw [ze], by rw [S_len, S_len]; simp only [List.length_append, List.length_cons, List.length_nil]; omega, _, rfl,
        S (numL n ++ [32] ++ numL B.length ++ [58] ++ numL k ++ [61]), S B, by rw [S_append], rfl, by rw [S_len, S_len]; simp only [List.length_append, List.length_cons, List.length_nil]; omega, S (numL n ++ [32] ++ numL B.length ++ [58] ++ numL k ++ [61] ++ B), S [10], by rw [S_append], rfl, by rw [S_len, S_len]; simp only [List.length_append, List.length_cons, List.length_nil]; omega, ?_⟩
      rw [S_append]
      exact q
end
end Lr
namespace Lr
open PySem PySem.Spec PyProof.Rows L2 Lf
theorem occ_one (x : Str) (c : Nat) : Builtin.Str.occurrences x ⟨#[c]⟩ 0 x.length 1 = (match ix c (tl x) with | some k => [k] | none => []) := by
  rw [StrLaws.occ_eq, occ_ix x c x.length (Nat.le_refl _) _ 0 0 (Nat.le_refl _) rfl, List.drop_zero, Nat.sub_zero, List.take_of_length_le (by rw [← len_tl]; exact Nat.le_refl _)]
  cases ix c (tl x) with
  | none => rfl
  | some k =>
    show [0 + k] = [k]
    rw [Nat.zero_add]
theorem ix_isSome {c : Nat} : ∀ {l : List Nat}, c ∈ l → ∃ k, ix c l = some k
  | d :: l, h => by
    unfold ix
    by_cases e : d = c
    · rw [if_pos e]
      exact ⟨_, rfl⟩
    · rw [if_neg e]
      rcases List.mem_cons.mp h with h | h
      · exact absurd h.symm e
      · obtain ⟨k, hk⟩ := ix_isSome h
        rw [hk]
        exact ⟨_, rfl⟩
theorem figs_of : tl (Str.ofString "0123456789") = [48, 49, 50, 51, 52, 53, 54, 55, 56, 57] := by decide +kernel
theorem in_figs (c : Nat) : (!(Builtin.Str.occurrences (Str.ofString "0123456789") ⟨#[c]⟩ 0 (Str.ofString "0123456789").length 1).isEmpty) = decide (Dig c) := by
  rw [occ_one, figs_of]
  by_cases h : Dig c
  · have hm : c ∈ [48, 49, 50, 51, 52, 53, 54, 55, 56, 57] := by
      unfold Dig at h
      simp only [List.mem_cons, List.not_mem_nil, or_false]
      omega
    obtain ⟨k, hk⟩ := ix_isSome hm
    rw [hk, decide_eq_true h]
    rfl
  · rw [ix_none, decide_eq_false h]
    · rfl
    · intro hm
      apply h
      unfold Dig
      simp only [List.mem_cons, List.not_mem_nil, or_false] at hm
      omega
section
variable {P : Program} {w : World} {K : PySem.W.Frag} {mg : Str → Option Value} {base : Heap}
theorem tl_get {x : Str} {i c : Nat} (h : x.cps[i]? = some c) : (tl x)[i]? = some c := by
  rw [← Array.getElem?_toList] at h
  exact h
theorem strs_eqv {xs : List Str} {ds : List PyData} : PyData.eqv (.list (xs.map PyData.str)) (.list []) = decide (xs = []) := by
  cases xs with
  | nil =>
    simp [PyData.eqv, PyData.eqvAll]
  | cons x xs =>
    simp [PyData.eqv, PyData.eqvAll]
theorem dpStrs {H : Hp} : ∀ xs : List Str, DpAll K H (xs.map V.str) (xs.map PyData.str)
  | [] => .nil
  | x :: xs => .cons (.str x) (dpStrs xs)
def spFig : Sp := fun vs H Q _ => ∃ x : Str, vs = [.str x] ∧ x.length ≤ 1000000 ∧ SOk x ∧ ∀ H', Same H H' → Q (optV (numIn (tl x))) H'
abbrev sFig : Stmt := topS 19
theorem scFig : FnScope ["_law_text", "_law_sign"] ["_law_text"] (defScope sFig) := ⟨rfl, rfl, rfl, by decide +kernel, rfl, by decide +kernel, by decide +kernel⟩
set_option maxHeartbeats 4000000 in
theorem ok_fig {f : Addr} {fd : FuncData} (F : Fun K "_law_figures" "_law_figures" sFig f fd) (T : Bs mg) : FnOk P w K mg base CX0 1 f fd ["_law_text"] spFig := by
  refine F.ok scFig (fun vs H Q E h => ?_) (fun cdv A outer s H vs Q E hr h => ?_)
  · obtain ⟨x, rfl, _⟩ := h
    rfl
  · obtain ⟨x, rfl, hx, hsk, q⟩ := h
    have nd := scFig.nd
    refine ⟨_, (pss_cons (ps_if (PW.pt (pw_or (pt_cmpR op_eq (pv 0) pe_str (nomark _)) (pw_or (pt_cmpR op_gt (pe_callB call_len_str (by rfl) T.len PySem.boot_len (pa_cons (pv 0) pa_nil)) pe_int (nomark _)) (pw_or1 (pt_cmpR (op_neD hr.units) (pe_lc (own := [("_law_sign", 1)]) (g := gName 1) rfl nd (pi_str (pv 0)) (blkOk_by (own := [("_law_sign", 1)]) (N := ["_law_text", "_law_sign"]) (sc := defScope (topS 19)) (by decide +kernel)) (fun _ _ _ _ _ => (pg_name (i := 1) nd rfl (Or.inl rfl))) (fun _ _ _ _ _ => (pts_one (pt_cmpR op_notin_str (pv 1) pe_str (by rfl)))) (fun _ _ _ _ _ => (pv 1))) (pe_lst pa_nil) (nomark _))))))
  (pss_one (ps_ret pe_non))
  pss_nil)
  (pss_one (ps_ret (pe_ifExp (PW.pt (pw_and (pt_cmpR op_eq (pe_ix ix_str (pv 0) pe_int (fun _ _ => rfl)) pe_str (nomark _)) (pw_and1 (pt_cmpR op_ne (pv 0) pe_str (nomark _))))) pe_non (pe_callTy call_int_str (by rfl) T.int (by decide +kernel) (pa_cons (pv 0) pa_nil)))))), ?_⟩
    have hz : x.length ≤ sizeLine := Nat.le_trans hx (by decide)
    have no : ∀ H', Same H H' → ¬ numOk (tl x) → Q V.non H' := fun H' s c => by
      have z := q H' s
      unfold numIn at z
      rw [if_neg c] at z
      exact z
    have e0 : tl (Str.ofString "") = [] := by decide +kernel
    refine ⟨_, rfl, rfl, _, rfl, ite2 (fun c => iteT (no _ (same_refl H) fun o => ?_)) (fun c1 => ?_)⟩
    · have z := V.str.inj (of_decide_eq_true c)
      rw [z] at o
      exact o.1 e0
    have hne : tl x ≠ [] := fun z => c1 (decide_eq_true (congrArg V.str (TL.ext_tl (z.trans e0.symm))))
    refine ⟨_, rfl, x, rfl, hz, _, 60, rfl, rfl, _, rfl, ite2 (fun c => iteT (no _ (same_refl H) fun o => ?_)) (fun c2 => ?_)⟩
    · have h1 := of_decide_eq_true c
      have h2 := o.2.2.1
      rw [← len_tl] at h2
      omega
    have h60 : (tl x).length ≤ 60 := by
      have h1 : ¬ (60 < ((x.length : Nat) : Int)) := fun z => c2 (decide_eq_true z)
      rw [← len_tl]
      omega
    refine ⟨_, rfl, x, rfl, fun D hD => ?_⟩
    refine lc_it walk_str (fun i H' => Same H H' ∧ H' D = some (.lst ((((tl x).take i).filter fun c => decide (¬ Dig c)).map fun c => V.str ⟨#[c]⟩))) ⟨same_new hD, by rw [upd_same]; rfl⟩ (fun _ _ _ _ => trivial) (fun i v H1 H2 hi p y => ?_) (fun H1 p => ?_)
    · obtain ⟨s1, e1⟩ := p
      obtain ⟨rfl, c, hc, rfl⟩ := y
      have hc' := tl_get hc
      have et : (tl x).take (i + 1) = (tl x).take i ++ [c] := by
        rw [List.take_add_one, hc']
        rfl
      rw [et, List.filter_append]
      refine ⟨rfl, _, rfl, _, _, rfl, rfl, _, rfl, ?_⟩
      rw [in_figs]
      by_cases hd : Dig c
      · rw [decide_eq_true hd]
        refine iteF ⟨s1, ?_⟩
        rw [List.filter_cons_of_neg (by simpa using hd), List.filter_nil, List.append_nil]
        exact e1
      · rw [decide_eq_false hd]
        refine iteT ⟨_, rfl, _, e1, ?_, s1.mutN hD, ?_⟩
        · rw [List.length_map]
          have h1 := List.length_filter_le (fun c => decide (¬ Dig c)) ((tl x).take i)
          rw [List.length_take] at h1
          exact Nat.lt_of_le_of_lt (m := 60) (by omega) (by decide)
        · rw [upd_same, List.filter_cons_of_pos (by simpa using hd), List.filter_nil, List.map_append]
          rfl
    · obtain ⟨s1, e1⟩ := p
      rw [List.take_of_length_le (by rw [Array.length_toList]; exact Nat.le_refl _)] at e1
      refine ⟨(by show 0 ≤ sizeLine; decide), fun l hl => ?_⟩
      have s2 := s1.tr (same_new (o := .lst []) hl)
      have e2 := same_new (o := .lst []) hl _ _ e1
      have hsh : ∀ ys : List Str, (∀ y ∈ ys, SOk y) → SeqAt.shaped (.list (ys.map PyData.str)) = true := fun ys hy => (Lay.lst (k := 0) fun d hd => by
        obtain ⟨y, hy', rfl⟩ := List.mem_map.mp hd
        exact .str (hy y hy')).shaped (by decide)
      have e3 : ((((tl x).filter fun c => decide (¬ Dig c)).map fun c => V.str ⟨#[c]⟩)) = (((tl x).filter fun c => decide (¬ Dig c)).map fun c => (⟨#[c]⟩ : Str)).map V.str := by
        rw [List.map_map]
        rfl
      refine ⟨.list ((((tl x).filter fun c => decide (¬ Dig c)).map fun c => (⟨#[c]⟩ : Str)).map PyData.str), .list [], .lst (SqL.of (by rw [← e3]; exact e2)) (dpStrs _), .lst (SqL.of upd_same) .nil, hsh _ (fun y hy => ?_), hsh [] (by simp), _, rfl, ?_⟩
      · obtain ⟨c, hc, rfl⟩ := List.mem_map.mp hy
        intro z hz
        rw [List.mem_singleton.mp hz]
        exact hsk c (List.mem_filter.mp hc).1
      rw [strs_eqv (ds := [])]
      by_cases hd : ∀ c ∈ tl x, Dig c
      · have ef : (tl x).filter (fun c => decide (¬ Dig c)) = [] := List.filter_eq_nil_iff.mpr fun c hc => by simpa using hd c hc
        rw [ef]
        refine iteF ?_
        obtain ⟨d, r, e⟩ : ∃ d r, tl x = d :: r := by
          cases e : tl x with
          | nil => exact absurd e hne
          | cons d r => exact ⟨d, r, rfl⟩
        have e0' : atI x.cps.toList 0 = some d := by
          have z : x.cps.toList = d :: r := e
          rw [z]
          exact atI_nat (j := 0) rfl
        have hv : intText? x = some ((NumText.digitsVal (tl x) : Nat) : Int) := intText_digits (fun c hc => hd c hc) hne (by rw [len_tl]; omega)
        have last : (d = 48 → r = []) → Q (.int ((NumText.digitsVal (tl x) : Nat) : Int)) (upd H1 l (.lst [])) := fun o => by
          have ok : numOk (tl x) := ⟨hne, hd, h60, fun z => by
            rw [e] at z ⊢
            have z' : d = 48 := by simpa using z
            rw [z', o z']⟩
          have z := q _ s2
          unfold numIn at z
          rw [if_pos ok] at z
          exact z
        have ze : (Str.ofString "0" : Str) = ⟨#[48]⟩ := by decide +kernel
        refine ⟨_, rfl, x, 0, d, rfl, rfl, hz, e0', rfl, _, rfl, ite2 (fun c => ?_) (fun c => iteF ⟨_, rfl, x, _, rfl, hv, by rw [len_tl]; omega, last fun z => ?_⟩)⟩
        · have hd48 : d = 48 := by
            have z := of_decide_eq_true c
            rw [ze] at z
            injection z with z
            have z2 := congrArg tl z
            simpa using z2
          refine ⟨_, rfl, rfl, _, rfl, ite2 (fun c => no _ s2 fun o => ?_) (fun c => ⟨_, rfl, x, _, rfl, hv, by rw [len_tl]; omega, last fun _ => ?_⟩)⟩
          · have e2 := o.2.2.2 (by rw [e, hd48]; rfl)
            have e3 : x = Str.ofString "0" := by rw [ze]; exact (str1 x 48).mpr e2
            rw [e3] at c
            have c' : (!decide (V.str (Str.ofString "0") = V.str (Str.ofString "0"))) = true := c
            rw [decide_eq_true rfl] at c'
            cases c'
          · have c' : decide (V.str x = V.str (Str.ofString "0")) = true := by simpa using c
            have z := of_decide_eq_true c'
            rw [ze] at z
            injection z with z
            have z2 := (str1 x 48).mp z
            rw [e] at z2
            injection z2
        · refine absurd ?_ c
          rw [z, ze]
          exact decide_eq_true rfl
      · have ef : (tl x).filter (fun c => decide (¬ Dig c)) ≠ [] := fun z => hd fun c hc => by
          have := List.filter_eq_nil_iff.mp z c hc
          simpa using this
        have ef2 : ¬ ((((tl x).filter fun c => decide (¬ Dig c)).map fun c => (⟨#[c]⟩ : Str)) = []) := fun z => ef (List.map_eq_nil_iff.mp z)
        rw [decide_eq_false ef2]
        exact iteT (no _ s2 fun o => hd o.2.1)
end
end Lr
namespace Lr
open PySem PySem.Spec PyProof.Rows L2 Lf
/-- the head's numbers, one behind the other -/
def headK (l : List Nat) : List Nat → Nat → Option (List Nat × Nat)
  | [], a => some ([], a)
  | c :: cs, a => match wordL l a c with
    | some (n, b) => (headK l cs b).map fun z => (n :: z.1, z.2)
    | none => none
theorem headK_none {l cs : List Nat} {c b : Nat} (h : wordL l b c = none) : headK l (c :: cs) b = none := by
  unfold headK
  rw [h]
theorem headK_some {l cs : List Nat} {c b n b' : Nat} (h : wordL l b c = some (n, b')) : headK l (c :: cs) b = (headK l cs b').map fun z => (n :: z.1, z.2) := by
  rw [headK, h]
def numsV (ns : List Nat) : List V := ns.map fun n => V.str (S (numL n))
section
variable {P : Program} {w : World} {K : PySem.W.Frag} {mg : Str → Option Value} {base : Heap}
def spHead : Sp := fun vs H Q _ => ∃ (x : Str) (a : Nat), vs = [.str x, .int (a : Int)] ∧ x.length ≤ 1000000 ∧ SOk x ∧ a ≤ x.length ∧
  (headK (tl x) [32, 58, 61] a = none → ∀ H', Same H H' → Q .non H') ∧
  (∀ ns b, headK (tl x) [32, 58, 61] a = some (ns, b) → ∀ p q H', Same H H' → H' p = some (.tup [.ref q, .int (b : Int)]) → H' q = some (.lst (numsV ns)) → Q (.ref p) H')
abbrev sHead : Stmt := topS 20
theorem scHead : FnScope ["_law_log_here", "_law_at", "_law_words", "_law_mark", "_law_end"] ["_law_log_here", "_law_at"] (defScope sHead) := ⟨rfl, rfl, rfl, by decide +kernel, rfl, by decide +kernel, by decide +kernel⟩
set_option maxHeartbeats 4000000 in
theorem ok_head {f : Addr} {fd : FuncData} (F : Fun K "_law_head" "_law_head" sHead f fd) (T : Bs mg) (c__law_figures : Callee P w K mg base 1 "_law_figures" ["_law_text"] spFig) : FnOk P w K mg base CX0 2 f fd ["_law_log_here", "_law_at"] spHead := by
  refine F.ok scHead (fun vs H Q E h => ?_) (fun cdv A outer s H vs Q E hr h => ?_)
  · obtain ⟨x, a, rfl, _⟩ := h
    rfl
  · obtain ⟨x, a, rfl, hx, hsk, ha, q0, q1⟩ := h
    have nd := scHead.nd
    refine ⟨_, (pss_cons (ps_set (i := 2) nd rfl (Or.inl rfl) (pe_lst pa_nil))
  (pss_cons (ps_for PassesOwn.never rfl (pi_str pe_str) (pg_name (i := 3) nd rfl (Or.inl rfl))
  (pss_cons (ps_set (i := 4) nd rfl (Or.inl rfl) (pv 1))
  (Evl.pss_cut (ps_while PassesOwn.never (PW.pt (pw_and (pt_cmpR op_lt (pv 4) (pe_callB call_len_str (by rfl) T.len PySem.boot_len (pa_cons (pv 0) pa_nil)) (nomark _)) (pw_and1 (pt_cmpR op_in_str (pe_ix ix_str (pv 0) (pv 4) (fun _ _ => rfl)) pe_str (by rfl)))))
  (pss_one (ps_set (i := 4) nd rfl (Or.inl rfl) (pe_op op_add (pv 4) pe_int))))
  (pss_cons (ps_if (PW.pt (pw_or (pt_cmpR op_eq (pv 4) (pe_callB call_len_str (by rfl) T.len PySem.boot_len (pa_cons (pv 0) pa_nil)) (nomark _)) (pw_or (pt_cmpR op_ne (pe_ix ix_str (pv 0) (pv 4) (fun _ _ => rfl)) (pv 3) (nomark _)) (pw_or1 (pt_cmpR op_isN (pe_own c__law_figures (hr.mono (by decide)) (by rfl) (pa_cons (pe_slice sl_str (pv 0) (po_some (pv 1)) (po_some (pv 4))) pa_nil)) pe_non (nomark _))))))
  (pss_one (ps_ret pe_non))
  pss_nil)
  (pss_cons (ps_expr (pe_bm PySem.F.plainAttrs_list PySem.F.slot_list_append PySem.F.type_list_append mt_append (pv 2) (pa_cons (pe_slice sl_str (pv 0) (po_some (pv 1)) (po_some (pv 4))) pa_nil)))
  (pss_one (ps_set (i := 1) nd rfl (Or.inl rfl) (pe_op op_add (pv 4) pe_int))))))))
  (pss_one (ps_ret (pe_tup (pa_cons (pv 2) (pa_cons (pv 1) pa_nil))))))), ?_⟩
    have hz : x.length ≤ sizeLine := Nat.le_trans hx (by decide)
    refine ⟨(by show 0 ≤ sizeLine; decide), fun wl hwl => ?_⟩
    have em : tl (Str.ofString " :=") = [32, 58, 61] := by decide +kernel
    refine ⟨_, rfl, for_it walk_str (fun i σ H' => ∃ (ns : List Nat) (b : Nat) (y3 y4 : Option V), Same H H' ∧ H' wl = some (.lst (numsV ns)) ∧ ns.length = i ∧ b ≤ x.length ∧ headK (tl x) [32, 58, 61] a = (headK (tl x) ([32, 58, 61].drop i) b).map (fun z => (ns ++ z.1, z.2)) ∧ σ = [some (.str x), some (.int (b : Int)), some (.ref wl), y3, y4])
      ⟨[], a, none, none, same_new hwl, upd_same, rfl, ha, by show headK (tl x) [32, 58, 61] a = (headK (tl x) [32, 58, 61] a).map _; cases headK (tl x) [32, 58, 61] a <;> rfl, rfl⟩ (fun _ _ _ _ _ => trivial) (fun i v σ H1 H2 hi p y => ?_) (fun σ H1 p => ?_)⟩
    · obtain ⟨ns, b, y3, y4, s1, e1, hl, hb, hh, rfl⟩ := p
      obtain ⟨rfl, c, hc, rfl⟩ := y
      have hc' := tl_get hc
      rw [em] at hc'
      have hi3 : i < 3 := (List.getElem?_eq_some_iff.mp hc').1
      have hdr : [32, 58, 61].drop i = c :: [32, 58, 61].drop (i + 1) := by
        obtain ⟨hlt, hget⟩ := List.getElem?_eq_some_iff.mp hc'
        rw [← hget, List.getElem_cons_drop]
      have hcd : ¬ Dig c := by
        have : c ∈ [32, 58, 61] := List.mem_of_getElem? hc'
        simp only [List.mem_cons, List.not_mem_nil, or_false] at this
        unfold Dig
        omega
      rw [hdr] at hh
      have hxl := len_tl x
      have hfl := figs_le ((tl x).drop b)
      rw [List.length_drop] at hfl
      -- the figures
      refine ⟨_, rfl, fun σ' H' => H' = H2 ∧ σ' = [some (.str x), some (.int (b : Int)), some (.ref wl), some (.str ⟨#[c]⟩), some (.int ((b + figs ((tl x).drop b) : Nat) : Int))], ?_, fun σ' H' hm => ?_⟩
      · refine while_by (fun σ' H' => ∃ e : Nat, b ≤ e ∧ e ≤ b + figs ((tl x).drop b) ∧ H' = H2 ∧ σ' = [some (.str x), some (.int (b : Int)), some (.ref wl), some (.str ⟨#[c]⟩), some (.int (e : Int))]) (fun σ' _ => match (σ'[4]? : Option (Option V)) with | some (some (.int e)) => x.length - e.toNat | _ => 0) ⟨b, Nat.le_refl _, by omega, rfl, rfl⟩ (fun σ' H' hP => ?_) (fun σ' H' Q1 Q2 hq h => ?_)
        · obtain ⟨e, h1, h2, rfl, rfl⟩ := hP
          refine ⟨_, rfl, _, rfl, x, rfl, hz, (e : Int), _, rfl, rfl, _, rfl, ?_⟩
          by_cases he : e < b + figs ((tl x).drop b)
          · have hel : e < x.length := by omega
            obtain ⟨d, hd⟩ : ∃ d, (tl x)[e]? = some d := ⟨(tl x)[e]'(by omega), List.getElem?_eq_getElem (by omega)⟩
            have hdd : Dig d := by
              refine figs_dig ((tl x).drop b) d (List.mem_of_getElem? (i := e - b) ?_)
              rw [List.getElem?_take_of_lt (by omega), List.getElem?_drop, show b + (e - b) = e by omega]
              exact hd
            rw [decide_eq_true (by omega)]
            refine iteT ⟨_, rfl, _, rfl, x, (e : Int), d, rfl, rfl, hz, atI_nat hd, _, _, rfl, rfl, _, rfl, ?_⟩
            rw [in_figs, decide_eq_true hdd]
            refine iteT ⟨_, rfl, (e : Int), 1, rfl, rfl, ⟨e + 1, by omega, by omega, rfl, rfl⟩, ?_⟩
            show x.length - (e + 1) < x.length - e
            omega
          · have he2 : e = b + figs ((tl x).drop b) := by omega
            by_cases hel : e < x.length
            · rw [decide_eq_true (by omega)]
              have hf : figs ((tl x).drop b) < ((tl x).drop b).length := by rw [List.length_drop]; omega
              obtain ⟨d, hd, hdn⟩ := figs_end _ hf
              rw [List.getElem?_drop, ← he2] at hd
              refine iteT ⟨_, rfl, _, rfl, x, (e : Int), d, rfl, rfl, hz, atI_nat hd, _, _, rfl, rfl, _, rfl, ?_⟩
              rw [in_figs, decide_eq_false hdn]
              exact iteF ⟨rfl, by rw [he2]⟩
            · rw [decide_eq_false (by omega)]
              exact iteF (iteF ⟨rfl, by rw [he2]⟩)
        · obtain ⟨v1, h1, v2, h2, z, h3, h4, i1, j1, h5, h6, k1, h7, h⟩ := h
          refine ⟨v1, h1, v2, h2, z, h3, h4, i1, j1, h5, h6, k1, h7, ?_⟩
          cases k1 with
          | false =>
            rw [if_neg Bool.false_ne_true] at h ⊢
            exact hq _ _ h
          | true =>
            rw [if_pos rfl] at h ⊢
            obtain ⟨v3, g1, v4, g2, z2, i2, c2, g3, g4, g5, g6, i3, j3, g7, g8, k3, g9, h⟩ := h
            exact ⟨v3, g1, v4, g2, z2, i2, c2, g3, g4, g5, g6, i3, j3, g7, g8, k3, g9, hq _ _ h⟩
      · obtain ⟨rfl, rfl⟩ := hm
        have hE : b + figs ((tl x).drop b) ≤ x.length := by omega
        have hwd : wordL (tl x) b c = if (tl x)[b + figs ((tl x).drop b)]? = some c then (numIn (((tl x).drop b).take (figs ((tl x).drop b)))).map fun n => (n, b + figs ((tl x).drop b) + 1) else none := by
          unfold wordL
          rw [List.getElem?_drop]
        have hbad : wordL (tl x) b c = none → headK (tl x) [32, 58, 61] a = none := fun z => by
          rw [hh, headK_none z]
          rfl
        generalize figs ((tl x).drop b) = fg at *
        refine ⟨_, rfl, _, rfl, x, rfl, hz, rfl, _, rfl, ?_⟩
        by_cases he : b + fg = x.length
        · rw [he, decide_eq_true rfl]
          refine iteT (iteT ?_)
          refine q0 (hbad ?_) _ s1
          rw [hwd, he, List.getElem?_eq_none_iff.mpr (by omega)]
          rfl
        · obtain ⟨d, hd⟩ : ∃ d, (tl x)[b + fg]? = some d := ⟨(tl x)[b + fg]'(by omega), List.getElem?_eq_getElem (by omega)⟩
          rw [decide_eq_false (fun z => he (by injection z with z; omega))]
          refine iteF ⟨_, rfl, _, rfl, x, ((b + fg : Nat) : Int), d, rfl, rfl, hz, atI_nat hd, _, rfl, rfl, _, rfl, ?_⟩
          rw [hd] at hwd
          by_cases hdc : d = c
          · subst hdc
            rw [if_pos rfl] at hwd
            rw [decide_eq_true rfl]
            refine iteF ⟨_, rfl, _, rfl, (b : Int), rfl, _, rfl, ((b + fg : Nat) : Int), rfl, x, rfl, hz, ?_⟩
            rw [cutS_nat, Nat.add_sub_cancel_left]
            have hcl : (((tl x).drop b).take fg).length ≤ 1000000 := by
              rw [List.length_take, List.length_drop]
              omega
            have hcs : SOk (S (((tl x).drop b).take fg)) := fun z hz => hsk z (List.mem_of_mem_drop (List.mem_of_mem_take hz))
            refine ⟨_, rfl, hcl, hcs, fun H3 s3 => ?_⟩
            rw [tl_S]
            cases hn : numIn (((tl x).drop b).take fg) with
            | none =>
              rw [hn] at hwd
              refine ⟨rfl, _, rfl, iteT ?_⟩
              exact q0 (hbad hwd) _ (s1.tr s3)
            | some n =>
              rw [hn] at hwd
              have hw := (numIn_some hn).1
              refine ⟨rfl, _, rfl, iteF ?_⟩
              have ev : cutS x (some (b : Int)) (some ((b + fg : Nat) : Int)) = S (numL n) := by rw [cutS_nat, Nat.add_sub_cancel_left, hw]
              refine ⟨_, rfl, .inl ⟨rfl, _, SqL.of (s3 _ _ e1)⟩, _, rfl, _, rfl, (b : Int), rfl, _, rfl, ((b + fg : Nat) : Int), rfl, x, rfl, hz, ?_⟩
              rw [ev]
              refine ⟨wl, _, _, rfl, rfl, s3 _ _ e1, ?_, _, rfl, ((b + fg : Nat) : Int), 1, rfl, rfl, ns ++ [n], b + fg + 1, _, _, (s1.tr s3).mutN hwl, ?_, ?_, ?_, ?_, rfl⟩
              · unfold numsV
                rw [List.length_map, hl]
                exact Nat.lt_of_lt_of_le (m := 100) (by omega) (by decide)
              · rw [upd_same]
                unfold numsV
                rw [List.map_append]
                rfl
              · rw [List.length_append, hl]
                rfl
              · omega
              · rw [hh, headK_some hwd, Option.map_map]
                congr 1
                funext z
                show (ns ++ n :: z.1, z.2) = (ns ++ [n] ++ z.1, z.2)
                rw [List.append_assoc]
                rfl
          · rw [decide_eq_false (fun z => hdc (by injection z with z; have z2 : tl (⟨#[d]⟩ : Str) = tl (⟨#[c]⟩ : Str) := by rw [z]
                                                  have z3 : [d] = [c] := z2
                                                  injection z3))]
            rw [if_neg (fun z => hdc (Option.some.inj z))] at hwd
            exact iteT (q0 (hbad hwd) _ s1)
    · obtain ⟨ns, b, y3, y4, s1, e1, hl, hb, hh, rfl⟩ := p
      have hl3 : ns.length = 3 := hl
      have hh' : headK (tl x) [32, 58, 61] a = some (ns, b) := by
        rw [hh]
        show some (ns ++ [], b) = _
        rw [List.append_nil]
      refine ⟨_, rfl, _, rfl, (by show 2 ≤ sizeLine; decide), fun p hp => ?_⟩
      exact q1 ns b hh' p wl _ (s1.tr (same_new hp)) upd_same (by rw [upd_ne (ne_of_none e1 hp)]; exact e1)
end
end Lr
namespace Lr
open PySem PySem.Spec PyProof.Rows L2 Lf
theorem rec_head (l : List Nat) (a : Nat) : recAt l a = match headK l [32, 58, 61] a with | some ([n, m, k], b) => recFin l (some n) (some m) (some k) b | _ => none := by
  obtain ⟨o1, a1, e1⟩ : ∃ o1 a1, upto l a 32 = (o1, a1) := ⟨_, _, rfl⟩
  obtain ⟨o2, a2, e2⟩ : ∃ o2 a2, upto l a1 58 = (o2, a2) := ⟨_, _, rfl⟩
  obtain ⟨o3, a3, e3⟩ : ∃ o3 a3, upto l a2 61 = (o3, a3) := ⟨_, _, rfl⟩
  have w1 := wordL_eq (c := 32) (by decide) l a
  have w2 := wordL_eq (c := 58) (by decide) l a1
  have w3 := wordL_eq (c := 61) (by decide) l a2
  rw [e1] at w1
  rw [e2] at w2
  rw [e3] at w3
  rw [recAt_eq e1 e2 e3]
  cases o1 with
  | none => rw [headK_none w1]; rfl
  | some n =>
  rw [headK_some w1]
  cases o2 with
  | none => rw [headK_none w2]; rfl
  | some m =>
  rw [headK_some w2]
  cases o3 with
  | none => rw [headK_none w3]; rfl
  | some k =>
  rw [headK_some w3]
  rfl
theorem headK_len (l : List Nat) : ∀ (cs : List Nat) (a : Nat) (ns : List Nat) (b : Nat), headK l cs a = some (ns, b) → ns.length = cs.length ∧ ∀ n ∈ ns, n < 10 ^ 60
  | [], a, ns, b, h => by
    cases h
    exact ⟨rfl, by simp⟩
  | c :: cs, a, ns, b, h => by
    cases e : wordL l a c with
    | none => rw [headK_none e] at h; cases h
    | some z =>
      obtain ⟨n, b'⟩ := z
      rw [headK_some e] at h
      cases e2 : headK l cs b' with
      | none => rw [e2] at h; cases h
      | some z2 =>
        obtain ⟨ns', b2⟩ := z2
        rw [e2] at h
        have ih := headK_len l cs b' ns' b2 e2
        have h' : (n :: ns', b2) = (ns, b) := Option.some.inj h
        injection h' with h1 h2
        subst h1
        refine ⟨congrArg (· + 1) ih.1, fun z hz => ?_⟩
        rcases List.mem_cons.mp hz with rfl | hz
        · unfold wordL at e
          split at e
          · cases e3 : numIn ((l.drop a).take (figs (l.drop a))) with
            | none => rw [e3] at e; cases e
            | some n2 =>
              rw [e3] at e
              have e' : (n2, a + figs (l.drop a) + 1) = (z, b') := Option.some.inj e
              injection e' with e4 _
              rw [← e4]
              exact numIn_lt e3
          · cases e
        · exact ih.2 z hz
theorem sign_ne {c d : Nat} (h : c ≠ d) : V.str ⟨#[c]⟩ ≠ V.str ⟨#[d]⟩ := fun z => by
  injection z with z
  have z2 : tl (⟨#[c]⟩ : Str) = tl (⟨#[d]⟩ : Str) := by rw [z]
  have z3 : [c] = [d] := z2
  injection z3 with z3
  exact h z3
theorem in_rows (R : List (List Nat)) : inV (.str "") (rowV R) = decide ([] ∈ R) := by
  unfold inV rowV
  rw [Bool.eq_iff_iff, List.any_eq_true, decide_eq_true_eq]
  have e0 : (Str.ofString "" : Str) = S [] := by decide +kernel
  constructor
  · rintro ⟨y, hy, e⟩
    obtain ⟨r, hr, rfl⟩ := List.mem_map.mp hy
    have e' : (S r == (Str.ofString "" : Str)) = true := e
    rw [beq_iff_eq, e0] at e'
    rw [← S_inj e']
    exact hr
  · intro h
    refine ⟨_, List.mem_map.mpr ⟨[], h, rfl⟩, ?_⟩
    show (S [] == (Str.ofString "" : Str)) = true
    rw [beq_iff_eq, e0]
section
variable {P : Program} {w : World} {K : PySem.W.Frag} {mg : Str → Option Value} {base : Heap}
def spWhl : Sp := fun vs H Q E => (∃ x : Str, vs.head? = some (.str x) ∧ SOk x) ∧ spRat vs H Q E
abbrev sWhl : Stmt := topS 21
theorem scWhl : FnScope ["_law_log_here", "_law_at", "_law_found", "_law_words", "_law_begin", "_law_end", "_law_body", "_law_sign"] ["_law_log_here", "_law_at"] (defScope sWhl) := ⟨rfl, rfl, rfl, by decide +kernel, rfl, by decide +kernel, by decide +kernel⟩
set_option maxHeartbeats 4000000 in
theorem ok_whl {f : Addr} {fd : FuncData} (F : Fun K "_law_whole_at" "_law_whole_at" sWhl f fd) (T : Bs mg) (c__law_head : Callee P w K mg base 2 "_law_head" ["_law_log_here", "_law_at"] spHead) (c__law_check : Callee P w K mg base 1 "_law_check" ["_law_text"] spChk) :
    FnOk P w K mg base CX0 3 f fd ["_law_log_here", "_law_at"] spWhl := by
  refine F.ok scWhl (fun vs H Q E h => ?_) (fun cdv A outer s H vs Q E hr h => ?_)
  · obtain ⟨_, x, a, rfl, _⟩ := h
    rfl
  · obtain ⟨⟨x', hx', hsk0⟩, x, a, rfl, hx, ha, q1, q2⟩ := h
    have hsk : SOk x := by
      cases Option.some.inj hx'
      exact hsk0
    have nd := scWhl.nd
    refine ⟨_, (pss_cons (ps_set (i := 2) nd rfl (Or.inl rfl) (pe_own c__law_head (hr.mono (by decide)) (by rfl) (pa_cons (pv 0) (pa_cons (pv 1) pa_nil))))
  (pss_cons (ps_if (PW.pt (pw_or (pt_cmpR op_isN (pv 2) pe_non (nomark _)) (pw_or (pt_cmpR op_gt (pe_callB call_len_str (by rfl) T.len PySem.boot_len (pa_cons (pe_ix ix_list (pe_ix ix_tup (pv 2) pe_int (fun _ _ => rfl)) pe_int (fun _ _ => rfl)) pa_nil)) pe_int (nomark _)) (pw_or1 (pt_cmpR op_gt (pe_callB call_len_str (by rfl) T.len PySem.boot_len (pa_cons (pe_ix ix_list (pe_ix ix_tup (pv 2) pe_int (fun _ _ => rfl)) pe_int (fun _ _ => rfl)) pa_nil)) pe_int (nomark _))))))
  (pss_one (ps_ret pe_non))
  pss_nil)
  (pss_cons (ps_asg (pv 2) (pg_tup rfl (pgs_cons (pg_name (i := 3) nd rfl (Or.inl rfl)) (pgs_cons (pg_name (i := 4) nd rfl (Or.inl rfl)) pgs_nil))))
  (pss_cons (ps_set (i := 5) nd rfl (Or.inl rfl) (pe_op op_add (pv 4) (pe_callTy call_int_str (by rfl) T.int (by decide +kernel) (pa_cons (pe_ix ix_list (pv 3) pe_int (fun _ _ => rfl)) pa_nil))))
  (pss_cons (ps_set (i := 6) nd rfl (Or.inl rfl) (pe_slice sl_str (pv 0) (po_some (pv 4)) (po_some (pv 5))))
  (pss_cons (ps_if (PW.pt (pw_or (pt_cmpR op_ge (pv 5) (pe_callB call_len_str (by rfl) T.len PySem.boot_len (pa_cons (pv 0) pa_nil)) (nomark _)) (pw_or (pt_cmpR op_ne (pe_ix ix_str (pv 0) (pv 5) (fun _ _ => rfl)) pe_str (nomark _)) (pw_or1 (pt_cmpR op_in_seq pe_str (pe_split (pv 6) pe_str) (by rfl))))))
  (pss_one (ps_ret pe_non))
  pss_nil)
  (pss_cons (ps_if (pt_cmpR (op_neD hr.units) (pe_lc (own := [("_law_sign", 7)]) (g := gName 7) rfl nd (pi_str (pv 6)) (blkOk_by (own := [("_law_sign", 7)]) (N := ["_law_log_here", "_law_at", "_law_found", "_law_words", "_law_begin", "_law_end", "_law_body", "_law_sign"]) (sc := defScope (topS 21)) (by decide +kernel)) (fun _ _ _ _ _ => (pg_name (i := 7) nd rfl (Or.inl rfl))) (fun _ _ _ _ _ => (pts_one (PW.pt (pw_and (pt_not (pt_chain op_le_str op_le_str pe_str (pv 7) pe_str)) (pw_and1 (pt_cmpR op_ne (pv 7) pe_str (nomark _))))))) (fun _ _ _ _ _ => (pv 7))) (pe_lst pa_nil) (nomark _))
  (pss_one (ps_ret pe_non))
  pss_nil)
  (pss_cons (ps_if (pt_cmpR op_ne (pe_callTy call_str_int (by rfl) T.str (by decide +kernel) (pa_cons (pe_own c__law_check (hr.mono (by decide)) (by rfl) (pa_cons (pe_op op_add_str (pe_op op_add_str (pe_op op_add_str (pe_op op_add_str (pe_ix ix_list (pv 3) pe_int (fun _ _ => rfl)) pe_str) (pe_ix ix_list (pv 3) pe_int (fun _ _ => rfl))) pe_str) (pv 6)) pa_nil)) pa_nil)) (pe_ix ix_list (pv 3) pe_int (fun _ _ => rfl)) (nomark _))
  (pss_one (ps_ret pe_non))
  pss_nil)
  (pss_one (ps_ret (pe_tup (pa_cons (pe_callTy call_int_str (by rfl) T.int (by decide +kernel) (pa_cons (pe_ix ix_list (pv 3) pe_int (fun _ _ => rfl)) pa_nil)) (pa_cons (pe_split (pv 6) pe_str) (pa_cons (pe_op op_add (pv 5) pe_int) pa_nil)))))))))))))), ?_⟩
    have ez : sizeLine = 16777216 := by decide +kernel
    have hz : x.length ≤ sizeLine := by omega
    rw [rec_head] at q1 q2
    refine ⟨_, rfl, _, rfl, x, a, rfl, hx, hsk, ha, fun e H1 s1 => ?_, fun ns b e p q H1 s1 hp hq => ?_⟩
    · rw [e] at q1
      exact ⟨_, rfl, rfl, _, rfl, iteT (iteT (q1 rfl _ s1))⟩
    rw [e] at q1 q2
    obtain ⟨hl, hb⟩ := headK_len _ _ _ _ _ e
    obtain ⟨n, m, k, rfl⟩ : ∃ n m k, ns = [n, m, k] := match ns, hl with | [n, m, k], _ => ⟨n, m, k, rfl⟩
    dsimp only at q1 q2
    have hn := hb n (by simp)
    have hm := hb m (by simp)
    have hk := hb k (by simp)
    have l1 : (numL n).length ≤ 60 := TL.numL_len (by decide) hn
    have l2 : (numL m).length ≤ 60 := TL.numL_len (by decide) hm
    have l3 : (numL k).length ≤ 60 := TL.numL_len (by decide) hk
    have hq' : H1 q = some (.lst [.str (S (numL n)), .str (S (numL m)), .str (S (numL k))]) := hq
    have int_of : ∀ z : Nat, z < 10 ^ 60 → intText? (S (numL z)) = some ((z : Nat) : Int) := fun z hz => by
      have lz : (numL z).length ≤ 60 := TL.numL_len (by decide) hz
      have h := intText_digits (x := S (numL z)) (fun c hc => num_ok' z c hc) (TL.numL_ne z) (by show (numL z).length ≤ _; omega)
      rw [show NumText.digitsVal (S (numL z)).cps.toList = z from TL.numL_val z] at h
      exact h
    refine ⟨_, rfl, rfl, _, rfl, iteF ?_⟩
    refine ⟨_, rfl, p, _, 0, .ref q, rfl, rfl, SqT.of hp, atI_nat (j := 0) rfl, q, _, 0, .str (S (numL n)), rfl, rfl, SqL.of hq', atI_nat (j := 0) rfl, S (numL n), rfl, by rw [S_len]; omega, _, 60, rfl, rfl, _, rfl, ?_⟩
    rw [decide_eq_false (by rw [S_len]; omega)]
    refine iteF ⟨_, rfl, p, _, 0, .ref q, rfl, rfl, SqT.of hp, atI_nat (j := 0) rfl, q, _, 1, .str (S (numL m)), rfl, rfl, SqL.of hq', atI_nat (j := 1) rfl, S (numL m), rfl, by rw [S_len]; omega, _, 60, rfl, rfl, _, rfl, ?_⟩
    rw [decide_eq_false (by rw [S_len]; omega)]
    refine iteF ?_
    -- words, begin
    refine ⟨_, rfl, p, _, rfl, SqT.of hp, rfl, _, _, rfl, _, _, rfl, rfl, ?_⟩
    refine ⟨_, rfl, _, rfl, q, _, 1, .str (S (numL m)), rfl, rfl, SqL.of hq', atI_nat (j := 1) rfl, S (numL m), _, rfl, int_of m hm, by rw [S_len]; omega, (b : Int), (m : Int), rfl, rfl, ?_⟩
    have em : (b : Int) + (m : Int) = ((b + m : Nat) : Int) := by omega
    dsimp only
    rw [em]
    refine ⟨_, rfl, _, rfl, (b : Int), rfl, _, rfl, ((b + m : Nat) : Int), rfl, x, rfl, hz, ?_⟩
    rw [cutS_nat, Nat.add_sub_cancel_left]
    have hBl : (((tl x).drop b).take m).length ≤ 1000000 := by
      rw [List.length_take, List.length_drop, ← len_tl]
      omega
    have hBs : ∀ c ∈ ((tl x).drop b).take m, c < 0x110000 := fun z hz => hsk z (List.mem_of_mem_drop (List.mem_of_mem_take hz))
    have r0 : ∀ d, (tl x)[b + m]? = d → d ≠ some 10 → recFin (tl x) (some n) (some m) (some k) b = none := fun d hd hne => by
      show (if _ then _ else none) = none
      rw [if_neg]
      intro z
      have : ((tl x).drop (b + m))[0]? = some 10 := by
        cases hh : (tl x).drop (b + m) with
        | nil => rw [hh] at z; cases z
        | cons y ys =>
          rw [hh] at z
          have z' : [y] = [10] := z
          injection z' with z'
          rw [z']
          rfl
      rw [List.getElem?_drop, Nat.add_zero, hd] at this
      exact hne this
    have r1 : (tl x)[b + m]? = some 10 → recFin (tl x) (some n) (some m) (some k) b = if (∀ r ∈ TL.spl [10] 0 [] (((tl x).drop b).take m), rowOk r) ∧ k = chkL (headL n m (((tl x).drop b).take m)) then some (n, TL.spl [10] 0 [] (((tl x).drop b).take m), b + m + 1) else none := fun hd => by
      refine if_pos ?_
      have hlt := (List.getElem?_eq_some_iff.mp hd).1
      rw [List.drop_eq_getElem_cons hlt]
      have : (tl x)[b + m] = 10 := (List.getElem?_eq_some_iff.mp hd).2
      rw [this]
      rfl
    generalize hB : ((tl x).drop b).take m = B at hBl hBs r1 ⊢
    have hlx := len_tl x
    -- the end
    refine ⟨_, rfl, _, rfl, x, rfl, hz, ((b + m : Nat) : Int), _, rfl, rfl, _, rfl, ?_⟩
    by_cases he : b + m < x.length
    · obtain ⟨d, hd⟩ : ∃ d, (tl x)[b + m]? = some d := ⟨(tl x)[b + m]'(by omega), List.getElem?_eq_getElem (by omega)⟩
      rw [decide_eq_false (by omega)]
      refine iteF ⟨_, rfl, _, rfl, x, ((b + m : Nat) : Int), d, rfl, rfl, hz, atI_nat hd, rfl, _, rfl, ?_⟩
      have e10 : (Str.ofString "\n" : Str) = ⟨#[10]⟩ := by decide +kernel
      by_cases hd10 : d = 10
      · subst hd10
        have r1' := r1 hd
        rw [r1'] at q1 q2
        rw [e10, decide_eq_true rfl]
        refine iteF ⟨_, rfl, ⟨_, rfl⟩, S B, S [10], rfl, rfl, rfl, by rw [S_len, ez]; omega, fun D hD => ?_⟩
        rw [split_S _ _ (by decide), tl_S]
        generalize hR : TL.spl [10] 0 [] B = R at q1 q2 ⊢
        have hri := rows_iff B
        rw [hR] at hri
        have eR : (R.map S).map V.str = rowV R := by
          rw [List.map_map]
          rfl
        rw [eR]
        have s2 := same_new (o := .lst (rowV R)) hD
        have hD2 : (upd H1 D (.lst (rowV R))) D = some (.lst (rowV R)) := upd_same
        generalize upd H1 D (.lst (rowV R)) = H2 at s2 hD2 ⊢
        have s12 := s1.tr s2
        refine ⟨D, _, rfl, .inl (SqL.of hD2), rfl, ?_, _, rfl, ?_⟩
        · unfold rowV
          rw [List.all_map, List.all_eq_true]
          intro r _
          rfl
        show if inV (.str "") (rowV R) = true then _ else _
        rw [in_rows]
        by_cases hmem : [] ∈ R
        · rw [decide_eq_true hmem]
          refine iteT (q1 ?_ _ s12)
          show (if _ then _ else none) = none
          rw [if_neg (fun z => (hri.mp z.1).1 hmem)]
        rw [decide_eq_false hmem]
        refine iteF ?_
        -- the signs
        refine ⟨_, rfl, S B, rfl, fun D2 hD2' => ?_⟩
        refine lc_it walk_str (fun i H' => Same H2 H' ∧ H' D2 = some (.lst (((B.take i).filter fun c => decide (¬ signN c)).map fun c => V.str ⟨#[c]⟩))) ⟨same_new hD2', by rw [upd_same]; rfl⟩ (fun _ _ _ _ => trivial) (fun i v H3 H4 hi p y => ?_) (fun H3 p => ?_)
        · obtain ⟨s3, e3⟩ := p
          obtain ⟨rfl, c, hc, rfl⟩ := y
          have hc' := tl_get hc
          rw [tl_S] at hc'
          have et : B.take (i + 1) = B.take i ++ [c] := by
            rw [List.take_add_one, hc']
            rfl
          rw [et, List.filter_append]
          have keep : signN c → Same H2 H4 ∧ H4 D2 = some (.lst (((B.take i).filter (fun c => decide (¬ signN c)) ++ [c].filter fun c => decide (¬ signN c)).map fun c => V.str ⟨#[c]⟩)) := fun h => by
            refine ⟨s3, ?_⟩
            rw [List.filter_cons_of_neg (by simpa using h), List.filter_nil, List.append_nil]
            exact e3
          refine ⟨rfl, _, rfl, _, _, rfl, rfl, _, rfl, ?_⟩
          rw [zb, le1]
          by_cases hs : signOk c
          · rw [decide_eq_true hs.1]
            refine iteT ⟨_, _, rfl, rfl, _, rfl, ?_⟩
            rw [zt, show (!decide ((⟨#[126]⟩ : Str).cps.toList < (⟨#[c]⟩ : Str).cps.toList)) = decide (c ≤ 126) from le1 c 126, decide_eq_true hs.2]
            exact iteF (iteF (keep (.inl hs)))
          · have hv : decide (32 ≤ c) = false ∨ (decide (32 ≤ c) = true ∧ decide (c ≤ 126) = false) := by
              by_cases h1 : 32 ≤ c
              · exact .inr ⟨decide_eq_true h1, decide_eq_false fun h2 => hs ⟨h1, h2⟩⟩
              · exact .inl (decide_eq_false h1)
            rcases hv with h | ⟨h, h2⟩
            · rw [h]
              refine iteF ⟨_, rfl, iteT ⟨_, rfl, rfl, _, rfl, ?_⟩⟩
              by_cases h10 : c = 10
              · rw [h10, decide_eq_true rfl]
                rw [h10] at keep
                exact iteF (keep (.inr rfl))
              · rw [decide_eq_false (sign_ne h10)]
                refine iteT ⟨_, rfl, _, e3, ?_, s3.mutN hD2', ?_⟩
                · rw [List.length_map, ez]
                  have h1 := List.length_filter_le (fun c => decide (¬ signN c)) (B.take i)
                  rw [List.length_take] at h1
                  omega
                · rw [upd_same, List.filter_cons_of_pos (by simpa [signN] using ⟨hs, h10⟩), List.filter_nil, List.map_append]
                  rfl
            · rw [h]
              refine iteT ⟨_, _, rfl, rfl, _, rfl, ?_⟩
              rw [zt, show (!decide ((⟨#[126]⟩ : Str).cps.toList < (⟨#[c]⟩ : Str).cps.toList)) = decide (c ≤ 126) from le1 c 126, h2]
              refine iteT ⟨_, rfl, rfl, _, rfl, ?_⟩
              by_cases h10 : c = 10
              · rw [h10, decide_eq_true rfl]
                rw [h10] at keep
                exact iteF (keep (.inr rfl))
              · rw [decide_eq_false (sign_ne h10)]
                refine iteT ⟨_, rfl, _, e3, ?_, s3.mutN hD2', ?_⟩
                · rw [List.length_map, ez]
                  have h1 := List.length_filter_le (fun c => decide (¬ signN c)) (B.take i)
                  rw [List.length_take] at h1
                  omega
                · rw [upd_same, List.filter_cons_of_pos (by simpa [signN] using ⟨hs, h10⟩), List.filter_nil, List.map_append]
                  rfl
        · obtain ⟨s3, e3⟩ := p
          rw [show (S B).cps.size = B.length from rfl, List.take_length] at e3
          refine ⟨(by show 0 ≤ sizeLine; decide), fun l hl => ?_⟩
          have s4 := s3.tr (same_new (o := .lst []) hl)
          have e4 := same_new (o := .lst []) hl _ _ e3
          have s14 := s12.tr s4
          have hsh : ∀ ys : List Str, (∀ y ∈ ys, SOk y) → SeqAt.shaped (.list (ys.map PyData.str)) = true := fun ys hy => (Lay.lst (k := 0) fun d hd => by
            obtain ⟨y, hy', rfl⟩ := List.mem_map.mp hd
            exact .str (hy y hy')).shaped (by decide)
          have e5 : (((B.filter fun c => decide (¬ signN c)).map fun c => V.str ⟨#[c]⟩)) = ((B.filter fun c => decide (¬ signN c)).map fun c => (⟨#[c]⟩ : Str)).map V.str := by
            rw [List.map_map]
            rfl
          refine ⟨.list (((B.filter fun c => decide (¬ signN c)).map fun c => (⟨#[c]⟩ : Str)).map PyData.str), .list [], .lst (SqL.of (by rw [← e5]; exact e4)) (dpStrs _), .lst (SqL.of upd_same) .nil, hsh _ (fun y hy => ?_), hsh [] (by simp), _, rfl, ?_⟩
          · obtain ⟨c, hc, rfl⟩ := List.mem_map.mp hy
            intro z hz
            rw [List.mem_singleton.mp hz]
            exact hBs c (List.mem_filter.mp hc).1
          rw [strs_eqv (ds := [])]
          by_cases hg : ∀ c ∈ B, signN c
          · have ef : B.filter (fun c => decide (¬ signN c)) = [] := List.filter_eq_nil_iff.mpr fun c hc => by simpa using hg c hc
            rw [ef]
            refine iteF ?_
            have hrow : ∀ r ∈ R, rowOk r := hri.mpr ⟨hmem, hg⟩
            -- the check
            have hq4 := s2.tr s4 _ _ hq'
            generalize upd H3 l (.lst []) = H4 at s4 s14 hq4 ⊢
            have hc := chk_lt (headL n m B)
            have e32 : (Str.ofString " " : Str) = S [32] := by decide +kernel
            have e58 : (Str.ofString ":" : Str) = S [58] := by decide +kernel
            have hh : headL n m B = numL n ++ [32] ++ numL m ++ [58] ++ B := rfl
            have sl : ∀ u v : List Nat, u.length + v.length ≤ 1100000 → (S u).length + (S v).length ≤ sizeLine := fun u v h => by rw [S_len, S_len, ez]; omega
            refine ⟨_, rfl, q, _, 0, _, rfl, rfl, SqL.of hq4, atI_nat (j := 0) rfl, S (numL n), S [32], rfl, by rw [e32], sl _ _ (by rw [List.length_singleton]; omega), ?_⟩
            rw [S_append]
            refine ⟨_, rfl, q, _, 1, _, rfl, rfl, SqL.of hq4, atI_nat (j := 1) rfl, S (numL n ++ [32]), S (numL m), rfl, rfl, sl _ _ (by simp only [List.length_append, List.length_singleton]; omega), ?_⟩
            rw [S_append]
            refine ⟨S (numL n ++ [32] ++ numL m), S [58], rfl, by rw [e58], sl _ _ (by simp only [List.length_append, List.length_singleton]; omega), ?_⟩
            rw [S_append]
            refine ⟨_, rfl, S (numL n ++ [32] ++ numL m ++ [58]), S B, rfl, rfl, sl _ _ (by simp only [List.length_append, List.length_singleton]; omega), ?_⟩
            rw [S_append, ← hh]
            refine ⟨_, rfl, ?_⟩
            rw [tl_S]
            refine ⟨_, rfl, log2_num (Nat.lt_trans hc (by decide)), _, rfl, q, _, 2, _, rfl, rfl, SqL.of hq4, atI_nat (j := 2) rfl, rfl, _, rfl, ?_⟩
            rw [S_num]
            by_cases hkc : k = chkL (headL n m B)
            · rw [← hkc, decide_eq_true rfl]
              refine iteF ?_
              rw [if_pos ⟨hrow, hkc⟩] at q2
              refine ⟨_, rfl, q, _, 0, _, rfl, rfl, SqL.of hq4, atI_nat (j := 0) rfl, S (numL n), _, rfl, int_of n hn, by rw [S_len]; omega, ?_⟩
              refine ⟨_, rfl, ⟨_, rfl⟩, S B, S [10], rfl, rfl, rfl, by rw [S_len, ez]; omega, fun D3 hD3 => ?_⟩
              rw [split_S _ _ (by decide), tl_S, hR, eR]
              have s5 := same_new (o := .lst (rowV R)) hD3
              refine ⟨_, rfl, ((b + m : Nat) : Int), 1, rfl, rfl, (by show 3 ≤ sizeLine; decide), fun p' hp' => ?_⟩
              have s6 := s14.tr s5
              refine q2 n R (b + m + 1) rfl p' D3 _ (s6.tr (same_new hp')) (s6.fresh hp') (s14.fresh hD3) ?_ upd_same
              rw [upd_ne (ne_of_none upd_same hp')]
              exact upd_same
            · rw [decide_eq_false (fun z => hkc ?_)]
              · refine iteT (q1 ?_ _ s14)
                show (if _ then _ else none) = none
                rw [if_neg (fun z => hkc z.2)]
              · injection z with z
                have z2 := S_inj z
                have z3 := congrArg NumText.digitsVal z2
                rw [show NumText.digitsVal (numL (chkL (headL n m B))) = chkL (headL n m B) from TL.numL_val _, show NumText.digitsVal (numL k) = k from TL.numL_val _] at z3
                exact z3.symm
          · have ef2 : ¬ (((B.filter fun c => decide (¬ signN c)).map fun c => (⟨#[c]⟩ : Str)) = []) := fun z => hg fun c hc => by
              have := List.filter_eq_nil_iff.mp (List.map_eq_nil_iff.mp z) c hc
              simpa using this
            rw [decide_eq_false ef2]
            refine iteT (q1 ?_ _ s14)
            show (if _ then _ else none) = none
            rw [if_neg (fun z => hg (hri.mp z.1).2)]
      · rw [e10, decide_eq_false (sign_ne hd10)]
        exact iteT (iteT (q1 (r0 _ hd (fun z => hd10 (Option.some.inj z))) _ s1))
    · rw [decide_eq_true (by omega)]
      exact iteT (iteT (q1 (r0 none (List.getElem?_eq_none_iff.mpr (by omega)) (by simp)) _ s1))
end
end Lr
namespace Lr
open PySem PySem.Spec PyProof.Rows L2 Lf
def DueInv (x : Str) (H0 : Hp) (σ : L2.St) (H : Hp) : Prop := ∃ (fst : Option Nat) (rs : List (List (List Nat))) (r : Addr) (qs : List Addr) (a : Nat) (fv : V),
  σ = [some (.str x), some (optV fst), some (.ref r), some (.int (a : Int)), some fv] ∧ Same H0 H ∧ H0 r = none ∧ H r = some (.lst (qs.map V.ref)) ∧ RowsAll H0 r H qs rs ∧ a ≤ x.length ∧ rs.length ≤ a ∧ Jst (tl x) fst rs a ∧
  ((fv = .non ∧ recAt (tl x) a = none) ∨ ∃ n rows b p q, fv = .ref p ∧ recAt (tl x) a = some (n, rows, b) ∧ H p = some (.tup [.int (n : Nat), .ref q, .int (b : Nat)]) ∧ H q = some (.lst (rowV rows)) ∧ H0 q = none ∧ q ≠ r)
theorem iteTi {A B : Prop} (h : if true = true then A else B) : A := h
theorem iteFi {A B : Prop} (h : if false = true then A else B) : B := h
theorem DueInv.mk0 {x : Str} {H0 H : Hp} {fst : Option Nat} {rs : List (List (List Nat))} {r : Addr} {qs : List Addr} {a : Nat}
    (h1 : Same H0 H) (h2 : H0 r = none) (h3 : H r = some (.lst (qs.map V.ref))) (h4 : RowsAll H0 r H qs rs) (h5 : a ≤ x.length) (h6 : rs.length ≤ a) (h7 : Jst (tl x) fst rs a) :
    (recAt (tl x) a = none → ∀ H', Same H H' → DueInv x H0 [some (.str x), some (optV fst), some (.ref r), some (.int (a : Int)), some .non] H') ∧
    ∀ n rows b, recAt (tl x) a = some (n, rows, b) → ∀ p q H', Same H H' → H p = none → H q = none → H' q = some (.lst (rowV rows)) → H' p = some (.tup [.int (n : Nat), .ref q, .int (b : Nat)]) →
      DueInv x H0 [some (.str x), some (optV fst), some (.ref r), some (.int (a : Int)), some (.ref p)] H' :=
  ⟨fun e H' s => ⟨fst, rs, r, qs, a, .non, rfl, h1.tr s, h2, s _ _ h3, h4.keep fun q o _ _ h => s q o h, h5, h6, h7, .inl ⟨rfl, e⟩⟩,
   fun n rows b e p q H' s hp hq eq ep => ⟨fst, rs, r, qs, a, .ref p, rfl, h1.tr s, h2, s _ _ h3, h4.keep fun q o _ _ h => s q o h, h5, h6, h7, .inr ⟨n, rows, b, p, q, rfl, e, ep, eq, h1.fresh hq, fun z => by rw [z, h3] at hq; cases hq⟩⟩⟩
section
variable {P : Program} {w : World} {K : PySem.W.Frag} {mg : Str → Option Value} {base : Heap}
def spDue : Sp := fun vs H Q E => (∃ x : Str, vs.head? = some (.str x) ∧ SOk x) ∧ spPar vs H Q E
abbrev sDue : Stmt := topS 22
theorem scDue : FnScope ["_law_log_here", "_law_first", "_law_found", "_law_at", "_law_told"] ["_law_log_here"] (defScope sDue) := ⟨rfl, rfl, rfl, by decide +kernel, rfl, by decide +kernel, by decide +kernel⟩
set_option maxHeartbeats 4000000 in
theorem ok_due {f : Addr} {fd : FuncData} (F : Fun K "_law_due" "_law_due" sDue f fd) (T : Bs mg) (c__law_whole_at : Callee P w K mg base 3 "_law_whole_at" ["_law_log_here", "_law_at"] spWhl) : FnOk P w K mg base CX0 4 f fd ["_law_log_here"] spDue := by
  refine F.ok scDue (fun vs H Q E h => ?_) (fun cdv A outer s H vs Q E hr h => ?_)
  · obtain ⟨_, x, rfl, _⟩ := h
    rfl
  · obtain ⟨⟨x', hx', hsk0⟩, x, rfl, hx, q⟩ := h
    have hsk : SOk x := by
      cases Option.some.inj hx'
      exact hsk0
    have nd := scDue.nd
    refine ⟨_, (pss_cons (ps_set (i := 1) nd rfl (Or.inl rfl) pe_non)
  (pss_cons (ps_set (i := 2) nd rfl (Or.inl rfl) (pe_lst pa_nil))
  (pss_cons (ps_set (i := 3) nd rfl (Or.inl rfl) pe_int)
  (Evl.pss_cut (ps_set (i := 4) nd rfl (Or.inl rfl) (pe_own c__law_whole_at (hr.mono (by decide)) (by rfl) (pa_cons (pv 0) (pa_cons pe_int pa_nil))))
  (pss_cons (ps_while PassesOwn.never (PW.pt (pw_and (pt_cmpR op_notN (pv 4) pe_non (nomark _)) (pw_and1 (PW.pt (pw_or (pt_cmpR op_isN (pv 1) pe_non (nomark _)) (pw_or1 (pt_cmpR op_eq (pe_ix ix_tup (pv 4) pe_int (fun _ _ => rfl)) (pe_op op_add (pv 1) (pe_callB call_len_seq (by rfl) T.len PySem.boot_len (pa_cons (pv 2) pa_nil))) (nomark _))))))))
  (Evl.pss_cut (ps_if (pt_cmpR op_isN (pv 1) pe_non (nomark _))
  (pss_one (ps_set (i := 1) nd rfl (Or.inl rfl) (pe_ix ix_tup (pv 4) pe_int (fun _ _ => rfl))))
  pss_nil)
  (pss_cons (ps_expr (pe_bm PySem.F.plainAttrs_list PySem.F.slot_list_append PySem.F.type_list_append mt_append (pv 2) (pa_cons (pe_ix ix_tup (pv 4) pe_int (fun _ _ => rfl)) pa_nil)))
  (pss_cons (ps_set (i := 3) nd rfl (Or.inl rfl) (pe_ix ix_tup (pv 4) pe_int (fun _ _ => rfl)))
  (pss_one (ps_set (i := 4) nd rfl (Or.inl rfl) (pe_own c__law_whole_at (hr.mono (by decide)) (by rfl) (pa_cons (pv 0) (pa_cons (pv 3) pa_nil)))))))))
  (pss_one (ps_ret (pe_tup (pa_cons (pv 1) (pa_cons (pv 2) (pa_cons (pv 3) pa_nil))))))))))), ?_⟩
    refine ⟨(by show 0 ≤ sizeLine; decide), fun r hr0 => ?_⟩
    have s1 : Same H (upd H r (.lst [])) := same_new hr0
    have e1 : (upd H r (.lst [])) r = some (.lst []) := upd_same
    generalize (upd H r (.lst [])) = H1 at s1 e1
    have z0 := DueInv.mk0 (x := x) (fst := none) (rs := []) (qs := []) (a := 0) s1 hr0 e1 trivial (Nat.zero_le _) (Nat.zero_le _) (.inl ⟨rfl, rfl, rfl⟩)
    have fin : ∀ (fst : Option Nat) (rs : List (List (List Nat))) (r : Addr) (qs : List Addr) (a : Nat) (fv) (H' : Hp), Same H H' → H r = none → H' r = some (.lst (qs.map V.ref)) → RowsAll H r H' qs rs → parseL (tl x) = (fst, rs, a) →
        tRet (tTup (tCons (tVar 1) (tCons (tVar 2) (tCons (tVar 3) tNil)))) { nx := fun x H' => Q V.non H', rt := Q } [some (.str x), some (optV fst), some (.ref r), some (.int (a : Int)), some fv] H' := by
      intro fst rs r qs a fv H' h1 h2 h3 h4 h5
      rw [h5] at q
      refine ⟨_, rfl, _, rfl, _, rfl, (by show 3 ≤ sizeLine; decide), fun p hp => q p r qs _ (h1.tr (same_new hp)) (h1.fresh hp) h2 (fun z => by rw [z, h3] at hp; cases hp) upd_same ?_ ?_⟩
      · rw [upd_ne (ne_of_none h3 hp)]
        exact h3
      · exact h4.keep fun q o _ _ h => by rw [upd_ne (ne_of_none h hp)]; exact h
    refine ⟨DueInv x H, ⟨_, rfl, ⟨x, rfl, hsk⟩, x, 0, rfl, hx, Nat.zero_le _, z0.1, z0.2⟩, fun σ H2 hI => ?_⟩
    refine while_by (DueInv x H) (parMu x) hI (fun σ H3 hP => ?_) (fun σ H Q Q' hq h => ?_)
    · obtain ⟨fst, rs, r, qs, a, fv, rfl, h1, h2, h3, h4, h5, h6, h7, h8⟩ := hP
      have ha : a ≤ (tl x).length := by rw [← len_tl]; exact h5
      rcases h8 with ⟨rfl, e0⟩ | ⟨n, rows, b, p, q0, rfl, e0, ep, eq, hq0, hqr⟩
      · exact ⟨_, rfl, rfl, _, rfl, iteF (iteF (fin _ _ _ _ _ _ _ h1 h2 h3 h4 (h7.end_none ha e0)))⟩
      · have hb := recAt_up ha e0
        rw [← len_tl] at hb
        have hlen := h4.len
        have el : ∀ f : Nat, ((f : Nat) : Int) + (((qs.map V.ref).length : Nat) : Int) = ((f + rs.length : Nat) : Int) := fun f => by
          rw [List.length_map, hlen]
          omega
        refine ⟨_, rfl, rfl, _, rfl, iteT ⟨_, rfl, rfl, _, rfl, ?_⟩⟩
        cases fst with
        | none =>
          have rs0 : rs = [] := by
            rcases h7 with ⟨_, z, _⟩ | ⟨_, _, z, _⟩
            · exact z
            · cases z
          refine iteT (iteT ⟨fun σ' H' => H' = H3 ∧ ∃ f, Jst (tl x) (some f) rs a ∧ n = f + rs.length ∧ σ' = [some (.str x), some (.int (f : Nat)), some (.ref r), some (.int (a : Int)), some (.ref p)], ?_, fun σ' H' hm => ?_⟩)
          · exact ⟨_, rfl, rfl, _, rfl, iteT ⟨_, rfl, p, _, _, _, rfl, rfl, SqT.of ep, rfl, rfl, n, h7.first e0, by rw [rs0]; rfl, rfl⟩⟩
          · obtain ⟨rfl, f, hJ, hn, rfl⟩ := hm
            subst hn
            refine ⟨.ref r, rfl, .inl ⟨rfl, _, SqL.of h3⟩, .ref p, rfl, p, _, _, _, rfl, rfl, SqT.of ep, rfl, r, _, _, rfl, rfl, h3, ?_, ?_⟩
            · rw [List.length_map, hlen]
              exact Nat.lt_of_le_of_lt (Nat.le_trans (Nat.le_trans h6 h5) hx) (by decide)
            · have keep : ∀ q o, H q = none → q ≠ r → H' q = some o → (upd H' r (.lst (qs.map V.ref ++ [V.ref q0]))) q = some o := fun q o _ hne h => by
                rw [upd_ne hne]
                exact h
              have hpr : p ≠ r := fun z => by
                rw [z, h3] at ep
                cases ep
              have ep2 : (upd H' r (.lst (qs.map V.ref ++ [V.ref q0]))) p = some (.tup [.int ((f + rs.length : Nat) : Int), .ref q0, .int (b : Nat)]) := by
                rw [upd_ne hpr]
                exact ep
              refine ⟨_, rfl, p, _, _, _, rfl, rfl, SqT.of ep2, rfl, .str x, rfl, .int b, rfl, ⟨x, rfl, hsk⟩, x, b, rfl, hx, hb.2, ?_⟩
              have z := DueInv.mk0 (x := x) (H0 := H) (H := upd H' r (.lst (qs.map V.ref ++ [V.ref q0]))) (fst := some f) (rs := rs ++ [rows]) (r := r) (qs := qs ++ [q0]) (a := b)
                (h1.mutN h2) h2 (by rw [upd_same, List.map_append]; rfl) ((h4.keep keep).snoc hq0 hqr (keep _ _ hq0 hqr eq)) hb.2 (by rw [List.length_append]; show rs.length + 1 ≤ b; omega) (hJ.step ha e0)
              refine ⟨fun e H5 s5 => ⟨z.1 e H5 s5, ?_⟩, fun n' rows' b' e p' q' H5 s5 hp' hq' eq' ep' => ⟨z.2 n' rows' b' e p' q' H5 s5 hp' hq' eq' ep', ?_⟩⟩
              · show x.length + 1 - b < x.length + 1 - a
                omega
              · show x.length + 1 - b < x.length + 1 - a
                omega
        | some f =>
          refine iteF ⟨_, rfl, p, _, _, _, rfl, rfl, SqT.of ep, rfl, .int f, rfl, .ref r, rfl, r, _, rfl, .inl (SqL.of h3), (f : Int), _, rfl, rfl, rfl, _, rfl, ?_⟩
          refine ite2 (fun c => ⟨fun σ' H' => H' = H3 ∧ ∃ f, Jst (tl x) (some f) rs a ∧ n = f + rs.length ∧ σ' = [some (.str x), some (.int (f : Nat)), some (.ref r), some (.int (a : Int)), some (.ref p)], ?_, fun σ' H' hm => ?_⟩) (fun c => ?_)
          · refine ⟨_, rfl, rfl, _, rfl, iteF ⟨rfl, f, h7, ?_, rfl⟩⟩
            have z := of_decide_eq_true c
            injection z with z
            rw [el] at z
            exact Int.ofNat_inj.mp z
          · obtain ⟨rfl, f, hJ, hn, rfl⟩ := hm
            subst hn
            refine ⟨.ref r, rfl, .inl ⟨rfl, _, SqL.of h3⟩, .ref p, rfl, p, _, _, _, rfl, rfl, SqT.of ep, rfl, r, _, _, rfl, rfl, h3, ?_, ?_⟩
            · rw [List.length_map, hlen]
              exact Nat.lt_of_le_of_lt (Nat.le_trans (Nat.le_trans h6 h5) hx) (by decide)
            · have keep : ∀ q o, H q = none → q ≠ r → H' q = some o → (upd H' r (.lst (qs.map V.ref ++ [V.ref q0]))) q = some o := fun q o _ hne h => by
                rw [upd_ne hne]
                exact h
              have hpr : p ≠ r := fun z => by
                rw [z, h3] at ep
                cases ep
              have ep2 : (upd H' r (.lst (qs.map V.ref ++ [V.ref q0]))) p = some (.tup [.int ((f + rs.length : Nat) : Int), .ref q0, .int (b : Nat)]) := by
                rw [upd_ne hpr]
                exact ep
              refine ⟨_, rfl, p, _, _, _, rfl, rfl, SqT.of ep2, rfl, .str x, rfl, .int b, rfl, ⟨x, rfl, hsk⟩, x, b, rfl, hx, hb.2, ?_⟩
              have z := DueInv.mk0 (x := x) (H0 := H) (H := upd H' r (.lst (qs.map V.ref ++ [V.ref q0]))) (fst := some f) (rs := rs ++ [rows]) (r := r) (qs := qs ++ [q0]) (a := b)
                (h1.mutN h2) h2 (by rw [upd_same, List.map_append]; rfl) ((h4.keep keep).snoc hq0 hqr (keep _ _ hq0 hqr eq)) hb.2 (by rw [List.length_append]; show rs.length + 1 ≤ b; omega) (hJ.step ha e0)
              refine ⟨fun e H5 s5 => ⟨z.1 e H5 s5, ?_⟩, fun n' rows' b' e p' q' H5 s5 hp' hq' eq' ep' => ⟨z.2 n' rows' b' e p' q' H5 s5 hp' hq' eq' ep', ?_⟩⟩
              · show x.length + 1 - b < x.length + 1 - a
                omega
              · show x.length + 1 - b < x.length + 1 - a
                omega
          · refine fin _ _ _ _ _ _ _ h1 h2 h3 h4 (h7.end_other ha e0 fun z => c ?_)
            refine decide_eq_true ?_
            show V.int (n : Nat) = V.int (((f : Nat) : Int) + (((qs.map V.ref).length : Nat) : Int))
            rw [el, z]
    · obtain ⟨v, h1, h2, k, h3, h4⟩ := h
      refine ⟨v, h1, h2, k, h3, ?_⟩
      cases k with
      | false =>
        have h5 := iteFi h4
        exact hq _ _ h5
      | true =>
        obtain ⟨v, h1, h2, k, h3, h4⟩ := iteTi h4
        refine ⟨v, h1, h2, k, h3, ?_⟩
        cases k with
        | true =>
          have h5 := iteTi h4
          exact hq _ _ h5
        | false =>
          have h4 := iteFi h4
          obtain ⟨v, h1, p, xs, i, z, h2, h3, h4, h5, v2, h6, v3, h7, p2, ys, h8, h9, i1, i2, h10, h11, h12, k, h13, h14⟩ := h4
          exact ⟨v, h1, p, xs, i, z, h2, h3, h4, h5, v2, h6, v3, h7, p2, ys, h8, h9, i1, i2, h10, h11, h12, k, h13, hq _ _ h14⟩
end
end Lr
namespace Lr
open PySem PySem.Spec PyProof.Rows L2 Lf
section
variable {X : Cx}
theorem PSsT.nox {st : List Stmt} {t : TS} (h : PSsT X.nox st t) : PSsT X st t := fun pins s σ H D h0 I hw =>
  wpAny_mono (h pins s σ H D h0 (I.wish _) hw) (fun _ _ q => q.unwish) fun _ _ z => False.elim z
theorem okT {P : Program} {w : World} {K : PySem.W.Frag} {mg : Str → Option Value} {base : Heap} {x qual : Str} {st : Stmt} {f : Addr} {fd : FuncData} {N ps : List Str} {k : Nat} {sp : Sp} (F : Fun K x qual st f fd) (S : FnScope N ps (defScope st))
    (hnc : ∀ y ∈ (defScope st).names, y.2 ≠ .cell) (hps : 1 ≤ ps.length) (len : ∀ vs H Q E, sp vs H Q E → vs.length = ps.length)
    (hbody : ∀ (cdv : Value) (A : Around) (outer : List Env) (s : Shared) (H : Hp) (vs : List V) (Q : VK) (E : XK), Room k (A.deeper (envOfC qual (defScope st) s.heap.objs.size f cdv)) → sp vs H Q E →
      ∃ t, PSsT (cxOf CX0 P w K mg base N qual (defScope st) f cdv A outer s H E).nox (defBody st) t ∧ t { nx := fun _ H' => Q .non H', rt := Q } (start N vs) H) : FnOk P w K mg base CX0 (k + 1) f fd ps sp := by
  obtain ⟨oc, od, kV, doc, pm, an, cdv, ct, osl, rfl, lk, hcd⟩ := F.ex
  refine fn_ofT lk hcd S hnc hps len fun A outer s H vs Q E hr hsp => ?_
  obtain ⟨t, h, q⟩ := hbody cdv A outer s H vs Q E hr hsp
  exact ⟨t, PSsT.nox h, q⟩
theorem psst_cut {st : Stmt} {rest : List Stmt} {t u : TS} (h1 : PST X st t) (h2 : PSsT X rest u) : PSsT X (st :: rest) (Evl.tCut t u) := by
  intro pins s σ H D h0 I h
  obtain ⟨Mid, hm, hu⟩ := h
  refine wpAny_execs_cons (wpAny_mono (PySem.wpAny_toks (h1 pins s σ H { D with nx := Mid } h0 I hm)) (fun f s1 q => ?_) fun _ _ x => x.2)
  obtain ⟨hk, q⟩ := q
  cases f with
  | next =>
    obtain ⟨σ', H', I', q⟩ := q
    exact h2 pins s1 σ' H' D (Nat.le_trans h0 hk) I' (hu σ' H' q)
  | ret v => exact q
  | brk => exact q
  | cont => exact q
theorem pst_set {i : Nat} {x : Str} {e : Expr} {te : TE} {pos pos' : Pos} (hN : X.N.Nodup) (hi : X.N[i]? = some x) (hx : Loc X.env.scope x) (he : PET X e te) (hs : swapsWith e (some (.Name x pos')) pos.line X.env = pure false := by rfl) (hf : X.fn x = true ∨ X.env.scope.names.lookup x = some .local := by first | exact .inl rfl | exact .inr rfl | assumption) :
    PST X (.Assign [.Name x pos'] e pos) (tAsg te (gName i)) := by
  intro pins s σ H D h0 I h
  refine wpAny_Assign_Name (thn (he pins s σ H _ h0 I h) fun v s1 ⟨y, H1, I1, r1, q1⟩ => ?_) hs
  exact store_ok I1 hN hi hx r1 (fun s2 I2 => ⟨_, H1, I2, q1⟩) hf
theorem pet_own {k : Nat} {x : Str} {ps : List Str} {sp : Sp} {e : Expr} {es : List Expr} {t : TA} {p pos : Pos} (C : Callee X.prog X.w X.K X.mg X.base k x ps sp) (hr : Room k X.A) (hg : Gl X x) (ha : PAT X (e :: es) t)
    (hdb : (x == ("__debug__" : Str)) = false := by decide) (he : starEach (e :: es) X.env = (false, eval e X.env) :: starEach es X.env := by rfl) (hpl : (backTo pos (starEach es X.env)).any (·.1) = false := by rfl) :
    PET X (.Call (.Name x p) (e :: es) [] pos) (tCall sp [] E0 t) := by
  obtain ⟨f, fd, F, hm, hk, hb⟩ := C
  intro pins s σ H Q h0 I h
  refine wpAny_Call_Name_kw (ld_glob I hg hm ?_ hdb)
  refine PySem.W.callWith_K (h₀ := X.base) I.ok.mod.kin hk (thn (ha pos pins s σ H _ h0 I h) fun us s1 ⟨vs, H1, I1, r, q⟩ => ⟨I1.kIn, ?_⟩) he hpl
  exact run_fn F hr hb .nil pass0 I1 r q
/-- text.replace(text[0], z) -/
def tRep0 (i : Nat) (z : Str) : TE := fun σ H Q => ∃ (x : Str) (c : Nat), σ[i]? = some (some (.str x)) ∧ x.length ≤ 1000000 ∧ x.cps.toList[0]? = some c ∧ x.length + (x.length + 1) * z.length ≤ 16777216 ∧ Q (.str (Txt.replace x ⟨#[c]⟩ z)) H
theorem pe_repl0 {i : Nat} {kx z : Str} {j0 j1 : Nat} {p1 p2 c0 c1 q0 apos pos : Pos} (hN : X.N[i]? = some kx) (hv : Vis X.env.scope kx) (hz : ∀ c : Nat, ((⟨#[c]⟩ : Str) == z) = false) (hs : PlainIx (.Constant (.int 0) j0 c0))
    (hd : (kx == ("__debug__" : Str)) = false := by decide) (hc : (kx == ("__classdict__" : Str)) = false := by decide)
    (hst : starEach [.Subscript (.Name kx p2) (.Constant (.int 0) j0 c0) q0, .Constant (.str z) j1 c1] X.env =
      [(false, eval (.Subscript (.Name kx p2) (.Constant (.int 0) j0 c0) q0) X.env), (false, eval (.Constant (.str z) j1 c1) X.env)] := by rfl)
    (hbase : attributeBase (.Name kx p1) "replace" X.env (eval (.Name kx p1) X.env) = eval (.Name kx p1) X.env := by rfl) (hline : (apos.endLine == pos.line) = true := by rfl) :
    PE X (.Call (.Attribute (.Name kx p1) "replace" apos) [.Subscript (.Name kx p2) (.Constant (.int 0) j0 c0) q0, .Constant (.str z) j1 c1] [] pos) (tRep0 i z) := by
  refine ⟨fun pins s σ H Q I h => ?_⟩
  obtain ⟨x, c, hx, hl, hx0, hb, q⟩ := h
  refine PySem.Call_method2 hbase hst hline (raw_name hN hv I hx (fun v r => ?_) hd hc)
  obtain ⟨tx, e⟩ := r
  subst e
  refine ⟨"str", _, F.plainAttrs_str, F.slot_str_replace, F.type_str_replace, typeIs_str _ _ _, (fun _ e => nomatch e), Calls.callWith_builtin rfl (Calls.evalArgs_plain (Calls.spliced_cons ?_))⟩
  refine Subscript_ (raw_name hN hv I hx (fun v r => ?_) hd hc)
  obtain ⟨t, rfl⟩ := r
  refine wpAny_Constant_int ?_
  have h0 : 0 < x.cps.toList.length := by
    rcases List.getElem?_eq_some_iff.mp hx0 with ⟨h, _⟩
    exact h
  have hll : x.cps.toList.length = x.length := by simp [Str.length]
  obtain ⟨j', h1, h2, h3, h4, h5⟩ := atI_get (xs := x.cps.toList) (i := 0) (v := c) (show atI x.cps.toList ((0 : Nat) : Int) = some c from atI_nat hx0)
  rw [hll] at h1 h4 h5
  refine tail_any (typeIs_str _ x t) slot_str_getitem.lookup (getItem_str (c := c) (by decide) (by rw [h1]; simpa using h2) ?_) (hs _ _)
  refine Calls.spliced_cons (Calls.Constant_str (Calls.spliced_nil ?_))
  exact PySem.SC.replace (by show s.toks + 1 ≠ 0; omega) (by show s.toks + 1 + 1 ≠ 0; omega) (by show s.toks + 1 ≠ s.toks + 1 + 1; omega) (hz c) hb fun t' k => ⟨.str (Txt.replace x ⟨#[c]⟩ z), H, I.tok k, ⟨t', rfl⟩, q⟩
end
/-- a text of at most n signs -/
def Tx (n : Nat) (x : Str) : Prop := x.length ≤ n ∧ SOk x
theorem Tx.mono {n m : Nat} {x : Str} (h : Tx n x) (hm : n ≤ m) : Tx m x := ⟨Nat.le_trans h.1 hm, h.2⟩
theorem Tx.add {n m : Nat} {x y : Str} (h : Tx n x) (g : Tx m y) : Tx (n + m) (x ++ y) := by
  refine ⟨by rw [Str.length_append]; exact Nat.add_le_add h.1 g.1, fun c hc => ?_⟩
  have e : (x ++ y).cps.toList = x.cps.toList ++ y.cps.toList := by rw [Str.cps_append, Array.toList_append]
  rw [e] at hc
  rcases List.mem_append.mp hc with hc | hc
  · exact h.2 c hc
  · exact g.2 c hc
open StrLaws in
theorem replS_mem {y z : List Nat} : ∀ (l : List Nat) (s : Nat) (c : Nat), c ∈ replS y z s l → c ∈ l ∨ c ∈ z
  | [], s, c => by
    rw [replS]
    exact fun h => .inl h
  | d :: r, 0, c => by
    rw [replS]
    split
    · intro h
      rcases List.mem_append.mp h with h | h
      · exact .inr h
      · rcases replS_mem r _ c h with h | h
        · exact .inl (List.mem_cons_of_mem _ h)
        · exact .inr h
    · intro h
      rcases List.mem_cons.mp h with h | h
      · exact .inl (h ▸ List.mem_cons_self ..)
      · rcases replS_mem r _ c h with h | h
        · exact .inl (List.mem_cons_of_mem _ h)
        · exact .inr h
  | d :: r, s + 1, c => by
    rw [replS]
    intro h
    rcases replS_mem r _ c h with h | h
    · exact .inl (List.mem_cons_of_mem _ h)
    · exact .inr h
theorem Tx.repl {n m : Nat} {x y z : Str} (h : Tx n x) (g : Tx m z) (hy : 1 ≤ y.length) : Tx (n + (n + 1) * m) (Txt.replace x y z) := by
  refine ⟨Nat.le_trans (TK.replace_len x y z) (Nat.add_le_add h.1 (Nat.mul_le_mul (Nat.succ_le_succ h.1) g.1)), fun c hc => ?_⟩
  rw [StrLaws.replace_list hy] at hc
  rcases replS_mem _ _ _ hc with hc | hc
  · exact h.2 c hc
  · exact g.2 c hc
theorem Tx.cut {n : Nat} {x : Str} (h : Tx n x) (lo hi : Option Int) : Tx n (cutS x lo hi) := by
  refine ⟨Nat.le_trans (cutS_length x lo hi) h.1, fun c hc => ?_⟩
  unfold cutS at hc
  exact h.2 c (List.mem_of_mem_drop (List.mem_of_mem_take hc))
theorem Tx.room {n m : Nat} {x y : Str} (h : Tx n x) (g : Tx m y) (hs : n + m ≤ 16000000) : x.length + y.length ≤ sizeLine := by
  have ez : sizeLine = 16777216 := by decide +kernel
  have := h.1
  have := g.1
  omega
theorem Tx.fits {n m : Nat} {x y : Str} (h : Tx n x) (g : Tx m y) (hs : n + (n + 1) * m ≤ 16000000) : x.length + (x.length + 1) * y.length ≤ 16777216 :=
  Nat.le_trans (Nat.add_le_add h.1 (Nat.mul_le_mul (Nat.succ_le_succ h.1) g.1)) (Nat.le_trans hs (by decide))
theorem Tx.num {i : Int} (h0 : -1 ≤ i) (h1 : i < 10000000) : Tx 8 (toString i : Str) ∧ i.natAbs.log2 < 1920 ∧ 0 < (toString i : Str).length := by
  rcases Int.lt_or_le i 0 with z | z
  · have : i = -1 := by omega
    subst this
    exact ⟨⟨by decide +kernel, by decide +kernel⟩, by decide +kernel, by decide +kernel⟩
  · obtain ⟨n, rfl⟩ := Int.eq_ofNat_of_zero_le z
    rw [S_num]
    refine ⟨⟨by rw [S_len]; exact Nat.le_trans (TL.numL_len (k := 7) (by decide) (by omega)) (by decide), fun c hc => ?_⟩, log2_num (Nat.lt_of_lt_of_le (m := 10000000) (by omega) (by decide)), ?_⟩
    · exact Nat.lt_of_le_of_lt (num_ok n c hc).2 (by decide)
    · rw [S_len]
      exact Nat.pos_of_ne_zero fun z => TL.numL_ne n (List.eq_nil_of_length_eq_zero z)
theorem Tx.row {r : List Nat} (h : Drawn r) : Tx 40 (S r) := ⟨by rw [S_len]; exact h.2, fun c hc => Nat.lt_of_le_of_lt (h.1.2 c hc).2 (by decide)⟩
theorem mem_joinL : ∀ (rows : List (List Nat)) (c : Nat), c ∈ joinL [10] rows → c = 10 ∨ ∃ r ∈ rows, c ∈ r
  | [], c, h => absurd h (by intro z; cases z)
  | [r], c, h => .inr ⟨r, List.mem_singleton.mpr rfl, h⟩
  | r :: t :: u, c, h => by
    have e : joinL [10] (r :: t :: u) = r ++ ([10] ++ joinL [10] (t :: u)) := rfl
    rw [e] at h
    rcases List.mem_append.mp h with h | h
    · exact .inr ⟨r, List.mem_cons_self .., h⟩
    · rcases List.mem_append.mp h with h | h
      · exact .inl (List.mem_singleton.mp h)
      · rcases mem_joinL (t :: u) c h with z | ⟨q, hq, z⟩
        · exact .inl z
        · exact .inr ⟨q, List.mem_cons_of_mem _ hq, z⟩
theorem Tx.body {rows : List (List Nat)} (h : ∀ r ∈ rows, Drawn r) (h5 : rows.length ≤ 5) (hne : rows ≠ []) : Tx 205 (S (joinL [10] rows)) ∧ joinL [10] rows ≠ [] := by
  have h1 := joinL_len [10] rows
  have h2 := Drawn.len h h5
  refine ⟨⟨?_, fun c hc => ?_⟩, ?_⟩
  · rw [S_len]
    rw [show [10].length = 1 from rfl] at h1
    omega
  · rcases mem_joinL rows c hc with z | ⟨r, hr, z⟩
    · rw [z]
      decide
    · exact (Tx.row (h r hr)).2 c z
  · match rows, hne with
    | [r], _ =>
      intro z
      exact (h r (List.mem_singleton.mpr rfl)).1.1 z
    | r :: t :: u, _ =>
      intro z
      exact absurd (congrArg List.length z) (by rw [show joinL [10] (r :: t :: u) = r ++ ([10] ++ joinL [10] (t :: u)) from rfl]; simp)
end Lr
namespace Lr
open PySem PySem.Spec PyProof.Rows L2 Lf CwR
theorem one_ne {z : Str} (h : z.length ≠ 1) (c : Nat) : ((⟨#[c]⟩ : Str) == z) = false := beq_eq_false_iff_ne.mpr fun e => h (by rw [← e]; rfl)
def AllT (n : Nat) (xs : List V) : Prop := ∀ v ∈ xs, ∃ z, v = V.str z ∧ Tx n z
theorem AllT.nil {n : Nat} : AllT n [] := fun _ h => absurd h (by intro z; cases z)
theorem AllT.cons {n m : Nat} {z : Str} {xs : List V} (h : Tx m z) (hm : m ≤ n) (t : AllT n xs) : AllT n (V.str z :: xs) := fun v hv => by
  rcases List.mem_cons.mp hv with e | hv
  · exact ⟨z, e, h.mono hm⟩
  · exact t v hv
theorem AllT.at {n i : Nat} {xs : List V} {v : V} (h : AllT n xs) (hv : xs[i]? = some v) : ∃ z, v = V.str z ∧ Tx n z := h v (List.mem_of_getElem? hv)
section
variable {P : Program} {w : World} {K : PySem.W.Frag} {mg : Str → Option Value} {base : Heap}
def spSpo (K : PySem.W.Frag) : Sp := fun vs H Q _ => ∃ (a l : Addr) (n : Nat) (rows : List (List Nat)), vs = [.ref a, .int (n : Int), .ref l] ∧ FeedAt H a ∧ l ≠ a ∧ n ≤ 100000 ∧ SqL K H l (rowV rows) ∧ rows ≠ [] ∧ rows.length ≤ 5 ∧ (∀ r ∈ rows, Drawn r) ∧
  ∀ (x : Str) (H' : Hp), Tx 1000 x → Kp a H H' → FeedAt H' a → Q (.str x) H'
abbrev sSpo : Stmt := topS 23
theorem scSpo : FnScope ["_law_feed_here", "_law_number", "_law_lines", "_law_body", "_law_way", "_law_size", "_law_head_here", "_law_odd", "_law_check_here"] ["_law_feed_here", "_law_number", "_law_lines"] (defScope sSpo) := ⟨rfl, rfl, rfl, by decide +kernel, rfl, by decide +kernel, by decide +kernel⟩
set_option maxHeartbeats 4000000 in
theorem ok_spo {f : Addr} {fd : FuncData} (F : Fun K "_law_spoilt" "_law_spoilt" sSpo f fd) (T : Bs mg) (c__law_take : Callee P w K mg base 1 "_law_take" ["_law_feed_here", "_law_many"] spTake) (c__law_pick : Callee P w K mg base 2 "_law_pick" ["_law_feed_here", "_law_some"] (spPick K))
    (c__law_check : Callee P w K mg base 1 "_law_check" ["_law_text"] spChk) : FnOk P w K mg base CX0 3 f fd ["_law_feed_here", "_law_number", "_law_lines"] (spSpo K) := by
  refine okT F scSpo (by decide +kernel) (by decide) (fun vs H Q E h => ?_) (fun cdv A outer s H vs Q E hr h => ?_)
  · obtain ⟨a, l, n, rows, rfl, _⟩ := h
    rfl
  · obtain ⟨a, l, n, rows, rfl, hF, hla, hn, hl, hne, h5, hd, q⟩ := h
    have nd := scSpo.nd
    refine ⟨_, (psst_cons (PST.of (ps_set (i := 3) nd rfl (Or.inl rfl) (pe_join pe_str (pv 2))))
 (psst_cons (PST.of (ps_set (i := 4) nd rfl (Or.inl rfl) (pe_own c__law_take (hr.mono (by decide)) (by rfl) (pa_cons (pv 0) (pa_cons pe_int pa_nil)))))
 (psst_cons (PST.of (ps_set (i := 5) nd rfl (Or.inl rfl) (pe_op op_add (pe_callB call_len_str (by rfl) T.len PySem.boot_len (pa_cons (pv 3) pa_nil)) (pe_ix ix_list (pe_lst (pa_cons pe_int (pa_cons pe_int (pa_cons (pe_un un_neg pe_int) (pa_cons pe_int pa_nil))))) (pe_op op_mod (pv 4) pe_int) (fun _ _ => rfl)))))
 (psst_cut (PST.of (ps_if (pt_cmpR op_eq (pv 4) pe_int (nomark _))
  (pss_one (ps_set (i := 1) nd rfl (Or.inl rfl) (pe_op op_add (pv 1) (pe_own c__law_pick (hr.mono (by decide)) (by rfl) (pa_cons (pv 0) (pa_cons (pe_lst (pa_cons pe_int (pa_cons (pe_un un_neg pe_int) (pa_cons pe_int pa_nil)))) pa_nil))))))
  pss_nil))
 (psst_cut (CwR.pst_if (pt_cmpR op_eq (pv 4) pe_int (nomark _)) (psst_cons (pst_set (i := 3) nd rfl (Or.inl rfl) (pet_own c__law_pick (hr.mono (by decide)) (by rfl) (pat_cons (PET.of (pv 0)) (pat_cons (pet_lst (pat_cons (PET.of (pe_op op_add_str (pv 3) pe_str)) (pat_cons (PET.of (pe_op op_add_str pe_str (pv 3))) (pat_cons (PET.of (pe_op op_add_str (pv 3) pe_str)) (pat_cons (PET.of (pe_repl0 (i := 3) rfl (by first | exact Or.inl rfl | exact Or.inr rfl | exact Or.inr (Or.inl rfl) | exact Or.inr (Or.inr rfl)) (one_ne (by decide +kernel)) (fun _ _ => rfl))) (pat_cons (PET.of pe_str) pat_nil)))))) pat_nil)))) (CwR.psst_one (PST.of (ps_set (i := 5) nd rfl (Or.inl rfl) (pe_callB call_len_str (by rfl) T.len PySem.boot_len (pa_cons (pv 3) pa_nil)))))) CwR.psst_nil)
 (psst_cut (PST.of (ps_if (pt_cmpR op_eq (pv 4) pe_int (nomark _))
  (pss_cons (ps_set (i := 3) nd rfl (Or.inl rfl) (pe_op op_add_str (pe_slice sl_str (pv 3) po_none (po_some (pe_un un_neg pe_int))) (pe_own c__law_pick (hr.mono (by decide)) (by rfl) (pa_cons (pv 0) (pa_cons (pe_lst (pa_cons pe_str (pa_cons pe_str (pa_cons pe_str pa_nil)))) pa_nil)))))
  (pss_one (ps_set (i := 5) nd rfl (Or.inl rfl) (pe_callB call_len_str (by rfl) T.len PySem.boot_len (pa_cons (pv 3) pa_nil)))))
  pss_nil))
 (psst_cons (PST.of (ps_set (i := 6) nd rfl (Or.inl rfl) (pe_op op_add_str (pe_op op_add_str (pe_op op_add_str (pe_callTy call_str_int (by rfl) T.str (by decide +kernel) (pa_cons (pv 1) pa_nil)) pe_str) (pe_callTy call_str_int (by rfl) T.str (by decide +kernel) (pa_cons (pv 5) pa_nil))) pe_str)))
 (psst_cut (CwR.pst_if (pt_cmpR op_eq (pv 4) pe_int (nomark _)) (psst_cons (pst_set (i := 7) nd rfl (Or.inl rfl) (pet_lst (pat_cons (PET.of (pe_op op_add_str pe_str (pv 6))) (pat_cons (PET.of (pe_op op_add_str pe_str (pv 6))) (pat_cons (CwR.pet_replC (pv 6)) (pat_cons (CwR.pet_replC (pv 6)) (pat_cons (PET.of (pe_op op_add_str pe_str (pv 6))) pat_nil))))))) (CwR.psst_one (pst_set (i := 6) nd rfl (Or.inl rfl) (pet_own c__law_pick (hr.mono (by decide)) (by rfl) (pat_cons (PET.of (pv 0)) (pat_cons (CwR.pet_op op_cat (PET.of (pv 7)) (pet_lst (pat_cons (CwR.pet_replC (pv 6)) (pat_cons (PET.of (pe_op op_add_str (pe_op op_add_str (pe_ix ix_str (pv 6) pe_int (fun _ _ => rfl)) pe_str) (pv 6))) pat_nil)))) pat_nil)))))) CwR.psst_nil)
 (psst_cut (CwR.pst_if (pt_cmpR op_eq (pv 4) pe_int (nomark _)) (CwR.psst_one (pst_set (i := 6) nd rfl (Or.inl rfl) (pet_own c__law_pick (hr.mono (by decide)) (by rfl) (pat_cons (PET.of (pv 0)) (pat_cons (pet_lst (pat_cons (CwR.pet_replC (pv 6)) (pat_cons (CwR.pet_replC (pv 6)) (pat_cons (CwR.pet_replC (pv 6)) (pat_cons (PET.of (pe_op op_add_str pe_str (pv 6))) pat_nil))))) pat_nil))))) CwR.psst_nil)
 (psst_cons (PST.of (ps_set (i := 8) nd rfl (Or.inl rfl) (pe_callTy call_str_int (by rfl) T.str (by decide +kernel) (pa_cons (pe_op op_add (pe_own c__law_check (hr.mono (by decide)) (by rfl) (pa_cons (pe_op op_add_str (pv 6) (pv 3)) pa_nil)) (pe_callTy call_int1 (by rfl) T.int (by decide +kernel) (pa_cons (pe_cmpR op_eq (pv 4) pe_int (nomark _)) pa_nil))) pa_nil))))
 (psst_cut (PST.of (ps_if (pt_cmpR op_eq (pv 4) pe_int (nomark _))
  (pss_one (ps_set (i := 8) nd rfl (Or.inl rfl) (pe_own c__law_pick (hr.mono (by decide)) (by rfl) (pa_cons (pv 0) (pa_cons (pe_lst (pa_cons (pe_op op_add_str pe_str (pv 8)) (pa_cons pe_str (pa_cons (pe_op op_add_str (pv 8) pe_str) (pa_cons (pe_op op_add_str (pv 8) pe_str) pa_nil))))) pa_nil)))))
  pss_nil))
 (CwR.psst_one (PST.of (ps_ret (pe_op op_add_str (pe_op op_add_str (pe_op op_add_str (pe_op op_add_str (pv 6) (pv 8)) pe_str) (pv 3)) (pe_own c__law_pick (hr.mono (by decide)) (by rfl) (pa_cons (pv 0) (pa_cons (pe_lst (pa_cons pe_str (pa_cons pe_str (pa_cons pe_str (pa_cons pe_str (pa_cons pe_str (pa_cons pe_str pa_nil))))))) pa_nil)))))))))))))))))), ?_⟩
    have ez : sizeLine = 16777216 := by decide +kernel
    have big : ∀ n : Int, n ≤ 2000000 → n ≤ 10 ^ 60 := fun n hn => Int.le_trans hn (by decide +kernel)
    have hb := Tx.body hd h5 hne
    have dl := Drawn.len hd h5
    refine ⟨⟨_, rfl⟩, .ref l, rfl, _, l, rows.map S, rfl, rfl, .inl (by rw [List.map_map]; exact hl), ?_, ?_⟩
    · rw [List.map_map, List.length_map, zn, S_len]
      show (rows.map List.length).sum + rows.length * 1 ≤ 16777216
      omega
    rw [zn, S_join]
    have hbp : 0 < (S (joinL [10] rows)).length := by
      rw [S_len]
      exact Nat.pos_of_ne_zero fun z => hb.2 (List.eq_nil_of_length_eq_zero z)
    have hb1 := hb.1
    generalize S (joinL [10] rows) = b at hb1 hbp ⊢
    refine ⟨.ref a, rfl, a, 10, rfl, hF, by decide, big _ (by decide), fun way H1 k1 f1 y0 y1 => ?_⟩
    obtain ⟨sz, hsz, sz0, sz1⟩ : ∃ sz : Int, atI [V.int 0, V.int 1, V.int (-1), V.int 0] (way % 4) = some (.int sz) ∧ -1 ≤ sz ∧ sz ≤ 1 := by
      have h0 : 0 ≤ way % 4 := Int.emod_nonneg _ (by decide)
      have h4 : way % 4 < 4 := Int.emod_lt_of_pos _ (by decide)
      generalize way % 4 = r at h0 h4
      obtain ⟨m, rfl⟩ := Int.eq_ofNat_of_zero_le h0
      rcases m with _ | _ | _ | _ | m
      · exact ⟨0, atI_nat rfl, by decide, by decide⟩
      · exact ⟨1, atI_nat rfl, by decide, by decide⟩
      · exact ⟨-1, atI_nat rfl, by decide, by decide⟩
      · exact ⟨0, atI_nat rfl, by decide, by decide⟩
      · omega
    refine ⟨.str b, rfl, b, rfl, by rw [ez]; have := hb1.1; omega, 1, rfl, (by show 4 ≤ sizeLine; decide), fun p0 hp0 => ?_⟩
    refine ⟨.int way, rfl, way, 4, rfl, rfl, (show (0 : Int) < 4 by decide), p0, _, _, _, rfl, rfl, SqL.of upd_same, hsz, _, _, rfl, rfl, ?_⟩
    have k1' := k1.new (o := .lst [V.int 0, V.int 1, V.int (-1), V.int 0]) hp0
    have f1' := f1.new (o := .lst [V.int 0, V.int 1, V.int (-1), V.int 0]) hp0
    have z0 : -1 ≤ ((b.length : Nat) : Int) + sz := by omega
    have z1 : ((b.length : Nat) : Int) + sz < 1000000 := by have := hb1.1; omega
    show Evl.tCut _ _ _ [some (.ref a), some (.int (n : Int)), some (.ref l), some (.str b), some (.int way), some (.int (((b.length : Nat) : Int) + sz)), none, none, none] _
    generalize ((b.length : Nat) : Int) + sz = size at z0 z1 ⊢
    generalize (upd H1 p0 (.lst [V.int 0, V.int 1, V.int (-1), V.int 0])) = H2 at k1' f1' ⊢
    -- 0: the number
    refine ⟨fun σ' H' => ∃ m : Int, -1 ≤ m ∧ m < 1000000 ∧ Kp a H H' ∧ FeedAt H' a ∧ σ' = [some (.ref a), some (.int m), some (.ref l), some (.str b), some (.int way), some (.int size), none, none, none], ?_, fun σ' H' hm => ?_⟩
    · refine ⟨.int way, rfl, rfl, _, rfl, ite2 (fun c => ?_) (fun c => ?_)⟩
      · refine ⟨_, rfl, .ref a, rfl, 1, rfl, (by show 3 ≤ sizeLine; decide), fun l1 hl1 => ⟨a, l1, _, rfl, f1'.new hl1, f1'.ne hl1, SqL.of upd_same, (by show 0 < 3; decide), (by show 3 ≤ 1000; decide), fun i v H3 hv k3 f3 => ?_⟩⟩
        obtain ⟨m, rfl, hm0, hm1⟩ : ∃ m : Int, v = .int m ∧ -1 ≤ m ∧ m ≤ 2 := by
          rcases i with _ | _ | _ | i
          · exact ⟨1, (Option.some.inj hv).symm, by decide, by decide⟩
          · exact ⟨-1, (Option.some.inj hv).symm, by decide, by decide⟩
          · exact ⟨2, (Option.some.inj hv).symm, by decide, by decide⟩
          · cases hv
        exact ⟨_, _, rfl, rfl, (n : Int) + m, by omega, by omega, (k1'.new hl1).trans k3, f3, rfl⟩
      · exact ⟨(n : Int), by omega, by omega, k1', f1', rfl⟩
    obtain ⟨num, nu0, nu1, k4, f4, rfl⟩ := hm
    have lit : ∀ {n : Nat} {z : Str}, z.length ≤ n → SOk z → Tx n z := fun h g => ⟨h, g⟩
    have t10 : Tx 1 (S [10]) := ⟨by decide +kernel, by decide +kernel⟩
    have tnn : Tx 2 ("\n\n" : Str) := ⟨by decide +kernel, by decide +kernel⟩
    -- 4: the body
    refine ⟨fun σ' H' => ∃ (bd : Str) (size : Int), Tx 620 bd ∧ -1 ≤ size ∧ size < 1000000 ∧ Kp a H H' ∧ FeedAt H' a ∧ σ' = [some (.ref a), some (.int num), some (.ref l), some (.str bd), some (.int way), some (.int size), none, none, none], ?_, fun σ' H' hm => ?_⟩
    · refine ⟨.int way, rfl, rfl, _, rfl, ite2 (fun c => ?_) (fun c => ?_)⟩
      · obtain ⟨c0, hc0⟩ : ∃ c0, b.cps.toList[0]? = some c0 := by
          have hll : b.cps.toList.length = b.length := by simp [Str.length]
          exact ⟨_, List.getElem?_eq_getElem (by rw [hll]; exact hbp)⟩
        refine ⟨.ref a, rfl, .str b, rfl, b, _, rfl, rfl, hb1.room t10 (by decide), .str b, rfl, _, b, rfl, rfl, t10.room hb1 (by decide), .str b, rfl, b, _, rfl, rfl, hb1.room tnn (by decide), b, c0, rfl, Nat.le_trans hb1.1 (by decide), hc0, hb1.fits tnn (by decide), (by show 5 ≤ sizeLine; decide),
          fun l1 hl1 => ⟨a, l1, _, rfl, f4.new hl1, f4.ne hl1, SqL.of upd_same, (by show 0 < 5; decide), (by show 5 ≤ 1000; decide), fun i v H3 hv k3 f3 => ?_⟩⟩
        have hall : AllT 620 [V.str (b ++ S [10]), V.str (S [10] ++ b), V.str (b ++ "\n\n"), V.str (Txt.replace b ⟨#[c0]⟩ "\n\n"), V.str ""] :=
          .cons (hb1.add t10) (by decide) (.cons (t10.add hb1) (by decide) (.cons (hb1.add tnn) (by decide) (.cons (hb1.repl tnn (Nat.le_refl 1)) (by decide) (.cons (lit (n := 0) (by decide +kernel) (by decide +kernel)) (by decide) .nil))))
        obtain ⟨z, rfl, hz⟩ := hall.at hv
        exact ⟨.str z, rfl, z, rfl, Nat.le_trans hz.1 (by decide), z, _, hz, by omega, by have := hz.1; omega, (k4.new hl1).trans k3, f3, rfl⟩
      · exact ⟨b, size, hb1.mono (by decide), z0, z1, k4, f4, rfl⟩
    obtain ⟨bd, size, hbd, s0, s1, k5, f5, rfl⟩ := hm
    -- 9: the body again
    refine ⟨fun σ' H' => ∃ (bd : Str) (size : Int), Tx 630 bd ∧ -1 ≤ size ∧ size < 1000000 ∧ Kp a H H' ∧ FeedAt H' a ∧ σ' = [some (.ref a), some (.int num), some (.ref l), some (.str bd), some (.int way), some (.int size), none, none, none], ?_, fun σ' H' hm => ?_⟩
    · refine ⟨.int way, rfl, rfl, _, rfl, ite2 (fun c => ?_) (fun c => ?_)⟩
      · refine ⟨.str bd, rfl, 1, rfl, _, rfl, bd, rfl, Nat.le_trans hbd.1 (by decide), .ref a, rfl, (by show 3 ≤ sizeLine; decide),
          fun l1 hl1 => ⟨a, l1, _, rfl, f5.new hl1, f5.ne hl1, SqL.of upd_same, (by show 0 < 3; decide), (by show 3 ≤ 1000; decide), fun i v H3 hv k3 f3 => ?_⟩⟩
        have hall : AllT 1 [V.str "\t", V.str "\t", V.str "~"] :=
          .cons (lit (n := 1) (by decide +kernel) (by decide +kernel)) (by decide) (.cons (lit (n := 1) (by decide +kernel) (by decide +kernel)) (by decide) (.cons (lit (n := 1) (by decide +kernel) (by decide +kernel)) (by decide) .nil))
        obtain ⟨z, rfl, hz⟩ := hall.at hv
        have hz2 := (hbd.cut none (some (-1))).add hz
        exact ⟨_, z, rfl, rfl, (hbd.cut none (some (-1))).room hz (by decide), _, rfl, _, rfl, Nat.le_trans hz2.1 (by decide), _, _, hz2.mono (by decide), by omega, by have := hz2.1; omega, (k5.new hl1).trans k3, f3, rfl⟩
      · exact ⟨bd, size, hbd.mono (by decide), s0, s1, k5, f5, rfl⟩
    clear hbd s0 s1 k5 f5 hb1 hbp
    obtain ⟨bd, size, hbd, s0, s1, k5, f5, rfl⟩ := hm
    obtain ⟨tn, ln, pn⟩ := Tx.num nu0 (Int.lt_trans nu1 (by decide))
    obtain ⟨ts, ls, ps⟩ := Tx.num s0 (Int.lt_trans s1 (by decide))
    have tsp : Tx 1 (" " : Str) := ⟨by decide +kernel, by decide +kernel⟩
    have tco : Tx 1 (":" : Str) := ⟨by decide +kernel, by decide +kernel⟩
    refine ⟨_, rfl, num, rfl, ln, _, _, rfl, rfl, tn.room tsp (by decide), _, rfl, size, rfl, ls, _, _, rfl, rfl, (tn.add tsp).room ts (by decide), _, _, rfl, rfl, ((tn.add tsp).add ts).room tco (by decide), ?_⟩
    have hh : Tx 18 ((toString num : Str) ++ " " ++ (toString size : Str) ++ ":") := (((tn.add tsp).add ts).add tco).mono (by decide)
    have hp : 0 < ((toString num : Str) ++ " " ++ (toString size : Str) ++ ":").length := by
      rw [Str.length_append, Str.length_append, Str.length_append]
      omega
    show Evl.tCut _ _ _ [some (.ref a), some (.int num), some (.ref l), some (.str bd), some (.int way), some (.int size), some (.str ((toString num : Str) ++ " " ++ (toString size : Str) ++ ":")), none, none] _
    generalize ((toString num : Str) ++ " " ++ (toString size : Str) ++ ":") = hd at hh hp ⊢
    -- 5: the head
    have c1 : ∀ z : Str, z.length = 1 → SOk z → Tx 1 z := fun z h g => ⟨Nat.le_of_eq h, g⟩
    refine ⟨fun σ' H' => ∃ (hd : Str) (o : Option V), Tx 60 hd ∧ Kp a H H' ∧ FeedAt H' a ∧ σ' = [some (.ref a), some (.int num), some (.ref l), some (.str bd), some (.int way), some (.int size), some (.str hd), o, none], ?_, fun σ' H' hm => ?_⟩
    · refine ⟨.int way, rfl, rfl, _, rfl, ite2 (fun c => ?_) (fun c => ?_)⟩
      · obtain ⟨c0, hc0⟩ : ∃ c0, hd.cps.toList[0]? = some c0 := by
          have hll : hd.cps.toList.length = hd.length := by simp [Str.length]
          exact ⟨_, List.getElem?_eq_getElem (by rw [hll]; exact hp)⟩
        have t0 : Tx 1 ("0" : Str) := ⟨by decide +kernel, by decide +kernel⟩
        have tp : Tx 1 ("+" : Str) := ⟨by decide +kernel, by decide +kernel⟩
        have tu : Tx 1 ("_" : Str) := ⟨by decide +kernel, by decide +kernel⟩
        have r0 : Tx 2 (" 0" : Str) := ⟨by decide +kernel, by decide +kernel⟩
        have r1 : Tx 2 ("  " : Str) := ⟨by decide +kernel, by decide +kernel⟩
        have r2 : Tx 2 (" +" : Str) := ⟨by decide +kernel, by decide +kernel⟩
        have y1 : 1 ≤ (" " : Str).length := by decide +kernel
        have tc0 : Tx 1 (⟨#[c0]⟩ : Str) := ⟨Nat.le_refl 1, fun c hc => by
          have e : c = c0 := by simpa using hc
          rw [e]
          exact hh.2 c0 (List.mem_of_getElem? hc0)⟩
        refine ⟨.str hd, rfl, _, _, rfl, rfl, t0.room hh (by decide), .str hd, rfl, _, _, rfl, rfl, tsp.room hh (by decide), .str hd, rfl, hd, rfl, hh.fits r0 (by decide), .str hd, rfl, hd, rfl, hh.fits r1 (by decide), .str hd, rfl, _, _, rfl, rfl, tp.room hh (by decide), (by show 5 ≤ sizeLine; decide), fun l1 hl1 => ?_⟩
        have e1 : (upd H' l1 (.lst [V.str ("0" ++ hd), V.str (" " ++ hd), V.str (Txt.replace hd " " " 0"), V.str (Txt.replace hd " " "  "), V.str ("+" ++ hd)])) l1 = _ := upd_same
        have f6 := f5.new (o := .lst [V.str ("0" ++ hd), V.str (" " ++ hd), V.str (Txt.replace hd " " " 0"), V.str (Txt.replace hd " " "  "), V.str ("+" ++ hd)]) hl1
        have k6 := k5.new (o := .lst [V.str ("0" ++ hd), V.str (" " ++ hd), V.str (Txt.replace hd " " " 0"), V.str (Txt.replace hd " " "  "), V.str ("+" ++ hd)]) hl1
        refine ⟨.ref a, rfl, .ref l1, rfl, .str hd, rfl, hd, rfl, hh.fits r2 (by decide), .str hd, rfl, hd, 0, c0, rfl, rfl, Nat.le_trans hh.1 (by decide), (show atI hd.cps.toList ((0 : Nat) : Int) = some c0 from atI_nat hc0), _, _, rfl, rfl, tc0.room tu (by decide), .str hd, rfl, _, _, rfl, rfl, (tc0.add tu).room hh (by decide), (by show 2 ≤ sizeLine; decide), fun l2 hl2 => ?_⟩
        have n12 : l1 ≠ l2 := ne_of_none e1 hl2
        refine ⟨l1, l2, [V.str ("0" ++ hd), V.str (" " ++ hd), V.str (Txt.replace hd " " " 0"), V.str (Txt.replace hd " " "  "), V.str ("+" ++ hd)], _, rfl, rfl, ?_, upd_same, (by show 7 ≤ sizeLine; decide), fun l3 hl3 => ?_⟩
        · rw [upd_ne n12]
          exact e1
        refine ⟨a, l3, _, rfl, (f6.new hl2).new hl3, (f6.new hl2).ne hl3, SqL.of upd_same, (by show 0 < 7; decide), (by show 7 ≤ 1000; decide), fun i v H3 hv k3 f3 => ?_⟩
        have hall : AllT 60 ([V.str ("0" ++ hd), V.str (" " ++ hd), V.str (Txt.replace hd " " " 0"), V.str (Txt.replace hd " " "  "), V.str ("+" ++ hd)] ++ [V.str (Txt.replace hd " " " +"), V.str (⟨#[c0]⟩ ++ "_" ++ hd)]) :=
          .cons (t0.add hh) (by decide) (.cons (tsp.add hh) (by decide) (.cons (hh.repl r0 y1) (by decide) (.cons (hh.repl r1 y1) (by decide) (.cons (tp.add hh) (by decide) (.cons (hh.repl r2 y1) (by decide) (.cons ((tc0.add tu).add hh) (by decide) .nil))))))
        obtain ⟨z, rfl, hz⟩ := hall.at hv
        exact ⟨z, _, hz, ((k6.new hl2).new hl3).trans k3, f3, rfl⟩
      · exact ⟨hd, none, hh.mono (by decide), k5, f5, rfl⟩
    clear hh hp k5 f5
    obtain ⟨hd, o, hh, k5, f5, rfl⟩ := hm
    -- 6: the head again
    refine ⟨fun σ' H' => ∃ (hd : Str), Tx 130 hd ∧ Kp a H H' ∧ FeedAt H' a ∧ σ' = [some (.ref a), some (.int num), some (.ref l), some (.str bd), some (.int way), some (.int size), some (.str hd), o, none], ?_, fun σ' H' hm => ?_⟩
    · refine ⟨.int way, rfl, rfl, _, rfl, ite2 (fun c => ?_) (fun c => ?_)⟩
      · have te : Tx 1 ("=" : Str) := ⟨by decide +kernel, by decide +kernel⟩
        have tz : Tx 0 ("" : Str) := ⟨by decide +kernel, by decide +kernel⟩
        have tm : Tx 1 ("-" : Str) := ⟨by decide +kernel, by decide +kernel⟩
        have y1 : 1 ≤ (" " : Str).length := by decide +kernel
        have y2 : 1 ≤ (":" : Str).length := by decide +kernel
        refine ⟨.ref a, rfl, .str hd, rfl, hd, rfl, hh.fits te (by decide), .str hd, rfl, hd, rfl, hh.fits tco (by decide), .str hd, rfl, hd, rfl, hh.fits tz (by decide), .str hd, rfl, _, _, rfl, rfl, tm.room hh (by decide), (by show 4 ≤ sizeLine; decide),
          fun l1 hl1 => ⟨a, l1, _, rfl, f5.new hl1, f5.ne hl1, SqL.of upd_same, (by show 0 < 4; decide), (by show 4 ≤ 1000; decide), fun i v H3 hv k3 f3 => ?_⟩⟩
        have hall : AllT 130 [V.str (Txt.replace hd ":" "="), V.str (Txt.replace hd " " ":"), V.str (Txt.replace hd ":" ""), V.str ("-" ++ hd)] :=
          .cons (hh.repl te y2) (by decide) (.cons (hh.repl tco y1) (by decide) (.cons (hh.repl tz y2) (by decide) (.cons (tm.add hh) (by decide) .nil)))
        obtain ⟨z, rfl, hz⟩ := hall.at hv
        exact ⟨z, hz, (k5.new hl1).trans k3, f3, rfl⟩
      · exact ⟨hd, hh.mono (by decide), k5, f5, rfl⟩
    clear hh k5 f5
    obtain ⟨hd, hh, k5, f5, rfl⟩ := hm
    -- the check
    have te : Tx 1 ("=" : Str) := ⟨by decide +kernel, by decide +kernel⟩
    refine ⟨_, rfl, _, rfl, _, _, rfl, rfl, hh.room hbd (by decide), _, rfl, .int way, rfl, rfl, .inr ⟨_, rfl, ?_⟩⟩
    have hck := chk_lt (tl (hd ++ bd))
    generalize chkL (tl (hd ++ bd)) = ck at hck ⊢
    obtain ⟨j, ej, j0, j1⟩ : ∃ j : Int, (if (decide (V.int way = V.int 7)) = true then (1 : Int) else 0) = j ∧ 0 ≤ j ∧ j ≤ 1 := by
      split
      · exact ⟨1, rfl, by decide, by decide⟩
      · exact ⟨0, rfl, by decide, by decide⟩
    obtain ⟨tk, lk, pk⟩ := Tx.num (i := ((ck : Nat) : Int) + j) (by omega) (by omega)
    refine ⟨_, _, rfl, rfl, _, rfl, ?_, ?_⟩
    · rw [ej]
      exact lk
    rw [ej]
    show Evl.tCut _ _ _ [some (.ref a), some (.int num), some (.ref l), some (.str bd), some (.int way), some (.int size), some (.str hd), o, some (.str (toString (((ck : Nat) : Int) + j) : Str))] _
    generalize (toString (((ck : Nat) : Int) + j) : Str) = ch at tk pk ⊢
    refine ⟨fun σ' H' => ∃ (ch : Str), Tx 10 ch ∧ Kp a H H' ∧ FeedAt H' a ∧ σ' = [some (.ref a), some (.int num), some (.ref l), some (.str bd), some (.int way), some (.int size), some (.str hd), o, some (.str ch)], ?_, fun σ' H' hm => ?_⟩
    · refine ⟨.int way, rfl, rfl, _, rfl, ite2 (fun c => ?_) (fun c => ?_)⟩
      · have tz : Tx 0 ("" : Str) := ⟨by decide +kernel, by decide +kernel⟩
        have t0 : Tx 1 ("0" : Str) := ⟨by decide +kernel, by decide +kernel⟩
        refine ⟨.ref a, rfl, .str ch, rfl, _, _, rfl, rfl, t0.room tk (by decide), .str ch, rfl, _, _, rfl, rfl, tk.room tsp (by decide), .str ch, rfl, _, _, rfl, rfl, tk.room te (by decide), (by show 4 ≤ sizeLine; decide),
          fun l1 hl1 => ⟨a, l1, _, rfl, f5.new hl1, f5.ne hl1, SqL.of upd_same, (by show 0 < 4; decide), (by show 4 ≤ 1000; decide), fun i v H3 hv k3 f3 => ?_⟩⟩
        have hall : AllT 10 [V.str ("0" ++ ch), V.str "", V.str (ch ++ " "), V.str (ch ++ "=")] :=
          .cons (t0.add tk) (by decide) (.cons tz (by decide) (.cons (tk.add tsp) (by decide) (.cons (tk.add te) (by decide) .nil)))
        obtain ⟨z, rfl, hz⟩ := hall.at hv
        exact ⟨z, hz, (k5.new hl1).trans k3, f3, rfl⟩
      · exact ⟨ch, tk.mono (by decide), k5, f5, rfl⟩
    clear tk pk k5 f5
    obtain ⟨ch, tk, k5, f5, rfl⟩ := hm
    have tz : Tx 0 ("" : Str) := ⟨by decide +kernel, by decide +kernel⟩
    refine ⟨_, rfl, _, rfl, _, _, rfl, rfl, hh.room tk (by decide), _, _, rfl, rfl, (hh.add tk).room te (by decide), .str bd, rfl, _, _, rfl, rfl, ((hh.add tk).add te).room hbd (by decide), .ref a, rfl, (by show 6 ≤ sizeLine; decide),
      fun l1 hl1 => ⟨a, l1, _, rfl, f5.new hl1, f5.ne hl1, SqL.of upd_same, (by show 0 < 6; decide), (by show 6 ≤ 1000; decide), fun i v H3 hv k3 f3 => ?_⟩⟩
    have hall : AllT 2 [V.str (S [10]), V.str (S [10]), V.str (S [10]), V.str "", V.str "\n\n", V.str " "] :=
      .cons t10 (by decide) (.cons t10 (by decide) (.cons t10 (by decide) (.cons tz (by decide) (.cons tnn (by decide) (.cons tsp (by decide) .nil)))))
    obtain ⟨z, rfl, hz⟩ := hall.at hv
    have hz2 := (((hh.add tk).add te).add hbd).add hz
    exact ⟨_, _, rfl, rfl, (((hh.add tk).add te).add hbd).room hz (by decide), q _ _ (hz2.mono (by decide)) ((k5.new hl1).trans k3) f3⟩
end
end Lr
namespace Lr
open PySem PySem.Spec PyProof.Rows L2 Lf CwR
theorem recL_sok (n : Nat) {rows : List (List Nat)} (h : ∀ r ∈ rows, ∀ c ∈ r, c < 1114112) : ∀ c ∈ recL n rows, c < 1114112 := by
  intro c hc
  have num : ∀ k c, c ∈ numL k → c < 1114112 := fun k c hc => Nat.lt_of_le_of_lt (num_ok k c hc).2 (by decide)
  have body : ∀ c ∈ joinL [10] rows, c < 1114112 := fun c hc => by
    rcases mem_joinL rows c hc with z | ⟨r, hr, z⟩
    · rw [z]
      decide
    · exact h r hr c z
  unfold recL at hc
  simp only [List.mem_append, List.mem_cons, List.not_mem_nil, or_false] at hc
  rcases hc with ((((((hc | hc) | hc) | hc) | hc) | hc) | hc) | hc
  · exact num _ c hc
  · rw [hc]; decide
  · exact num _ c hc
  · rw [hc]; decide
  · exact num _ c hc
  · rw [hc]; decide
  · exact body c hc
  · rw [hc]; decide
theorem Tx.rec {n : Nat} {rows : List (List Nat)} (hn : n < 10000) (h : ∀ r ∈ rows, Drawn r) (h5 : rows.length ≤ 5) : Tx 1000 (S (recL n rows)) :=
  ⟨by rw [S_len]; exact Nat.le_trans (Drawn.rec_len (Nat.lt_of_lt_of_le hn (by decide +kernel)) h h5) (by decide), recL_sok n fun r hr => (Tx.row (h r hr)).2⟩
theorem map_erase {α β : Type} (f : α → β) : ∀ (l : List α) (j : Nat), (l.eraseIdx j).map f = (l.map f).eraseIdx j
  | [], j => by cases j <;> rfl
  | a :: l, 0 => rfl
  | a :: l, j + 1 => by
    show f a :: (l.eraseIdx j).map f = f a :: (l.map f).eraseIdx j
    rw [map_erase f l j]
theorem mem_joinE : ∀ (rows : List (List Nat)) (c : Nat), c ∈ joinL [] rows → ∃ r ∈ rows, c ∈ r
  | [], c, h => absurd h (by intro z; cases z)
  | [r], c, h => ⟨r, List.mem_singleton.mpr rfl, h⟩
  | r :: t :: u, c, h => by
    have e : joinL [] (r :: t :: u) = r ++ ([] ++ joinL [] (t :: u)) := rfl
    rw [e] at h
    rcases List.mem_append.mp h with h | h
    · exact ⟨r, List.mem_cons_self .., h⟩
    · obtain ⟨q, hq, z⟩ := mem_joinE (t :: u) c h
      exact ⟨q, List.mem_cons_of_mem _ hq, z⟩
theorem sum_le {m : Nat} : ∀ (xs : List Str), (∀ x ∈ xs, Tx m x) → (xs.map Str.length).sum ≤ xs.length * m
  | [], _ => Nat.zero_le _
  | x :: xs, h => by
    rw [List.map_cons, List.sum_cons, List.length_cons, Nat.succ_mul]
    have h1 := (h x (List.mem_cons_self ..)).1
    have h2 := sum_le xs fun y hy => h y (List.mem_cons_of_mem _ hy)
    omega
theorem Tx.join {m : Nat} {xs : List Str} (h : ∀ x ∈ xs, Tx m x) : Tx (xs.length * m) (Txt.join "" xs) := by
  have e : Txt.join "" xs = S (joinL [] (xs.map tl)) := by
    have z := S_join [] (xs.map tl)
    rw [List.map_map] at z
    have e2 : xs.map (S ∘ tl) = xs := by
      conv => rhs; rw [← List.map_id xs]
      exact List.map_congr_left fun x _ => S_tl x
    rw [e2] at z
    exact z
  rw [e]
  refine ⟨?_, fun c hc => ?_⟩
  · rw [S_len]
    have h1 := joinL_len [] (xs.map tl)
    have h2 := sum_le xs h
    have e3 : ((xs.map tl).map List.length) = xs.map Str.length := by
      rw [List.map_map]
      exact List.map_congr_left fun x _ => (len_tl x).symm
    rw [e3] at h1
    simp only [List.length_nil, Nat.mul_zero, Nat.add_zero] at h1
    omega
  · obtain ⟨r, hr, z⟩ := mem_joinE _ c hc
    obtain ⟨x, hx, rfl⟩ := List.mem_map.mp hr
    exact (h x hx).2 c z
section
variable {P : Program} {w : World} {K : PySem.W.Frag} {mg : Str → Option Value} {base : Heap}
def spLog : Sp := fun vs H Q _ => ∃ (a : Addr), vs = [.ref a] ∧ FeedAt H a ∧ ∀ (x : Str) (H' : Hp), Tx 20000 x → Kp a H H' → FeedAt H' a → Q (.str x) H'
abbrev sLog : Stmt := topS 24
theorem scLog : FnScope ["_law_feed_here", "_law_number", "_law_found", "_law_k", "_law_lines", "_law_way", "_law_log_here"] ["_law_feed_here"] (defScope sLog) := ⟨rfl, rfl, rfl, by decide +kernel, rfl, by decide +kernel, by decide +kernel⟩
set_option maxHeartbeats 4000000 in
theorem ok_log {f : Addr} {fd : FuncData} (F : Fun K "_law_log" "_law_log" sLog f fd) (T : Bs mg) (c__law_take : Callee P w K mg base 1 "_law_take" ["_law_feed_here", "_law_many"] spTake) (c__law_pick : Callee P w K mg base 2 "_law_pick" ["_law_feed_here", "_law_some"] (spPick K))
    (c__law_rows_drawn : Callee P w K mg base 4 "_law_rows_drawn" ["_law_feed_here"] spRowsD) (c__law_record : Callee P w K mg base 2 "_law_record" ["_law_number", "_law_lines"] (spLRec K)) (c__law_spoilt : Callee P w K mg base 3 "_law_spoilt" ["_law_feed_here", "_law_number", "_law_lines"] (spSpo K)) :
    FnOk P w K mg base CX0 5 f fd ["_law_feed_here"] spLog := by
  refine F.ok scLog (fun vs H Q E h => ?_) (fun cdv A outer s H vs Q E hr h => ?_)
  · obtain ⟨a, rfl, _⟩ := h
    rfl
  · obtain ⟨a, rfl, hF, q⟩ := h
    have nd := scLog.nd
    refine ⟨_, (Evl.pss_cut (ps_set (i := 1) nd rfl (Or.inl rfl) (pe_own c__law_pick (hr.mono (by decide)) (by rfl) (pa_cons (pv 0) (pa_cons (pe_lst (pa_cons pe_int (pa_cons pe_int (pa_cons pe_int (pa_cons pe_int (pa_cons pe_int (pa_cons (pe_own c__law_take (hr.mono (by decide)) (by rfl) (pa_cons (pv 0) (pa_cons pe_int pa_nil))) pa_nil))))))) pa_nil))))
  (pss_cons (ps_set (i := 2) nd rfl (Or.inl rfl) (pe_lst pa_nil))
  (pss_cons (ps_for PassesOwn.never rfl (pi_range1 (by rfl) T.range (pa_cons (pe_own c__law_take (hr.mono (by decide)) (by rfl) (pa_cons (pv 0) (pa_cons pe_int pa_nil))) pa_nil)) (pg_name (i := 3) nd rfl (Or.inl rfl))
  (pss_cons (ps_set (i := 4) nd rfl (Or.inl rfl) (pe_own c__law_rows_drawn (hr.mono (by decide)) (by rfl) (pa_cons (pv 0) pa_nil)))
  (pss_one (ps_if (pt_cmpR op_eq (pe_own c__law_take (hr.mono (by decide)) (by rfl) (pa_cons (pv 0) (pa_cons pe_int pa_nil))) pe_int (nomark _))
  (pss_one (ps_expr (pe_bm PySem.F.plainAttrs_list PySem.F.slot_list_append PySem.F.type_list_append mt_append (pv 2) (pa_cons (pe_own c__law_spoilt (hr.mono (by decide)) (by rfl) (pa_cons (pv 0) (pa_cons (pe_op op_add (pv 1) (pv 3)) (pa_cons (pv 4) pa_nil)))) pa_nil))))
  (pss_one (ps_expr (pe_bm PySem.F.plainAttrs_list PySem.F.slot_list_append PySem.F.type_list_append mt_append (pv 2) (pa_cons (pe_own c__law_record (hr.mono (by decide)) (by rfl) (pa_cons (pe_op op_add (pv 1) (pv 3)) (pa_cons (pv 4) pa_nil))) pa_nil))))))))
  (pss_cons (ps_set (i := 5) nd rfl (Or.inl rfl) (pe_own c__law_take (hr.mono (by decide)) (by rfl) (pa_cons (pv 0) (pa_cons pe_int pa_nil))))
  (Evl.pss_cut (ps_if (PW.pt (pw_and (pt_cmpR op_eq (pv 5) pe_int (nomark _)) (pw_and1 (pt_cmpR (op_neD hr.units) (pv 2) (pe_lst pa_nil) (nomark _)))))
  (pss_one (ps_expr (pe_bm PySem.F.plainAttrs_list PySem.F.slot_list_pop PySem.F.type_list_pop mt_popAt (pv 2) (pa_cons (pe_own c__law_take (hr.mono (by decide)) (by rfl) (pa_cons (pv 0) (pa_cons (pe_callB call_len_seq (by rfl) T.len PySem.boot_len (pa_cons (pv 2) pa_nil)) pa_nil))) pa_nil))))
  pss_nil)
  (Evl.pss_cut (ps_if (PW.pt (pw_and (pt_cmpR op_eq (pv 5) pe_int (nomark _)) (pw_and1 (pt_cmpR (op_neD hr.units) (pv 2) (pe_lst pa_nil) (nomark _)))))
  (pss_one (ps_expr (pe_bm PySem.F.plainAttrs_list PySem.F.slot_list_insert PySem.F.type_list_insert mt_insert (pv 2) (pa_cons (pe_own c__law_take (hr.mono (by decide)) (by rfl) (pa_cons (pv 0) (pa_cons (pe_callB call_len_seq (by rfl) T.len PySem.boot_len (pa_cons (pv 2) pa_nil)) pa_nil))) (pa_cons (pe_own c__law_pick (hr.mono (by decide)) (by rfl) (pa_cons (pv 0) (pa_cons (pv 2) pa_nil))) pa_nil)))))
  pss_nil)
  (pss_cons (ps_set (i := 6) nd rfl (Or.inl rfl) (pe_join pe_str (pv 2)))
  (pss_cons (ps_if (pt_cmpR op_eq (pv 5) pe_int (nomark _))
  (pss_one (ps_ret (pe_slice sl_str (pv 6) po_none (po_some (pe_own c__law_take (hr.mono (by decide)) (by rfl) (pa_cons (pv 0) (pa_cons (pe_op op_add (pe_callB call_len_str (by rfl) T.len PySem.boot_len (pa_cons (pv 6) pa_nil)) pe_int) pa_nil)))))))
  pss_nil)
  (pss_cons (ps_if (pt_cmpR op_eq (pv 5) pe_int (nomark _))
  (pss_one (ps_ret (pe_op op_add_str (pv 6) (pe_own c__law_pick (hr.mono (by decide)) (by rfl) (pa_cons (pv 0) (pa_cons (pe_lst (pa_cons pe_str (pa_cons pe_str (pa_cons pe_str (pa_cons pe_str (pa_cons pe_str (pa_cons pe_str (pa_cons pe_str pa_nil)))))))) pa_nil))))))
  pss_nil)
  (pss_one (ps_ret (pv 6)))))))))))), ?_⟩
    have ez : sizeLine = 16777216 := by decide +kernel
    have big : ∀ n : Int, n ≤ 2000000 → n ≤ 10 ^ 60 := fun n hn => Int.le_trans hn (by decide +kernel)
    refine ⟨fun σ' H' => ∃ n : Nat, n ≤ 1000 ∧ Kp a H H' ∧ FeedAt H' a ∧ σ' = [some (.ref a), some (.int (n : Int)), none, none, none, none, none], ?_, fun σ' H' hm => ?_⟩
    · refine ⟨.ref a, rfl, .ref a, rfl, a, 1000, rfl, hF, by decide, big _ (by decide), fun v0 H1 k1 f1 v00 v01 => ?_⟩
      obtain ⟨n0, rfl⟩ := Int.eq_ofNat_of_zero_le v00
      refine ⟨(by show 6 ≤ sizeLine; decide), fun l hl => ⟨a, l, _, rfl, f1.new hl, f1.ne hl, SqL.of upd_same, (by show 0 < 6; decide), (by show 6 ≤ 1000; decide), fun i v H2 hv k2 f2 => ?_⟩⟩
      have kk := (((Kp.refl a H).trans k1).new hl).trans k2
      rcases i with _ | _ | _ | _ | _ | _ | i
      · exact ⟨0, by decide, kk, f2, by rw [← Option.some.inj hv]; rfl⟩
      · exact ⟨0, by decide, kk, f2, by rw [← Option.some.inj hv]; rfl⟩
      · exact ⟨1, by decide, kk, f2, by rw [← Option.some.inj hv]; rfl⟩
      · exact ⟨9, by decide, kk, f2, by rw [← Option.some.inj hv]; rfl⟩
      · exact ⟨99, by decide, kk, f2, by rw [← Option.some.inj hv]; rfl⟩
      · exact ⟨n0, by omega, kk, f2, by rw [← Option.some.inj hv]; rfl⟩
      · cases hv
    obtain ⟨n, hn, k1, f1, rfl⟩ := hm
    refine ⟨(by show 0 ≤ sizeLine; decide), fun D hD => ?_⟩
    have hDa := f1.ne hD
    have hD0 : H D = none := k1.fresh hD hDa
    refine ⟨.ref a, rfl, a, 5, rfl, f1.new hD, by decide, big _ (by decide), fun v1 H2 k2 f2 v10 v11 => ?_⟩
    obtain ⟨m, rfl⟩ := Int.eq_ofNat_of_zero_le v10
    have e2 := k2 _ _ hDa (upd_same (H := H') (a := D) (o := .lst []))
    have k02 := (k1.new (o := .lst []) hD).trans k2
    refine ⟨(m : Int), rfl, by omega, by omega, for_range (lo := 0) (n := m) (fun i σ H3 => Kp a H H3 ∧ FeedAt H3 a ∧ ∃ (xs : List Str) (y3 y4 : Option V), xs.length = i ∧ AllT 1000 (xs.map V.str) ∧ H3 D = some (.lst (xs.map V.str)) ∧ σ = [some (.ref a), some (.int (n : Int)), some (.ref D), y3, y4, none, none])
      ⟨k02, f2, [], none, none, rfl, .nil, e2, rfl⟩ (fun i σ H3 hi h => ?_) (fun σ H3 h => ?_)⟩
    · obtain ⟨k3, f3, xs, y3, y4, hlen, hall, e3, rfl⟩ := h
      refine ⟨.ref a, rfl, a, rfl, f3, fun p rows H4 hne h5 hdr k4 f4 hp ep => ?_⟩
      have e4 := k4 _ _ hDa e3
      have hpa := f3.ne hp
      refine ⟨.ref a, rfl, a, 5, rfl, f4, by decide, big _ (by decide), fun v5 H5 k5 f5 v50 v51 => ?_⟩
      have e5 := k5 _ _ hDa e4
      have ep5 := k5 _ _ hpa ep
      have k05 := (k3.trans k4).trans k5
      have dl := Drawn.len hdr h5
      have step : ∀ (x : Str) (H6 : Hp), Tx 1000 x → Kp a H H6 → FeedAt H6 a → H6 D = some (.lst (xs.map V.str)) → Kp a H (upd H6 D (.lst (xs.map V.str ++ [V.str x]))) ∧ FeedAt (upd H6 D (.lst (xs.map V.str ++ [V.str x]))) a ∧
          ∃ (ys : List Str) (y3' y4' : Option V), ys.length = i + 1 ∧ AllT 1000 (ys.map V.str) ∧ (upd H6 D (.lst (xs.map V.str ++ [V.str x]))) D = some (.lst (ys.map V.str)) ∧
            [some (.ref a), some (.int (n : Int)), some (.ref D), some (.int (0 + (i : Int))), some (.ref p), none, none] = [some (.ref a), some (.int (n : Int)), some (.ref D), y3', y4', none, none] := fun x H6 hx k6 f6 e6 => by
        refine ⟨k6.mutN hD0, f6.mut hDa, xs ++ [x], _, _, by rw [List.length_append, hlen]; rfl, ?_, ?_, rfl⟩
        · rw [List.map_append]
          intro v hv
          rcases List.mem_append.mp hv with hv | hv
          · exact hall v hv
          · exact ⟨x, List.mem_singleton.mp hv, hx⟩
        · rw [upd_same, List.map_append]
          rfl
      have ei : ((n : Nat) : Int) + (0 + ((i : Nat) : Int)) = ((n + i : Nat) : Int) := by omega
      have hroom : (xs.map V.str).length < sizeLine := by
        rw [List.length_map, hlen, ez]
        omega
      refine ⟨rfl, _, rfl, ite2 (fun c => ?_) (fun c => ?_)⟩
      · refine ⟨.ref D, rfl, .inl ⟨rfl, _, SqL.of e5⟩, .ref a, rfl, .int n, rfl, _, rfl, _, _, rfl, rfl, .ref p, rfl, a, p, n + i, rows, ?_, f5, hpa, by omega, SqL.of ep5, hne, h5, hdr, fun x H6 hx k6 f6 => ?_⟩
        · dsimp only
          rw [ei]
          rfl
        · have e6 := k6 _ _ hDa e5
          exact ⟨D, _, _, rfl, rfl, e6, hroom, step x H6 hx (k05.trans k6) f6 e6⟩
      · refine ⟨.ref D, rfl, .inl ⟨rfl, _, SqL.of e5⟩, .int n, rfl, _, rfl, _, _, rfl, rfl, .ref p, rfl, n + i, p, rows, ?_, ?_, SqL.of ep5, by omega, ?_⟩
        · dsimp only
          rw [ei]
          rfl
        · exact Nat.lt_of_le_of_lt (m := 2000) (by omega) (by decide +kernel)
        · exact ⟨D, _, _, rfl, rfl, e5, hroom, step _ H5 (Tx.rec (by omega) hdr h5) k05 f5 e5⟩
    · obtain ⟨k3, f3, xs, y3, y4, hlen, hall, e3, rfl⟩ := h
      refine ⟨.ref a, rfl, a, 6, rfl, f3, by decide, big _ (by decide), fun way H4 k4 f4 w0 w1 => ?_⟩
      have e4 := k4 _ _ hDa e3
      have k04 := k3.trans k4
      have hsh : ∀ ys : List Str, (∀ y ∈ ys, SOk y) → SeqAt.shaped (.list (ys.map PyData.str)) = true := fun ys hy => (Lay.lst (k := 0) fun d hd => by
        obtain ⟨y, hy', rfl⟩ := List.mem_map.mp hd
        exact .str (hy y hy')).shaped (by decide)
      have sok : ∀ {ys : List Str}, AllT 1000 (ys.map V.str) → ∀ y ∈ ys, SOk y := fun {ys} hy y hm => by
        obtain ⟨z, e, hz⟩ := hy _ (List.mem_map.mpr ⟨y, hm, rfl⟩)
        cases e
        exact hz.2
      -- one away
      refine ⟨fun σ' H' => ∃ xs : List Str, xs.length ≤ 5 ∧ AllT 1000 (xs.map V.str) ∧ Kp a H H' ∧ FeedAt H' a ∧ H' D = some (.lst (xs.map V.str)) ∧ σ' = [some (.ref a), some (.int (n : Int)), some (.ref D), y3, y4, some (.int way), none], ?_, fun σ' H' hm => ?_⟩
      · refine ⟨.int way, rfl, rfl, _, rfl, ite2 (fun c => ?_) (fun c => iteF ⟨xs, by omega, hall, k04, f4, e4, rfl⟩)⟩
        refine ⟨.ref D, rfl, (by show 0 ≤ sizeLine; decide), fun l hl => ⟨.list (xs.map PyData.str), .list [], .lst (SqL.of (same_new (o := .lst []) hl _ _ e4)) (dpStrs _), .lst (SqL.of upd_same) .nil, hsh _ (sok hall), hsh [] (by simp), _, rfl, ?_⟩⟩
        have e5 := same_new (o := .lst []) hl _ _ e4
        have k5 := k04.new (o := .lst []) hl
        have f5 := f4.new (o := .lst []) hl
        rw [strs_eqv (ds := [])]
        refine ite2 (fun c2 => ?_) (fun c2 => ⟨xs, by omega, hall, k5, f5, e5, rfl⟩)
        have hne : xs ≠ [] := fun z => by
          rw [z] at c2
          simp at c2
        have hpos : 0 < xs.length := Nat.pos_of_ne_zero fun z => hne (List.eq_nil_of_length_eq_zero z)
        refine ⟨.ref D, rfl, .inl ⟨rfl, _, SqL.of e5⟩, .ref a, rfl, .ref D, rfl, D, _, rfl, .inl (SqL.of e5), a, _, rfl, f5, by rw [List.length_map]; omega, big _ (by rw [List.length_map]; omega), fun v6 H6 k6 f6 v60 v61 => ?_⟩
        rw [List.length_map] at v61
        obtain ⟨j, rfl⟩ := Int.eq_ofNat_of_zero_le v60
        have hj : j < xs.length := by omega
        have e6 := k6 _ _ hDa e5
        obtain ⟨jj, i1, i2, i3, i4, i5⟩ := atI_get (xs := xs.map V.str) (i := (j : Int)) (v := .str (xs[j])) (atI_nat (by
          rw [List.getElem?_map, List.getElem?_eq_getElem hj]
          rfl))
        have hjj : jj < xs.length := by
          have := (List.getElem?_eq_some_iff.mp i2).1
          rw [List.length_map] at this
          exact this
        refine ⟨D, xs.map V.str, (j : Int), jj, .str (xs[j]), rfl, rfl, e6, by omega, by omega, i1, i2, xs.eraseIdx jj, ?_, ?_, (k5.trans k6).mutN hD0, f6.mut hDa, ?_, rfl⟩
        · rw [List.length_eraseIdx]
          split <;> omega
        · intro v hv
          obtain ⟨z, hz, e⟩ := List.mem_map.mp hv
          exact hall v (List.mem_map.mpr ⟨z, List.mem_of_mem_eraseIdx hz, e⟩)
        · rw [upd_same, map_erase]
      clear hall e3 e4 k04 f4 hlen k3 f3 k4
      obtain ⟨xs, hlen, hall, k04, f4, e4, rfl⟩ := hm
      -- one more
      refine ⟨fun σ' H' => ∃ xs : List Str, xs.length ≤ 6 ∧ AllT 1000 (xs.map V.str) ∧ Kp a H H' ∧ FeedAt H' a ∧ H' D = some (.lst (xs.map V.str)) ∧ σ' = [some (.ref a), some (.int (n : Int)), some (.ref D), y3, y4, some (.int way), none], ?_, fun σ' H' hm => ?_⟩
      · refine ⟨.int way, rfl, rfl, _, rfl, ite2 (fun c => ?_) (fun c => iteF ⟨xs, by omega, hall, k04, f4, e4, rfl⟩)⟩
        refine ⟨.ref D, rfl, (by show 0 ≤ sizeLine; decide), fun l hl => ⟨.list (xs.map PyData.str), .list [], .lst (SqL.of (same_new (o := .lst []) hl _ _ e4)) (dpStrs _), .lst (SqL.of upd_same) .nil, hsh _ (sok hall), hsh [] (by simp), _, rfl, ?_⟩⟩
        have e5 := same_new (o := .lst []) hl _ _ e4
        have k5 := k04.new (o := .lst []) hl
        have f5 := f4.new (o := .lst []) hl
        rw [strs_eqv (ds := [])]
        refine ite2 (fun c2 => ?_) (fun c2 => ⟨xs, by omega, hall, k5, f5, e5, rfl⟩)
        have hne : xs ≠ [] := fun z => by
          rw [z] at c2
          simp at c2
        have hpos : 0 < xs.length := Nat.pos_of_ne_zero fun z => hne (List.eq_nil_of_length_eq_zero z)
        refine ⟨.ref D, rfl, .inl ⟨rfl, _, SqL.of e5⟩, .ref a, rfl, .ref D, rfl, D, _, rfl, .inl (SqL.of e5), a, _, rfl, f5, by rw [List.length_map]; omega, big _ (by rw [List.length_map]; omega), fun v6 H6 k6 f6 v60 v61 => ?_⟩
        rw [List.length_map] at v61
        obtain ⟨j, rfl⟩ := Int.eq_ofNat_of_zero_le v60
        have hj : j < xs.length := by omega
        have e6 := k6 _ _ hDa e5
        refine ⟨.ref a, rfl, .ref D, rfl, a, D, _, rfl, f6, hDa, SqL.of e6, by rw [List.length_map]; omega, by rw [List.length_map]; omega, fun i v H7 hv k7 f7 => ?_⟩
        have e7 := k7 _ _ hDa e6
        obtain ⟨z, rfl, hz⟩ := hall.at hv
        refine ⟨D, xs.map V.str, (j : Int), .str z, rfl, rfl, e7, by rw [List.length_map, ez]; omega, by omega, by omega, xs.take j ++ [z] ++ xs.drop j, ?_, ?_, ((k5.trans k6).trans k7).mutN hD0, f7.mut hDa, ?_, rfl⟩
        · rw [List.length_append, List.length_append, List.length_take, List.length_drop]
          show min j xs.length + 1 + (xs.length - j) ≤ 6
          omega
        · intro v hv
          obtain ⟨y, hy, rfl⟩ := List.mem_map.mp hv
          rcases List.mem_append.mp hy with hy | hy
          · rcases List.mem_append.mp hy with hy | hy
            · exact hall _ (List.mem_map.mpr ⟨y, List.mem_of_mem_take hy, rfl⟩)
            · rw [List.mem_singleton.mp hy]
              exact ⟨z, rfl, hz⟩
          · exact hall _ (List.mem_map.mpr ⟨y, List.mem_of_mem_drop hy, rfl⟩)
        · rw [upd_same, List.map_append, List.map_append, List.map_take, List.map_drop]
          rfl
      clear hall e4 k04 f4 hlen
      obtain ⟨xs, hlen, hall, k04, f4, e4, rfl⟩ := hm
      have hx : ∀ x ∈ xs, Tx 1000 x := fun y hm => by
        obtain ⟨z, e, hz⟩ := hall _ (List.mem_map.mpr ⟨y, hm, rfl⟩)
        cases e
        exact hz
      have hj : Tx 6000 (Txt.join "" xs) := (Tx.join hx).mono (by omega)
      have hs := sum_le xs hx
      refine ⟨⟨_, rfl⟩, .ref D, rfl, _, D, xs, rfl, rfl, .inl (SqL.of e4), ?_, ?_⟩
      · show (xs.map Str.length).sum + xs.length * 0 ≤ 16777216
        omega
      show tSeq _ _ _ [some (.ref a), some (.int (n : Int)), some (.ref D), y3, y4, some (.int way), some (.str (Txt.join "" xs))] _
      generalize Txt.join "" xs = z at hj ⊢
      refine ⟨.int way, rfl, rfl, _, rfl, ite2 (fun c => ?_) (fun c => ?_)⟩
      · have hl := hj.1
        refine ⟨.str z, rfl, .ref a, rfl, .str z, rfl, z, rfl, by omega, _, _, rfl, rfl, a, _, rfl, f4, by omega, big _ (by omega), fun v5 H5 k5 f5 v50 v51 => ?_⟩
        exact ⟨v5, rfl, z, rfl, by omega, q _ _ ((hj.cut none (some v5)).mono (by decide)) (k04.trans k5) f5⟩
      refine ⟨.int way, rfl, rfl, _, rfl, ite2 (fun c => ?_) (fun c => ?_)⟩
      · refine ⟨.str z, rfl, .ref a, rfl, (by show 7 ≤ sizeLine; decide), fun l hl => ⟨a, l, _, rfl, f4.new hl, f4.ne hl, SqL.of upd_same, (by show 0 < 7; decide), (by show 7 ≤ 1000; decide), fun i v H2 hv k2 f2 => ?_⟩⟩
        have lit : ∀ (w : Str), w.length ≤ 10 → SOk w → Tx 10 w := fun w h g => ⟨h, g⟩
        have hall : AllT 10 [V.str "x", V.str "0 1:2=a\n", V.str "\n", V.str " ", V.str "0", V.str "=", V.str "7 "] :=
          .cons (lit _ (by decide +kernel) (by decide +kernel)) (by decide) (.cons (lit _ (by decide +kernel) (by decide +kernel)) (by decide) (.cons (lit _ (by decide +kernel) (by decide +kernel)) (by decide) (.cons (lit _ (by decide +kernel) (by decide +kernel)) (by decide) (.cons (lit _ (by decide +kernel) (by decide +kernel)) (by decide) (.cons (lit _ (by decide +kernel) (by decide +kernel)) (by decide) (.cons (lit _ (by decide +kernel) (by decide +kernel)) (by decide) .nil))))))
        obtain ⟨y, rfl, hy⟩ := hall.at hv
        exact ⟨_, _, rfl, rfl, hj.room hy (by decide), q _ _ ((hj.add hy).mono (by decide)) ((k04.new hl).trans k2) f2⟩
      · exact ⟨_, rfl, q _ _ (hj.mono (by decide)) k04 f4⟩
end
end Lr
namespace Lr
open PySem PySem.Spec PyProof.Rows L2 Lf CwR
theorem fold_rep (c : Nat) : ∀ (n : Nat) (acc : Array Nat), ((List.replicate n (#[c] : Array Nat)).foldl (· ++ ·) acc).toList = acc.toList ++ List.replicate n c
  | 0, acc => by simp
  | n + 1, acc => by
    rw [List.replicate_succ, List.foldl_cons, fold_rep c n, Array.toList_append, List.append_assoc]
    rfl
section
variable {X : Cx}
/-- one sign, many times -/
theorem op_strmul : OpR X (binaryOp .Mult) (fun x y H Q => ∃ (c n : Nat), x = .str (S [c]) ∧ y = .int (n : Int) ∧ 2 ≤ n ∧ n ≤ 100000 ∧ Q (.str (S (List.replicate n c))) H) := by
  intro pins s σ H x y v u Q I rx ry h
  obtain ⟨c, n, rfl, rfl, h2, h5, q⟩ := h
  obtain ⟨t, rfl⟩ := rx
  obtain ⟨t', rfl⟩ := ry
  have ez : sizeLine = 16777216 := by decide +kernel
  have e1 : ¬ ((n : Int) < 1) := by omega
  have e2 : ((n : Int) == 1 || (S [c]).length == 0) = false := by
    have z : ((n : Int) == 1) = false := beq_eq_false_iff_ne.mpr (by omega)
    rw [z]
    rfl
  refine PySem.P.mul_str ?_ (fun _ _ => ?_) (fun _ _ => ?_) ?_
  · rw [decide_eq_false (by omega), decide_eq_false (by omega)]
    rfl
  · show ¬ ((1 : Int) > (2 ^ 63 - 1) / n)
    have : (1 : Int) ≤ (2 ^ 63 - 1) / n := Int.le_ediv_of_mul_le (by omega) (by omega)
    omega
  · unfold Builtin.Str.tooLong
    refine decide_eq_false ?_
    show ¬ 1 * n > sizeLine
    rw [ez]
    omega
  · rw [if_neg e1, e2]
    have ef : (⟨(List.replicate (n : Int).toNat (S [c]).cps).foldl (· ++ ·) #[]⟩ : Str) = S (List.replicate n c) := by
      refine TL.ext_tl ?_
      show ((List.replicate n (#[c] : Array Nat)).foldl (· ++ ·) #[]).toList = List.replicate n c
      rw [fold_rep]
      rfl
    show ((⟨(List.replicate (n : Int).toNat (S [c]).cps).foldl (· ++ ·) #[]⟩ : Str)).length ≤ sizeLine ∧ _
    refine ⟨?_, V.str (S (List.replicate n c)), H, I.tok _, ⟨s.toks, by rw [ef]⟩, q⟩
    rw [ef, S_len, List.length_replicate, ez]
    omega
end
theorem Tx.rec61 {n : Nat} (hn : n < 10 ^ 61) : Tx 1000 (S (recL n [[97]])) := by
  refine ⟨?_, recL_sok n fun r hr c hc => ?_⟩
  · rw [S_len]
    have h1 : (numL n).length ≤ 61 := TL.numL_len (by decide) hn
    have hc := chk_lt (headL n (joinL [10] [[97]]).length (joinL [10] [[97]]))
    have h3 : (numL (chkL (headL n (joinL [10] [[97]]).length (joinL [10] [[97]])))).length ≤ 60 := TL.numL_len (by decide) (Nat.lt_trans hc (by decide))
    have h2 : (numL (joinL [10] [[97]]).length).length ≤ 60 := TL.numL_len (by decide) (by decide)
    have h4 : (joinL [10] [[97]]).length = 1 := rfl
    unfold recL
    simp only [List.length_append, List.length_cons, List.length_nil]
    omega
  · rw [List.mem_singleton.mp hr] at hc
    rw [List.mem_singleton.mp hc]
    decide
/-- what is told of a text, as data -/
def parD (l : List Nat) : PyData := .tuple [match (parseL l).1 with | some n => .int (n : Int) | none => .none, recsD (parseL l).2.1, .int (((parseL l).2.2 : Nat) : Int)]
theorem parD_lay (l : List Nat) : Lay 3 (parD l) := .tup (k := 2) fun d hd => by
  simp only [List.mem_cons, List.not_mem_nil, or_false] at hd
  rcases hd with rfl | rfl | rfl
  · cases (parseL l).1 with
    | none => exact .non
    | some n => exact .int _
  · exact recsD_lay (parse_rows l)
  · exact .int _
section
variable {P : Program} {w : World} {K : PySem.W.Frag} {mg : Str → Option Value} {base : Heap}
/-- what stands there is what parsed tells of l -/
def ParAt (l : List Nat) (H0 H : Hp) (p : Addr) (qs : List Addr) (r : Addr) : Prop := H0 p = none ∧ H0 r = none ∧ H p = some (.tup [optV (parseL l).1, .ref r, .int (((parseL l).2.2 : Nat) : Int)]) ∧ H r = some (.lst (qs.map V.ref)) ∧ RowsAll H0 r H qs (parseL l).2.1
theorem ParAt.keep {l : List Nat} {H0 H H' : Hp} {p r : Addr} {qs : List Addr} (h : ParAt l H0 H p qs r) (s : Same H H') : ParAt l H0 H' p qs r := by
  obtain ⟨hp, h0, h1, h2, h3⟩ := h
  exact ⟨hp, h0, s _ _ h1, s _ _ h2, h3.keep fun q o _ _ h => s q o h⟩
theorem ParAt.dp {l : List Nat} {H0 H : Hp} {p r : Addr} {qs : List Addr} (h : ParAt l H0 H p qs r) : Dp K H (.ref p) (parD l) := by
  obtain ⟨hp, h0, h1, h2, h3⟩ := h
  refine .tup (SqT.of h1) (.cons ?_ (.cons (.lst (SqL.of h2) h3.dp) (.cons (.int _) .nil)))
  cases (parseL l).1 with
  | none => exact .non
  | some n => exact .int _
theorem cmp_ok {σ : L2.St} {H : Hp} {R : Bool → Hp → Prop} {z : Str} (hσ : σ[4]? = some (some (.str z))) (hz : Tx 20000 z) (h : ∀ H', Same H H' → R false H') :
    tTest (tOp (rNeD K) (tCall spPar [] E0 (tCons (tVar 4) tNil)) (tCall spDue [] E0 (tCons (tVar 4) tNil))) σ H R := by
  refine ⟨.str z, hσ, z, rfl, Nat.le_trans hz.1 (by decide), fun p r qs H1 s1 hp hr hpr ep er ra => ?_⟩
  have P1 : ParAt (tl z) H H1 p qs r := ⟨hp, hr, ep, er, ra⟩
  refine ⟨.str z, hσ, ⟨z, rfl, hz.2⟩, z, rfl, Nat.le_trans hz.1 (by decide), fun p2 r2 qs2 H2 s2 hp2 hr2 hpr2 ep2 er2 ra2 => ?_⟩
  have P2 : ParAt (tl z) H1 H2 p2 qs2 r2 := ⟨hp2, hr2, ep2, er2, ra2⟩
  have sh := (parD_lay (tl z)).shaped (by decide)
  refine ⟨_, _, (P1.keep s2).dp, P2.dp, sh, sh, _, rfl, ?_⟩
  rw [(parD_lay (tl z)).eqv]
  exact h H2 (s1.tr s2)
def spLaw (K : PySem.W.Frag) : Sp := fun vs H Q _ => ∃ (a : Addr) (ns : List Int), vs = [.ref a] ∧ SqL K H a (ns.map V.int) ∧ ns.length ≤ 63 ∧ ∀ H', Q (.bl true) H'
abbrev sLaw : Stmt := topS 25
theorem scLaw : FnScope ["_law_script", "_law_k", "_law_feed_here", "_law_turn", "_law_log_here"] ["_law_script"] (defScope sLaw) := ⟨rfl, rfl, rfl, by decide +kernel, rfl, by decide +kernel, by decide +kernel⟩
set_option maxHeartbeats 4000000 in
theorem ok_law {f : Addr} {fd : FuncData} (F : Fun K "law" "law" sLaw f fd) (T : Bs mg) (c__law_feed : Callee P w K mg base 1 "_law_feed" ["_law_script", "_law_k"] (spFeed K)) (c__law_log : Callee P w K mg base 5 "_law_log" ["_law_feed_here"] spLog)
    (c_parsed : Callee P w K mg base 4 "parsed" ["log"] spPar) (c__law_due : Callee P w K mg base 4 "_law_due" ["_law_log_here"] spDue) (c__law_record : Callee P w K mg base 2 "_law_record" ["_law_number", "_law_lines"] (spLRec K)) : FnOk P w K mg base CX0 6 f fd ["_law_script"] (spLaw K) := by
  refine F.ok scLaw (fun vs H Q E h => ?_) (fun cdv A outer s H vs Q E hr h => ?_)
  · obtain ⟨a, ns, rfl, _⟩ := h
    rfl
  · obtain ⟨a, ns, rfl, hS, hl63, q⟩ := h
    have nd := scLaw.nd
    refine ⟨_, (pss_cons (ps_for PassesOwn.never rfl (pi_range1 (by rfl) T.range (pa_cons (pe_callB (call_max2 rfl) (by rfl) T.max (by decide +kernel) (pa_cons pe_int (pa_cons (pe_callB (call_min2 rfl) (by rfl) T.min (by decide +kernel) (pa_cons pe_int (pa_cons (pe_callB call_len_seq (by rfl) T.len PySem.boot_len (pa_cons (pv 0) pa_nil)) pa_nil))) pa_nil))) pa_nil)) (pg_name (i := 1) nd rfl (Or.inl rfl))
  (pss_cons (ps_set (i := 2) nd rfl (Or.inl rfl) (pe_own c__law_feed (hr.mono (by decide)) (by rfl) (pa_cons (pv 0) (pa_cons (pv 1) pa_nil))))
  (pss_one (ps_for PassesOwn.never rfl (pi_range1 (by rfl) T.range (pa_cons pe_int pa_nil)) (pg_name (i := 3) nd rfl (Or.inl rfl))
  (pss_cons (ps_set (i := 4) nd rfl (Or.inl rfl) (pe_own c__law_log (hr.mono (by decide)) (by rfl) (pa_cons (pv 2) pa_nil)))
  (pss_one (ps_if (pt_cmpR (op_neD hr.units) (pe_own c_parsed (hr.mono (by decide)) (by rfl) (pa_cons (pv 4) pa_nil)) (pe_own c__law_due (hr.mono (by decide)) (by rfl) (pa_cons (pv 4) pa_nil)) (nomark _))
  (pss_one (ps_ret pe_bl))
  pss_nil)))))))
  (pss_cons (ps_for PassesOwn.never rfl (pi_list (pe_lst (pa_cons (pe_own c__law_record (hr.mono (by decide)) (by rfl) (pa_cons (pe_op op_pow pe_int pe_int) (pa_cons (pe_lst (pa_cons pe_str pa_nil)) pa_nil))) (pa_cons (pe_own c__law_record (hr.mono (by decide)) (by rfl) (pa_cons (pe_op op_sub (pe_op op_pow pe_int pe_int) pe_int) (pa_cons (pe_lst (pa_cons pe_str pa_nil)) pa_nil))) (pa_cons (pe_op op_add_str (pe_op op_strmul pe_str pe_int) pe_str) pa_nil))))) (pg_name (i := 4) nd rfl (Or.inl rfl))
  (pss_one (ps_if (pt_cmpR (op_neD hr.units) (pe_own c_parsed (hr.mono (by decide)) (by rfl) (pa_cons (pv 4) pa_nil)) (pe_own c__law_due (hr.mono (by decide)) (by rfl) (pa_cons (pv 4) pa_nil)) (nomark _))
  (pss_one (ps_ret pe_bl))
  pss_nil)))
  (pss_one (ps_ret (pe_cmpR (op_eqD hr.units) (pe_own c_parsed (hr.mono (by decide)) (by rfl) (pa_cons pe_str pa_nil)) (pe_tup (pa_cons pe_non (pa_cons (pe_lst pa_nil) (pa_cons pe_int pa_nil)))) (nomark _)))))), ?_⟩
    have ez : sizeLine = 16777216 := by decide +kernel
    have big : ∀ n : Int, n ≤ 2000000 → n ≤ 10 ^ 60 := fun n hn => Int.le_trans hn (by decide +kernel)
    refine ⟨.ref a, rfl, a, _, rfl, .inl hS, 8, _, rfl, 2, _, rfl, ?_⟩
    rw [List.length_map]
    generalize hm : (if (if ((ns.length : Nat) : Int) < 8 then ((ns.length : Nat) : Int) else 8) > 2 then (if ((ns.length : Nat) : Int) < 8 then ((ns.length : Nat) : Int) else 8) else 2) = m
    have hm1 : 2 ≤ m ∧ m ≤ 8 := by
      rw [← hm]
      constructor <;> (repeat' split) <;> omega
    refine ⟨m, rfl, by omega, by omega, for_range (lo := 0) (n := m.toNat) (fun i σ H' => (∃ y1 y2 y3 y4, σ = [some (.ref a), y1, y2, y3, y4]) ∧ Same H H')
      ⟨⟨_, _, _, _, rfl⟩, same_refl H⟩ (fun i σ H1 hi h => ?_) (fun σ H1 h => ?_)⟩
    · obtain ⟨⟨y1, y2, y3, y4, rfl⟩, s1⟩ := h
      refine ⟨_, rfl, _, rfl, a, ns, _, rfl, s1.seq hS, by omega, by omega, fun fd H2 s2 hfd f2 => ?_⟩
      have h0 : H fd = none := s1.fresh hfd
      have s02 := s1.tr s2
      refine ⟨3, rfl, by decide, by decide, for_range (lo := 0) (n := 3) (fun j σ H' => FeedAt H' fd ∧ Same H H' ∧ ∃ y3 y4, σ = [some (.ref a), some (.int (0 + (i : Int))), some (.ref fd), y3, y4])
        ⟨f2, s02, _, _, rfl⟩ (fun j σ H3 hj h => ?_) (fun σ H3 h => ?_)⟩
      · obtain ⟨f3, s3, y3, y4, rfl⟩ := h
        refine ⟨.ref fd, rfl, fd, rfl, f3, fun z H4 hz k4 f4 => ?_⟩
        have s4 : Same H H4 := fun b o e => k4 _ _ (fun e2 => by rw [e2, h0] at e; cases e) (s3 b o e)
        exact cmp_ok rfl hz fun H5 s5 => iteF ⟨f4.same s5, s4.tr s5, _, _, rfl⟩
      · obtain ⟨f3, s3, y3, y4, rfl⟩ := h
        exact ⟨⟨_, _, _, _, rfl⟩, s3⟩
    · obtain ⟨⟨y1, y2, y3, y4, rfl⟩, s1⟩ := h
      have cp : CPow 10 60 := ⟨by decide, by decide, by decide⟩
      have e60 : (10 : Int) ^ (60 : Int).toNat = ((10 ^ 60 : Nat) : Int) := by decide +kernel
      have e59 : (10 : Int) ^ (60 : Int).toNat - 1 = ((10 ^ 60 - 1 : Nat) : Int) := by decide +kernel
      have za : ("a" : Str) = S [97] := by decide +kernel
      have z1 : ("1" : Str) = S [49] := by decide +kernel
      refine ⟨10, 60, rfl, rfl, cp, (by show 1 ≤ sizeLine; decide), fun l1 hl1 => ⟨10 ^ 60, l1, [[97]], by dsimp only; rw [e60]; rfl, by decide +kernel, SqL.of (by rw [upd_same, za]; rfl), by decide, ?_⟩⟩
      refine ⟨10, 60, rfl, rfl, cp, _, _, rfl, rfl, (by show 1 ≤ sizeLine; decide), fun l2 hl2 => ⟨10 ^ 60 - 1, l2, [[97]], by dsimp only; rw [e59]; rfl, by decide +kernel, SqL.of (by rw [upd_same, za]; rfl), by decide, ?_⟩⟩
      have t1 : Tx 5000 (S (List.replicate 5000 49)) := ⟨by rw [S_len, List.length_replicate]; exact Nat.le_refl _, fun c hc => by
        rw [(List.mem_replicate.mp hc).2]
        decide⟩
      have t2 : Tx 10 (" 1:2=a\n" : Str) := ⟨by decide +kernel, by decide +kernel⟩
      refine ⟨49, 5000, by rw [z1], rfl, by decide, by decide, _, _, rfl, rfl, t1.room t2 (by decide), (by show 3 ≤ sizeLine; decide), fun l3 hl3 => ?_⟩
      have hall : AllT 20000 [V.str (S (recL (10 ^ 60) [[97]])), V.str (S (recL (10 ^ 60 - 1) [[97]])), V.str (S (List.replicate 5000 49) ++ " 1:2=a\n")] :=
        .cons (Tx.rec61 (by decide +kernel)) (by decide) (.cons (Tx.rec61 (by decide +kernel)) (by decide) (.cons (t1.add t2) (by decide) .nil))
      refine ⟨l3, rfl, ⟨_, SqL.of upd_same⟩, for_list (xs := [V.str (S (recL (10 ^ 60) [[97]])), V.str (S (recL (10 ^ 60 - 1) [[97]])), V.str (S (List.replicate 5000 49) ++ " 1:2=a\n")])
        (fun i σ H' => H' l3 = some (.lst [V.str (S (recL (10 ^ 60) [[97]])), V.str (S (recL (10 ^ 60 - 1) [[97]])), V.str (S (List.replicate 5000 49) ++ " 1:2=a\n")]) ∧ ∃ y1 y2 y3 y4, σ = [some (.ref a), y1, y2, y3, y4])
        ⟨upd_same, _, _, _, _, rfl⟩ (fun i σ H' _ p => SqL.of p.1) (fun i v σ H' hv p => ?_) (fun σ H' p => ?_)⟩
      · obtain ⟨e3, y1, y2, y3, y4, rfl⟩ := p
        obtain ⟨z, rfl, hz⟩ := hall.at hv
        exact cmp_ok rfl hz fun H5 s5 => iteF ⟨s5 _ _ e3, _, _, _, _, rfl⟩
      · obtain ⟨e3, y1, y2, y3, y4, rfl⟩ := p
        have ep : parseL (tl ("abc" : Str)) = (none, [], 0) := by decide +kernel
        refine ⟨_, rfl, by decide +kernel, fun p r qs H1 s1 hp hr hpr ep1 er ra => ?_⟩
        have P1 : ParAt (tl ("abc" : Str)) H' H1 p qs r := ⟨hp, hr, ep1, er, ra⟩
        refine ⟨(by show 0 ≤ sizeLine; decide), fun l hl => ⟨(by show 3 ≤ sizeLine; decide), fun t ht => ?_⟩⟩
        have s2 := same_new (o := .lst []) hl
        have s3 := same_new (o := .tup [.non, .ref l, .int 0]) ht
        have sh := (parD_lay (tl ("abc" : Str))).shaped (by decide)
        have dt : Dp K (upd (upd H1 l (.lst [])) t (.tup [.non, .ref l, .int 0])) (.ref t) (parD (tl ("abc" : Str))) := by
          have e : parD (tl ("abc" : Str)) = .tuple [.none, .list [], .int 0] := by
            unfold parD
            rw [ep]
            rfl
          rw [e]
          exact .tup (SqT.of upd_same) (.cons .non (.cons (.lst (SqL.of (s3 _ _ upd_same)) .nil) (.cons (.int _) .nil)))
        refine ⟨_, _, ((P1.keep s2).keep s3).dp, dt, sh, sh, ?_⟩
        rw [(parD_lay (tl ("abc" : Str))).eqv]
        exact q _
end
end Lr
namespace Lr
open PySem PySem.Spec PyProof.Rows L2 Lf
section
theorem all_mk {l : PySem.W.OpenLaw} {w : World} {K : PySem.W.Frag} {h : Heap} {mg : Str → Option Value} {fa : Addr} (X : K.In h) (G : h.Ns mainGlobals mg) (hfa : mg "law" = some (.ref fa))
    {od0 an0 : Option Addr} {sl0 : Array (Option Value)} {oc0 kV0 dc0 pm0 cd0 ct0 : Value} {f0 : Addr}
    {od1 an1 : Option Addr} {sl1 : Array (Option Value)} {oc1 kV1 dc1 pm1 cd1 ct1 : Value} {f1 : Addr}
    {od2 an2 : Option Addr} {sl2 : Array (Option Value)} {oc2 kV2 dc2 pm2 cd2 ct2 : Value} {f2 : Addr}
    {od3 an3 : Option Addr} {sl3 : Array (Option Value)} {oc3 kV3 dc3 pm3 cd3 ct3 : Value} {f3 : Addr}
    {od4 an4 : Option Addr} {sl4 : Array (Option Value)} {oc4 kV4 dc4 pm4 cd4 ct4 : Value} {f4 : Addr}
    {od5 an5 : Option Addr} {sl5 : Array (Option Value)} {oc5 kV5 dc5 pm5 cd5 ct5 : Value} {f5 : Addr}
    {od6 an6 : Option Addr} {sl6 : Array (Option Value)} {oc6 kV6 dc6 pm6 cd6 ct6 : Value} {f6 : Addr}
    {od7 an7 : Option Addr} {sl7 : Array (Option Value)} {oc7 kV7 dc7 pm7 cd7 ct7 : Value} {f7 : Addr}
    {od8 an8 : Option Addr} {sl8 : Array (Option Value)} {oc8 kV8 dc8 pm8 cd8 ct8 : Value} {f8 : Addr}
    {od9 an9 : Option Addr} {sl9 : Array (Option Value)} {oc9 kV9 dc9 pm9 cd9 ct9 : Value} {f9 : Addr}
    {od10 an10 : Option Addr} {sl10 : Array (Option Value)} {oc10 kV10 dc10 pm10 cd10 ct10 : Value} {f10 : Addr}
    {od11 an11 : Option Addr} {sl11 : Array (Option Value)} {oc11 kV11 dc11 pm11 cd11 ct11 : Value} {f11 : Addr}
    {od12 an12 : Option Addr} {sl12 : Array (Option Value)} {oc12 kV12 dc12 pm12 cd12 ct12 : Value} {f12 : Addr}
    {od13 an13 : Option Addr} {sl13 : Array (Option Value)} {oc13 kV13 dc13 pm13 cd13 ct13 : Value} {f13 : Addr}
    {od14 an14 : Option Addr} {sl14 : Array (Option Value)} {oc14 kV14 dc14 pm14 cd14 ct14 : Value} {f14 : Addr}
    {od15 an15 : Option Addr} {sl15 : Array (Option Value)} {oc15 kV15 dc15 pm15 cd15 ct15 : Value} {f15 : Addr}
    {od16 an16 : Option Addr} {sl16 : Array (Option Value)} {oc16 kV16 dc16 pm16 cd16 ct16 : Value} {f16 : Addr}
    {od17 an17 : Option Addr} {sl17 : Array (Option Value)} {oc17 kV17 dc17 pm17 cd17 ct17 : Value} {f17 : Addr}
    {od18 an18 : Option Addr} {sl18 : Array (Option Value)} {oc18 kV18 dc18 pm18 cd18 ct18 : Value} {f18 : Addr}
    {od19 an19 : Option Addr} {sl19 : Array (Option Value)} {oc19 kV19 dc19 pm19 cd19 ct19 : Value} {f19 : Addr}
    {od20 an20 : Option Addr} {sl20 : Array (Option Value)} {oc20 kV20 dc20 pm20 cd20 ct20 : Value} {f20 : Addr}
    {tk0 : Tok}
    (a0 : PySem.W.nsIn K mainGlobals "number_in" = some (some (.ref f0))) (l0 : K.lookup f0 = some ⟨oc0, od0, .func (PySem.W.fnOf "number_in" "number_in" (defArgs (topS 1)) (defBody (topS 1)) (defScope (topS 1)) .none kV0 dc0 pm0 an0 cd0 ct0), sl0⟩) (c0 : PySem.W.codeIn K cd0 "number_in" = true) (k0 : PySem.W.keepIn K (.ref f0) = true)
    (a1 : PySem.W.nsIn K mainGlobals "check_of" = some (some (.ref f1))) (l1 : K.lookup f1 = some ⟨oc1, od1, .func (PySem.W.fnOf "check_of" "check_of" (defArgs (topS 4)) (defBody (topS 4)) (defScope (topS 4)) .none kV1 dc1 pm1 an1 cd1 ct1), sl1⟩) (c1 : PySem.W.codeIn K cd1 "check_of" = true) (k1 : PySem.W.keepIn K (.ref f1) = true)
    (a2 : PySem.W.nsIn K mainGlobals "parsed" = some (some (.ref f2))) (l2 : K.lookup f2 = some ⟨oc2, od2, .func (PySem.W.fnOf "parsed" "parsed" (defArgs (topS 5)) (defBody (topS 5)) (defScope (topS 5)) .none kV2 dc2 pm2 an2 cd2 ct2), sl2⟩) (c2 : PySem.W.codeIn K cd2 "parsed" = true) (k2 : PySem.W.keepIn K (.ref f2) = true)
    (a3 : PySem.W.nsIn K mainGlobals "record_at" = some (some (.ref f3))) (l3 : K.lookup f3 = some ⟨oc3, od3, .func (PySem.W.fnOf "record_at" "record_at" (defArgs (topS 6)) (defBody (topS 6)) (defScope (topS 6)) .none kV3 dc3 pm3 an3 cd3 ct3), sl3⟩) (c3 : PySem.W.codeIn K cd3 "record_at" = true) (k3 : PySem.W.keepIn K (.ref f3) = true)
    (a4 : PySem.W.nsIn K mainGlobals "number_until" = some (some (.ref f4))) (l4 : K.lookup f4 = some ⟨oc4, od4, .func (PySem.W.fnOf "number_until" "number_until" (defArgs (topS 7)) (defBody (topS 7)) (defScope (topS 7)) .none kV4 dc4 pm4 an4 cd4 ct4), sl4⟩) (c4 : PySem.W.codeIn K cd4 "number_until" = true) (k4 : PySem.W.keepIn K (.ref f4) = true)
    (a5 : PySem.W.nsIn K mainGlobals "is_row" = some (some (.ref f5))) (l5 : K.lookup f5 = some ⟨oc5, od5, .func (PySem.W.fnOf "is_row" "is_row" (defArgs (topS 8)) (defBody (topS 8)) (defScope (topS 8)) .none kV5 dc5 pm5 an5 cd5 ct5), sl5⟩) (c5 : PySem.W.codeIn K cd5 "is_row" = true) (k5 : PySem.W.keepIn K (.ref f5) = true)
    (a6 : PySem.W.nsIn K mainGlobals "_law_feed" = some (some (.ref f6))) (l6 : K.lookup f6 = some ⟨oc6, od6, .func (PySem.W.fnOf "_law_feed" "_law_feed" (defArgs (topS 10)) (defBody (topS 10)) (defScope (topS 10)) .none kV6 dc6 pm6 an6 cd6 ct6), sl6⟩) (c6 : PySem.W.codeIn K cd6 "_law_feed" = true) (k6 : PySem.W.keepIn K (.ref f6) = true)
    (a7 : PySem.W.nsIn K mainGlobals "_law_take" = some (some (.ref f7))) (l7 : K.lookup f7 = some ⟨oc7, od7, .func (PySem.W.fnOf "_law_take" "_law_take" (defArgs (topS 11)) (defBody (topS 11)) (defScope (topS 11)) .none kV7 dc7 pm7 an7 cd7 ct7), sl7⟩) (c7 : PySem.W.codeIn K cd7 "_law_take" = true) (k7 : PySem.W.keepIn K (.ref f7) = true)
    (a8 : PySem.W.nsIn K mainGlobals "_law_pick" = some (some (.ref f8))) (l8 : K.lookup f8 = some ⟨oc8, od8, .func (PySem.W.fnOf "_law_pick" "_law_pick" (defArgs (topS 12)) (defBody (topS 12)) (defScope (topS 12)) .none kV8 dc8 pm8 an8 cd8 ct8), sl8⟩) (c8 : PySem.W.codeIn K cd8 "_law_pick" = true) (k8 : PySem.W.keepIn K (.ref f8) = true)
    (a9 : PySem.W.nsIn K mainGlobals "_law_signs" = some (some (.ref f9))) (l9 : K.lookup f9 = some ⟨oc9, od9, .func (PySem.W.fnOf "_law_signs" "_law_signs" (defArgs (topS 14)) (defBody (topS 14)) (defScope (topS 14)) .none kV9 dc9 pm9 an9 cd9 ct9), sl9⟩) (c9 : PySem.W.codeIn K cd9 "_law_signs" = true) (k9 : PySem.W.keepIn K (.ref f9) = true)
    (a10 : PySem.W.nsIn K mainGlobals "_law_row" = some (some (.ref f10))) (l10 : K.lookup f10 = some ⟨oc10, od10, .func (PySem.W.fnOf "_law_row" "_law_row" (defArgs (topS 15)) (defBody (topS 15)) (defScope (topS 15)) .none kV10 dc10 pm10 an10 cd10 ct10), sl10⟩) (c10 : PySem.W.codeIn K cd10 "_law_row" = true) (k10 : PySem.W.keepIn K (.ref f10) = true)
    (a11 : PySem.W.nsIn K mainGlobals "_law_rows_drawn" = some (some (.ref f11))) (l11 : K.lookup f11 = some ⟨oc11, od11, .func (PySem.W.fnOf "_law_rows_drawn" "_law_rows_drawn" (defArgs (topS 16)) (defBody (topS 16)) (defScope (topS 16)) .none kV11 dc11 pm11 an11 cd11 ct11), sl11⟩) (c11 : PySem.W.codeIn K cd11 "_law_rows_drawn" = true) (k11 : PySem.W.keepIn K (.ref f11) = true)
    (a12 : PySem.W.nsIn K mainGlobals "_law_check" = some (some (.ref f12))) (l12 : K.lookup f12 = some ⟨oc12, od12, .func (PySem.W.fnOf "_law_check" "_law_check" (defArgs (topS 17)) (defBody (topS 17)) (defScope (topS 17)) .none kV12 dc12 pm12 an12 cd12 ct12), sl12⟩) (c12 : PySem.W.codeIn K cd12 "_law_check" = true) (k12 : PySem.W.keepIn K (.ref f12) = true)
    (a13 : PySem.W.nsIn K mainGlobals "_law_record" = some (some (.ref f13))) (l13 : K.lookup f13 = some ⟨oc13, od13, .func (PySem.W.fnOf "_law_record" "_law_record" (defArgs (topS 18)) (defBody (topS 18)) (defScope (topS 18)) .none kV13 dc13 pm13 an13 cd13 ct13), sl13⟩) (c13 : PySem.W.codeIn K cd13 "_law_record" = true) (k13 : PySem.W.keepIn K (.ref f13) = true)
    (a14 : PySem.W.nsIn K mainGlobals "_law_figures" = some (some (.ref f14))) (l14 : K.lookup f14 = some ⟨oc14, od14, .func (PySem.W.fnOf "_law_figures" "_law_figures" (defArgs (topS 19)) (defBody (topS 19)) (defScope (topS 19)) .none kV14 dc14 pm14 an14 cd14 ct14), sl14⟩) (c14 : PySem.W.codeIn K cd14 "_law_figures" = true) (k14 : PySem.W.keepIn K (.ref f14) = true)
    (a15 : PySem.W.nsIn K mainGlobals "_law_head" = some (some (.ref f15))) (l15 : K.lookup f15 = some ⟨oc15, od15, .func (PySem.W.fnOf "_law_head" "_law_head" (defArgs (topS 20)) (defBody (topS 20)) (defScope (topS 20)) .none kV15 dc15 pm15 an15 cd15 ct15), sl15⟩) (c15 : PySem.W.codeIn K cd15 "_law_head" = true) (k15 : PySem.W.keepIn K (.ref f15) = true)
    (a16 : PySem.W.nsIn K mainGlobals "_law_whole_at" = some (some (.ref f16))) (l16 : K.lookup f16 = some ⟨oc16, od16, .func (PySem.W.fnOf "_law_whole_at" "_law_whole_at" (defArgs (topS 21)) (defBody (topS 21)) (defScope (topS 21)) .none kV16 dc16 pm16 an16 cd16 ct16), sl16⟩) (c16 : PySem.W.codeIn K cd16 "_law_whole_at" = true) (k16 : PySem.W.keepIn K (.ref f16) = true)
    (a17 : PySem.W.nsIn K mainGlobals "_law_due" = some (some (.ref f17))) (l17 : K.lookup f17 = some ⟨oc17, od17, .func (PySem.W.fnOf "_law_due" "_law_due" (defArgs (topS 22)) (defBody (topS 22)) (defScope (topS 22)) .none kV17 dc17 pm17 an17 cd17 ct17), sl17⟩) (c17 : PySem.W.codeIn K cd17 "_law_due" = true) (k17 : PySem.W.keepIn K (.ref f17) = true)
    (a18 : PySem.W.nsIn K mainGlobals "_law_spoilt" = some (some (.ref f18))) (l18 : K.lookup f18 = some ⟨oc18, od18, .func (PySem.W.fnOf "_law_spoilt" "_law_spoilt" (defArgs (topS 23)) (defBody (topS 23)) (defScope (topS 23)) .none kV18 dc18 pm18 an18 cd18 ct18), sl18⟩) (c18 : PySem.W.codeIn K cd18 "_law_spoilt" = true) (k18 : PySem.W.keepIn K (.ref f18) = true)
    (a19 : PySem.W.nsIn K mainGlobals "_law_log" = some (some (.ref f19))) (l19 : K.lookup f19 = some ⟨oc19, od19, .func (PySem.W.fnOf "_law_log" "_law_log" (defArgs (topS 24)) (defBody (topS 24)) (defScope (topS 24)) .none kV19 dc19 pm19 an19 cd19 ct19), sl19⟩) (c19 : PySem.W.codeIn K cd19 "_law_log" = true) (k19 : PySem.W.keepIn K (.ref f19) = true)
    (a20 : PySem.W.nsIn K mainGlobals "law" = some (some (.ref f20))) (l20 : K.lookup f20 = some ⟨oc20, od20, .func (PySem.W.fnOf "law" "law" (defArgs (topS 25)) (defBody (topS 25)) (defScope (topS 25)) .none kV20 dc20 pm20 an20 cd20 ct20), sl20⟩) (c20 : PySem.W.codeIn K cd20 "law" = true) (k20 : PySem.W.keepIn K (.ref f20) = true)
    (z0 : PySem.W.nsIn K mainGlobals "len" = some none)
    (z1 : PySem.W.nsIn K mainGlobals "range" = some none)
    (z2 : PySem.W.nsIn K mainGlobals "abs" = some none)
    (z3 : PySem.W.nsIn K mainGlobals "list" = some none)
    (z4 : PySem.W.nsIn K mainGlobals "tuple" = some none)
    (z5 : PySem.W.nsIn K mainGlobals "enumerate" = some none)
    (z6 : PySem.W.nsIn K mainGlobals "isinstance" = some none)
    (z7 : PySem.W.nsIn K mainGlobals "max" = some none)
    (z8 : PySem.W.nsIn K mainGlobals "min" = some none)
    (z9 : PySem.W.nsIn K mainGlobals "all" = some none)
    (z10 : PySem.W.nsIn K mainGlobals "ord" = some none)
    (z11 : PySem.W.nsIn K mainGlobals "str" = some none)
    (z12 : PySem.W.nsIn K mainGlobals "int" = some none)
    (z13 : PySem.W.nsIn K mainGlobals "bool" = some none)
    (y0 : PySem.W.nsIn K mainGlobals "FIGURES_MOST" = some (some (.int 60 tk0)))
    : ∃ fd : FuncData, (∀ (s : Shared) (v : Value), BindsTo s fd ⟨[v], []⟩ [("_law_script", v)]) ∧ ∀ base : Heap, K.In base → base.Ns mainGlobals mg → FnOk l.prog w K mg base CX0 6 fa fd ["_law_script"] (spLaw K) := by
  have e := hfa.symm.trans (PySem.W.mg_of X G a20)
  cases e
  have T : Bs mg := ⟨PySem.W.mg_none_of X G z0, PySem.W.mg_none_of X G z1, PySem.W.mg_none_of X G z2, PySem.W.mg_none_of X G z3, PySem.W.mg_none_of X G z4, PySem.W.mg_none_of X G z5, PySem.W.mg_none_of X G z6, PySem.W.mg_none_of X G z7, PySem.W.mg_none_of X G z8, PySem.W.mg_none_of X G z9, PySem.W.mg_none_of X G z10, PySem.W.mg_none_of X G z11, PySem.W.mg_none_of X G z12, PySem.W.mg_none_of X G z13, ⟨tk0, PySem.W.mg_of X G y0⟩⟩
  have F_number_in := fun_mk (st := topS 1) l0 c0 k0
  have g_number_in := PySem.W.mg_of X G a0
  have b_number_in := F_number_in.binds (ps := ["word"]) fun _ _ _ _ _ _ us hl => match us, hl with | [_], _ => rfl
  have F_check_of := fun_mk (st := topS 4) l1 c1 k1
  have g_check_of := PySem.W.mg_of X G a1
  have b_check_of := F_check_of.binds (ps := ["text"]) fun _ _ _ _ _ _ us hl => match us, hl with | [_], _ => rfl
  have F_parsed := fun_mk (st := topS 5) l2 c2 k2
  have g_parsed := PySem.W.mg_of X G a2
  have b_parsed := F_parsed.binds (ps := ["log"]) fun _ _ _ _ _ _ us hl => match us, hl with | [_], _ => rfl
  have F_record_at := fun_mk (st := topS 6) l3 c3 k3
  have g_record_at := PySem.W.mg_of X G a3
  have b_record_at := F_record_at.binds (ps := ["log", "at"]) fun _ _ _ _ _ _ us hl => match us, hl with | [_, _], _ => rfl
  have F_number_until := fun_mk (st := topS 7) l4 c4 k4
  have g_number_until := PySem.W.mg_of X G a4
  have b_number_until := F_number_until.binds (ps := ["log", "at", "closing"]) fun _ _ _ _ _ _ us hl => match us, hl with | [_, _, _], _ => rfl
  have F_is_row := fun_mk (st := topS 8) l5 c5 k5
  have g_is_row := PySem.W.mg_of X G a5
  have b_is_row := F_is_row.binds (ps := ["row"]) fun _ _ _ _ _ _ us hl => match us, hl with | [_], _ => rfl
  have F__law_feed := fun_mk (st := topS 10) l6 c6 k6
  have g__law_feed := PySem.W.mg_of X G a6
  have b__law_feed := F__law_feed.binds (ps := ["_law_script", "_law_k"]) fun _ _ _ _ _ _ us hl => match us, hl with | [_, _], _ => rfl
  have F__law_take := fun_mk (st := topS 11) l7 c7 k7
  have g__law_take := PySem.W.mg_of X G a7
  have b__law_take := F__law_take.binds (ps := ["_law_feed_here", "_law_many"]) fun _ _ _ _ _ _ us hl => match us, hl with | [_, _], _ => rfl
  have F__law_pick := fun_mk (st := topS 12) l8 c8 k8
  have g__law_pick := PySem.W.mg_of X G a8
  have b__law_pick := F__law_pick.binds (ps := ["_law_feed_here", "_law_some"]) fun _ _ _ _ _ _ us hl => match us, hl with | [_, _], _ => rfl
  have F__law_signs := fun_mk (st := topS 14) l9 c9 k9
  have g__law_signs := PySem.W.mg_of X G a9
  have b__law_signs := F__law_signs.binds (ps := []) fun _ _ _ _ _ _ us hl => match us, hl with | [], _ => rfl
  have F__law_row := fun_mk (st := topS 15) l10 c10 k10
  have g__law_row := PySem.W.mg_of X G a10
  have b__law_row := F__law_row.binds (ps := ["_law_feed_here"]) fun _ _ _ _ _ _ us hl => match us, hl with | [_], _ => rfl
  have F__law_rows_drawn := fun_mk (st := topS 16) l11 c11 k11
  have g__law_rows_drawn := PySem.W.mg_of X G a11
  have b__law_rows_drawn := F__law_rows_drawn.binds (ps := ["_law_feed_here"]) fun _ _ _ _ _ _ us hl => match us, hl with | [_], _ => rfl
  have F__law_check := fun_mk (st := topS 17) l12 c12 k12
  have g__law_check := PySem.W.mg_of X G a12
  have b__law_check := F__law_check.binds (ps := ["_law_text"]) fun _ _ _ _ _ _ us hl => match us, hl with | [_], _ => rfl
  have F__law_record := fun_mk (st := topS 18) l13 c13 k13
  have g__law_record := PySem.W.mg_of X G a13
  have b__law_record := F__law_record.binds (ps := ["_law_number", "_law_lines"]) fun _ _ _ _ _ _ us hl => match us, hl with | [_, _], _ => rfl
  have F__law_figures := fun_mk (st := topS 19) l14 c14 k14
  have g__law_figures := PySem.W.mg_of X G a14
  have b__law_figures := F__law_figures.binds (ps := ["_law_text"]) fun _ _ _ _ _ _ us hl => match us, hl with | [_], _ => rfl
  have F__law_head := fun_mk (st := topS 20) l15 c15 k15
  have g__law_head := PySem.W.mg_of X G a15
  have b__law_head := F__law_head.binds (ps := ["_law_log_here", "_law_at"]) fun _ _ _ _ _ _ us hl => match us, hl with | [_, _], _ => rfl
  have F__law_whole_at := fun_mk (st := topS 21) l16 c16 k16
  have g__law_whole_at := PySem.W.mg_of X G a16
  have b__law_whole_at := F__law_whole_at.binds (ps := ["_law_log_here", "_law_at"]) fun _ _ _ _ _ _ us hl => match us, hl with | [_, _], _ => rfl
  have F__law_due := fun_mk (st := topS 22) l17 c17 k17
  have g__law_due := PySem.W.mg_of X G a17
  have b__law_due := F__law_due.binds (ps := ["_law_log_here"]) fun _ _ _ _ _ _ us hl => match us, hl with | [_], _ => rfl
  have F__law_spoilt := fun_mk (st := topS 23) l18 c18 k18
  have g__law_spoilt := PySem.W.mg_of X G a18
  have b__law_spoilt := F__law_spoilt.binds (ps := ["_law_feed_here", "_law_number", "_law_lines"]) fun _ _ _ _ _ _ us hl => match us, hl with | [_, _, _], _ => rfl
  have F__law_log := fun_mk (st := topS 24) l19 c19 k19
  have g__law_log := PySem.W.mg_of X G a19
  have b__law_log := F__law_log.binds (ps := ["_law_feed_here"]) fun _ _ _ _ _ _ us hl => match us, hl with | [_], _ => rfl
  have F_law := fun_mk (st := topS 25) l20 c20 k20
  have g_law := PySem.W.mg_of X G a20
  have b_law := F_law.binds (ps := ["_law_script"]) fun _ _ _ _ _ _ us hl => match us, hl with | [_], _ => rfl
  refine ⟨PySem.W.fnOf "law" "law" (defArgs (topS 25)) (defBody (topS 25)) (defScope (topS 25)) .none kV20 dc20 pm20 an20 cd20 ct20, fun s v => .of_eq rfl, fun base _ _ => ?_⟩
  have C_num : Callee l.prog w K mg base 1 "number_in" ["word"] spNum := ⟨_, _, ok_num F_number_in T, g_number_in, F_number_in.kp, b_number_in⟩
  have C_chk : Callee l.prog w K mg base 1 "check_of" ["text"] spChk := ⟨_, _, ok_chk F_check_of T, g_check_of, F_check_of.kp, b_check_of⟩
  have C_unt : Callee l.prog w K mg base 2 "number_until" ["log", "at", "closing"] spUnt := ⟨_, _, ok_unt F_number_until T C_num, g_number_until, F_number_until.kp, b_number_until⟩
  have C_row : Callee l.prog w K mg base 1 "is_row" ["row"] spRow := ⟨_, _, ok_row F_is_row T, g_is_row, F_is_row.kp, b_is_row⟩
  have C_rat : Callee l.prog w K mg base 3 "record_at" ["log", "at"] spRat := ⟨_, _, ok_rat F_record_at T C_chk C_unt C_row, g_record_at, F_record_at.kp, b_record_at⟩
  have C_par : Callee l.prog w K mg base 4 "parsed" ["log"] spPar := ⟨_, _, ok_par F_parsed T C_rat, g_parsed, F_parsed.kp, b_parsed⟩
  have C_take : Callee l.prog w K mg base 1 "_law_take" ["_law_feed_here", "_law_many"] spTake := ⟨_, _, ok_take F__law_take, g__law_take, F__law_take.kp, b__law_take⟩
  have C_feed : Callee l.prog w K mg base 1 "_law_feed" ["_law_script", "_law_k"] (spFeed K) := ⟨_, _, ok_feed F__law_feed T, g__law_feed, F__law_feed.kp, b__law_feed⟩
  have C_pick : Callee l.prog w K mg base 2 "_law_pick" ["_law_feed_here", "_law_some"] (spPick K) := ⟨_, _, ok_pick F__law_pick T C_take, g__law_pick, F__law_pick.kp, b__law_pick⟩
  have C_signs : Callee l.prog w K mg base 1 "_law_signs" [] spSigns := ⟨_, _, ok_signs F__law_signs, g__law_signs, F__law_signs.kp, b__law_signs⟩
  have C_lrow : Callee l.prog w K mg base 3 "_law_row" ["_law_feed_here"] spRowD := ⟨_, _, ok_rowd F__law_row T C_take C_pick C_signs, g__law_row, F__law_row.kp, b__law_row⟩
  have C_lrows : Callee l.prog w K mg base 4 "_law_rows_drawn" ["_law_feed_here"] spRowsD := ⟨_, _, ok_rowsd F__law_rows_drawn T C_take C_pick C_lrow, g__law_rows_drawn, F__law_rows_drawn.kp, b__law_rows_drawn⟩
  have C_lchk : Callee l.prog w K mg base 1 "_law_check" ["_law_text"] spChk := ⟨_, _, ok_lchk F__law_check T, g__law_check, F__law_check.kp, b__law_check⟩
  have C_lrec : Callee l.prog w K mg base 2 "_law_record" ["_law_number", "_law_lines"] (spLRec K) := ⟨_, _, ok_lrec F__law_record T C_lchk, g__law_record, F__law_record.kp, b__law_record⟩
  have C_fig : Callee l.prog w K mg base 1 "_law_figures" ["_law_text"] spFig := ⟨_, _, ok_fig F__law_figures T, g__law_figures, F__law_figures.kp, b__law_figures⟩
  have C_head : Callee l.prog w K mg base 2 "_law_head" ["_law_log_here", "_law_at"] spHead := ⟨_, _, ok_head F__law_head T C_fig, g__law_head, F__law_head.kp, b__law_head⟩
  have C_whl : Callee l.prog w K mg base 3 "_law_whole_at" ["_law_log_here", "_law_at"] spWhl := ⟨_, _, ok_whl F__law_whole_at T C_head C_lchk, g__law_whole_at, F__law_whole_at.kp, b__law_whole_at⟩
  have C_due : Callee l.prog w K mg base 4 "_law_due" ["_law_log_here"] spDue := ⟨_, _, ok_due F__law_due T C_whl, g__law_due, F__law_due.kp, b__law_due⟩
  have C_spo : Callee l.prog w K mg base 3 "_law_spoilt" ["_law_feed_here", "_law_number", "_law_lines"] (spSpo K) := ⟨_, _, ok_spo F__law_spoilt T C_take C_pick C_lchk, g__law_spoilt, F__law_spoilt.kp, b__law_spoilt⟩
  have C_log : Callee l.prog w K mg base 5 "_law_log" ["_law_feed_here"] spLog := ⟨_, _, ok_log F__law_log T C_take C_pick C_lrows C_lrec C_spo, g__law_log, F__law_log.kp, b__law_log⟩
  exact ok_law F_law T C_feed C_log C_par C_due C_lrec
end
end Lr
open PySem PySem.W PyProof.Rows
set_option maxRecDepth 100000 in
set_option maxHeartbeats 0 in
theorem PySem.Challenge.cw_leafround_k68_logs_parsed_holds : PySem.Challenge.rw_leafround_k68_logs_parsed.Holds := by
  w_on; o_law; k_head; (case hw => w_witness2)
  k_fill
  refine L2.walk_of (l := PySem.Challenge.rw_leafround_k68_logs_parsed) (n := 63) (k := 6) (x := "_law_script") (CX := fun _ => L2.CX0) (sp := fun w => Lr.spLaw _) rfl (by decide) rfl ⟨rfl, by decide, by decide⟩ (fun w h Y => PySem.W.kIn_of Y) ?F (fun _ _ a ns hl _ hS => ⟨a, ns, rfl, hS, hl, fun _ => rfl⟩) (fun _ _ _ _ _ h => h)
  case F =>
    intro w mg fa h KX G hmg
    refine' Lr.all_mk KX G hmg ?a0 ?l0 ?c0 ?k0 ?a1 ?l1 ?c1 ?k1 ?a2 ?l2 ?c2 ?k2 ?a3 ?l3 ?c3 ?k3 ?a4 ?l4 ?c4 ?k4 ?a5 ?l5 ?c5 ?k5 ?a6 ?l6 ?c6 ?k6 ?a7 ?l7 ?c7 ?k7 ?a8 ?l8 ?c8 ?k8 ?a9 ?l9 ?c9 ?k9 ?a10 ?l10 ?c10 ?k10 ?a11 ?l11 ?c11 ?k11 ?a12 ?l12 ?c12 ?k12 ?a13 ?l13 ?c13 ?k13 ?a14 ?l14 ?c14 ?k14 ?a15 ?l15 ?c15 ?k15 ?a16 ?l16 ?c16 ?k16 ?a17 ?l17 ?c17 ?k17 ?a18 ?l18 ?c18 ?k18 ?a19 ?l19 ?c19 ?k19 ?a20 ?l20 ?c20 ?k20 ?z0 ?z1 ?z2 ?z3 ?z4 ?z5 ?z6 ?z7 ?z8 ?z9 ?z10 ?z11 ?z12 ?z13 ?y0
    (case a0 => k_is); (case l0 => k_is); (case c0 => k_is); (case k0 => k_is); (case a1 => k_is); (case l1 => k_is); (case c1 => k_is); (case k1 => k_is); (case a2 => k_is); (case l2 => k_is); (case c2 => k_is); (case k2 => k_is); (case a3 => k_is); (case l3 => k_is); (case c3 => k_is); (case k3 => k_is); (case a4 => k_is); (case l4 => k_is); (case c4 => k_is); (case k4 => k_is); (case a5 => k_is); (case l5 => k_is); (case c5 => k_is); (case k5 => k_is); (case a6 => k_is); (case l6 => k_is); (case c6 => k_is); (case k6 => k_is); (case a7 => k_is); (case l7 => k_is); (case c7 => k_is); (case k7 => k_is); (case a8 => k_is); (case l8 => k_is); (case c8 => k_is); (case k8 => k_is); (case a9 => k_is); (case l9 => k_is); (case c9 => k_is); (case k9 => k_is); (case a10 => k_is); (case l10 => k_is); (case c10 => k_is); (case k10 => k_is); (case a11 => k_is); (case l11 => k_is); (case c11 => k_is); (case k11 => k_is); (case a12 => k_is); (case l12 => k_is); (case c12 => k_is); (case k12 => k_is); (case a13 => k_is); (case l13 => k_is); (case c13 => k_is); (case k13 => k_is); (case a14 => k_is); (case l14 => k_is); (case c14 => k_is); (case k14 => k_is); (case a15 => k_is); (case l15 => k_is); (case c15 => k_is); (case k15 => k_is); (case a16 => k_is); (case l16 => k_is); (case c16 => k_is); (case k16 => k_is); (case a17 => k_is); (case l17 => k_is); (case c17 => k_is); (case k17 => k_is); (case a18 => k_is); (case l18 => k_is); (case c18 => k_is); (case k18 => k_is); (case a19 => k_is); (case l19 => k_is); (case c19 => k_is); (case k19 => k_is); (case a20 => k_is); (case l20 => k_is); (case c20 => k_is); (case k20 => k_is); (case z0 => k_is); (case z1 => k_is); (case z2 => k_is); (case z3 => k_is); (case z4 => k_is); (case z5 => k_is); (case z6 => k_is); (case z7 => k_is); (case z8 => k_is); (case z9 => k_is); (case z10 => k_is); (case z11 => k_is); (case z12 => k_is); (case z13 => k_is); (case y0 => k_is)
