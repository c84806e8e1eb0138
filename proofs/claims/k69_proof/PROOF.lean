import PyProof.Rows.All
import Wide.All
import OpenK.AllK
import Wide.FinOn
import HandS.ForMost
import HandS.Star
import HandS.Style
import HandS.Wide
import HandS.IsInst
import HandS.EndBits
import HandS.More
import HandS.TupAny
import HandS.Evl
import HandS.FStr
import HandS.StrMore
import HandS.Codes
import HandS.Walk
import KE.IntTextLaws
import HandS.ReplaceLit
import HandS.ReplaceList
import PySem.Challenge.RW_leafround_k69_whole_logs_cut_and_spoilt
set_option Elab.async false
set_option linter.all false
set_option maxRecDepth 100000
namespace Lf
open PySem PySem.Spec PyProof.Rows L2

/-- an own def: where it stands, its promise, how it is called -/
def Callee (P : Program) (w : World) (K : PySem.W.Frag) (mg : Str → Option Value) (base : Heap) (k : Nat) (x : Str) (ps : List Str) (sp : Sp) : Prop :=
  ∃ (f : Addr) (fd : FuncData), FnOk P w K mg base CX0 k f fd ps sp ∧ mg x = some (.ref f) ∧ PySem.W.keepIn K (.ref f) = true ∧ Binds K fd ps []
section
variable {X : Cx} {k : Nat} {x : Str} {ps : List Str} {sp : Sp} {e : Expr} {es : List Expr} {t : TA} {p pos : Pos}
theorem pe_own (C : Callee X.prog X.w X.K X.mg X.base k x ps sp) (hr : Room k X.A) (hg : Gl X x) (ha : PA X (e :: es) t)
    (hdb : (x == ("__debug__" : Str)) = false := by decide) (he : starEach (e :: es) X.env = (false, eval e X.env) :: starEach es X.env := by rfl) (hpl : (backTo pos (starEach es X.env)).any (·.1) = false := by rfl) :
    PE X (.Call (.Name x p) (e :: es) [] pos) (tCall sp [] E0 t) := by
  obtain ⟨f, fd, F, hm, hk, hb⟩ := C
  exact pe_call F hr hg hm hk hb .nil pass0 ha hdb he hpl
end

/-- all but the object at a stays -/
def Kp (a : Addr) (H H' : Hp) : Prop := ∀ b o, b ≠ a → H b = some o → H' b = some o
theorem Kp.refl (a : Addr) (H : Hp) : Kp a H H := fun _ _ _ h => h
theorem Kp.trans {a : Addr} {H H1 H2 : Hp} (x : Kp a H H1) (y : Kp a H1 H2) : Kp a H H2 := fun b o n h => y b o n (x b o n h)
theorem Kp.new {a p : Addr} {H H' : Hp} {o : HO} (x : Kp a H H') (h : H' p = none) : Kp a H (upd H' p o) := fun b u n e => by
  rw [upd_ne (ne_of_none (x b u n e) h)]
  exact x b u n e
theorem Kp.mut {a : Addr} {H H' : Hp} {o : HO} (x : Kp a H H') : Kp a H (upd H' a o) := fun b u n e => by
  rw [upd_ne n]
  exact x b u n e
theorem Kp.seqL {K : PySem.W.Frag} {a p : Addr} {H H' : Hp} {xs : List V} (x : Kp a H H') (n : p ≠ a) (h : SqL K H p xs) : SqL K H' p xs := by
  rcases h with (h | ⟨o, h⟩) | h
  · exact .inl (.inl (x _ _ n h))
  · exact .inl (.inr ⟨o, x _ _ n h⟩)
  · exact .inr h

/-- the tape: two ints -/
def TapeAt (H : Hp) (a : Addr) : Prop := ∃ u v : Int, H a = some (.lst [.int u, .int v]) ∧ 0 ≤ u ∧ 0 ≤ v ∧ v < 2147483648
theorem TapeAt.keep {a b : Addr} {H H' : Hp} (h : TapeAt H a) (k : Kp b H H') (n : a ≠ b) : TapeAt H' a := by
  obtain ⟨u, v, e, r⟩ := h
  exact ⟨u, v, k _ _ n e, r⟩
theorem TapeAt.new {a p : Addr} {H : Hp} {o : HO} (h : TapeAt H a) (n : H p = none) : TapeAt (upd H p o) a := by
  obtain ⟨u, v, e, r⟩ := h
  exact ⟨u, v, by rw [upd_ne (ne_of_none e n)]; exact e, r⟩
def spDigit : Sp := fun vs H Q _ => ∃ (a : Addr) (n : Int), vs = [.ref a, .int n] ∧ TapeAt H a ∧ 0 < n ∧ n ≤ 10 ^ 60 ∧
  ∀ (v : Int) (H' : Hp), Kp a H H' → TapeAt H' a → 0 ≤ v → v < n → Q (.int v) H'
/-- an object that H does not know may change -/
theorem Kp.mutN {a p : Addr} {H H' : Hp} {o : HO} (x : Kp a H H') (h : H p = none) : Kp a H (upd H' p o) := fun b u n e => by
  rw [upd_ne (ne_of_none e h)]
  exact x b u n e
theorem Kp.fresh {a p : Addr} {H H' : Hp} (x : Kp a H H') (h : H' p = none) (n : p ≠ a) : H p = none := by
  cases e : H p with
  | none => rfl
  | some o =>
    rw [x p o n e] at h
    cases h
theorem Kp.get {a b : Addr} {H H' : Hp} {o : HO} (x : Kp a H H') (n : b ≠ a) (h : H b = some o) : H' b = some o := x b o n h
theorem TapeAt.ne {a p : Addr} {H : Hp} (h : TapeAt H a) (n : H p = none) : p ≠ a := fun e => by
  obtain ⟨u, v, h, _⟩ := h
  rw [e, h] at n
  cases n
theorem TapeAt.mut {a p : Addr} {H : Hp} {o : HO} (h : TapeAt H a) (n : p ≠ a) : TapeAt (upd H p o) a := by
  obtain ⟨u, v, e, r⟩ := h
  exact ⟨u, v, by rw [upd_ne n.symm]; exact e, r⟩
theorem atI_mem {α : Type} {xs : List α} {i : Int} (h0 : 0 ≤ i) (h1 : i < xs.length) : ∃ x, x ∈ xs ∧ atI xs i = some x := by
  obtain ⟨n, rfl⟩ := Int.eq_ofNat_of_zero_le h0
  have h : n < xs.length := by omega
  exact ⟨xs[n], List.getElem_mem h, atI_nat (List.getElem?_eq_getElem h)⟩
theorem str_len_append (x y : Str) : (x ++ y).length = x.length + y.length := by
  show (x.cps ++ y.cps).size = _
  rw [Array.size_append]
  rfl
theorem join_len (sep : Str) (hs : sep.length = 0) : ∀ ys : List Str, (Str.join sep ys).length = (ys.map (·.length)).sum
  | [] => rfl
  | [x] => by
    show x.length = x.length + 0
    omega
  | x :: y :: r => by
    show (x ++ sep ++ Str.join sep (y :: r)).length = x.length + ((y :: r).map (·.length)).sum
    rw [str_len_append, str_len_append, join_len sep hs (y :: r), hs]
    omega
theorem sum_ones : ∀ {ys : List Str}, (∀ y ∈ ys, y.length = 1) → (ys.map (·.length)).sum = ys.length
  | [], _ => rfl
  | y :: r, h => by
    rw [List.map_cons, List.sum_cons, h y (List.mem_cons_self ..), sum_ones fun z hz => h z (List.mem_cons_of_mem _ hz)]
    show 1 + r.length = r.length + 1
    omega
end Lf
namespace L2
open PySem
theorem Same.kp {a : Addr} {H H' : Hp} (s : Same H H') : Lf.Kp a H H' := fun b o _ h => s b o h
theorem same_new {H : Hp} {p : Addr} {o : HO} (h : H p = none) : Same H (upd H p o) := fun b x e => by
  rw [upd_ne (ne_of_none e h)]
  exact e
theorem Same.tr {H H1 H2 : Hp} (x : Same H H1) (y : Same H1 H2) : Same H H2 := fun b o h => y b o (x b o h)
theorem Same.fresh {H H' : Hp} {p : Addr} (s : Same H H') (h : H' p = none) : H p = none := by
  cases e : H p with
  | none => rfl
  | some o =>
    rw [s p o e] at h
    cases h
theorem Same.mutN {H H' : Hp} {p : Addr} {o : HO} (s : Same H H') (h : H p = none) : Same H (upd H' p o) := fun b u e => by
  rw [upd_ne (ne_of_none e h)]
  exact s b u e
theorem same_refl (H : Hp) : Same H H := fun _ _ h => h
end L2
namespace Lf
open PySem PySem.Spec PyProof.Rows L2
/-- a comprehension over enumerate(list): each turn's pair is a new tuple at T -/
theorem lc_enum {K : PySem.W.Frag} {a : Addr} {xs : List V} {g : TG} {tt : TT} {te : TE} {vs : List Nat} {σ : L2.St} {H1 : Hp} {D : Addr} {Qd : Hp → Prop} (Pv : Nat → Hp → Prop)
    (h0 : Pv 0 (upd H1 D (.lst []))) (hl : ∀ i H, Pv i H → SqL K H a xs)
    (hs : ∀ i x T H, xs[i]? = some x → H T = none → Pv i H → g (.ref T) (wipe σ vs) (upd H T (.tup [.int (i : Nat), x])) fun σ2 H2 => wipe σ2 vs = wipe σ vs ∧ tt σ2 H2 fun b H3 =>
      if b = true then te σ2 H3 fun y H4 => ∃ acc, H4 D = some (.lst acc) ∧ acc.length < sizeLine ∧ Pv (i + 1) (upd H4 D (.lst (acc ++ [y]))) else Pv (i + 1) H3)
    (hd : ∀ H, Pv xs.length H → Qd H) :
    ∃ W : Nat → Nat → Hp → Prop, (∃ m, W 0 m (upd H1 D (.lst []))) ∧ ∀ i m H, W i m H → ((Ite K a).stop i H ∧ Qd H) ∨
      ((Ite K a).go i H ∧ ∃ Nx : Hp → Prop, (∀ H', Nx H' → ∃ m', m' < m ∧ W (i + 1) m' H') ∧ ∀ x H', (Ite K a).yld i H x H' → g x (wipe σ vs) H' fun σ2 H2 => wipe σ2 vs = wipe σ vs ∧ tt σ2 H2 fun b H3 =>
        if b = true then te σ2 H3 fun y H4 => ∃ acc, H4 D = some (.lst acc) ∧ acc.length < sizeLine ∧ Nx (upd H4 D (.lst (acc ++ [y]))) else Nx H3) := by
  refine ⟨fun i m H => i + m = xs.length ∧ Pv i H, ⟨xs.length, Nat.zero_add _, h0⟩, fun i m H ⟨em, p⟩ => ?_⟩
  by_cases hi : i < xs.length
  · refine .inr ⟨⟨xs, xs[i], hl i H p, List.getElem?_eq_getElem hi⟩, Pv (i + 1), fun H' p' => ⟨m - 1, by omega, by omega, p'⟩, fun x H' y => ?_⟩
    obtain ⟨T, z, rfl, hT, rfl, hz⟩ := y
    exact hs i z T H (hz xs (hl i H p)) hT p
  · have e : i = xs.length := by omega
    exact .inl ⟨⟨xs, hl i H p, by omega⟩, hd H (e ▸ p)⟩
end Lf
namespace Lf
open PySem PySem.Spec PyProof.Rows L2
/-- signs that a text may hold -/
abbrev SOk (x : Str) : Prop := ∀ c ∈ x.cps.toList, c < 0x110000
theorem sok_append {x y : Str} (h1 : SOk x) (h2 : SOk y) : SOk (x ++ y) := fun c hc => by
  have e : (x ++ y).cps.toList = x.cps.toList ++ y.cps.toList := by
    show (x.cps ++ y.cps).toList = _
    rw [Array.toList_append]
  rw [e] at hc
  rcases List.mem_append.mp hc with h | h
  · exact h1 c h
  · exact h2 c h
theorem sok_join {sep : Str} (hs : SOk sep) : ∀ {ys : List Str}, (∀ y ∈ ys, SOk y) → SOk (Str.join sep ys)
  | [], _ => fun c hc => by
    have h : c ∈ ([] : List Nat) := hc
    cases h
  | [x], h => h x (List.mem_cons_self ..)
  | x :: y :: r, h => sok_append (sok_append (h x (List.mem_cons_self ..)) hs) (sok_join hs fun z hz => h z (List.mem_cons_of_mem _ hz))
end Lf
namespace Lf
open PySem PySem.Spec PyProof.Rows L2
theorem len_K {X : Cx} : CallR X (.builtin "len") (Evl.rLenS X.K) := call_len_seq
end Lf
namespace Lr
open PySem PySem.Spec PyProof.Rows L2 Lf
abbrev tl := TL.tl
abbrev numL := TL.numL
abbrev joinL := TL.joinL
/-- a text of these signs -/
def S (l : List Nat) : Str := ⟨l.toArray⟩
theorem tl_S (l : List Nat) : tl (S l) = l := rfl
theorem S_tl (x : Str) : S (tl x) = x := TL.mk_tl x
theorem S_len (l : List Nat) : (S l).length = l.length := rfl
theorem len_tl (x : Str) : x.length = (tl x).length := TL.len_tl x
theorem S_append (a b : List Nat) : S a ++ S b = S (a ++ b) := TL.ext_tl (TL.tl_append _ _)
theorem S_num (n : Nat) : Str.ofString (toString ((n : Nat) : Int)) = S (numL n) := TL.ext_tl (TL.tl_num n)
theorem S_inj {a b : List Nat} (h : S a = S b) : a = b := congrArg tl h
theorem S_join (y : List Nat) (ps : List (List Nat)) : Txt.join (S y) (ps.map S) = S (joinL y ps) := by
  refine TL.ext_tl ?_
  rw [TL.join_eq, TL.tl_join, List.map_map]
  have e : (TL.tl ∘ S) = (id : List Nat → List Nat) := rfl
  rw [e, List.map_id]
  rfl
theorem split_S (x : Str) (c : Nat) (hc : c < 256) : Txt.split x (S [c]) = (TL.spl [c] 0 [] (tl x)).map S := by
  refine TL.map_tl_inj ?_
  rw [TL.split_spl x (S [c]) (by show [c] ≠ []; simp) (TL.kind_ok (by simp [S, hc])), List.map_map]
  have e : (TL.tl ∘ S) = (id : List Nat → List Nat) := rfl
  rw [e, List.map_id]
  rfl
/-! ### the first place of a sign -/
def ix (c : Nat) : List Nat → Option Nat
  | [] => none
  | d :: r => if d = c then some 0 else (ix c r).map (· + 1)
theorem ix_none {c : Nat} : ∀ {l : List Nat}, c ∉ l → ix c l = none
  | [], _ => rfl
  | d :: r, h => by
    unfold ix
    rw [if_neg (fun e : d = c => h (by rw [e]; exact List.mem_cons_self ..)), ix_none fun m => h (List.mem_cons_of_mem _ m)]
    rfl
theorem ix_at {c : Nat} : ∀ {a r : List Nat}, c ∉ a → ix c (a ++ c :: r) = some a.length
  | [], r, _ => by
    show (if c = c then some 0 else _) = some 0
    rw [if_pos rfl]
  | d :: a, r, h => by
    show (if d = c then some 0 else (ix c (a ++ c :: r)).map (· + 1)) = some (a.length + 1)
    rw [if_neg (fun e : d = c => h (by rw [e]; exact List.mem_cons_self ..)), ix_at fun m => h (List.mem_cons_of_mem _ m)]
    rfl
theorem ix_some {c : Nat} : ∀ {l : List Nat} {k : Nat}, ix c l = some k → k < l.length ∧ ∃ r, l = l.take k ++ c :: r ∧ c ∉ l.take k
  | [], k, h => by cases h
  | d :: l, k, h => by
    unfold ix at h
    by_cases e : d = c
    · rw [if_pos e] at h
      cases h
      exact ⟨by simp, l, by simp [e], by simp⟩
    · rw [if_neg e] at h
      cases h2 : ix c l with
      | none => rw [h2] at h; cases h
      | some j =>
        rw [h2] at h
        cases h
        obtain ⟨h3, r, h4, h5⟩ := ix_some h2
        refine ⟨by simpa using h3, r, ?_, ?_⟩
        · show d :: l = (d :: l.take j) ++ c :: r
          rw [List.cons_append, ← h4]
        · show c ∉ d :: l.take j
          intro m
          rcases List.mem_cons.mp m with m | m
          · exact e m.symm
          · exact h5 m
open Builtin.Str StrLaws in
theorem occ_full (s sub : Str) (hi : Nat) : ∀ (l : List Nat) (st : Array Nat × Nat), 1 ≤ st.fst.size → (forIn l st (occBody s sub hi 1)).run.fst = st.fst
  | [], _, _ => rfl
  | a :: l, st, h => by
    rw [List.forIn_cons]
    unfold occBody
    rw [if_neg (fun c => by have := c.1.1.1; omega)]
    exact occ_full s sub hi l (st.fst, st.snd) h
open Builtin.Str StrLaws in
theorem occ_ix (x : Str) (c hi : Nat) (hhi : hi ≤ x.length) : ∀ (n a free : Nat), free ≤ a → n = hi + 1 - a →
    (forIn (List.range' a n) ((#[] : Array Nat), free) (occBody x ⟨#[c]⟩ hi 1)).run.fst.toList = (match ix c (((tl x).drop a).take (hi - a)) with | some k => [a + k] | none => [])
  | 0, a, free, hf, hn => by
    have e : hi - a = 0 := by omega
    rw [e, List.take_zero]
    rfl
  | n + 1, a, free, hf, hn => by
    rw [List.range'_succ, List.forIn_cons]
    unfold occBody
    by_cases ha : a < hi
    · have hl : a < (tl x).length := by rw [← len_tl]; omega
      have ed : ((tl x).drop a).take (hi - a) = (tl x)[a] :: ((tl x).drop (a + 1)).take (hi - (a + 1)) := by
        rw [List.drop_eq_getElem_cons hl, show hi - a = (hi - (a + 1)) + 1 by omega, List.take_succ_cons]
      rw [ed]
      unfold ix
      by_cases hc : (tl x)[a] = c
      · have h1 := (subAt_one x c a).mpr (by rw [List.getElem?_eq_getElem hl]; exact congrArg some hc)
        have h2 : ((((#[] : Array Nat), free).fst.size < 1 ∧ ((#[] : Array Nat), free).snd ≤ a) ∧ a + (⟨#[c]⟩ : Str).length ≤ hi) ∧ subAt x ⟨#[c]⟩ a = true := ⟨⟨⟨by simp, hf⟩, ha⟩, h1.2⟩
        rw [if_pos h2, if_pos hc]
        have h3 := occ_full x ⟨#[c]⟩ hi (List.range' (a + 1) n) ((#[] : Array Nat).push a, a + (⟨#[c]⟩ : Str).length) (by simp)
        show (forIn (List.range' (a + 1) n) ((#[] : Array Nat).push a, a + (⟨#[c]⟩ : Str).length) (occBody x ⟨#[c]⟩ hi 1)).run.fst.toList = [a + 0]
        rw [h3]
        rfl
      · have h2 : ¬ (((((#[] : Array Nat), free).fst.size < 1 ∧ ((#[] : Array Nat), free).snd ≤ a) ∧ a + (⟨#[c]⟩ : Str).length ≤ hi) ∧ subAt x ⟨#[c]⟩ a = true) := fun h => by
          have h3 : a + (⟨#[c]⟩ : Str).length ≤ x.length := Nat.le_trans h.1.2 hhi
          have h1 := (subAt_one x c a).mp ⟨h3, h.2⟩
          rw [List.getElem?_eq_getElem hl] at h1
          exact hc (Option.some.inj h1)
        rw [if_neg h2, if_neg hc]
        have ih := occ_ix x c hi hhi n (a + 1) free (by omega) (by omega)
        show (forIn (List.range' (a + 1) n) ((#[] : Array Nat), free) (occBody x ⟨#[c]⟩ hi 1)).run.fst.toList = _
        rw [ih]
        cases ix c (((tl x).drop (a + 1)).take (hi - (a + 1))) with
        | none => rfl
        | some k =>
          show [a + 1 + k] = [a + (k + 1)]
          congr 1
          omega
    · have e : hi - a = 0 := by omega
      have h2 : ¬ (((((#[] : Array Nat), free).fst.size < 1 ∧ ((#[] : Array Nat), free).snd ≤ a) ∧ a + (⟨#[c]⟩ : Str).length ≤ hi) ∧ subAt x ⟨#[c]⟩ a = true) := fun h => by
        have h3 : a + 1 ≤ hi := h.1.2
        omega
      rw [if_neg h2, e, List.take_zero]
      have ih := occ_ix x c hi hhi n (a + 1) free (by omega) (by omega)
      show (forIn (List.range' (a + 1) n) ((#[] : Array Nat), free) (occBody x ⟨#[c]⟩ hi 1)).run.fst.toList = _
      rw [ih, show hi - (a + 1) = 0 by omega, List.take_zero]
      rfl
theorem find_ix (x : Str) (c a m : Nat) (ha : a ≤ x.length) : Txt.findIn x ⟨#[c]⟩ (a : Int) ((a + m : Nat) : Int) = (match ix c (((tl x).drop a).take m) with | some k => ((a + k : Nat) : Int) | none => -1) := by
  unfold Txt.findIn
  have e1 : fromIndex x.length (a : Int) = a := by
    unfold fromIndex
    rw [if_neg (by omega)]
    omega
  have e2 : toIndexW x.length ((a + m : Nat) : Int) = min (a + m) x.length := by
    unfold toIndexW
    rw [if_neg (by omega)]
    omega
  rw [e1, e2, StrLaws.occ_eq, occ_ix x c _ (Nat.min_le_right _ _) _ a a (Nat.le_refl _) rfl]
  have e3 : ((tl x).drop a).take (min (a + m) x.length - a) = ((tl x).drop a).take m := by
    have hl : ((tl x).drop a).length = x.length - a := by rw [List.length_drop, ← len_tl]
    rcases Nat.le_total (a + m) x.length with h | h
    · rw [Nat.min_eq_left h, Nat.add_sub_cancel_left]
    · rw [Nat.min_eq_right h, List.take_of_length_le (by omega), List.take_of_length_le (by omega)]
  rw [e3]
  cases ix c (((tl x).drop a).take m) <;> rfl
/-! ### slices -/
theorem cutS_nat (x : Str) (a b : Nat) : cutS x (some (a : Int)) (some (b : Int)) = S (((tl x).drop a).take (b - a)) := by
  refine TL.ext_tl ?_
  show ((tl x).drop (HT.sIx x.length 0 (some (a : Int)))).take (HT.sIx x.length x.length (some (b : Int)) - HT.sIx x.length 0 (some (a : Int))) = ((tl x).drop a).take (b - a)
  rw [HT.sIx_nat, HT.sIx_nat]
  have hl := len_tl x
  rcases Nat.le_total a x.length with h | h
  · rw [Nat.min_eq_left h]
    rcases Nat.le_total b x.length with h' | h'
    · rw [Nat.min_eq_left h']
    · rw [Nat.min_eq_right h', List.take_of_length_le (by rw [List.length_drop]; omega), List.take_of_length_le (by rw [List.length_drop]; omega)]
  · rw [Nat.min_eq_right h, List.drop_of_length_le (by omega), List.drop_of_length_le (by omega), List.take_nil, List.take_nil]
/-! ### numbers written and read -/
def Dig (c : Nat) : Prop := 48 ≤ c ∧ c ≤ 57
instance (c : Nat) : Decidable (Dig c) := inferInstanceAs (Decidable (_ ∧ _))
def numOk (l : List Nat) : Prop := l ≠ [] ∧ (∀ c ∈ l, Dig c) ∧ l.length ≤ 60 ∧ (l.head? = some 48 → l = [48])
instance (l : List Nat) : Decidable (numOk l) := inferInstanceAs (Decidable (_ ∧ _))
def numIn (l : List Nat) : Option Nat := if numOk l then some (NumText.digitsVal l) else none
theorem numL_head {n : Nat} (h : (numL n).head? = some 48) : n = 0 := by
  induction n using Nat.strongRecOn with
  | _ n ih =>
    by_cases h1 : n < 10
    · rw [show numL n = [48 + n] from TL.numL_lt h1] at h
      simp at h
      exact h
    · rw [show numL n = numL (n / 10) ++ [48 + n % 10] from TL.numL_step (by omega)] at h
      have h2 : (numL (n / 10)).head? = some 48 := by
        cases e : numL (n / 10) with
        | nil => exact absurd e (TL.numL_ne _)
        | cons c r =>
          rw [e] at h
          exact h
      have := ih (n / 10) (by omega) h2
      omega
theorem numOk_num {n : Nat} (h : n < 10 ^ 60) : numOk (numL n) := by
  refine ⟨TL.numL_ne n, fun c hc => ?_, TL.numL_len (by decide) h, fun e => ?_⟩
  · exact TL.numL_digits n c hc
  · rw [numL_head e]
    exact TL.numL_lt (by decide)
theorem numIn_num {n : Nat} (h : n < 10 ^ 60) : numIn (numL n) = some n := by
  unfold numIn
  rw [if_pos (numOk_num h), show NumText.digitsVal (numL n) = n from TL.numL_val n]
theorem digitsVal_snoc (l : List Nat) (c : Nat) : NumText.digitsVal (l ++ [c]) = NumText.digitsVal l * 10 + (c - 48) := by
  unfold NumText.digitsVal
  rw [List.foldl_append]
  rfl
/-- the number's signs are all that reads as it -/
theorem numL_back : ∀ (k : Nat) (l : List Nat), l.length = k → l ≠ [] → (∀ c ∈ l, Dig c) → (l.head? = some 48 → l = [48]) → l = numL (NumText.digitsVal l)
  | 0, l, h, hn, _, _ => absurd (List.length_eq_zero_iff.mp h) hn
  | k + 1, l, h, hn, hd, h0 => by
    obtain ⟨l', c, rfl⟩ : ∃ l' c, l = l' ++ [c] := ⟨l.dropLast, l.getLast hn, (List.dropLast_concat_getLast hn).symm⟩
    have hc : Dig c := hd c (by simp)
    unfold Dig at hc
    have hl : l'.length = k := by simpa using h
    rw [digitsVal_snoc]
    by_cases e : l' = []
    · subst e
      have e2 : NumText.digitsVal [] = 0 := rfl
      rw [e2, Nat.zero_mul, Nat.zero_add, show numL (c - 48) = [48 + (c - 48)] from TL.numL_lt (by omega)]
      simp
      omega
    · have hh : l'.head? ≠ some 48 := fun z => by
        have : (l' ++ [c]).head? = some 48 := by
          rw [List.head?_append, z]
          rfl
        have e2 := congrArg List.length (h0 this)
        simp at e2
        exact e e2
      have ih := numL_back k l' hl e (fun d hd' => hd d (by simp [hd'])) (fun z => absurd z hh)
      have hpos : 0 < NumText.digitsVal l' := by
        rcases Nat.eq_zero_or_pos (NumText.digitsVal l') with z | z
        · rw [z] at ih
          rw [ih, show numL 0 = [48] from TL.numL_lt (by decide)] at hh
          exact absurd rfl hh
        · exact z
      have h10 : 10 ≤ NumText.digitsVal l' * 10 + (c - 48) := by omega
      rw [show numL (NumText.digitsVal l' * 10 + (c - 48)) = _ from TL.numL_step h10]
      have e3 : (NumText.digitsVal l' * 10 + (c - 48)) / 10 = NumText.digitsVal l' := by omega
      have e4 : (NumText.digitsVal l' * 10 + (c - 48)) % 10 = c - 48 := by omega
      rw [e3, e4]
      have e5 : TL.numL (NumText.digitsVal l') = l' := ih.symm
      rw [e5, show 48 + (c - 48) = c by omega]
theorem numIn_some {l : List Nat} {n : Nat} (h : numIn l = some n) : l = numL n ∧ numOk l := by
  unfold numIn at h
  by_cases c : numOk l
  · rw [if_pos c] at h
    cases h
    exact ⟨numL_back _ l rfl c.1 c.2.1 c.2.2.2, c⟩
  · rw [if_neg c] at h
    cases h
theorem digitsVal_lt : ∀ (k : Nat) (l : List Nat), l.length = k → (∀ c ∈ l, Dig c) → NumText.digitsVal l < 10 ^ k
  | 0, l, h, _ => by
    rw [List.length_eq_zero_iff.mp h]
    decide
  | k + 1, l, h, hd => by
    have hn : l ≠ [] := fun e => by rw [e] at h; cases h
    obtain ⟨l', c, rfl⟩ : ∃ l' c, l = l' ++ [c] := ⟨l.dropLast, l.getLast hn, (List.dropLast_concat_getLast hn).symm⟩
    have hc : Dig c := hd c (by simp)
    unfold Dig at hc
    have ih := digitsVal_lt k l' (by simpa using h) (fun d hd' => hd d (by simp [hd']))
    rw [digitsVal_snoc, Nat.pow_succ]
    omega
theorem numIn_lt {l : List Nat} {n : Nat} (h : numIn l = some n) : n < 10 ^ 60 := by
  have ⟨_, c⟩ := numIn_some h
  unfold numIn at h
  rw [if_pos c] at h
  cases h
  exact Nat.lt_of_lt_of_le (digitsVal_lt _ l rfl c.2.1) (Nat.pow_le_pow_right (by decide) c.2.2.1)
theorem log2_num {n : Nat} (h : n < 10 ^ 60) : ((n : Int)).natAbs.log2 < 1920 := by
  have e : ((n : Int)).natAbs = n := rfl
  rw [e]
  rcases Nat.eq_zero_or_pos n with z | z
  · rw [z]
    decide
  · exact (Nat.log2_lt (by omega)).mpr (Nat.lt_trans h (by decide +kernel))
/-! ### the mirror -/
def chkL (l : List Nat) : Nat := l.foldl (fun c x => (33 * c + x) % 1000003) 7
def upto (l : List Nat) (a c : Nat) : Option Nat × Nat :=
  match ix c ((l.drop a).take 61) with
  | some k => (numIn ((l.drop a).take k), a + k + 1)
  | none => (none, a)
def signOk (c : Nat) : Prop := 32 ≤ c ∧ c ≤ 126
instance (c : Nat) : Decidable (signOk c) := inferInstanceAs (Decidable (_ ∧ _))
def rowOk (r : List Nat) : Prop := r ≠ [] ∧ ∀ c ∈ r, signOk c
instance (r : List Nat) : Decidable (rowOk r) := inferInstanceAs (Decidable (_ ∧ _))
def headL (n m : Nat) (body : List Nat) : List Nat := numL n ++ [32] ++ numL m ++ [58] ++ body
def recAt (l : List Nat) (a : Nat) : Option (Nat × List (List Nat) × Nat) :=
  match (upto l a 32).1, (upto l (upto l a 32).2 58).1, (upto l (upto l (upto l a 32).2 58).2 61).1 with
  | some n, some m, some k =>
    let b := (upto l (upto l (upto l a 32).2 58).2 61).2
    if (l.drop (b + m)).take 1 = [10] then
      let body := (l.drop b).take m
      let rows := TL.spl [10] 0 [] body
      if (∀ r ∈ rows, rowOk r) ∧ k = chkL (headL n m body) then some (n, rows, b + m + 1) else none
    else none
  | _, _, _ => none
def recFin (l : List Nat) : Option Nat → Option Nat → Option Nat → Nat → Option (Nat × List (List Nat) × Nat)
  | some n, some m, some k, b => if (l.drop (b + m)).take 1 = [10] then
      if (∀ r ∈ TL.spl [10] 0 [] ((l.drop b).take m), rowOk r) ∧ k = chkL (headL n m ((l.drop b).take m)) then some (n, TL.spl [10] 0 [] ((l.drop b).take m), b + m + 1) else none
    else none
  | _, _, _, _ => none
theorem recAt_eq {l : List Nat} {a a1 a2 a3 : Nat} {o1 o2 o3 : Option Nat} (e1 : upto l a 32 = (o1, a1)) (e2 : upto l a1 58 = (o2, a2)) (e3 : upto l a2 61 = (o3, a3)) : recAt l a = recFin l o1 o2 o3 a3 := by
  unfold recAt
  rw [e1, e2, e3]
  cases o1 <;> cases o2 <;> cases o3 <;> rfl
def runL (l : List Nat) : Nat → Nat → Nat → List (List (List Nat)) × Nat
  | 0, _, a => ([], a)
  | f + 1, n, a => match recAt l a with
    | some (n', rows, b) => if n' = n then (rows :: (runL l f (n + 1) b).1, (runL l f (n + 1) b).2) else ([], a)
    | none => ([], a)
def parseL (l : List Nat) : Option Nat × List (List (List Nat)) × Nat :=
  match recAt l 0 with
  | none => (none, [], 0)
  | some (n, _, _) => (some n, (runL l (l.length + 1) n 0).1, (runL l (l.length + 1) n 0).2)
def recL (n : Nat) (rows : List (List Nat)) : List Nat :=
  numL n ++ [32] ++ numL (joinL [10] rows).length ++ [58] ++ numL (chkL (headL n (joinL [10] rows).length (joinL [10] rows))) ++ [61] ++ joinL [10] rows ++ [10]
theorem upto_le {l : List Nat} {a c : Nat} (h : a ≤ l.length) : (upto l a c).2 ≤ l.length ∧ a ≤ (upto l a c).2 := by
  unfold upto
  split
  · rename_i k e
    obtain ⟨h1, _⟩ := ix_some e
    have h2 : ((l.drop a).take 61).length ≤ l.length - a := by
      rw [List.length_take, List.length_drop]
      omega
    constructor
    · show a + k + 1 ≤ l.length
      omega
    · show a ≤ a + k + 1
      omega
  · exact ⟨h, Nat.le_refl _⟩
theorem upto_num {l : List Nat} {a c n : Nat} (h : (upto l a c).1 = some n) : n < 10 ^ 60 := by
  unfold upto at h
  split at h
  · exact numIn_lt h
  · cases h
theorem chk_lt (l : List Nat) : chkL l < 1000003 := by
  unfold chkL
  rcases List.eq_nil_or_concat l with rfl | ⟨l', c, rfl⟩
  · decide
  · rw [List.concat_eq_append, List.foldl_append]
    exact Nat.mod_lt _ (by decide)
theorem recAt_up {l : List Nat} {a n b : Nat} {rows : List (List Nat)} (ha : a ≤ l.length) (h : recAt l a = some (n, rows, b)) : a < b ∧ b ≤ l.length := by
  unfold recAt at h
  have h1 := upto_le (c := 32) ha
  have h2 := upto_le (c := 58) h1.1
  have h3 := upto_le (c := 61) h2.1
  split at h
  · rename_i n m k e1 e2 e3
    dsimp only at h
    split at h
    · rename_i e4
      split at h
      · cases h
        have h5 : (upto l (upto l (upto l a 32).2 58).2 61).2 + m < l.length := by
          refine Nat.lt_of_not_le fun hge => ?_
          rw [List.drop_of_length_le hge] at e4
          cases e4
        exact ⟨by omega, by omega⟩
      · cases h
    · cases h
  · cases h
theorem recAt_num {l : List Nat} {a n b : Nat} {rows : List (List Nat)} (h : recAt l a = some (n, rows, b)) : n < 10 ^ 60 := by
  unfold recAt at h
  split at h
  · rename_i n m k e1 e2 e3
    dsimp only at h
    split at h
    · split at h
      · cases h
        unfold upto at e1
        split at e1
        · exact numIn_lt e1
        · cases e1
      · cases h
    · cases h
  · cases h
/-- the pieces are no longer than the whole -/
theorem spl_len {c : Nat} : ∀ (l : List Nat) (k : Nat) (acc : List Nat), (TL.spl [c] k acc l).length ≤ l.length + 1 ∧ ∀ r ∈ TL.spl [c] k acc l, r.length ≤ acc.length + l.length
  | [], k, acc => by
    rw [TL.spl_nil]
    exact ⟨by simp, fun r hr => by rw [List.mem_singleton.mp hr]; omega⟩
  | d :: l, 0, acc => by
    cases h : TL.pre [c] (d :: l) with
    | true =>
      rw [TL.spl_hit h, show [c].length - 1 = 0 from rfl]
      have ih := spl_len (c := c) l 0 []
      refine ⟨by rw [List.length_cons, List.length_cons]; omega, fun r hr => ?_⟩
      rcases List.mem_cons.mp hr with rfl | hr
      · omega
      · have := ih.2 r hr
        simp only [List.length_cons, List.length_nil] at this ⊢
        omega
    | false =>
      rw [TL.spl_miss h]
      have ih := spl_len (c := c) l 0 (acc ++ [d])
      refine ⟨by simp only [List.length_cons]; omega, fun r hr => ?_⟩
      have := ih.2 r hr
      simp only [List.length_append, List.length_cons, List.length_nil] at this ⊢
      omega
  | d :: l, k + 1, acc => by
    have ih := spl_len (c := c) l k acc
    show (TL.spl [c] k acc l).length ≤ _ ∧ ∀ r ∈ TL.spl [c] k acc l, _
    exact ⟨by simp only [List.length_cons]; omega, fun r hr => by have := ih.2 r hr; simp only [List.length_cons]; omega⟩
end Lr
namespace Lr
open PySem PySem.Spec PyProof.Rows L2 Lf
def topS (i : Nat) : Stmt := PySem.Challenge.pw_leafround_k69_whole_logs_cut_and_spoilt.main.body.getD i (.Pass ⟨0, 0, 0, 0⟩)
/-- the built-ins stand -/
structure Bs (mg : Str → Option Value) : Prop where
  len : mg "len" = none
  range : mg "range" = none
  abs : mg "abs" = none
  list : mg "list" = none
  tuple : mg "tuple" = none
  enumerate : mg "enumerate" = none
  isinstance : mg "isinstance" = none
  max : mg "max" = none
  min : mg "min" = none
  all : mg "all" = none
  ord : mg "ord" = none
  str : mg "str" = none
  int : mg "int" = none
  bool : mg "bool" = none
  g_FIGURES_MOST : ∃ t, mg "FIGURES_MOST" = some (.int 60 t)
section
variable {P : Program} {w : World} {K : PySem.W.Frag} {mg : Str → Option Value} {base : Heap}
abbrev sNum : Stmt := topS 1
theorem scNum : FnScope ["word"] ["word"] (defScope sNum) := ⟨rfl, rfl, rfl, by decide +kernel, rfl, by decide +kernel, by decide +kernel⟩
def optV : Option Nat → V
  | some n => .int (n : Int)
  | none => .non
def spNum : Sp := fun vs H Q _ => ∃ x : Str, vs = [.str x] ∧ x.length ≤ 1000000 ∧ Q (optV (numIn (tl x))) H
/-- signs that are digits, below 128 -/
theorem dig_ascii : ∀ c, c < 128 → Unicode.isDigit c = decide (Dig c) := by
  have h : (List.range 128).all (fun c => Unicode.isDigit c == decide (Dig c)) = true := by decide +kernel
  intro c hc
  exact eq_of_beq (List.all_eq_true.mp h c (List.mem_range.mpr hc))
theorem ascii_iff (x : Str) : Txt.isascii x = true ↔ ∀ c ∈ tl x, c < 128 := by
  unfold Txt.isascii
  rw [← Array.all_toList, List.all_eq_true]
  exact ⟨fun h c hc => of_decide_eq_true (h c hc), fun h c hc => decide_eq_true (h c hc)⟩
theorem digit_iff {x : Str} (ha : ∀ c ∈ tl x, c < 128) : Txt.isdigit x = true ↔ tl x ≠ [] ∧ ∀ c ∈ tl x, Dig c := by
  unfold Txt.isdigit
  rw [Bool.and_eq_true, ← Array.all_toList, List.all_eq_true]
  refine and_congr ?_ ⟨fun h c hc => of_decide_eq_true ((dig_ascii c (ha c hc)) ▸ h c hc), fun h c hc => (dig_ascii c (ha c hc)).trans (decide_eq_true (h c hc))⟩
  rw [decide_eq_true_eq]
  have e := len_tl x
  constructor
  · intro h z
    rw [z] at e
    rw [e] at h
    exact Nat.lt_irrefl _ h
  · intro h
    rw [e]
    exact List.length_pos_iff.mpr h
theorem str1 (x : Str) (c : Nat) : (x = ⟨#[c]⟩) ↔ tl x = [c] := ⟨fun h => by rw [h], fun h => TL.ext_tl h⟩
theorem z0 : ("0" : Str) = ⟨#[48]⟩ := by decide +kernel
theorem ok_num {f : Addr} {fd : FuncData} (F : Fun K "number_in" "number_in" sNum f fd) (T : Bs mg) : FnOk P w K mg base CX0 1 f fd ["word"] spNum := by
  refine F.ok scNum (fun vs H Q E h => ?_) (fun cdv A outer s H vs Q E hr h => ?_)
  · obtain ⟨x, rfl, _⟩ := h
    rfl
  · obtain ⟨x, rfl, hx, q⟩ := h
    have nd := scNum.nd
    refine ⟨_, (pss_cons (ps_if (PW.pt (pw_or (pt_not (pt_val (pe_m0 PySem.F.slot_str_isascii PySem.F.type_str_isascii mt_isascii (pv 0)))) (pw_or (pt_not (pt_val (pe_m0 PySem.F.slot_str_isdigit PySem.F.type_str_isdigit mt_isdigit (pv 0)))) (pw_or1 (pt_cmpR op_gt (pe_callB call_len_str (by rfl) T.len PySem.boot_len (pa_cons (pv 0) pa_nil)) pe_int (nomark _))))))
  (pss_one (ps_ret pe_non))
  pss_nil)
  (pss_cons (ps_if (PW.pt (pw_and (pt_cmpR op_eq (pe_ix ix_str (pv 0) pe_int (fun _ _ => rfl)) pe_str (nomark _)) (pw_and1 (pt_cmpR op_ne (pv 0) pe_str (nomark _)))))
  (pss_one (ps_ret pe_non))
  pss_nil)
  (pss_one (ps_ret (pe_callTy call_int_str (by rfl) T.int (by decide +kernel) (pa_cons (pv 0) pa_nil)))))), ?_⟩
    have no : ¬ numOk (tl x) → Q V.non H := fun c => by
      unfold numIn at q
      rw [if_neg c] at q
      exact q
    have hz : x.length ≤ sizeLine := Nat.le_trans hx (by decide)
    refine ⟨.str x, rfl, ⟨x, rfl⟩, x, rfl, rfl, trivial, _, rfl, ite2 (fun c => iteT (no fun o => ?_)) (fun c1 => ?_)⟩
    · have h2 : Txt.isascii x = true := (ascii_iff x).mpr fun d hd => by
        have := o.2.1 d hd
        unfold Dig at this
        omega
      rw [h2] at c
      cases c
    have ha : ∀ c ∈ tl x, c < 128 := (ascii_iff x).mp (by simpa using c1)
    refine ⟨.str x, rfl, ⟨x, rfl⟩, x, rfl, rfl, trivial, _, rfl, ite2 (fun c => iteT (no fun o => ?_)) (fun c2 => ?_)⟩
    · have h2 : Txt.isdigit x = true := (digit_iff ha).mpr ⟨o.1, o.2.1⟩
      rw [h2] at c
      cases c
    have hd := (digit_iff ha).mp (by simpa using c2)
    refine ⟨.str x, rfl, x, rfl, hz, _, _, rfl, rfl, _, rfl, ite2 (fun c => no fun o => ?_) (fun c3 => ?_)⟩
    · have h1 := of_decide_eq_true c
      have h2 := o.2.2.1
      rw [← len_tl] at h2
      omega
    have h60 : (tl x).length ≤ 60 := by
      have h1 : ¬ (60 < ((x.length : Nat) : Int)) := fun z => c3 (decide_eq_true z)
      rw [← len_tl]
      omega
    obtain ⟨d, r, e⟩ : ∃ d r, tl x = d :: r := by
      cases e : tl x with
      | nil => exact absurd e hd.1
      | cons d r => exact ⟨d, r, rfl⟩
    have last : (d = 48 → r = []) → Q (.int ((NumText.digitsVal (tl x) : Nat) : Int)) H := fun o => by
      have ok : numOk (tl x) := ⟨hd.1, hd.2, h60, fun z => by
        rw [e] at z ⊢
        have z' : d = 48 := by simpa using z
        rw [z', o z']⟩
      unfold numIn at q
      rw [if_pos ok] at q
      exact q
    have hv : intText? x = some ((NumText.digitsVal (tl x) : Nat) : Int) := intText_digits (fun c hc => hd.2 c hc) hd.1 (by rw [len_tl]; omega)
    have fin : (d = 48 → r = []) → tRet (tCB (fun xs H Q => ∃ a n, xs = [V.str a] ∧ intText? a = some n ∧ a.length ≤ 640 ∧ Q (V.int n) H) (tCons (tVar 0) tNil)) { nx := fun x H' => Q V.non H', rt := Q } [some (.str x)] H :=
      fun o => ⟨.str x, rfl, x, _, rfl, hv, by rw [len_tl]; omega, last o⟩
    have e0 : atI x.cps.toList 0 = some d := by
      have z : x.cps.toList = d :: r := e
      rw [z]
      exact atI_nat (j := 0) rfl
    refine ⟨.str x, rfl, x, 0, d, rfl, rfl, hz, e0, rfl, _, rfl, ite2 (fun c => ?_) (fun c => iteF (fin fun z => ?_))⟩
    · have hd48 : d = 48 := by
        have z := of_decide_eq_true c
        rw [z0] at z
        injection z with z
        have z2 := congrArg tl z
        simpa using z2
      refine ⟨.str x, rfl, rfl, _, rfl, ite2 (fun c => no fun o => ?_) (fun c => fin fun _ => ?_)⟩
      · have e2 := o.2.2.2 (by rw [e, hd48]; rfl)
        have e3 : x = "0" := by rw [z0]; exact (str1 x 48).mpr e2
        rw [e3] at c
        have c' : (!decide (V.str "0" = V.str "0")) = true := c
        rw [decide_eq_true rfl] at c'
        cases c'
      · have c' : decide (V.str x = V.str "0") = true := by simpa using c
        have z := of_decide_eq_true c'
        rw [z0] at z
        injection z with z
        have z2 := (str1 x 48).mp z
        rw [e] at z2
        injection z2
    · refine absurd ?_ c
      rw [z, z0]
      exact decide_eq_true rfl
abbrev sChk : Stmt := topS 4
theorem scChk : FnScope ["text", "check", "sign"] ["text"] (defScope sChk) := ⟨rfl, rfl, rfl, by decide +kernel, rfl, by decide +kernel, by decide +kernel⟩
def spChk : Sp := fun vs H Q _ => ∃ x : Str, vs = [.str x] ∧ Q (.int ((chkL (tl x) : Nat) : Int)) H
theorem ok_chk {f : Addr} {fd : FuncData} (F : Fun K "check_of" "check_of" sChk f fd) (T : Bs mg) : FnOk P w K mg base CX0 1 f fd ["text"] spChk := by
  refine F.ok scChk (fun vs H Q E h => ?_) (fun cdv A outer s H vs Q E hr h => ?_)
  · obtain ⟨x, rfl, _⟩ := h
    rfl
  · obtain ⟨x, rfl, q⟩ := h
    have nd := scChk.nd
    refine ⟨_, (pss_cons (ps_set (i := 1) nd rfl (Or.inl rfl) pe_int)
  (pss_cons (ps_for PassesOwn.never rfl (pi_str (pv 0)) (pg_name (i := 2) nd rfl (Or.inl rfl))
  (pss_one (ps_set (i := 1) nd rfl (Or.inl rfl) (pe_op op_mod (pe_op op_add (pe_op op_mulW pe_int (pv 1)) (pe_callB call_ord (by rfl) T.ord (by decide +kernel) (pa_cons (pv 2) pa_nil))) pe_int))))
  (pss_one (ps_ret (pv 1))))), ?_⟩
    refine ⟨.str x, rfl, x, rfl, ?_⟩
    refine for_it walk_str (fun i σ H' => H' = H ∧ ∃ y, σ = [some (.str x), some (.int ((((tl x).take i).foldl (fun c x => (33 * c + x) % 1000003) 7 : Nat) : Int)), y]) ⟨rfl, _, rfl⟩ (fun _ _ _ _ _ => trivial) (fun i v σ H1 H2 hi p y => ?_) (fun σ H1 p => ?_)
    · obtain ⟨rfl, y0, rfl⟩ := p
      obtain ⟨rfl, c, hc, rfl⟩ := y
      have hc' : (tl x)[i]? = some c := by
        have := hc
        rw [← Array.getElem?_toList] at this
        exact this
      have et : (tl x).take (i + 1) = (tl x).take i ++ [c] := by
        rw [List.take_add_one, hc']
        rfl
      generalize hg : ((tl x).take i).foldl (fun c x => (33 * c + x) % 1000003) 7 = g
      have hgl : g < 1000003 := by
        rw [← hg]
        exact chk_lt _
      have w1 : CMulW 33 (g : Int) := wide_mul (a := 32) (b := 32) (by decide) (by omega) (by decide) (by decide) (by decide)
      refine ⟨_, rfl, 33, (g : Int), rfl, rfl, w1, .str ⟨#[c]⟩, rfl, ⟨#[c]⟩, rfl, rfl, _, _, rfl, rfl, _, 1000003, rfl, rfl, (by show (0 : Int) < 1000003; decide), ?_⟩
      refine ⟨rfl, some (.str ⟨#[c]⟩), ?_⟩
      rw [et, List.foldl_append, hg]
      have e3 : (33 * (g : Int) + ((c : Nat) : Int)) % 1000003 = (((33 * g + c) % 1000003 : Nat) : Int) := by omega
      show [some (V.str x), some (V.int ((33 * (g : Int) + ((c : Nat) : Int)) % 1000003)), some (V.str ⟨#[c]⟩)] = _
      rw [e3]
      rfl
    · obtain ⟨rfl, y0, rfl⟩ := p
      refine ⟨_, rfl, ?_⟩
      rw [List.take_of_length_le (by rw [Array.length_toList]; exact Nat.le_refl _)]
      exact q

abbrev sUnt : Stmt := topS 8
theorem scUnt : FnScope ["log", "at", "closing", "end"] ["log", "at", "closing"] (defScope sUnt) := ⟨rfl, rfl, rfl, by decide +kernel, rfl, by decide +kernel, by decide +kernel⟩
def spUnt : Sp := fun vs H Q _ => ∃ (x : Str) (a c : Nat), vs = [.str x, .int (a : Int), .str ⟨#[c]⟩] ∧ x.length ≤ 1000000 ∧ a ≤ x.length ∧
  ∀ p H', Same H H' → H p = none → H' p = some (.tup [optV (upto (tl x) a c).1, .int (((upto (tl x) a c).2 : Nat) : Int)]) → Q (.ref p) H'
theorem ok_unt {f : Addr} {fd : FuncData} (F : Fun K "number_until" "number_until" sUnt f fd) (T : Bs mg) (c_number_in : Callee P w K mg base 1 "number_in" ["word"] spNum) : FnOk P w K mg base CX0 2 f fd ["log", "at", "closing"] spUnt := by
  refine F.ok scUnt (fun vs H Q E h => ?_) (fun cdv A outer s H vs Q E hr h => ?_)
  · obtain ⟨x, a, c, rfl, _⟩ := h
    rfl
  · obtain ⟨x, a, c, rfl, hx, ha, q⟩ := h
    have nd := scUnt.nd
    obtain ⟨tFig, hFig⟩ := T.g_FIGURES_MOST
    refine ⟨_, (pss_cons (ps_set (i := 3) nd rfl (Or.inl rfl) (pe_bm PySem.F.plainAttrs_str PySem.F.slot_str_find PySem.F.type_str_find mt_find4 (pv 0) (pa_cons (pv 2) (pa_cons (pv 1) (pa_cons (pe_op op_add (pe_op op_add (pv 1) (pe_glob (v := V.int 60) rfl hFig ⟨_, rfl⟩)) pe_int) pa_nil)))))
  (pss_one (ps_ret (pe_ifExp (pt_cmpR op_lt (pv 3) pe_int (nomark _)) (pe_tup (pa_cons pe_non (pa_cons (pv 1) pa_nil))) (pe_tup (pa_cons (pe_own c_number_in (hr.mono (by decide)) (by rfl) (pa_cons (pe_slice sl_str (pv 0) (po_some (pv 1)) (po_some (pv 3))) pa_nil)) (pa_cons (pe_op op_add (pv 3) pe_int) pa_nil))))))), ?_⟩
    have e61 : (a : Int) + 60 + 1 = ((a + 61 : Nat) : Int) := by omega
    refine ⟨.str x, rfl, rfl, .str ⟨#[c]⟩, rfl, .int a, rfl, .int a, rfl, (a : Int), 60, rfl, rfl, _, 1, rfl, rfl, x, ⟨#[c]⟩, (a : Int), _, rfl, rfl, ?_⟩
    rw [e61, find_ix x c a 61 ha]
    unfold upto at q
    cases e : ix c (((tl x).drop a).take 61) with
    | none =>
      rw [e] at q
      refine ⟨.int (-1), rfl, -1, 0, rfl, rfl, _, rfl, iteT ?_⟩
      refine ⟨.int a, rfl, (by show 2 ≤ sizeLine; decide), fun p hp => q p _ (same_new hp) hp upd_same⟩
    | some k =>
      rw [e] at q
      obtain ⟨hk, r, hr1, hr2⟩ := ix_some e
      have hk2 : k < 61 := by
        rw [List.length_take] at hk
        omega
      have hk3 : a + k < x.length := by
        rw [List.length_take, List.length_drop, ← len_tl] at hk
        omega
      have e2 : (decide (((a + k : Nat) : Int) < 0)) = false := decide_eq_false (by omega)
      refine ⟨.int ((a + k : Nat) : Int), rfl, ((a + k : Nat) : Int), 0, rfl, rfl, _, rfl, ?_⟩
      rw [e2]
      refine iteF ?_
      refine ⟨.str x, rfl, .int a, rfl, (a : Int), rfl, .int ((a + k : Nat) : Int), rfl, ((a + k : Nat) : Int), rfl, x, rfl, Nat.le_trans hx (by decide), ?_⟩
      have e3 : cutS x (some (a : Int)) (some ((a + k : Nat) : Int)) = S (((tl x).drop a).take k) := by
        rw [cutS_nat, Nat.add_sub_cancel_left]
      rw [e3]
      refine ⟨_, rfl, ?_, .int ((a + k : Nat) : Int), rfl, ((a + k : Nat) : Int), 1, rfl, rfl, (by show 2 ≤ sizeLine; decide), fun p hp => q p _ (same_new hp) hp upd_same⟩
      rw [S_len, List.length_take]
      omega
abbrev sRow : Stmt := topS 9
theorem scRow : FnScope ["row", "sign"] ["row"] (defScope sRow) := ⟨rfl, rfl, rfl, by decide +kernel, rfl, by decide +kernel, by decide +kernel⟩
def spRow : Sp := fun vs H Q _ => ∃ (x : Str), vs = [.str x] ∧ x.length ≤ 1000000 ∧
  ∀ H', Same H H' → Q (.bl (decide (rowOk (tl x)))) H'
theorem zb : (" " : Str) = ⟨#[32]⟩ := by decide +kernel
theorem zt : ("~" : Str) = ⟨#[126]⟩ := by decide +kernel
theorem zn : ("\n" : Str) = S [10] := by decide +kernel
theorem zc : (":" : Str) = S [58] := by decide +kernel
theorem ze : ("=" : Str) = S [61] := by decide +kernel
theorem le1 (a b : Nat) : (!decide ((⟨#[b]⟩ : Str).cps.toList < (⟨#[a]⟩ : Str).cps.toList)) = decide (a ≤ b) := by
  have h : (([b] : List Nat) < [a]) ↔ b < a := by
    rw [List.cons_lt_cons_iff]
    constructor
    · rintro (h | ⟨_, h⟩)
      · exact h
      · exact absurd h (List.not_lt_nil _)
    · exact .inl
  rw [Bool.eq_iff_iff, Bool.not_eq_true', decide_eq_false_iff_not, decide_eq_true_eq]
  show ¬ (([b] : List Nat) < [a]) ↔ a ≤ b
  rw [h]
  omega
theorem ok_row {f : Addr} {fd : FuncData} (F : Fun K "is_row" "is_row" sRow f fd) (T : Bs mg) : FnOk P w K mg base CX0 1 f fd ["row"] spRow := by
  refine F.ok scRow (fun vs H Q E h => ?_) (fun cdv A outer s H vs Q E hr h => ?_)
  · obtain ⟨x, rfl, _⟩ := h
    rfl
  · obtain ⟨x, rfl, hx, q⟩ := h
    have nd := scRow.nd
    refine ⟨_, (pss_one (ps_ret (pe_and (pe_cmpR op_ne (pv 0) pe_str (nomark _)) (pe_one (pe_callB (cr_all rfl) (by rfl) T.all (by decide +kernel) (pa_cons (pe_lc (own := [("sign", 1)]) (g := gName 1) (tt := tYes) rfl nd (pi_str (pv 0)) (blkOk_by (own := [("sign", 1)]) (N := ["row", "sign"]) (sc := defScope (topS 9)) (by decide +kernel)) (fun _ _ _ _ _ => (pg_name (i := 1) nd rfl (Or.inl rfl))) (fun _ _ _ _ _ => pts_nil) (fun _ _ _ _ _ => (pe_chain op_le_str op_le_str pe_str (pv 1) pe_str))) pa_nil)))))), ?_⟩
    refine ⟨.str x, rfl, rfl, _, rfl, ite2 (fun c => ?_) (fun c => ?_)⟩
    · have hne : tl x ≠ [] := fun z => by
        have z2 : x = "" := TL.ext_tl (z.trans (by decide +kernel))
        rw [z2] at c
        have c' : (!decide (V.str "" = V.str "")) = true := c
        rw [decide_eq_true rfl] at c'
        cases c'
      refine ⟨.str x, rfl, x, rfl, fun D hD => ?_⟩
      refine lc_it walk_str (fun i H' => Same H H' ∧ H' D = some (.lst (((tl x).take i).map fun c => V.bl (decide (signOk c))))) ⟨same_new hD, upd_same⟩ (fun _ _ _ _ => trivial) (fun i v H1 H2 hi p y => ?_) (fun H1 p => ?_)
      · obtain ⟨s1, e1⟩ := p
        obtain ⟨rfl, c, hc, rfl⟩ := y
        have hc' : (tl x)[i]? = some c := by
          have := hc
          rw [← Array.getElem?_toList] at this
          exact this
        have et : (tl x).take (i + 1) = (tl x).take i ++ [c] := by
          rw [List.take_add_one, hc']
          rfl
        have step : ∀ b : Bool, b = decide (signOk c) → ∃ acc, H2 D = some (.lst acc) ∧ acc.length < sizeLine ∧ (Same H (upd H2 D (.lst (acc ++ [V.bl b]))) ∧ (upd H2 D (.lst (acc ++ [V.bl b]))) D = some (.lst (((tl x).take (i + 1)).map fun c => V.bl (decide (signOk c))))) := fun b hb => by
          refine ⟨_, e1, ?_, s1.mutN hD, ?_⟩
          · rw [List.length_map, List.length_take, ← len_tl]
            exact Nat.lt_of_le_of_lt (Nat.le_trans (Nat.min_le_right _ _) hx) (by decide)
          · rw [upd_same, et, List.map_append, hb]
            rfl
        refine ⟨rfl, .str ⟨#[c]⟩, rfl, _, _, rfl, rfl, _, rfl, ite2 (fun c1 => ?_) (fun c1 => ?_)⟩
        · have h1 : 32 ≤ c := by
            have z := c1
            rw [zb, le1] at z
            exact of_decide_eq_true z
          refine ⟨_, _, rfl, rfl, ?_⟩
          refine step _ ?_
          rw [zt, show (!decide ((⟨#[126]⟩ : Str).cps.toList < (⟨#[c]⟩ : Str).cps.toList)) = decide (c ≤ 126) from le1 c 126]
          rw [Bool.eq_iff_iff, decide_eq_true_eq, decide_eq_true_eq]
          exact ⟨fun h => ⟨h1, h⟩, fun h => h.2⟩
        · have h1 : ¬ 32 ≤ c := fun h => c1 (by rw [zb, le1]; exact decide_eq_true h)
          refine step _ ?_
          symm
          exact decide_eq_false fun h => h1 h.1
      · obtain ⟨s1, e1⟩ := p
        rw [List.take_of_length_le (by rw [Array.length_toList]; exact Nat.le_refl _)] at e1
        refine ⟨D, (tl x).map fun c => decide (signOk c), rfl, SqL.of (by rw [e1, List.map_map]; rfl), ?_⟩
        have z := q _ s1
        have e2 : ((tl x).map fun c => decide (signOk c)).all id = decide (rowOk (tl x)) := by
          rw [Bool.eq_iff_iff, List.all_map, List.all_eq_true, decide_eq_true_eq]
          exact ⟨fun h => ⟨hne, fun c hc => of_decide_eq_true (h c hc)⟩, fun h c hc => decide_eq_true (h.2 c hc)⟩
        rw [e2]
        exact z
    · have c' : decide (V.str x = V.str "") = true := by simpa using c
      have z := of_decide_eq_true c'
      injection z with z
      have e2 : decide (rowOk (tl x)) = false := decide_eq_false fun h => h.1 (by rw [z]; decide +kernel)
      have z := q H (same_refl H)
      rw [e2] at z
      exact z

section
variable {ts : List TE} {l m : List Nat} {σ : L2.St} {H : Hp} {Q : Str → Hp → Prop}
theorem S_e : Str.empty = S [] := rfl
theorem jsC {x : Str} (hx : x = S m) (hl : l.length + m.length ≤ sizeLine) (h : tJs ts (S (l ++ m)) σ H Q) : tJs (tC (.str x) :: ts) (S l) σ H Q := by
  subst hx
  exact ⟨_, rfl, by rw [S_append, S_len, List.length_append]; exact hl, by rw [S_append]; exact h⟩
theorem jsN {i : Nat} (n : Nat) (hσ : σ[i]? = some (some (.int (n : Int)))) (hn : n < 10 ^ 60) (hl : l.length + 60 ≤ sizeLine) (h : tJs ts (S (l ++ numL n)) σ H Q) : tJs (tFmt (tVar i) :: ts) (S l) σ H Q :=
  ⟨_, hσ, .inr ⟨_, rfl, log2_num hn, _, rfl, by
    rw [S_num, S_append, S_len, List.length_append]
    have : (numL n).length ≤ 60 := TL.numL_len (by decide) hn
    omega, by rw [S_num, S_append]; exact h⟩⟩
theorem jsV {i : Nat} (hσ : σ[i]? = some (some (.str (S m)))) (hl : l.length + m.length ≤ sizeLine) (h : tJs ts (S (l ++ m)) σ H Q) : tJs (tFmt (tVar i) :: ts) (S l) σ H Q :=
  ⟨_, hσ, .inl ⟨_, rfl, by rw [S_len]; omega, _, rfl, by rw [S_append, S_len, List.length_append]; exact hl, by rw [S_append]; exact h⟩⟩
theorem jsL {i : Nat} (hσ : σ[i]? = some (some (.str (S m)))) (hm : m.length ≤ sizeLine) (hl : l.length + 60 ≤ sizeLine) (h : tJs ts (S (l ++ numL m.length)) σ H Q) :
    tJs (tFmt (tCB (fun xs H Q => ∃ z, xs = [V.str z] ∧ z.length ≤ sizeLine ∧ Q (V.int ((z.length : Nat) : Int)) H) (tCons (tVar i) tNil)) :: ts) (S l) σ H Q := by
  have h60 : m.length < 10 ^ 60 := Nat.lt_of_le_of_lt hm (by decide)
  refine ⟨_, hσ, _, rfl, hm, .inr ⟨_, rfl, log2_num h60, _, rfl, ?_, ?_⟩⟩
  · rw [S_len, S_num, S_append, S_len, List.length_append]
    have : (numL m.length).length ≤ 60 := TL.numL_len (by decide) h60
    omega
  · rw [S_len, S_num, S_append]
    exact h
end
theorem joinL_len (y : List Nat) : ∀ ps : List (List Nat), (joinL y ps).length ≤ (ps.map List.length).sum + ps.length * y.length
  | [] => Nat.zero_le _
  | [p] => by
    show p.length ≤ _
    simp
  | p :: q :: r => by
    have h := joinL_len y (q :: r)
    show (p ++ (y ++ joinL y (q :: r))).length ≤ _
    rw [List.length_append, List.length_append, List.map_cons, List.sum_cons, List.length_cons, Nat.succ_mul]
    omega
abbrev sRec : Stmt := topS 5
theorem scRec : FnScope ["number", "rows", "body", "check"] ["number", "rows"] (defScope sRec) := ⟨rfl, rfl, rfl, by decide +kernel, rfl, by decide +kernel, by decide +kernel⟩
def rowV (rows : List (List Nat)) : List V := rows.map fun r => V.str (S r)
def spRec (K : PySem.W.Frag) : Sp := fun vs H Q _ => ∃ (n : Nat) (a : Addr) (rows : List (List Nat)), vs = [.int (n : Int), .ref a] ∧ n < 10 ^ 60 ∧ SqL K H a (rowV rows) ∧ (rows.map List.length).sum + rows.length ≤ 100000 ∧
  Q (.str (S (recL n rows))) H
theorem ok_rec {f : Addr} {fd : FuncData} (F : Fun K "record" "record" sRec f fd) (T : Bs mg) (c_check_of : Callee P w K mg base 1 "check_of" ["text"] spChk) : FnOk P w K mg base CX0 2 f fd ["number", "rows"] (spRec K) := by
  refine F.ok scRec (fun vs H Q E h => ?_) (fun cdv A outer s H vs Q E hr h => ?_)
  · obtain ⟨n, a, rows, rfl, _⟩ := h
    rfl
  · obtain ⟨n, a, rows, rfl, hn, ha, hl, q⟩ := h
    have nd := scRec.nd
    refine ⟨_, (pss_cons (ps_set (i := 2) nd rfl (Or.inl rfl) (pe_join pe_str (pv 1)))
  (pss_cons (ps_set (i := 3) nd rfl (Or.inl rfl) (pe_own c_check_of (hr.mono (by decide)) (by rfl) (pa_cons (pe_joined (.cons (pe_fmt (pv 0)) (.cons pe_str (.cons (pe_fmt (pe_callB call_len_str (by rfl) T.len PySem.boot_len (pa_cons (pv 2) pa_nil))) (.cons pe_str (.cons (pe_fmt (pv 2)) .nil)))))) pa_nil)))
  (pss_one (ps_ret (pe_joined (.cons (pe_fmt (pv 0)) (.cons pe_str (.cons (pe_fmt (pe_callB call_len_str (by rfl) T.len PySem.boot_len (pa_cons (pv 2) pa_nil))) (.cons pe_str (.cons (pe_fmt (pv 3)) (.cons pe_str (.cons (pe_fmt (pv 2)) (.cons pe_str .nil))))))))))))), ?_⟩
    have hb := joinL_len [10] rows
    have hb' : (joinL [10] rows).length ≤ 100000 := by
      rw [show [10].length = 1 from rfl] at hb
      omega
    have e24 : sizeLine = 16777216 := by decide +kernel
    refine ⟨⟨_, rfl⟩, .ref a, rfl, _, a, rows.map S, rfl, rfl, .inl (by rw [List.map_map]; exact ha), ?_, ?_⟩
    · rw [List.map_map, List.length_map, zn, S_len]
      show (rows.map List.length).sum + rows.length * 1 ≤ 16777216
      omega
    · rw [zn, S_join]
      have h1 : (numL n).length ≤ 60 := TL.numL_len (by decide) hn
      have h2 : (numL (joinL [10] rows).length).length ≤ 60 := TL.numL_len (by decide) (Nat.lt_of_le_of_lt hb' (by decide))
      have hc := chk_lt (headL n (joinL [10] rows).length (joinL [10] rows))
      have h3 : (numL (chkL (headL n (joinL [10] rows).length (joinL [10] rows)))).length ≤ 60 := TL.numL_len (by decide) (Nat.lt_trans hc (by decide))
      refine jsN n rfl hn (by decide) (jsC zb (by simp only [List.length_append, List.length_nil, List.length_cons]; omega) (jsL rfl (by omega) (by simp only [List.length_append, List.length_nil, List.length_cons]; omega)
        (jsC zc (by simp only [List.length_append, List.length_nil, List.length_cons]; omega) (jsV rfl (by simp only [List.length_append, List.length_nil, List.length_cons]; omega) ?_))))
      refine ⟨_, rfl, ?_⟩
      rw [tl_S]
      refine jsN n rfl hn (by decide) (jsC zb (by simp only [List.length_append, List.length_nil, List.length_cons]; omega) (jsL rfl (by omega) (by simp only [List.length_append, List.length_nil, List.length_cons]; omega)
        (jsC zc (by simp only [List.length_append, List.length_nil, List.length_cons]; omega) (jsN (chkL (headL n (joinL [10] rows).length (joinL [10] rows))) ?_ (Nat.lt_trans hc (by decide)) (by simp only [List.length_append, List.length_nil, List.length_cons]; omega)
          (jsC ze ?_ (jsV rfl ?_ (jsC rfl ?_ ?_)))))))
      · rfl
      · simp only [List.length_append, List.length_nil, List.length_cons]
        omega
      · simp only [List.length_append, List.length_nil, List.length_cons]
        omega
      · simp only [List.length_append, List.length_nil, List.length_cons]
        omega
      · exact q

/-! ### one record read -/
def rowsAt (H : Hp) (p : Addr) (rows : List (List Nat)) : Prop := H p = some (.lst (rowV rows))
abbrev sRat : Stmt := topS 7
theorem scRat : FnScope ["log", "at", "number", "at_length", "length", "at_check", "check", "at_body", "end", "body", "rows", "row"] ["log", "at"] (defScope sRat) := ⟨rfl, rfl, rfl, by decide +kernel, rfl, by decide +kernel, by decide +kernel⟩
def spRat : Sp := fun vs H Q _ => ∃ (x : Str) (a : Nat), vs = [.str x, .int (a : Int)] ∧ x.length ≤ 1000000 ∧ a ≤ x.length ∧
  ((recAt (tl x) a = none → ∀ H', Same H H' → Q .non H') ∧
   ∀ n rows b, recAt (tl x) a = some (n, rows, b) → ∀ p r H', Same H H' → H p = none → H r = none → H' r = some (.lst (rowV rows)) → H' p = some (.tup [.int (n : Nat), .ref r, .int (b : Nat)]) → Q (.ref p) H')
set_option maxHeartbeats 4000000 in
theorem ok_rat {f : Addr} {fd : FuncData} (F : Fun K "record_at" "record_at" sRat f fd) (T : Bs mg) (c_check_of : Callee P w K mg base 1 "check_of" ["text"] spChk)
    (c_number_until : Callee P w K mg base 2 "number_until" ["log", "at", "closing"] spUnt) (c_is_row : Callee P w K mg base 1 "is_row" ["row"] spRow) : FnOk P w K mg base CX0 3 f fd ["log", "at"] spRat := by
  refine F.ok scRat (fun vs H Q E h => ?_) (fun cdv A outer s H vs Q E hr h => ?_)
  · obtain ⟨x, a, rfl, _⟩ := h
    rfl
  · obtain ⟨x, a, rfl, hx, ha, q1, q2⟩ := h
    have nd := scRat.nd
    refine ⟨_, (pss_cons (ps_asg (pe_own c_number_until (hr.mono (by decide)) (by rfl) (pa_cons (pv 0) (pa_cons (pv 1) (pa_cons pe_str pa_nil)))) (pg_tup rfl (pgs_cons (pg_name (i := 2) nd rfl (Or.inl rfl)) (pgs_cons (pg_name (i := 3) nd rfl (Or.inl rfl)) pgs_nil))))
  (pss_cons (ps_asg (pe_own c_number_until (hr.mono (by decide)) (by rfl) (pa_cons (pv 0) (pa_cons (pv 3) (pa_cons pe_str pa_nil)))) (pg_tup rfl (pgs_cons (pg_name (i := 4) nd rfl (Or.inl rfl)) (pgs_cons (pg_name (i := 5) nd rfl (Or.inl rfl)) pgs_nil))))
  (pss_cons (ps_asg (pe_own c_number_until (hr.mono (by decide)) (by rfl) (pa_cons (pv 0) (pa_cons (pv 5) (pa_cons pe_str pa_nil)))) (pg_tup rfl (pgs_cons (pg_name (i := 6) nd rfl (Or.inl rfl)) (pgs_cons (pg_name (i := 7) nd rfl (Or.inl rfl)) pgs_nil))))
  (pss_cons (ps_if (PW.pt (pw_or (pt_cmpR op_isN (pv 2) pe_non (nomark _)) (pw_or (pt_cmpR op_isN (pv 4) pe_non (nomark _)) (pw_or1 (pt_cmpR op_isN (pv 6) pe_non (nomark _))))))
  (pss_one (ps_ret pe_non))
  pss_nil)
  (pss_cons (ps_set (i := 8) nd rfl (Or.inl rfl) (pe_op op_add (pv 7) (pv 4)))
  (pss_cons (ps_if (pt_cmpR op_ne (pe_slice sl_str (pv 0) (po_some (pv 8)) (po_some (pe_op op_add (pv 8) pe_int))) pe_str (nomark _))
  (pss_one (ps_ret pe_non))
  pss_nil)
  (pss_cons (ps_set (i := 9) nd rfl (Or.inl rfl) (pe_slice sl_str (pv 0) (po_some (pv 7)) (po_some (pv 8))))
  (pss_cons (ps_set (i := 10) nd rfl (Or.inl rfl) (pe_split (pv 9) pe_str))
  (pss_cons (ps_if (PW.pt (pw_or (pt_not (pt_val (pe_callB (cr_all rfl) (by rfl) T.all (by decide +kernel) (pa_cons (pe_lc (own := [("row", 11)]) (g := gName 11) (tt := tYes) rfl nd (pi_list (pv 10)) (blkOk_by (own := [("row", 11)]) (N := ["log", "at", "number", "at_length", "length", "at_check", "check", "at_body", "end", "body", "rows", "row"]) (sc := defScope (topS 7)) (by decide +kernel)) (fun _ _ _ _ _ => (pg_name (i := 11) nd rfl (Or.inl rfl))) (fun _ _ _ _ _ => pts_nil) (fun _ _ _ _ _ => (pe_own c_is_row (hr.mono (by decide)) (by rfl) (pa_cons (pv 11) pa_nil)))) pa_nil)))) (pw_or1 (pt_cmpR op_ne (pv 6) (pe_own c_check_of (hr.mono (by decide)) (by rfl) (pa_cons (pe_joined (.cons (pe_fmt (pv 2)) (.cons pe_str (.cons (pe_fmt (pv 4)) (.cons pe_str (.cons (pe_fmt (pv 9)) .nil)))))) pa_nil)) (nomark _)))))
  (pss_one (ps_ret pe_non))
  pss_nil)
  (pss_one (ps_ret (pe_tup (pa_cons (pv 2) (pa_cons (pv 10) (pa_cons (pe_op op_add (pv 8) pe_int) pa_nil))))))))))))))), ?_⟩
    obtain ⟨o1, a1, e1⟩ : ∃ o1 a1, upto (tl x) a 32 = (o1, a1) := ⟨_, _, rfl⟩
    obtain ⟨o2, a2, e2⟩ : ∃ o2 a2, upto (tl x) a1 58 = (o2, a2) := ⟨_, _, rfl⟩
    obtain ⟨o3, a3, e3⟩ : ∃ o3 a3, upto (tl x) a2 61 = (o3, a3) := ⟨_, _, rfl⟩
    have u1 := upto_le (l := tl x) (c := 32) (a := a) (by rw [← len_tl]; exact ha)
    rw [e1] at u1
    have u2 := upto_le (c := 58) u1.1
    rw [e2] at u2
    have u3 := upto_le (c := 61) u2.1
    rw [e3] at u3
    rw [← len_tl] at u1 u2 u3
    have ez : sizeLine = 16777216 := by decide +kernel
    have hz : x.length ≤ sizeLine := by omega
    have b1 : ∀ n, o1 = some n → n < 10 ^ 60 := fun n h => upto_num (by rw [e1]; exact h)
    have b2 : ∀ n, o2 = some n → n < 10 ^ 60 := fun n h => upto_num (by rw [e2]; exact h)
    rw [recAt_eq e1 e2 e3] at q1 q2
    refine ⟨.str x, rfl, .int a, rfl, x, a, 32, rfl, hx, ha, fun p1 H1 s1 n1 f1 => ?_⟩
    rw [e1] at f1
    refine ⟨p1, _, rfl, SqT.of f1, rfl, _, _, rfl, _, _, rfl, rfl, ?_⟩
    refine ⟨.str x, rfl, .int a1, rfl, x, a1, 58, rfl, hx, u1.1, fun p2 H2 s2 n2 f2 => ?_⟩
    rw [e2] at f2
    refine ⟨p2, _, rfl, SqT.of f2, rfl, _, _, rfl, _, _, rfl, rfl, ?_⟩
    refine ⟨.str x, rfl, .int a2, rfl, x, a2, 61, rfl, hx, u2.1, fun p3 H3 s3 n3 f3 => ?_⟩
    rw [e3] at f3
    refine ⟨p3, _, rfl, SqT.of f3, rfl, _, _, rfl, _, _, rfl, rfl, ?_⟩
    have s03 : Same H H3 := (s1.tr s2).tr s3
    clear e1 e2 e3 f1 f2 f3 n1 n2 n3
    cases o1 with
    | none => exact ⟨.non, rfl, rfl, _, rfl, iteT (iteT (q1 rfl _ s03))⟩
    | some n =>
    cases o2 with
    | none => exact ⟨.int n, rfl, rfl, _, rfl, iteF ⟨.non, rfl, rfl, _, rfl, iteT (iteT (q1 rfl _ s03))⟩⟩
    | some m =>
    cases o3 with
    | none => exact ⟨.int n, rfl, rfl, _, rfl, iteF ⟨.int m, rfl, rfl, _, rfl, iteF ⟨.non, rfl, rfl, _, rfl, iteT (q1 rfl _ s03)⟩⟩⟩
    | some k =>
    refine ⟨.int n, rfl, rfl, _, rfl, iteF ⟨.int m, rfl, rfl, _, rfl, iteF ⟨.int k, rfl, rfl, _, rfl, iteF ?_⟩⟩⟩
    refine ⟨.int a3, rfl, .int m, rfl, (a3 : Int), (m : Int), rfl, rfl, ?_⟩
    have em : (a3 : Int) + (m : Int) = ((a3 + m : Nat) : Int) := by omega
    have em1 : ((a3 + m : Nat) : Int) + 1 = ((a3 + m + 1 : Nat) : Int) := by omega
    dsimp only
    rw [em]
    refine ⟨.str x, rfl, .int ((a3 + m : Nat) : Int), rfl, ((a3 + m : Nat) : Int), rfl, .int ((a3 + m : Nat) : Int), rfl, ((a3 + m : Nat) : Int), 1, rfl, rfl, _, rfl, x, rfl, hz, ?_⟩
    dsimp only
    rw [em1, cutS_nat, zn, show a3 + m + 1 - (a3 + m) = 1 by omega]
    refine ⟨rfl, _, rfl, ite2 (fun c => q1 ?_ _ s03) (fun c => ?_)⟩
    · have c' : ((tl x).drop (a3 + m)).take 1 ≠ [10] := fun z => by
        rw [z, decide_eq_true rfl] at c
        cases c
      show (if _ then _ else none) = none
      rw [if_neg c']
    have c1 : ((tl x).drop (a3 + m)).take 1 = [10] := by
      have c' : decide (V.str (S (((tl x).drop (a3 + m)).take 1)) = V.str (S [10])) = true := by simpa using c
      have z := of_decide_eq_true c'
      injection z with z
      exact S_inj z
    have r0 : recFin (tl x) (some n) (some m) (some k) a3 = if (∀ r ∈ TL.spl [10] 0 [] (((tl x).drop a3).take m), rowOk r) ∧ k = chkL (headL n m (((tl x).drop a3).take m)) then some (n, TL.spl [10] 0 [] (((tl x).drop a3).take m), a3 + m + 1) else none := if_pos c1
    rw [r0] at q1 q2
    refine ⟨.str x, rfl, .int a3, rfl, (a3 : Int), rfl, .int ((a3 + m : Nat) : Int), rfl, ((a3 + m : Nat) : Int), rfl, x, rfl, hz, ?_⟩
    rw [cutS_nat, Nat.add_sub_cancel_left]
    generalize hB : ((tl x).drop a3).take m = B at q1 q2 ⊢
    have hBl : B.length ≤ 1000000 := by
      rw [← hB, List.length_take, List.length_drop, ← len_tl]
      omega
    refine ⟨.str (S B), rfl, ⟨_, rfl⟩, S B, S [10], rfl, rfl, rfl, by rw [S_len]; omega, fun D hD => ?_⟩
    rw [split_S _ _ (by decide), tl_S]
    generalize hR : TL.spl [10] 0 [] B = R at q1 q2 ⊢
    have eR : (R.map S).map V.str = rowV R := by
      rw [List.map_map]
      rfl
    rw [eR]
    have s04 : Same H (upd H3 D (.lst (rowV R))) := s03.tr (same_new hD)
    generalize hH4 : upd H3 D (.lst (rowV R)) = H4 at s04 ⊢
    have hD4 : H4 D = some (.lst (rowV R)) := by
      rw [← hH4]
      exact upd_same
    have hRl : R.length ≤ 1000001 ∧ ∀ r ∈ R, r.length ≤ 1000000 := by
      rw [← hR]
      have z := spl_len (c := 10) B 0 []
      exact ⟨by omega, fun r hr => by have := z.2 r hr; simp at this; omega⟩
    refine ⟨.ref D, rfl, D, rfl, ⟨_, SqL.of hD4⟩, fun D2 hD2 => ?_⟩
    refine lc_list (xs := rowV R) (fun i H' => Same H4 H' ∧ H' D2 = some (.lst ((R.take i).map fun r => V.bl (decide (rowOk r))))) ⟨same_new hD2, upd_same⟩ (fun i H' _ p => SqL.of (p.1 _ _ hD4)) (fun i v H5 hv p => ?_) (fun H5 p => ?_)
    · obtain ⟨s5, e5⟩ := p
      have hi : i < R.length := by
        have := (List.getElem?_eq_some_iff.mp hv).1
        simpa [rowV] using this
      have ev : v = V.str (S R[i]) := by
        have z : (rowV R)[i]? = some (V.str (S R[i])) := by simp [rowV, hi]
        rw [z] at hv
        exact (Option.some.inj hv).symm
      subst ev
      refine ⟨rfl, _, rfl, _, rfl, by rw [S_len]; exact hRl.2 _ (List.getElem_mem hi), fun H6 s6 => ⟨_, s6 _ _ e5, ?_, (s5.tr s6).mutN hD2, ?_⟩⟩
      · rw [List.length_map, List.length_take]
        omega
      · rw [upd_same, List.take_add_one, List.getElem?_eq_getElem hi, tl_S, List.map_append]
        rfl
    · obtain ⟨s5, e5⟩ := p
      rw [show (rowV R).length = R.length by simp [rowV], List.take_length] at e5
      have s05 := s04.tr s5
      refine ⟨D2, R.map fun r => decide (rowOk r), rfl, SqL.of (by rw [e5, List.map_map]; rfl), _, rfl, ite2 (fun c => iteT (q1 ?_ _ s05)) (fun c => ?_)⟩
      · rw [if_neg]
        intro z
        have z2 : (R.map fun r => decide (rowOk r)).all id = true := by
          rw [List.all_map, List.all_eq_true]
          exact fun r hr => decide_eq_true (z.1 r hr)
        rw [z2] at c
        cases c
      have c2 : ∀ r ∈ R, rowOk r := by
        have c' : (R.map fun r => decide (rowOk r)).all id = true := by simpa using c
        rw [List.all_map, List.all_eq_true] at c'
        exact fun r hr => of_decide_eq_true (c' r hr)
      have hn := b1 n rfl
      have hm := b2 m rfl
      have h1 : (numL n).length ≤ 60 := TL.numL_len (by decide) hn
      have h2 : (numL m).length ≤ 60 := TL.numL_len (by decide) hm
      refine ⟨.int k, rfl, ?_⟩
      refine jsN n rfl hn (by decide) (jsC zb (by simp only [List.length_append, List.length_nil, List.length_cons]; omega) (jsN m rfl hm (by simp only [List.length_append, List.length_nil, List.length_cons]; omega)
        (jsC zc (by simp only [List.length_append, List.length_nil, List.length_cons]; omega) (jsV (m := B) rfl (by simp only [List.length_append, List.length_nil, List.length_cons]; omega) ?_))))
      refine ⟨_, rfl, rfl, _, rfl, ite2 (fun c => q1 ?_ _ s05) (fun c => ?_)⟩
      · rw [if_neg]
        intro z
        have z2 := z.2
        rw [tl_S] at c
        rw [z2] at c
        have c' : (!decide (V.int ((chkL (headL n m B) : Nat) : Int) = V.int ((chkL (headL n m B) : Nat) : Int))) = true := c
        rw [decide_eq_true rfl] at c'
        cases c'
      have c3 : k = chkL (headL n m B) := by
        rw [tl_S] at c
        have c' : decide (V.int ((k : Nat) : Int) = V.int ((chkL (headL n m B) : Nat) : Int)) = true := by
          have c2 : ¬ (!decide (V.int ((k : Nat) : Int) = V.int ((chkL (headL n m B) : Nat) : Int))) = true := c
          simpa using c2
        have z := of_decide_eq_true c'
        injection z with z
        exact Int.ofNat_inj.mp z
      rw [if_pos ⟨c2, c3⟩] at q2
      refine ⟨.int n, rfl, .ref D, rfl, .int ((a3 + m : Nat) : Int), rfl, ((a3 + m : Nat) : Int), 1, rfl, rfl, (by show 3 ≤ sizeLine; decide), fun p hp => ?_⟩
      dsimp only
      rw [em1]
      refine q2 _ _ _ rfl p D _ (s05.tr (same_new hp)) (s05.fresh hp) (s03.fresh hD) ?_ upd_same
      rw [upd_ne (ne_of_none (s5 _ _ hD4) hp)]
      exact s5 _ _ hD4
end
end Lr
namespace Lr
open PySem PySem.Spec PyProof.Rows L2 Lf
section
variable {P : Program} {w : World} {K : PySem.W.Frag} {mg : Str → Option Value} {base : Heap}
/-- the lists of rows at their addresses, new ones -/
def RowsAll (H0 : Hp) (r : Addr) (H : Hp) : List Addr → List (List (List Nat)) → Prop
  | [], [] => True
  | q :: qs, x :: xs => (H0 q = none ∧ q ≠ r ∧ H q = some (.lst (rowV x))) ∧ RowsAll H0 r H qs xs
  | _, _ => False
theorem RowsAll.keep {H0 H H' : Hp} {r : Addr} (k : ∀ q o, H0 q = none → q ≠ r → H q = some o → H' q = some o) : ∀ {qs : List Addr} {xs : List (List (List Nat))}, RowsAll H0 r H qs xs → RowsAll H0 r H' qs xs
  | [], [], _ => trivial
  | _ :: _, _ :: _, ⟨⟨h1, h2, h3⟩, h4⟩ => ⟨⟨h1, h2, k _ _ h1 h2 h3⟩, h4.keep k⟩
  | [], _ :: _, h => h.elim
  | _ :: _, [], h => h.elim
theorem RowsAll.snoc {H0 H : Hp} {r q : Addr} {x : List (List Nat)} (h1 : H0 q = none) (h2 : q ≠ r) (h3 : H q = some (.lst (rowV x))) : ∀ {qs : List Addr} {xs : List (List (List Nat))}, RowsAll H0 r H qs xs → RowsAll H0 r H (qs ++ [q]) (xs ++ [x])
  | [], [], _ => ⟨⟨h1, h2, h3⟩, trivial⟩
  | _ :: _, _ :: _, ⟨h, h4⟩ => ⟨h, RowsAll.snoc h1 h2 h3 h4⟩
  | [], _ :: _, h => h.elim
  | _ :: _, [], h => h.elim
theorem RowsAll.len {H0 H : Hp} {r : Addr} : ∀ {qs : List Addr} {xs : List (List (List Nat))}, RowsAll H0 r H qs xs → qs.length = xs.length
  | [], [], _ => rfl
  | _ :: _, _ :: _, ⟨_, h⟩ => congrArg (· + 1) h.len
  | [], _ :: _, h => h.elim
  | _ :: _, [], h => h.elim
/-- what stands at the loop's head -/
def Jst (l : List Nat) (fst : Option Nat) (rs : List (List (List Nat))) (a : Nat) : Prop :=
  (fst = none ∧ rs = [] ∧ a = 0) ∨ ∃ f fuel, fst = some f ∧ l.length + 1 ≤ fuel + a ∧ parseL l = (some f, rs ++ (runL l fuel (f + rs.length) a).1, (runL l fuel (f + rs.length) a).2)
theorem Jst.end_none {l : List Nat} {fst : Option Nat} {rs : List (List (List Nat))} {a : Nat} (j : Jst l fst rs a) (ha : a ≤ l.length) (h : recAt l a = none) : parseL l = (fst, rs, a) := by
  rcases j with ⟨rfl, rfl, rfl⟩ | ⟨f, fuel, rfl, h1, h2⟩
  · unfold parseL
    rw [h]
  · rw [h2]
    obtain ⟨g, rfl⟩ : ∃ g, fuel = g + 1 := ⟨fuel - 1, by omega⟩
    unfold runL
    rw [h]
    simp
theorem Jst.end_other {l : List Nat} {f : Nat} {rs : List (List (List Nat))} {rw' : List (List Nat)} {a n b : Nat} (j : Jst l (some f) rs a) (ha : a ≤ l.length) (h : recAt l a = some (n, rw', b)) (hne : n ≠ f + rs.length) : parseL l = (some f, rs, a) := by
  rcases j with ⟨h0, _, _⟩ | ⟨f', fuel, h0, h1, h2⟩
  · cases h0
  · cases h0
    rw [h2]
    obtain ⟨g, rfl⟩ : ∃ g, fuel = g + 1 := ⟨fuel - 1, by omega⟩
    unfold runL
    rw [h]
    dsimp only
    rw [if_neg hne]
    simp
theorem Jst.first {l : List Nat} {rs : List (List (List Nat))} {a n b : Nat} {rw' : List (List Nat)} (j : Jst l none rs a) (h : recAt l a = some (n, rw', b)) : Jst l (some n) rs a := by
  rcases j with ⟨_, rfl, rfl⟩ | ⟨f', fuel, h0, h1, h2⟩
  · refine .inr ⟨n, l.length + 1, rfl, by omega, ?_⟩
    unfold parseL
    rw [h]
    simp
  · cases h0
theorem Jst.step {l : List Nat} {f a b : Nat} {rs : List (List (List Nat))} {rw' : List (List Nat)} (j : Jst l (some f) rs a) (ha : a ≤ l.length) (h : recAt l a = some (f + rs.length, rw', b)) : Jst l (some f) (rs ++ [rw']) b := by
  rcases j with ⟨h0, _, _⟩ | ⟨f', fuel, h0, h1, h2⟩
  · cases h0
  · cases h0
    obtain ⟨g, rfl⟩ : ∃ g, fuel = g + 1 := ⟨fuel - 1, by omega⟩
    have hb := recAt_up ha h
    refine .inr ⟨f, g, rfl, by omega, ?_⟩
    rw [h2]
    have er : runL l (g + 1) (f + rs.length) a = (rw' :: (runL l g (f + rs.length + 1) b).1, (runL l g (f + rs.length + 1) b).2) := by
      show (match recAt l a with
        | some (n', rows, b) => if n' = f + rs.length then (rows :: (runL l g (f + rs.length + 1) b).1, (runL l g (f + rs.length + 1) b).2) else ([], a)
        | none => ([], a)) = _
      rw [h]
      exact if_pos rfl
    rw [er, List.length_append, List.append_assoc]
    rfl
abbrev sPar : Stmt := topS 6
theorem scPar : FnScope ["log", "first", "records", "at", "found", "number", "rows", "behind"] ["log"] (defScope sPar) := ⟨rfl, rfl, rfl, by decide +kernel, rfl, by decide +kernel, by decide +kernel⟩
def spPar : Sp := fun vs H Q _ => ∃ (x : Str), vs = [.str x] ∧ x.length ≤ 1000000 ∧
  ∀ p r qs H', Same H H' → H p = none → H r = none → p ≠ r → H' p = some (.tup [optV (parseL (tl x)).1, .ref r, .int (((parseL (tl x)).2.2 : Nat) : Int)]) → H' r = some (.lst (qs.map V.ref)) → RowsAll H r H' qs (parseL (tl x)).2.1 → Q (.ref p) H'
def ParInv (x : Str) (H0 : Hp) (σ : L2.St) (H : Hp) : Prop := ∃ (fst : Option Nat) (rs : List (List (List Nat))) (r : Addr) (qs : List Addr) (a : Nat) (fv : V) (s5 s6 s7 : Option V),
  σ = [some (.str x), some (optV fst), some (.ref r), some (.int (a : Int)), some fv, s5, s6, s7] ∧ Same H0 H ∧ H0 r = none ∧ H r = some (.lst (qs.map V.ref)) ∧ RowsAll H0 r H qs rs ∧ a ≤ x.length ∧ rs.length ≤ a ∧ Jst (tl x) fst rs a ∧
  ((fv = .non ∧ recAt (tl x) a = none) ∨ ∃ n rows b p q, fv = .ref p ∧ recAt (tl x) a = some (n, rows, b) ∧ H p = some (.tup [.int (n : Nat), .ref q, .int (b : Nat)]) ∧ H q = some (.lst (rowV rows)) ∧ H0 q = none ∧ q ≠ r)
theorem ParInv.mk0 {x : Str} {H0 H : Hp} {fst : Option Nat} {rs : List (List (List Nat))} {r : Addr} {qs : List Addr} {a : Nat} {s5 s6 s7 : Option V}
    (h1 : Same H0 H) (h2 : H0 r = none) (h3 : H r = some (.lst (qs.map V.ref))) (h4 : RowsAll H0 r H qs rs) (h5 : a ≤ x.length) (h6 : rs.length ≤ a) (h7 : Jst (tl x) fst rs a) :
    (recAt (tl x) a = none → ∀ H', Same H H' → ParInv x H0 [some (.str x), some (optV fst), some (.ref r), some (.int (a : Int)), some .non, s5, s6, s7] H') ∧
    ∀ n rows b, recAt (tl x) a = some (n, rows, b) → ∀ p q H', Same H H' → H p = none → H q = none → H' q = some (.lst (rowV rows)) → H' p = some (.tup [.int (n : Nat), .ref q, .int (b : Nat)]) →
      ParInv x H0 [some (.str x), some (optV fst), some (.ref r), some (.int (a : Int)), some (.ref p), s5, s6, s7] H' :=
  ⟨fun e H' s => ⟨fst, rs, r, qs, a, .non, s5, s6, s7, rfl, h1.tr s, h2, s _ _ h3, h4.keep fun q o _ _ h => s q o h, h5, h6, h7, .inl ⟨rfl, e⟩⟩,
   fun n rows b e p q H' s hp hq eq ep => ⟨fst, rs, r, qs, a, .ref p, s5, s6, s7, rfl, h1.tr s, h2, s _ _ h3, h4.keep fun q o _ _ h => s q o h, h5, h6, h7, .inr ⟨n, rows, b, p, q, rfl, e, ep, eq, h1.fresh hq, fun z => by rw [z, h3] at hq; cases hq⟩⟩⟩
def parMu (x : Str) : L2.St → Hp → Nat := fun σ _ => match (σ[3]? : Option (Option V)) with
  | some (some (V.int a)) => x.length + 1 - a.toNat
  | _ => 0
set_option maxHeartbeats 4000000 in
theorem ok_par {f : Addr} {fd : FuncData} (F : Fun K "parsed" "parsed" sPar f fd) (T : Bs mg) (c_record_at : Callee P w K mg base 3 "record_at" ["log", "at"] spRat) : FnOk P w K mg base CX0 4 f fd ["log"] spPar := by
  refine F.ok scPar (fun vs H Q E h => ?_) (fun cdv A outer s H vs Q E hr h => ?_)
  · obtain ⟨x, rfl, _⟩ := h
    rfl
  · obtain ⟨x, rfl, hx, q⟩ := h
    have nd := scPar.nd
    refine ⟨_, (pss_cons (ps_par3 (i := 1) (j := 2) (l := 3) (by rfl) nd rfl rfl rfl (by decide) (by decide) (by decide) rfl rfl rfl (pa_cons pe_non (pa_cons (pe_lst pa_nil) (pa_cons pe_int pa_nil))) (by rfl))
  (Evl.pss_cut (ps_set (i := 4) nd rfl (Or.inl rfl) (pe_own c_record_at (hr.mono (by decide)) (by rfl) (pa_cons (pv 0) (pa_cons pe_int pa_nil))))
  (pss_cons (ps_while PassesOwn.never (pt_cmpR op_notN (pv 4) pe_non (nomark _))
  (pss_cons (ps_asg (pv 4) (pg_tup rfl (pgs_cons (pg_name (i := 5) nd rfl (Or.inl rfl)) (pgs_cons (pg_name (i := 6) nd rfl (Or.inl rfl)) (pgs_cons (pg_name (i := 7) nd rfl (Or.inl rfl)) pgs_nil)))))
  (Evl.pss_cut (ps_if (pt_cmpR op_isN (pv 1) pe_non (nomark _))
  (pss_one (ps_set (i := 1) nd rfl (Or.inl rfl) (pv 5)))
  pss_nil)
  (pss_cons (ps_if (pt_cmpR op_ne (pv 5) (pe_op op_add (pv 1) (pe_callB call_len_seq (by rfl) T.len PySem.boot_len (pa_cons (pv 2) pa_nil))) (nomark _))
  (pss_one ps_break)
  pss_nil)
  (pss_cons (ps_expr (pe_bm PySem.F.plainAttrs_list PySem.F.slot_list_append PySem.F.type_list_append mt_append (pv 2) (pa_cons (pv 6) pa_nil)))
  (pss_cons (ps_set (i := 3) nd rfl (Or.inl rfl) (pv 7))
  (pss_one (ps_set (i := 4) nd rfl (Or.inl rfl) (pe_own c_record_at (hr.mono (by decide)) (by rfl) (pa_cons (pv 0) (pa_cons (pv 3) pa_nil)))))))))))
  (pss_one (ps_ret (pe_tup (pa_cons (pv 1) (pa_cons (pv 2) (pa_cons (pv 3) pa_nil))))))))), ?_⟩
    refine ⟨(by show 0 ≤ sizeLine; decide), fun r hr0 => ⟨_, _, _, rfl, ?_⟩⟩
    have s1 : Same H (upd H r (.lst [])) := same_new hr0
    have e1 : (upd H r (.lst [])) r = some (.lst []) := upd_same
    generalize (upd H r (.lst [])) = H1 at s1 e1
    refine ⟨ParInv x H, ⟨.str x, rfl, x, 0, rfl, hx, Nat.zero_le _, ParInv.mk0 (fst := none) (rs := []) (qs := []) s1 hr0 e1 trivial (Nat.zero_le _) (Nat.zero_le _) (.inl ⟨rfl, rfl, rfl⟩)⟩, fun σ H2 hI => ?_⟩
    have fin : ∀ (fst : Option Nat) (rs : List (List (List Nat))) (r : Addr) (qs : List Addr) (a : Nat) (fv s5 s6 s7) (H' : Hp), Same H H' → H r = none → H' r = some (.lst (qs.map V.ref)) → RowsAll H r H' qs rs → parseL (tl x) = (fst, rs, a) →
        tRet (tTup (tCons (tVar 1) (tCons (tVar 2) (tCons (tVar 3) tNil)))) { nx := fun x H' => Q V.non H', rt := Q } [some (.str x), some (optV fst), some (.ref r), some (.int (a : Int)), some fv, s5, s6, s7] H' := by
      intro fst rs r qs a fv s5 s6 s7 H' h1 h2 h3 h4 h5
      rw [h5] at q
      refine ⟨_, rfl, _, rfl, _, rfl, (by show 3 ≤ sizeLine; decide), fun p hp => q p r qs _ (h1.tr (same_new hp)) (h1.fresh hp) h2 (fun z => by rw [z, h3] at hp; cases hp) upd_same ?_ ?_⟩
      · rw [upd_ne (ne_of_none h3 hp)]
        exact h3
      · exact h4.keep fun q o _ _ h => by rw [upd_ne (ne_of_none h hp)]; exact h
    refine while_by (ParInv x H) (parMu x) hI (fun σ H3 hP => ?_) (fun σ H Q Q' hq h => ?_)
    · obtain ⟨fst, rs, r, qs, a, fv, s5, s6, s7, rfl, h1, h2, h3, h4, h5, h6, h7, h8⟩ := hP
      have ha : a ≤ (tl x).length := by rw [← len_tl]; exact h5
      rcases h8 with ⟨rfl, e0⟩ | ⟨n, rows, b, p, q0, rfl, e0, ep, eq, hq0, hqr⟩
      · exact ⟨_, rfl, rfl, _, rfl, iteF (fin _ _ _ _ _ _ _ _ _ _ h1 h2 h3 h4 (h7.end_none ha e0))⟩
      · have hb := recAt_up ha e0
        rw [← len_tl] at hb
        refine ⟨_, rfl, rfl, _, rfl, iteT ?_⟩
        refine ⟨_, rfl, p, _, rfl, SqT.of ep, rfl, _, _, rfl, _, _, rfl, _, _, rfl, rfl, ?_⟩
        refine ⟨fun σ' H' => H' = H3 ∧ ∃ f, Jst (tl x) (some f) rs a ∧ σ' = [some (.str x), some (.int (f : Nat)), some (.ref r), some (.int (a : Int)), some (.ref p), some (.int (n : Nat)), some (.ref q0), some (.int (b : Nat))], ?_, fun σ' H' hm => ?_⟩
        · cases fst with
          | none => exact ⟨_, rfl, rfl, _, rfl, iteT ⟨_, rfl, rfl, n, h7.first e0, rfl⟩⟩
          | some f => exact ⟨.int f, rfl, rfl, _, rfl, iteF ⟨rfl, f, h7, rfl⟩⟩
        · obtain ⟨rfl, f, hJ, rfl⟩ := hm
          have hlen := h4.len
          refine ⟨_, rfl, .int f, rfl, .ref r, rfl, r, _, rfl, .inl (SqL.of h3), (f : Int), _, rfl, rfl, rfl, _, rfl, ?_⟩
          have el : ((f : Nat) : Int) + (((qs.map V.ref).length : Nat) : Int) = ((f + rs.length : Nat) : Int) := by
            rw [List.length_map, hlen]
            omega
          have eq2 : n = f + rs.length → V.int ((n : Nat) : Int) = V.int ((f : Int) + (((qs.map V.ref).length : Nat) : Int)) := fun z => by rw [el, z]
          refine ite2 (fun c => ?_) (fun c => ?_)
          · refine fin _ _ _ _ _ _ _ _ _ _ h1 h2 h3 h4 (hJ.end_other ha e0 fun z => ?_)
            have c' : (!decide (V.int ((n : Nat) : Int) = V.int ((f : Int) + (((qs.map V.ref).length : Nat) : Int)))) = true := c
            rw [decide_eq_true (eq2 z)] at c'
            cases c'
          · have c1 : n = f + rs.length := by
              have c0 : ¬ (!decide (V.int ((n : Nat) : Int) = V.int ((f : Int) + (((qs.map V.ref).length : Nat) : Int)))) = true := c
              have c' : decide (V.int ((n : Nat) : Int) = V.int ((f : Int) + (((qs.map V.ref).length : Nat) : Int))) = true := by
                cases hh : decide (V.int ((n : Nat) : Int) = V.int ((f : Int) + (((qs.map V.ref).length : Nat) : Int))) with
                | true => rfl
                | false => rw [hh] at c0; exact absurd rfl c0
              have z := of_decide_eq_true c'
              injection z with z
              rw [el] at z
              exact Int.ofNat_inj.mp z
            subst c1
            refine ⟨.ref r, rfl, .inl ⟨rfl, _, SqL.of h3⟩, .ref q0, rfl, r, _, _, rfl, rfl, h3, ?_, ?_⟩
            · rw [List.length_map, hlen]
              exact Nat.lt_of_le_of_lt (Nat.le_trans (Nat.le_trans h6 h5) hx) (by decide)
            · refine ⟨.int b, rfl, .str x, rfl, .int b, rfl, x, b, rfl, hx, hb.2, ?_⟩
              have keep : ∀ q o, H q = none → q ≠ r → H' q = some o → (upd H' r (.lst (qs.map V.ref ++ [V.ref q0]))) q = some o := fun q o _ hne h => by
                rw [upd_ne hne]
                exact h
              have z := ParInv.mk0 (x := x) (H0 := H) (H := upd H' r (.lst (qs.map V.ref ++ [V.ref q0]))) (fst := some f) (rs := rs ++ [rows]) (r := r) (qs := qs ++ [q0]) (a := b) (s5 := some (.int ((f + rs.length : Nat) : Int))) (s6 := some (.ref q0)) (s7 := some (.int (b : Nat)))
                (h1.mutN h2) h2 (by rw [upd_same, List.map_append]; rfl) ((h4.keep keep).snoc hq0 hqr (keep _ _ hq0 hqr eq)) hb.2 (by rw [List.length_append]; show rs.length + 1 ≤ b; omega) (hJ.step ha e0)
              refine ⟨fun e H5 s5 => ⟨z.1 e H5 s5, ?_⟩, fun n' rows' b' e p' q' H5 s5 hp' hq' eq' ep' => ⟨z.2 n' rows' b' e p' q' H5 s5 hp' hq' eq' ep', ?_⟩⟩
              · show x.length + 1 - b < x.length + 1 - a
                omega
              · show x.length + 1 - b < x.length + 1 - a
                omega
    · obtain ⟨v, h1, h2, k, h3, h4⟩ := h
      exact ⟨v, h1, h2, k, h3, hq _ _ h4⟩
end
end Lr
namespace Lr
open PySem PySem.Spec PyProof.Rows L2 Lf
section
variable {X : Cx} {k : Nat} {x : Str} {ps : List Str} {sp : Sp} {p pos : Pos}
theorem pe_own0 (C : Callee X.prog X.w X.K X.mg X.base k x ps sp) (hr : Room k X.A) (hg : Gl X x)
    (hdb : (x == ("__debug__" : Str)) = false := by decide) : PE X (.Call (.Name x p) [] [] pos) (tCall sp [] E0 tNil) := by
  obtain ⟨f, fd, F, hm, hk, hb⟩ := C
  exact pe_call0 F hr hg hm hk hb .nil pass0 hdb
end
/-- the feed: two ints -/
def FeedAt (H : Hp) (a : Addr) : Prop := ∃ u v : Int, H a = some (.lst [.int u, .int v]) ∧ 0 ≤ u ∧ 0 ≤ v ∧ v < 2305843009213693951
theorem FeedAt.keep {a b : Addr} {H H' : Hp} (h : FeedAt H a) (k : Kp b H H') (n : a ≠ b) : FeedAt H' a := by
  obtain ⟨u, v, e, r⟩ := h
  exact ⟨u, v, k _ _ n e, r⟩
theorem FeedAt.same {a : Addr} {H H' : Hp} (h : FeedAt H a) (k : Same H H') : FeedAt H' a := by
  obtain ⟨u, v, e, r⟩ := h
  exact ⟨u, v, k _ _ e, r⟩
theorem FeedAt.new {a p : Addr} {H : Hp} {o : HO} (h : FeedAt H a) (n : H p = none) : FeedAt (upd H p o) a := h.same (same_new n)
theorem FeedAt.ne {a p : Addr} {H : Hp} (h : FeedAt H a) (n : H p = none) : p ≠ a := fun e => by
  obtain ⟨u, v, h, _⟩ := h
  rw [e, h] at n
  cases n
theorem FeedAt.mut {a p : Addr} {H : Hp} {o : HO} (h : FeedAt H a) (n : p ≠ a) : FeedAt (upd H p o) a := by
  obtain ⟨u, v, e, r⟩ := h
  exact ⟨u, v, by rw [upd_ne n.symm]; exact e, r⟩
section
variable {P : Program} {w : World} {K : PySem.W.Frag} {mg : Str → Option Value} {base : Heap}
def spTake : Sp := fun vs H Q _ => ∃ (a : Addr) (n : Int), vs = [.ref a, .int n] ∧ FeedAt H a ∧ 0 < n ∧ n ≤ 10 ^ 60 ∧
  ∀ (v : Int) (H' : Hp), Kp a H H' → FeedAt H' a → 0 ≤ v → v < n → Q (.int v) H'
abbrev sTake : Stmt := topS 12
theorem scTake : FnScope ["_law_feed_here", "_law_many", "_law_found"] ["_law_feed_here", "_law_many"] (defScope sTake) := ⟨rfl, rfl, rfl, by decide +kernel, rfl, by decide +kernel, by decide +kernel⟩
theorem pow60 : (10 : Int) ^ 60 < 2 ^ 200 := by decide +kernel
theorem ok_take {f : Addr} {fd : FuncData} (F : Fun K "_law_take" "_law_take" sTake f fd) : FnOk P w K mg base CX0 1 f fd ["_law_feed_here", "_law_many"] spTake := by
  refine F.ok scTake (fun vs H Q E h => ?_) (fun cdv A outer s H vs Q E hr h => ?_)
  · obtain ⟨a, n, rfl, _⟩ := h
    rfl
  · obtain ⟨a, n, rfl, ⟨u, v, hT, hu, hv, hv2⟩, hn, hn2, q⟩ := h
    have nd := scTake.nd
    refine ⟨_, (pss_cons (ps_if (pt_cmpR op_gt (pe_ix ix_list (pv 0) pe_int (fun _ _ => rfl)) pe_int (nomark _))
  (pss_cons (ps_set (i := 2) nd rfl (Or.inl rfl) (pe_op op_mod (pe_ix ix_list (pv 0) pe_int (fun _ _ => rfl)) (pv 1)))
  (pss_cons (ps_asg (pe_op op_fdivW (pe_ix ix_list (pv 0) pe_int (fun _ _ => rfl)) (pv 1)) (pg_sub (pv 0) pe_int set_list))
  (pss_one (ps_ret (pv 2)))))
  pss_nil)
  (pss_cons (ps_asg (pe_op op_mod (pe_op op_add (pe_op op_mulW (pe_ix ix_list (pv 0) pe_int (fun _ _ => rfl)) pe_int) pe_int) pe_int) (pg_sub (pv 0) pe_int set_list))
  (pss_one (ps_ret (pe_op op_mod (pe_op op_fdivW (pe_ix ix_list (pv 0) pe_int (fun _ _ => rfl)) pe_int) (pv 1)))))), ?_⟩
    have nW : n.natAbs < 2 ^ 200 := by
      have h := pow60
      omega
    refine ⟨.ref a, rfl, a, _, 0, .int u, rfl, rfl, SqL.of hT, atI_nat (j := 0) rfl, u, 0, rfl, rfl, _, rfl, ite2 (fun c => ?_) (fun c => ?_)⟩
    · have c' : 0 < u := of_decide_eq_true c
      refine ⟨.ref a, rfl, a, _, 0, .int u, rfl, rfl, SqL.of hT, atI_nat (j := 0) rfl, .int n, rfl, u, n, rfl, rfl, hn, ?_⟩
      refine ⟨.ref a, rfl, a, _, 0, .int u, rfl, rfl, SqL.of hT, atI_nat (j := 0) rfl, .int n, rfl, u, n, rfl, rfl, wide_div hn nW (by decide) (by decide), ?_⟩
      refine ⟨.ref a, rfl, a, _, 0, 0, rfl, rfl, hT, rfl, ?_⟩
      refine ⟨_, rfl, ?_⟩
      refine q _ _ (Kp.refl a H).mut ⟨u / n, v, upd_same, Int.ediv_nonneg hu (by omega), hv, hv2⟩ (Int.emod_nonneg _ (by omega)) (Int.emod_lt_of_pos _ hn)
    · have w1 : CMulW v 48271 := wide_mul (a := 64) (b := 32) (by omega) (by decide) (by decide) (by decide) (by decide)
      refine ⟨.ref a, rfl, a, _, 1, .int v, rfl, rfl, SqL.of hT, atI_nat (j := 1) rfl, v, 48271, rfl, rfl, w1, _, 12345, rfl, rfl, _, 2305843009213693951, rfl, rfl, (by show (0 : Int) < 2305843009213693951; decide), ?_⟩
      refine ⟨.ref a, rfl, a, _, 1, 1, rfl, rfl, hT, rfl, ?_⟩
      have r0 : 0 ≤ (v * 48271 + 12345) % 2305843009213693951 := Int.emod_nonneg _ (by decide)
      have r1 : (v * 48271 + 12345) % 2305843009213693951 < 2305843009213693951 := Int.emod_lt_of_pos _ (by decide)
      dsimp only
      generalize (v * 48271 + 12345) % 2305843009213693951 = v1 at r0 r1 ⊢
      have hT1 : (upd H a (.lst ([V.int u, .int v].set 1 (.int v1)))) a = some (.lst [.int u, .int v1]) := upd_same
      refine ⟨.ref a, rfl, a, _, 1, .int v1, rfl, rfl, SqL.of hT1, atI_nat (j := 1) rfl, v1, 2097152, rfl, rfl, wide_div (b := 32) (by decide) (by decide) (by decide) (by decide), .int n, rfl, _, n, rfl, rfl, hn, ?_⟩
      exact q _ _ (Kp.refl a H).mut ⟨u, v1, upd_same, hu, r0, by omega⟩ (Int.emod_nonneg _ (by omega)) (Int.emod_lt_of_pos _ hn)
/-- a new feed of the script -/
def spFeed (K : PySem.W.Frag) : Sp := fun vs H Q _ => ∃ (a : Addr) (ns : List Int) (k : Int), vs = [.ref a, .int k] ∧ SqL K H a (ns.map V.int) ∧ 0 ≤ k ∧ k ≤ 100 ∧
  ∀ (p : Addr) (H' : Hp), Same H H' → H p = none → FeedAt H' p → Q (.ref p) H'
abbrev sFeed : Stmt := topS 11
theorem scFeed : FnScope ["_law_script", "_law_k", "_law_seed", "_law_digits"] ["_law_script", "_law_k"] (defScope sFeed) := ⟨rfl, rfl, rfl, by decide +kernel, rfl, by decide +kernel, by decide +kernel⟩
theorem ok_feed {f : Addr} {fd : FuncData} (F : Fun K "_law_feed" "_law_feed" sFeed f fd) (T : Bs mg) : FnOk P w K mg base CX0 1 f fd ["_law_script", "_law_k"] (spFeed K) := by
  refine F.ok scFeed (fun vs H Q E h => ?_) (fun cdv A outer s H vs Q E hr h => ?_)
  · obtain ⟨a, ns, n, rfl, _⟩ := h
    rfl
  · obtain ⟨a, ns, k, rfl, hS, hk0, hk1, q⟩ := h
    have nd := scFeed.nd
    refine ⟨_, (pss_cons (ps_set (i := 2) nd rfl (Or.inl rfl) (pe_op op_add (pe_op op_mulW pe_int (pv 1)) pe_int))
  (Evl.pss_cut (ps_if (pt_cmpR op_lt (pv 1) (pe_callB call_len_seq (by rfl) T.len PySem.boot_len (pa_cons (pv 0) pa_nil)) (nomark _))
  (pss_one (ps_set (i := 2) nd rfl (Or.inl rfl) (pe_ix ix_list (pv 0) (pv 1) (fun _ _ => rfl))))
  pss_nil)
  (pss_cons (ps_set (i := 3) nd rfl (Or.inl rfl) pe_int)
  (Evl.pss_cut (ps_if (pt_cmpR op_ge (pe_callB call_abs (by rfl) T.abs (by decide +kernel) (pa_cons (pv 2) pa_nil)) (pe_op op_pow pe_int pe_int) (nomark _))
  (pss_one (ps_set (i := 3) nd rfl (Or.inl rfl) (pe_op op_sub (pe_callB call_abs (by rfl) T.abs (by decide +kernel) (pa_cons (pv 2) pa_nil)) (pe_op op_pow pe_int pe_int))))
  pss_nil)
  (pss_one (ps_ret (pe_lst (pa_cons (pv 3) (pa_cons (pe_op op_mod (pe_op op_add (pe_op op_add (pe_op op_mul (pv 2) pe_int) (pe_op op_mulW pe_int (pv 1))) pe_int) pe_int) pa_nil))))))))), ?_⟩
    have w0 : CMulW 67 k := wide_mul (a := 32) (b := 32) (by decide) (by omega) (by decide) (by decide) (by decide)
    have w1 : CMulW 7919 k := wide_mul (a := 32) (b := 32) (by decide) (by omega) (by decide) (by decide) (by decide)
    have cp : CPow 10 18 := ⟨by decide, by decide, by decide⟩
    refine ⟨.int k, rfl, 67, k, rfl, rfl, w0, _, 19, rfl, rfl, ?_⟩
    refine ⟨fun σ' H' => H' = H ∧ ∃ sd : Int, σ' = [some (.ref a), some (.int k), some (.int sd), none], ?_, fun σ' H' hm => ?_⟩
    · refine ⟨.int k, rfl, .ref a, rfl, a, _, rfl, .inl hS, k, _, rfl, rfl, _, rfl, ite2 (fun c => ?_) (fun c => ?_)⟩
      · have c' : k < ((ns.map V.int).length : Nat) := of_decide_eq_true c
        obtain ⟨x, hx, e⟩ := atI_mem hk0 c'
        obtain ⟨z, _, rfl⟩ := List.mem_map.mp hx
        exact ⟨.ref a, rfl, .int k, rfl, a, _, k, _, rfl, rfl, hS, e, rfl, z, rfl⟩
      · exact ⟨rfl, _, rfl⟩
    · obtain ⟨rfl, sd, rfl⟩ := hm
      refine ⟨fun σ' H2 => H2 = H' ∧ ∃ d : Int, 0 ≤ d ∧ σ' = [some (.ref a), some (.int k), some (.int sd), some (.int d)], ?_, fun σ' H2 hm => ?_⟩
      · refine ⟨.int sd, rfl, sd, rfl, 10, 18, rfl, rfl, cp, _, _, rfl, rfl, _, rfl, ite2 (fun c => ?_) (fun c => ?_)⟩
        · have c' : (10 : Int) ^ (18 : Int).toNat ≤ (if sd < 0 then -sd else sd) := of_decide_eq_true c
          exact ⟨.int sd, rfl, sd, rfl, 10, 18, rfl, rfl, cp, _, _, rfl, rfl, rfl, _, Int.sub_nonneg_of_le c', rfl⟩
        · exact ⟨rfl, 0, by decide, rfl⟩
      · obtain ⟨rfl, d, hd, rfl⟩ := hm
        refine ⟨.int d, rfl, .int sd, rfl, sd, 6364136223846793005, rfl, rfl, .inr ⟨by decide, by decide⟩, .int k, rfl, 7919, k, rfl, rfl, w1, _, _, rfl, rfl, _, 1442695040888963407, rfl, rfl, _, 2305843009213693951, rfl, rfl, (by show (0 : Int) < 2305843009213693951; decide), (by show 2 ≤ sizeLine; decide), fun p hp => ?_⟩
        exact q p _ (same_new hp) hp ⟨_, _, upd_same, hd, Int.emod_nonneg _ (by decide), Int.emod_lt_of_pos _ (by decide)⟩
/-- one of a list -/
def spPick (K : PySem.W.Frag) : Sp := fun vs H Q _ => ∃ (a l : Addr) (xs : List V), vs = [.ref a, .ref l] ∧ FeedAt H a ∧ l ≠ a ∧ SqL K H l xs ∧ 0 < xs.length ∧ xs.length ≤ 1000 ∧
  ∀ (i : Nat) (v : V) (H' : Hp), xs[i]? = some v → Kp a H H' → FeedAt H' a → Q v H'
abbrev sPick : Stmt := topS 13
theorem scPick : FnScope ["_law_feed_here", "_law_some"] ["_law_feed_here", "_law_some"] (defScope sPick) := ⟨rfl, rfl, rfl, by decide +kernel, rfl, by decide +kernel, by decide +kernel⟩
theorem ok_pick {f : Addr} {fd : FuncData} (F : Fun K "_law_pick" "_law_pick" sPick f fd) (T : Bs mg) (c__law_take : Callee P w K mg base 1 "_law_take" ["_law_feed_here", "_law_many"] spTake) : FnOk P w K mg base CX0 2 f fd ["_law_feed_here", "_law_some"] (spPick K) := by
  refine F.ok scPick (fun vs H Q E h => ?_) (fun cdv A outer s H vs Q E hr h => ?_)
  · obtain ⟨a, l, xs, rfl, _⟩ := h
    rfl
  · obtain ⟨a, l, xs, rfl, hF, hla, hl, hp0, hp1, q⟩ := h
    have nd := scPick.nd
    refine ⟨_, (pss_one (ps_ret (pe_ix ix_list (pv 1) (pe_own c__law_take (hr.mono (by decide)) (by rfl) (pa_cons (pv 0) (pa_cons (pe_callB call_len_seq (by rfl) T.len PySem.boot_len (pa_cons (pv 1) pa_nil)) pa_nil))) (fun _ _ => rfl)))), ?_⟩
    refine ⟨.ref l, rfl, .ref a, rfl, .ref l, rfl, l, xs, rfl, .inl hl, a, _, rfl, hF, by omega, Int.le_trans (b := 1000) (by omega) (by decide +kernel), fun v H1 k1 f1 v0 v1 => ?_⟩
    obtain ⟨i, rfl⟩ := Int.eq_ofNat_of_zero_le v0
    have hi : i < xs.length := by omega
    exact ⟨l, xs, i, xs[i], rfl, rfl, k1.seqL hla hl, atI_nat (List.getElem?_eq_getElem hi), q i _ H1 (List.getElem?_eq_getElem hi) k1 f1⟩
def spSigns : Sp := fun vs H Q _ => vs = [] ∧ ∀ z : Str, 0 < z.length → z.length ≤ 100 → (∀ c ∈ tl z, signOk c) → Q (.str z) H
abbrev sSigns : Stmt := topS 15
theorem scSigns : FnScope [] [] (defScope sSigns) := ⟨rfl, rfl, rfl, by decide +kernel, rfl, by decide +kernel, by decide +kernel⟩
theorem ok_signs {f : Addr} {fd : FuncData} (F : Fun K "_law_signs" "_law_signs" sSigns f fd) : FnOk P w K mg base CX0 1 f fd [] spSigns := by
  refine F.ok scSigns (fun vs H Q E h => ?_) (fun cdv A outer s H vs Q E hr h => ?_)
  · obtain ⟨rfl, _⟩ := h
    rfl
  · obtain ⟨rfl, q⟩ := h
    have nd := scSigns.nd
    refine ⟨_, (pss_one (ps_ret pe_str)), ?_⟩
    exact q _ (by decide +kernel) (by decide +kernel) (by decide +kernel)
def spWhole : Sp := fun vs H Q _ => ∃ i : Int, vs = [.int i] ∧ Q (.bl true) H
abbrev sWhole : Stmt := topS 14
theorem scWhole : FnScope ["_law_found"] ["_law_found"] (defScope sWhole) := ⟨rfl, rfl, rfl, by decide +kernel, rfl, by decide +kernel, by decide +kernel⟩
theorem ok_whole {f : Addr} {fd : FuncData} (F : Fun K "_law_whole" "_law_whole" sWhole f fd) (T : Bs mg) : FnOk P w K mg base CX0 1 f fd ["_law_found"] spWhole := by
  refine F.ok scWhole (fun vs H Q E h => ?_) (fun cdv A outer s H vs Q E hr h => ?_)
  · obtain ⟨x, rfl, _⟩ := h
    rfl
  · obtain ⟨i, rfl, q⟩ := h
    have nd := scWhole.nd
    refine ⟨_, (pss_one (ps_ret (pe_and (pe_callB call_isi (by rfl) T.isinstance (by decide +kernel) (pa_cons (pv 0) (pa_cons (pe_bltn (v := V.ty "int") (u := Value.type "int") (by rfl) T.int (by decide +kernel) rfl) pa_nil))) (pe_one (pe_not (pe_callB call_isi (by rfl) T.isinstance (by decide +kernel) (pa_cons (pv 0) (pa_cons (pe_bltn (v := V.ty "bool") (u := Value.type "bool") (by rfl) T.bool (by decide +kernel) rfl) pa_nil)))))))), ?_⟩
    refine ⟨_, rfl, _, _, _, _, true, rfl, .ty "int", .base (.int i), kit_ty (by decide +kernel), _, rfl, iteT ⟨_, rfl, _, _, _, _, false, rfl, .ty "bool", .base (.int i), kit_ty (by decide +kernel), _, rfl, q⟩⟩

theorem zea : ("=a" : Str) = S [61, 97] := by decide +kernel
theorem num_ok (n d : Nat) (h : d ∈ numL n) : signOk d := by
  have z := TL.numL_digits n d h
  unfold signOk
  omega
theorem sum1 : ∀ cs : List Nat, (cs.map fun _ => 1).sum = cs.length
  | [] => rfl
  | c :: r => by
    rw [List.map_cons, List.sum_cons, sum1 r, List.length_cons]
    omega
theorem joinL_one : ∀ cs : List Nat, joinL [] (cs.map fun c => [c]) = cs
  | [] => rfl
  | [c] => rfl
  | c :: d :: r => by
    show [c] ++ ([] ++ joinL [] ((d :: r).map fun c => [c])) = c :: d :: r
    rw [joinL_one (d :: r)]
    rfl
/-- a drawn row -/
def Drawn (r : List Nat) : Prop := rowOk r ∧ r.length ≤ 40
def spRowD : Sp := fun vs H Q _ => ∃ (a : Addr), vs = [.ref a] ∧ FeedAt H a ∧
  ∀ (r : List Nat) (H' : Hp), Drawn r → Kp a H H' → FeedAt H' a → Q (.str (S r)) H'
abbrev sRowD : Stmt := topS 16
theorem scRowD : FnScope ["_law_feed_here", "_law_signs_here", "_law_way", "_law_many", "_law_k"] ["_law_feed_here"] (defScope sRowD) := ⟨rfl, rfl, rfl, by decide +kernel, rfl, by decide +kernel, by decide +kernel⟩
theorem ok_rowd {f : Addr} {fd : FuncData} (F : Fun K "_law_row" "_law_row" sRowD f fd) (T : Bs mg) (c__law_take : Callee P w K mg base 1 "_law_take" ["_law_feed_here", "_law_many"] spTake)
    (c__law_pick : Callee P w K mg base 2 "_law_pick" ["_law_feed_here", "_law_some"] (spPick K)) (c__law_signs : Callee P w K mg base 1 "_law_signs" [] spSigns) : FnOk P w K mg base CX0 3 f fd ["_law_feed_here"] spRowD := by
  refine F.ok scRowD (fun vs H Q E h => ?_) (fun cdv A outer s H vs Q E hr h => ?_)
  · obtain ⟨a, rfl, _⟩ := h
    rfl
  · obtain ⟨a, rfl, hF, q⟩ := h
    have nd := scRowD.nd
    refine ⟨_, (pss_cons (ps_set (i := 1) nd rfl (Or.inr rfl) (pe_own0 c__law_signs (hr.mono (by decide)) (by rfl)))
  (pss_cons (ps_set (i := 2) nd rfl (Or.inl rfl) (pe_own c__law_take (hr.mono (by decide)) (by rfl) (pa_cons (pv 0) (pa_cons pe_int pa_nil))))
  (pss_cons (ps_if (pt_cmpR op_eq (pv 2) pe_int (nomark _))
  (pss_one (ps_ret (pe_op op_add_str (pe_op op_add_str (pe_op op_add_str (pe_op op_add_str (pe_op op_add_str (pe_callTy call_str_int (by rfl) T.str (by decide +kernel) (pa_cons (pe_own c__law_take (hr.mono (by decide)) (by rfl) (pa_cons (pv 0) (pa_cons pe_int pa_nil))) pa_nil)) pe_str) (pe_callTy call_str_int (by rfl) T.str (by decide +kernel) (pa_cons (pe_own c__law_take (hr.mono (by decide)) (by rfl) (pa_cons (pv 0) (pa_cons pe_int pa_nil))) pa_nil))) pe_str) (pe_callTy call_str_int (by rfl) T.str (by decide +kernel) (pa_cons (pe_own c__law_take (hr.mono (by decide)) (by rfl) (pa_cons (pv 0) (pa_cons pe_int pa_nil))) pa_nil))) pe_str)))
  pss_nil)
  (Evl.pss_cut (ps_if (pt_cmpR op_eq (pv 2) pe_int (nomark _))
  (pss_one (ps_set (i := 1) nd rfl (Or.inr rfl) pe_str))
  pss_nil)
  (pss_cons (ps_set (i := 3) nd rfl (Or.inl rfl) (pe_op op_add pe_int (pe_own c__law_take (hr.mono (by decide)) (by rfl) (pa_cons (pv 0) (pa_cons (pe_own c__law_pick (hr.mono (by decide)) (by rfl) (pa_cons (pv 0) (pa_cons (pe_lst (pa_cons pe_int (pa_cons pe_int (pa_cons pe_int (pa_cons pe_int pa_nil))))) pa_nil))) pa_nil)))))
  (pss_one (ps_ret (pe_join pe_str (pe_lc (own := [("_law_k", 4)]) (g := gName 4) (tt := tYes) rfl nd (pi_range1 (by rfl) T.range (pa_cons (pv 3) pa_nil)) (blkOk_by (own := [("_law_k", 4)]) (N := ["_law_feed_here", "_law_signs_here", "_law_way", "_law_many", "_law_k"]) (sc := defScope (topS 16)) (by decide +kernel)) (fun _ _ _ _ _ => (pg_name (i := 4) nd rfl (Or.inl rfl))) (fun _ _ _ _ _ => pts_nil) (fun _ _ _ _ _ => (pe_ix ix_str (pv 1) (pe_own c__law_take (hr.mono (by decide)) (by rfl) (pa_cons (pv 0) (pa_cons (pe_callB call_len_str (by rfl) T.len PySem.boot_len (pa_cons (pv 1) pa_nil)) pa_nil))) (fun _ _ => rfl)))))))))))), ?_⟩
    have big : ∀ n : Int, n ≤ 2000000 → n ≤ 10 ^ 60 := fun n hn => Int.le_trans hn (by decide +kernel)
    have ez : sizeLine = 16777216 := by decide +kernel
    refine ⟨rfl, fun z hz0 hz1 hz2 => ?_⟩
    refine ⟨.ref a, rfl, a, 5, rfl, hF, by decide, big _ (by decide), fun way H1 k1 f1 y0 y1 => ?_⟩
    refine ⟨.int way, rfl, rfl, _, rfl, ite2 (fun c => ?_) (fun c => ?_)⟩
    · refine ⟨.ref a, rfl, a, 12, rfl, f1, by decide, big _ (by decide), fun v1 H2 k2 f2 v10 v11 => ?_⟩
      obtain ⟨n1, rfl⟩ := Int.eq_ofNat_of_zero_le v10
      have l1 : (numL n1).length ≤ 2 := TL.numL_len (by decide) (by omega)
      refine ⟨(n1 : Int), rfl, log2_num (Nat.lt_of_lt_of_le (m := 12) (by omega) (by decide)), S (numL n1), S [32], by rw [S_num], by rw [zb]; rfl, ?_, ?_⟩
      · rw [S_len, S_len]
        exact Nat.le_trans (Nat.add_le_add_right l1 1) (by decide)
      refine ⟨.ref a, rfl, a, 9, rfl, f2, by decide, big _ (by decide), fun v2 H3 k3 f3 v20 v21 => ?_⟩
      obtain ⟨n2, rfl⟩ := Int.eq_ofNat_of_zero_le v20
      have l2 : (numL n2).length ≤ 1 := TL.numL_len (by decide) (by omega)
      refine ⟨(n2 : Int), rfl, log2_num (Nat.lt_of_lt_of_le (m := 9) (by omega) (by decide)), S (numL n1 ++ [32]), S (numL n2), by rw [S_append], by rw [S_num], ?_, S (numL n1 ++ [32] ++ numL n2), S [58], by rw [S_append], by rw [zc], ?_, ?_⟩
      · rw [S_len, S_len]
        simp only [List.length_append, List.length_cons, List.length_nil]
        omega
      · rw [S_len, S_len]
        simp only [List.length_append, List.length_cons, List.length_nil]
        omega
      refine ⟨.ref a, rfl, a, 1000003, rfl, f3, by decide, big _ (by decide), fun v3 H4 k4 f4 v30 v31 => ?_⟩
      obtain ⟨n3, rfl⟩ := Int.eq_ofNat_of_zero_le v30
      have l3 : (numL n3).length ≤ 7 := TL.numL_len (by decide) (by omega)
      refine ⟨(n3 : Int), rfl, log2_num (Nat.lt_of_lt_of_le (m := 1000003) (by omega) (by decide)), S (numL n1 ++ [32] ++ numL n2 ++ [58]), S (numL n3), by rw [S_append], by rw [S_num], ?_, S (numL n1 ++ [32] ++ numL n2 ++ [58] ++ numL n3), S [61, 97], by rw [S_append], by rw [zea], ?_, ?_⟩
      · rw [S_len, S_len]
        simp only [List.length_append, List.length_cons, List.length_nil]
        omega
      · rw [S_len, S_len]
        simp only [List.length_append, List.length_cons, List.length_nil]
        omega
      rw [S_append]
      refine q _ H4 ⟨⟨?_, ?_⟩, ?_⟩ (((k1.trans k2).trans k3).trans k4) f4
      · intro z
        have := congrArg List.length z
        simp at this
      · intro d hd
        simp only [List.mem_append, List.mem_cons, List.not_mem_nil, or_false] at hd
        rcases hd with ((((hd | hd) | hd) | hd) | hd) | hd | hd
        · exact num_ok n1 d hd
        · rw [hd]; decide
        · exact num_ok n2 d hd
        · rw [hd]; decide
        · exact num_ok n3 d hd
        · rw [hd]; decide
        · rw [hd]; decide
      · simp only [List.length_append, List.length_cons, List.length_nil]
        omega
    · refine ⟨fun σ' H' => H' = H1 ∧ ∃ z : Str, 0 < z.length ∧ z.length ≤ 100 ∧ (∀ c ∈ tl z, signOk c) ∧ σ' = [some (.ref a), some (.str z), some (.int way), none, none], ?_, fun σ' H' hm => ?_⟩
      · refine ⟨.int way, rfl, rfl, _, rfl, ite2 (fun c => ?_) (fun c => ?_)⟩
        · exact ⟨rfl, _, (by decide +kernel), (by decide +kernel), (by decide +kernel), rfl⟩
        · exact ⟨rfl, z, hz0, hz1, hz2, rfl⟩
      · obtain ⟨rfl, z, hz0, hz1, hz2, rfl⟩ := hm
        refine ⟨.ref a, rfl, .ref a, rfl, (by show 4 ≤ sizeLine; decide), fun l hl => ⟨a, l, _, rfl, f1.new hl, f1.ne hl, SqL.of upd_same, (by show 0 < 4; decide), (by show 4 ≤ 1000; decide), fun i v H2 hv k2 f2 => ?_⟩⟩
        obtain ⟨m, rfl, hm0, hm1⟩ : ∃ m : Nat, v = .int (m : Int) ∧ 0 < m ∧ m ≤ 40 := by
          rcases i with _ | _ | _ | _ | i
          · exact ⟨1, (Option.some.inj hv).symm, by decide, by decide⟩
          · exact ⟨2, (Option.some.inj hv).symm, by decide, by decide⟩
          · exact ⟨6, (Option.some.inj hv).symm, by decide, by decide⟩
          · exact ⟨40, (Option.some.inj hv).symm, by decide, by decide⟩
          · cases hv
        refine ⟨a, (m : Int), rfl, f2, by omega, big _ (by omega), fun v3 H3 k3 f3 v0 v1 => ?_⟩
        obtain ⟨n, rfl⟩ := Int.eq_ofNat_of_zero_le v0
        refine ⟨1, _, rfl, rfl, ?_⟩
        have k03 : Kp a H H3 := ((k1.new hl).trans k2).trans k3
        have en : (1 : Int) + (n : Int) = ((1 + n : Nat) : Int) := by omega
        dsimp only
        rw [en]
        refine ⟨⟨_, rfl⟩, .int ((1 + n : Nat) : Int), rfl, ((1 + n : Nat) : Int), rfl, by omega, by omega, fun D hD => ?_⟩
        refine lc_range (lo := 0) (n := 1 + n) (fun i H' => Kp a H3 H' ∧ FeedAt H' a ∧ ∃ cs : List Nat, cs.length = i ∧ (∀ c ∈ cs, signOk c) ∧ H' D = some (.lst (cs.map fun c => V.str (S [c])))) ⟨(Kp.refl a H3).new hD, f3.new hD, [], rfl, by simp, upd_same⟩ (fun i H4 hi p => ?_) (fun H4 p => ?_)
        · obtain ⟨k4, f4, cs, hl4, hok, e4⟩ := p
          have hz : z.length ≤ sizeLine := Nat.le_trans hz1 (by decide)
          refine ⟨rfl, .str z, rfl, .ref a, rfl, .str z, rfl, z, rfl, hz, a, _, rfl, f4, by omega, big _ (by omega), fun v5 H5 k5 f5 v50 v51 => ?_⟩
          obtain ⟨j, rfl⟩ := Int.eq_ofNat_of_zero_le v50
          have hj : j < (tl z).length := by rw [← len_tl]; omega
          refine ⟨z, (j : Int), (tl z)[j], rfl, rfl, hz, atI_nat (List.getElem?_eq_getElem hj), ?_⟩
          have hDa := f3.ne hD
          refine ⟨_, k5 _ _ hDa e4, ?_, (k4.trans k5).mutN hD, f5.mut hDa, cs ++ [(tl z)[j]], by rw [List.length_append, hl4]; rfl, ?_, ?_⟩
          · rw [List.length_map, hl4]
            exact Nat.lt_of_lt_of_le (m := 100) (by omega) (by decide)
          · intro c hc
            rcases List.mem_append.mp hc with hc | hc
            · exact hok c hc
            · rw [List.mem_singleton.mp hc]
              exact hz2 _ (List.getElem_mem hj)
          · rw [upd_same, List.map_append]
            rfl
        · obtain ⟨k4, f4, cs, hl4, hok, e4⟩ := p
          refine ⟨_, D, cs.map fun c => S [c], rfl, rfl, .inl (SqL.of (by rw [e4, List.map_map]; rfl)), ?_, ?_⟩
          · rw [List.map_map, List.length_map]
            show (cs.map fun c => 1).sum + cs.length * 0 ≤ 16777216
            rw [Nat.mul_zero, Nat.add_zero, sum1, hl4]
            omega
          · have ej : Txt.join "" (cs.map fun c => S [c]) = S cs := by
              have h := S_join [] (cs.map fun c => [c])
              rw [List.map_map] at h
              rw [joinL_one] at h
              exact h
            rw [ej]
            exact q cs H4 ⟨⟨fun z => by rw [z] at hl4; simp at hl4; omega, hok⟩, by omega⟩ (k03.trans k4) f4
def spRowsD : Sp := fun vs H Q _ => ∃ (a : Addr), vs = [.ref a] ∧ FeedAt H a ∧
  ∀ (p : Addr) (rows : List (List Nat)) (H' : Hp), rows ≠ [] → rows.length ≤ 5 → (∀ r ∈ rows, Drawn r) → Kp a H H' → FeedAt H' a → H p = none → H' p = some (.lst (rowV rows)) → Q (.ref p) H'
abbrev sRowsD : Stmt := topS 17
theorem scRowsD : FnScope ["_law_feed_here", "_law_turn"] ["_law_feed_here"] (defScope sRowsD) := ⟨rfl, rfl, rfl, by decide +kernel, rfl, by decide +kernel, by decide +kernel⟩
theorem ok_rowsd {f : Addr} {fd : FuncData} (F : Fun K "_law_rows_drawn" "_law_rows_drawn" sRowsD f fd) (T : Bs mg) (c__law_take : Callee P w K mg base 1 "_law_take" ["_law_feed_here", "_law_many"] spTake)
    (c__law_pick : Callee P w K mg base 2 "_law_pick" ["_law_feed_here", "_law_some"] (spPick K)) (c__law_row : Callee P w K mg base 3 "_law_row" ["_law_feed_here"] spRowD) : FnOk P w K mg base CX0 4 f fd ["_law_feed_here"] spRowsD := by
  refine F.ok scRowsD (fun vs H Q E h => ?_) (fun cdv A outer s H vs Q E hr h => ?_)
  · obtain ⟨a, rfl, _⟩ := h
    rfl
  · obtain ⟨a, rfl, hF, q⟩ := h
    have nd := scRowsD.nd
    refine ⟨_, (pss_one (ps_ret (pe_lc (own := [("_law_turn", 1)]) (g := gName 1) (tt := tYes) rfl nd (pi_range1 (by rfl) T.range (pa_cons (pe_op op_add pe_int (pe_own c__law_take (hr.mono (by decide)) (by rfl) (pa_cons (pv 0) (pa_cons (pe_own c__law_pick (hr.mono (by decide)) (by rfl) (pa_cons (pv 0) (pa_cons (pe_lst (pa_cons pe_int (pa_cons pe_int (pa_cons pe_int pa_nil)))) pa_nil))) pa_nil)))) pa_nil)) (blkOk_by (own := [("_law_turn", 1)]) (N := ["_law_feed_here", "_law_turn"]) (sc := defScope (topS 17)) (by decide +kernel)) (fun _ _ _ _ _ => (pg_name (i := 1) nd rfl (Or.inl rfl))) (fun _ _ _ _ _ => pts_nil) (fun _ _ _ _ _ => (pe_own c__law_row (hr.mono (by decide)) (by rfl) (pa_cons (pv 0) pa_nil)))))), ?_⟩
    have big : ∀ n : Int, n ≤ 2000000 → n ≤ 10 ^ 60 := fun n hn => Int.le_trans hn (by decide +kernel)
    refine ⟨.ref a, rfl, .ref a, rfl, (by show 3 ≤ sizeLine; decide), fun l hl => ⟨a, l, _, rfl, hF.new hl, hF.ne hl, SqL.of upd_same, (by show 0 < 3; decide), (by show 3 ≤ 1000; decide), fun i v H1 hv k1 f1 => ?_⟩⟩
    obtain ⟨m, rfl, hm0, hm1⟩ : ∃ m : Nat, v = .int (m : Int) ∧ 0 < m ∧ m ≤ 5 := by
      rcases i with _ | _ | _ | i
      · exact ⟨1, (Option.some.inj hv).symm, by decide, by decide⟩
      · exact ⟨2, (Option.some.inj hv).symm, by decide, by decide⟩
      · exact ⟨5, (Option.some.inj hv).symm, by decide, by decide⟩
      · cases hv
    refine ⟨a, (m : Int), rfl, f1, by omega, big _ (by omega), fun v3 H3 k3 f3 v0 v1 => ?_⟩
    obtain ⟨n, rfl⟩ := Int.eq_ofNat_of_zero_le v0
    have k03 : Kp a H H3 := (((Kp.refl a H).new hl).trans k1).trans k3
    refine ⟨1, _, rfl, rfl, ?_⟩
    have en : (1 : Int) + (n : Int) = ((1 + n : Nat) : Int) := by omega
    dsimp only
    rw [en]
    refine ⟨((1 + n : Nat) : Int), rfl, by omega, by omega, fun D hD => ?_⟩
    have hDa := f3.ne hD
    refine lc_range (lo := 0) (n := 1 + n) (fun i H' => Kp a H3 H' ∧ FeedAt H' a ∧ ∃ rows : List (List Nat), rows.length = i ∧ (∀ r ∈ rows, Drawn r) ∧ H' D = some (.lst (rowV rows))) ⟨(Kp.refl a H3).new hD, f3.new hD, [], rfl, by simp, upd_same⟩ (fun i H4 hi p => ?_) (fun H4 p => ?_)
    · obtain ⟨k4, f4, rows, hl4, hok, e4⟩ := p
      refine ⟨rfl, .ref a, rfl, a, rfl, f4, fun r H5 hr5 k5 f5 => ?_⟩
      refine ⟨_, k5 _ _ hDa e4, ?_, (k4.trans k5).mutN hD, f5.mut hDa, rows ++ [r], by rw [List.length_append, hl4]; rfl, ?_, ?_⟩
      · rw [rowV, List.length_map, hl4]
        exact Nat.lt_of_lt_of_le (m := 100) (by omega) (by decide)
      · intro c hc
        rcases List.mem_append.mp hc with hc | hc
        · exact hok c hc
        · rw [List.mem_singleton.mp hc]
          exact hr5
      · rw [upd_same, rowV, rowV, List.map_append]
        rfl
    · obtain ⟨k4, f4, rows, hl4, hok, e4⟩ := p
      exact q D rows H4 (fun z => by rw [z] at hl4; simp at hl4; omega) (by omega) hok (k03.trans k4) f4 (k03.fresh hD hDa) e4

end
end Lr
namespace Lr
open PySem PySem.Spec PyProof.Rows L2 Lf
/-! ### data that can be compared -/
def Lay (k : Nat) (d : PyData) : Prop := d.canLay0 = true ∧ d.depth ≤ k
theorem Lay.all {k : Nat} : ∀ {ds : List PyData}, (∀ d ∈ ds, Lay k d) → PyData.canLayAll0 ds = true ∧ PyData.depthAll ds ≤ k
  | [], _ => by
    simp [PyData.canLayAll0, PyData.depthAll]
  | d :: r, h => by
    have h1 := h d (List.mem_cons_self ..)
    have h2 := Lay.all fun z hz => h z (List.mem_cons_of_mem _ hz)
    simp only [PyData.canLayAll0, PyData.depthAll, h1.1, h2.1, Bool.and_self, true_and]
    exact Nat.max_le.mpr ⟨h1.2, h2.2⟩
theorem Lay.lst {k : Nat} {ds : List PyData} (h : ∀ d ∈ ds, Lay k d) : Lay (k + 1) (.list ds) := by
  have z := Lay.all h
  unfold Lay
  simp only [PyData.canLay0, PyData.depth]
  exact ⟨z.1, by omega⟩
theorem Lay.tup {k : Nat} {ds : List PyData} (h : ∀ d ∈ ds, Lay k d) : Lay (k + 1) (.tuple ds) := by
  have z := Lay.all h
  unfold Lay
  simp only [PyData.canLay0, PyData.depth]
  exact ⟨z.1, by omega⟩
theorem Lay.int {k : Nat} (i : Int) : Lay k (.int i) := by
  unfold Lay
  simp [PyData.canLay0, PyData.depth]
theorem Lay.non {k : Nat} : Lay k .none := by
  unfold Lay
  simp [PyData.canLay0, PyData.depth]
theorem Lay.str {k : Nat} {x : Str} (h : SOk x) : Lay k (.str x) := by
  unfold Lay
  refine ⟨?_, by simp [PyData.depth]⟩
  simp only [PyData.canLay0]
  unfold PyData.strOk
  rw [← Array.all_toList, List.all_eq_true]
  exact fun c hc => decide_eq_true (h c hc)
theorem Lay.up {k j : Nat} {d : PyData} (h : Lay k d) (hj : k ≤ j) : Lay j d := ⟨h.1, Nat.le_trans h.2 hj⟩
theorem Lay.shaped {k : Nat} {d : PyData} (h : Lay k d) (hk : k ≤ 64) : SeqAt.shaped d = true := by
  unfold SeqAt.shaped
  rw [Bool.and_eq_true]
  exact ⟨h.1, decide_eq_true (Nat.le_trans h.2 hk)⟩
theorem Lay.eqv {k : Nat} {d : PyData} (h : Lay k d) : PyData.eqv d d = true := SeqAt.eqv_refl d h.1
def rowsD (rows : List (List Nat)) : PyData := .list (rows.map fun r => .str (S r))
def recsD (recs : List (List (List Nat))) : PyData := .list (recs.map rowsD)
theorem sok_row {r : List Nat} (h : rowOk r) : SOk (S r) := fun c hc => by
  have h1 : 32 ≤ c ∧ c ≤ 126 := h.2 c hc
  omega
theorem rowsD_lay {rows : List (List Nat)} (h : ∀ r ∈ rows, rowOk r) : Lay 1 (rowsD rows) := .lst (k := 0) fun d hd => by
  obtain ⟨r, hr, rfl⟩ := List.mem_map.mp hd
  exact .str (sok_row (h r hr))
theorem recsD_lay {recs : List (List (List Nat))} (h : ∀ rows ∈ recs, ∀ r ∈ rows, rowOk r) : Lay 2 (recsD recs) := .lst (k := 1) fun d hd => by
  obtain ⟨r, hr, rfl⟩ := List.mem_map.mp hd
  exact rowsD_lay (h r hr)
section
variable {K : PySem.W.Frag} {H : Hp}
theorem dp_strs : ∀ rows : List (List Nat), DpAll K H (rowV rows) (rows.map fun r => .str (S r))
  | [] => .nil
  | r :: rs => .cons (.str _) (dp_strs rs)
theorem dp_rows {p : Addr} {rows : List (List Nat)} (h : SqL K H p (rowV rows)) : Dp K H (.ref p) (rowsD rows) := .lst h (dp_strs rows)
end
/-! ### a record read back -/
theorem upto_hit {l rest : List Nat} {a c n : Nat} (h : l.drop a = numL n ++ c :: rest) (hn : n < 10 ^ 60) (hc : c < 48 ∨ 57 < c) : upto l a c = (some n, a + (numL n).length + 1) := by
  have hl : (numL n).length ≤ 60 := TL.numL_len (by decide) hn
  have e : (l.drop a).take 61 = numL n ++ c :: rest.take (60 - (numL n).length) := by
    rw [h, List.take_append, List.take_of_length_le (by omega), show 61 - (numL n).length = (60 - (numL n).length) + 1 by omega, List.take_succ_cons]
  unfold upto
  rw [e, ix_at (TL.numL_free hc)]
  have e2 : (l.drop a).take (numL n).length = numL n := by
    rw [h]
    exact List.take_left
  dsimp only
  rw [e2, numIn_num hn]
theorem drop_hit {l x rest : List Nat} {a c : Nat} (h : l.drop a = x ++ c :: rest) : l.drop (a + x.length + 1) = rest := by
  have e : l.drop (a + x.length + 1) = (l.drop a).drop (x.length + 1) := by
    rw [List.drop_drop, Nat.add_assoc]
  rw [e, h, List.drop_append]
  simp
def bodyL (rows : List (List Nat)) : List Nat := joinL [10] rows
theorem row_no10 {r : List Nat} (h : rowOk r) : 10 ∉ r := fun m => by
  have h1 : 32 ≤ 10 ∧ 10 ≤ 126 := h.2 10 m
  omega
theorem recAt_rec {l B : List Nat} {a n : Nat} {rows : List (List Nat)} (hl : l.drop a = recL n rows ++ B) (hn : n < 10 ^ 60) (hne : rows ≠ []) (hr : ∀ r ∈ rows, rowOk r) (hb : (joinL [10] rows).length < 10 ^ 60) :
    recAt l a = some (n, rows, a + (recL n rows).length) := by
  have hk : chkL (headL n (joinL [10] rows).length (joinL [10] rows)) < 10 ^ 60 := Nat.lt_trans (chk_lt _) (by decide)
  have hs : TL.spl [10] 0 [] (joinL [10] rows) = rows := TL.spl_join hne fun p hp => row_no10 (hr p hp)
  unfold recL at hl ⊢
  generalize joinL [10] rows = body at *
  generalize hK : chkL (headL n body.length body) = k at *
  have d0 : l.drop a = numL n ++ 32 :: (numL body.length ++ 58 :: (numL k ++ 61 :: (body ++ 10 :: B))) := by
    rw [hl]
    simp
  have e1 := upto_hit d0 hn (by decide)
  have d1 := drop_hit d0
  have e2 := upto_hit d1 hb (by decide)
  have d2 := drop_hit d1
  have e3 := upto_hit d2 hk (by decide)
  have d3 := drop_hit d2
  rw [recAt_eq e1 e2 e3]
  generalize hb3 : a + (numL n).length + 1 + (numL body.length).length + 1 + (numL k).length + 1 = b3 at *
  have t1 : (l.drop (b3 + body.length)).take 1 = [10] := by
    have e : l.drop (b3 + body.length) = (l.drop b3).drop body.length := by rw [List.drop_drop]
    rw [e, d3, List.drop_left]
    rfl
  have t2 : (l.drop b3).take body.length = body := by
    rw [d3]
    exact List.take_left
  unfold recFin
  dsimp only
  rw [if_pos t1, t2, hs, if_pos ⟨hr, hK.symm⟩]
  simp only [List.length_append, List.length_cons, List.length_nil]
  congr 3
  omega
/-! ### a log read back -/
def logL : Nat → List (List (List Nat)) → List Nat
  | _, [] => []
  | n, r :: rs => recL n r ++ logL (n + 1) rs
def GoodRec (rows : List (List Nat)) : Prop := rows ≠ [] ∧ (∀ r ∈ rows, rowOk r) ∧ (joinL [10] rows).length < 10 ^ 60
theorem upto_nil {l : List Nat} {a c : Nat} (h : l.drop a = []) : upto l a c = (none, a) := by
  unfold upto
  rw [h]
  rfl
theorem recAt_nil {l : List Nat} {a : Nat} (h : l.drop a = []) : recAt l a = none := by
  rw [recAt_eq (upto_nil h) (upto_nil h) (upto_nil h)]
  rfl
theorem runL_hit {l : List Nat} {f n a b : Nat} {rows : List (List Nat)} (h : recAt l a = some (n, rows, b)) : runL l (f + 1) n a = (rows :: (runL l f (n + 1) b).1, (runL l f (n + 1) b).2) := by
  show (match recAt l a with
    | some (n', rows, b) => if n' = n then (rows :: (runL l f (n + 1) b).1, (runL l f (n + 1) b).2) else ([], a)
    | none => ([], a)) = _
  rw [h]
  exact if_pos rfl
theorem runL_miss {l : List Nat} {f n n' a b : Nat} {rows : List (List Nat)} (h : recAt l a = some (n', rows, b)) (hn : n' ≠ n) : runL l (f + 1) n a = ([], a) := by
  show (match recAt l a with
    | some (n', rows, b) => if n' = n then (rows :: (runL l f (n + 1) b).1, (runL l f (n + 1) b).2) else ([], a)
    | none => ([], a)) = _
  rw [h]
  exact if_neg hn
theorem num_ok' (n d : Nat) (h : d ∈ numL n) : Dig d := TL.numL_digits n d h
/-- whole records ahead are told, then it goes on behind them -/
theorem runL_log {l B : List Nat} : ∀ (recs : List (List (List Nat))) (n a fuel : Nat), (∀ r ∈ recs, GoodRec r) → n + recs.length ≤ 10 ^ 60 → l.drop a = logL n recs ++ B →
    runL l (fuel + recs.length) n a = (recs ++ (runL l fuel (n + recs.length) (a + (logL n recs).length)).1, (runL l fuel (n + recs.length) (a + (logL n recs).length)).2)
  | [], n, a, fuel, _, _, _ => rfl
  | r :: rs, n, a, fuel, hg, hn, hd => by
    have g := hg r (List.mem_cons_self ..)
    have hn' : n + (rs.length + 1) ≤ 10 ^ 60 := hn
    have hd' : l.drop a = recL n r ++ (logL (n + 1) rs ++ B) := by
      rw [hd]
      show recL n r ++ logL (n + 1) rs ++ B = _
      rw [List.append_assoc]
    have e := recAt_rec hd' (by omega) g.1 g.2.1 g.2.2
    have d2 : l.drop (a + (recL n r).length) = logL (n + 1) rs ++ B := by
      rw [← List.drop_drop, hd', List.drop_left]
    have ih := runL_log rs (n + 1) (a + (recL n r).length) fuel (fun z hz => hg z (List.mem_cons_of_mem _ hz)) (by omega) d2
    show runL l (fuel + rs.length + 1) n a = _
    rw [runL_hit e, ih]
    have e3 : n + 1 + rs.length = n + (r :: rs).length := by
      rw [List.length_cons]
      omega
    have e4 : a + (recL n r).length + (logL (n + 1) rs).length = a + (logL n (r :: rs)).length := by
      show _ = a + (recL n r ++ logL (n + 1) rs).length
      rw [List.length_append]
      omega
    rw [e3, e4]
    rfl
theorem recL_pos (n : Nat) (r : List (List Nat)) : 0 < (recL n r).length := by
  unfold recL
  simp only [List.length_append, List.length_cons, List.length_nil]
  omega
theorem logL_len : ∀ (recs : List (List (List Nat))) (n : Nat), recs.length ≤ (logL n recs).length
  | [], _ => Nat.zero_le _
  | r :: rs, n => by
    show rs.length + 1 ≤ (recL n r ++ logL (n + 1) rs).length
    rw [List.length_append]
    have h1 := logL_len rs (n + 1)
    have h2 := recL_pos n r
    omega
theorem runL_end {l : List Nat} (fuel n : Nat) {a : Nat} (h : recAt l a = none) : runL l fuel n a = ([], a) := by
  cases fuel with
  | zero => rfl
  | succ f =>
    unfold runL
    rw [h]
theorem parse_log {recs : List (List (List Nat))} {n : Nat} (hne : recs ≠ []) (hg : ∀ r ∈ recs, GoodRec r) (hn : n + recs.length ≤ 10 ^ 60) : parseL (logL n recs) = (some n, recs, (logL n recs).length) := by
  have hd : (logL n recs).drop 0 = logL n recs ++ [] := by simp
  have hl := logL_len recs n
  have e := runL_log recs n 0 ((logL n recs).length + 1 - recs.length) hg hn hd
  rw [show (logL n recs).length + 1 - recs.length + recs.length = (logL n recs).length + 1 by omega, Nat.zero_add] at e
  rw [runL_end (l := logL n recs) (a := (logL n recs).length) _ _ (recAt_nil (List.drop_length ..))] at e
  cases recs with
  | nil => exact absurd rfl hne
  | cons r rs =>
    have g := hg r (List.mem_cons_self ..)
    have hn' : n + (rs.length + 1) ≤ 10 ^ 60 := hn
    have e1 := recAt_rec (l := logL n (r :: rs)) (a := 0) (B := logL (n + 1) rs) rfl (by omega) g.1 g.2.1 g.2.2
    unfold parseL
    rw [e1]
    dsimp only
    rw [e]
    simp
theorem parse_nil : parseL [] = (none, [], 0) := by
  unfold parseL
  rw [recAt_nil rfl]
theorem parse_one {rows : List (List Nat)} {n : Nat} (g : GoodRec rows) (hn : n < 10 ^ 60) : parseL (recL n rows) = (some n, [rows], (recL n rows).length) := by
  have h := parse_log (recs := [rows]) (n := n) (by simp) (fun r hr => by rw [List.mem_singleton.mp hr]; exact g) hn
  have e : logL n [rows] = recL n rows := by
    show recL n rows ++ [] = _
    rw [List.append_nil]
  rw [e] at h
  exact h
theorem logL_snoc : ∀ (recs : List (List (List Nat))) (n : Nat) (r : List (List Nat)), logL n (recs ++ [r]) = logL n recs ++ recL (n + recs.length) r
  | [], n, r => by
    show recL n r ++ [] = [] ++ recL (n + 0) r
    simp
  | x :: xs, n, r => by
    show recL n x ++ logL (n + 1) (xs ++ [r]) = recL n x ++ logL (n + 1) xs ++ recL (n + (xs.length + 1)) r
    rw [logL_snoc xs (n + 1) r, List.append_assoc, show n + 1 + xs.length = n + (xs.length + 1) by omega]
theorem sum_rows : ∀ {rows : List (List Nat)} {k : Nat}, (∀ r ∈ rows, r.length ≤ k) → (rows.map List.length).sum ≤ rows.length * k
  | [], _, _ => Nat.zero_le _
  | r :: rs, k, h => by
    have h1 := h r (List.mem_cons_self ..)
    have h2 := sum_rows fun z hz => h z (List.mem_cons_of_mem _ hz)
    rw [List.map_cons, List.sum_cons, List.length_cons, Nat.succ_mul]
    omega
theorem recL_len {n : Nat} {rows : List (List Nat)} (hn : n < 10 ^ 60) (hb : (joinL [10] rows).length ≤ 100000) : (recL n rows).length ≤ (joinL [10] rows).length + 184 := by
  have h1 : (numL n).length ≤ 60 := TL.numL_len (by decide) hn
  have h2 : (numL (joinL [10] rows).length).length ≤ 60 := TL.numL_len (by decide) (Nat.lt_of_le_of_lt hb (by decide))
  have h3 : (numL (chkL (headL n (joinL [10] rows).length (joinL [10] rows)))).length ≤ 60 := TL.numL_len (by decide) (Nat.lt_trans (chk_lt _) (by decide))
  unfold recL
  simp only [List.length_append, List.length_cons, List.length_nil]
  omega
end Lr
namespace Lr
open PySem PySem.Spec PyProof.Rows L2 Lf
theorem Drawn.len {rows : List (List Nat)} (h : ∀ r ∈ rows, Drawn r) (h5 : rows.length ≤ 5) : (rows.map List.length).sum + rows.length ≤ 205 := by
  have h1 := sum_rows (k := 40) fun r hr => (h r hr).2
  omega
theorem Drawn.good {rows : List (List Nat)} (hne : rows ≠ []) (h : ∀ r ∈ rows, Drawn r) (h5 : rows.length ≤ 5) : GoodRec rows := by
  refine ⟨hne, fun r hr => (h r hr).1, ?_⟩
  have h1 := Drawn.len h h5
  have h2 := joinL_len [10] rows
  rw [show [10].length = 1 from rfl] at h2
  exact Nat.lt_of_le_of_lt (m := 205) (by omega) (by decide)
theorem Drawn.rec_len {rows : List (List Nat)} {n : Nat} (hn : n < 10 ^ 60) (h : ∀ r ∈ rows, Drawn r) (h5 : rows.length ≤ 5) : (recL n rows).length ≤ 400 := by
  have h1 := Drawn.len h h5
  have h2 := joinL_len [10] rows
  rw [show [10].length = 1 from rfl] at h2
  have h3 := recL_len (n := n) (rows := rows) hn (by omega)
  omega
/-- what was drawn for one record -/
def DrawnRec (rows : List (List Nat)) : Prop := rows ≠ [] ∧ rows.length ≤ 5 ∧ ∀ r ∈ rows, Drawn r
theorem log_len : ∀ {recs : List (List (List Nat))} {n : Nat}, (∀ r ∈ recs, DrawnRec r) → n + recs.length ≤ 10 ^ 60 → (logL n recs).length ≤ recs.length * 400
  | [], _, _, _ => Nat.zero_le _
  | r :: rs, n, h, hn => by
    have hn' : n + (rs.length + 1) ≤ 10 ^ 60 := hn
    have d := h r (List.mem_cons_self ..)
    have h1 := Drawn.rec_len (n := n) (by omega) d.2.2 d.2.1
    have h2 := log_len (recs := rs) (n := n + 1) (fun z hz => h z (List.mem_cons_of_mem _ hz)) (by omega)
    show (recL n r ++ logL (n + 1) rs).length ≤ (rs.length + 1) * 400
    rw [List.length_append]
    omega
section
variable {P : Program} {w : World} {K : PySem.W.Frag} {mg : Str → Option Value} {base : Heap}
theorem RowsAll.get {H0 H : Hp} {r : Addr} : ∀ {qs : List Addr} {xs : List (List (List Nat))} (i : Nat), RowsAll H0 r H qs xs → i < xs.length → ∃ q x, qs[i]? = some q ∧ xs[i]? = some x ∧ H0 q = none ∧ q ≠ r ∧ H q = some (.lst (rowV x))
  | [], [], _, _, h => by cases h
  | q :: _, x :: _, 0, ⟨⟨h1, h2, h3⟩, _⟩, _ => ⟨q, x, rfl, rfl, h1, h2, h3⟩
  | _ :: _, _ :: xs, i + 1, ⟨_, h4⟩, h => RowsAll.get (xs := xs) i h4 (Nat.lt_of_succ_lt_succ h)
  | [], _ :: _, _, h, _ => h.elim
  | _ :: _, [], _, h, _ => h.elim
theorem RowsAll.dp {H0 H : Hp} {r : Addr} : ∀ {qs : List Addr} {xs : List (List (List Nat))}, RowsAll H0 r H qs xs → DpAll K H (qs.map V.ref) (xs.map rowsD)
  | [], [], _ => .nil
  | _ :: _, _ :: _, ⟨⟨_, _, h3⟩, h4⟩ => .cons (dp_rows (SqL.of h3)) h4.dp
  | [], _ :: _, h => h.elim
  | _ :: _, [], h => h.elim
end
end Lr
namespace Lr
open PySem PySem.Spec PyProof.Rows L2 Lf
theorem upto_shift (A X : List Nat) (a c : Nat) : upto (A ++ X) (A.length + a) c = ((upto X a c).1, A.length + (upto X a c).2) := by
  unfold upto
  have e : (A ++ X).drop (A.length + a) = X.drop a := by
    rw [← List.drop_drop, List.drop_left]
  rw [e]
  cases ix c ((X.drop a).take 61) with
  | none => rfl
  | some k =>
    show (numIn ((X.drop a).take k), A.length + a + k + 1) = (numIn ((X.drop a).take k), A.length + (a + k + 1))
    congr 1
    omega
theorem recFin_shift (A X : List Nat) (o1 o2 o3 : Option Nat) (b : Nat) : recFin (A ++ X) o1 o2 o3 (A.length + b) = (recFin X o1 o2 o3 b).map fun z => (z.1, z.2.1, A.length + z.2.2) := by
  cases o1 with
  | none => rfl
  | some n =>
  cases o2 with
  | none => rfl
  | some m =>
  cases o3 with
  | none => rfl
  | some k =>
  have e1 : (A ++ X).drop (A.length + b + m) = X.drop (b + m) := by
    rw [Nat.add_assoc, ← List.drop_drop, List.drop_left]
  have e2 : (A ++ X).drop (A.length + b) = X.drop b := by
    rw [← List.drop_drop, List.drop_left]
  unfold recFin
  dsimp only
  rw [e1, e2]
  split
  · split
    · have e4 : A.length + b + m + 1 = A.length + (b + m + 1) := by omega
      rw [e4]
      rfl
    · rfl
  · rfl
theorem recAt_shift (A X : List Nat) (a : Nat) : recAt (A ++ X) (A.length + a) = (recAt X a).map fun z => (z.1, z.2.1, A.length + z.2.2) := by
  obtain ⟨o1, a1, e1⟩ : ∃ o1 a1, upto X a 32 = (o1, a1) := ⟨_, _, rfl⟩
  obtain ⟨o2, a2, e2⟩ : ∃ o2 a2, upto X a1 58 = (o2, a2) := ⟨_, _, rfl⟩
  obtain ⟨o3, a3, e3⟩ : ∃ o3 a3, upto X a2 61 = (o3, a3) := ⟨_, _, rfl⟩
  have f1 := upto_shift A X a 32
  rw [e1] at f1
  have f2 := upto_shift A X a1 58
  rw [e2] at f2
  have f3 := upto_shift A X a2 61
  rw [e3] at f3
  rw [recAt_eq e1 e2 e3, recAt_eq f1 f2 f3]
  exact recFin_shift A X o1 o2 o3 a3
theorem runL_shift (A X : List Nat) : ∀ (f n a : Nat), runL (A ++ X) f n (A.length + a) = ((runL X f n a).1, A.length + (runL X f n a).2)
  | 0, _, _ => rfl
  | f + 1, n, a => by
    have h := recAt_shift A X a
    cases e : recAt X a with
    | none =>
      rw [e] at h
      rw [runL_end _ _ h, runL_end _ _ e]
    | some z =>
      obtain ⟨n', rows, b⟩ := z
      rw [e] at h
      by_cases hn : n' = n
      · subst hn
        rw [runL_hit h, runL_hit e, runL_shift A X f (n' + 1) b]
      · rw [runL_miss h hn, runL_miss e hn]
theorem recAt_bad {l rest : List Nat} {a c : Nat} (h : l.drop a = c :: rest) (hc : ¬ Dig c ∨ (c = 48 ∧ rest.head? ≠ some 32)) : recAt l a = none := by
  have key : (upto l a 32).1 = none := by
    unfold upto
    rw [h]
    cases e : ix 32 ((c :: rest).take 61) with
    | none => rfl
    | some k =>
      show numIn ((c :: rest).take k) = none
      unfold numIn
      rw [if_neg]
      intro ok
      cases k with
      | zero => exact ok.1 rfl
      | succ k =>
        rw [List.take_succ_cons] at ok
        rcases hc with hc | ⟨rfl, hc⟩
        · exact hc (ok.2.1 c (List.mem_cons_self ..))
        · have h2 := ok.2.2.2 rfl
          have h3 : rest.take k = [] := by
            injection h2
          obtain ⟨hk, r, hr, _⟩ := ix_some e
          rw [List.take_succ_cons, List.take_succ_cons] at hr
          rw [List.take_take] at hr
          have hk' : k < 60 := by
            rw [List.length_take] at hk
            omega
          rw [Nat.min_eq_left (by omega), h3] at hr
          injection hr with _ hr
          apply hc
          cases rest with
          | nil => simp at hr
          | cons d rest =>
            rw [show (60 : Nat) = 59 + 1 from rfl, List.take_succ_cons] at hr
            injection hr with hr _
            rw [hr]
            rfl
  obtain ⟨o1, a1, e1⟩ : ∃ o1 a1, upto l a 32 = (o1, a1) := ⟨_, _, rfl⟩
  rw [e1] at key
  have key' : o1 = none := key
  subst key'
  rw [recAt_eq e1 rfl rfl]
  rfl
theorem recAt_rows {l : List Nat} {a n b : Nat} {rows : List (List Nat)} (h : recAt l a = some (n, rows, b)) : ∀ r ∈ rows, rowOk r := by
  obtain ⟨o1, a1, e1⟩ : ∃ o1 a1, upto l a 32 = (o1, a1) := ⟨_, _, rfl⟩
  obtain ⟨o2, a2, e2⟩ : ∃ o2 a2, upto l a1 58 = (o2, a2) := ⟨_, _, rfl⟩
  obtain ⟨o3, a3, e3⟩ : ∃ o3 a3, upto l a2 61 = (o3, a3) := ⟨_, _, rfl⟩
  rw [recAt_eq e1 e2 e3] at h
  cases o1 with
  | none => cases h
  | some n =>
  cases o2 with
  | none => cases h
  | some m =>
  cases o3 with
  | none => cases h
  | some k =>
  unfold recFin at h
  dsimp only at h
  split at h
  · split at h
    · rename_i hh
      cases h
      exact hh.1
    · cases h
  · cases h
theorem runL_rows {l : List Nat} : ∀ (f n a : Nat), ∀ rows ∈ (runL l f n a).1, ∀ r ∈ rows, rowOk r
  | 0, _, _, _, h => by cases h
  | f + 1, n, a, rows, h => by
    cases e : recAt l a with
    | none =>
      rw [runL_end _ _ e] at h
      cases h
    | some z =>
      obtain ⟨n', rw', b⟩ := z
      by_cases hn : n' = n
      · subst hn
        rw [runL_hit e] at h
        rcases List.mem_cons.mp h with rfl | h
        · exact recAt_rows e
        · exact runL_rows f _ _ rows h
      · rw [runL_miss e hn] at h
        cases h
theorem parse_rows (l : List Nat) : ∀ rows ∈ (parseL l).2.1, ∀ r ∈ rows, rowOk r := by
  unfold parseL
  cases e : recAt l 0 with
  | none =>
    intro rows h
    cases h
  | some z => exact runL_rows _ _ _
theorem runL_fuel {l : List Nat} : ∀ (f g n a : Nat), a ≤ l.length → l.length + 1 ≤ f + a → l.length + 1 ≤ g + a → runL l f n a = runL l g n a
  | 0, _, _, _, h, h1, _ => by omega
  | _, 0, _, _, h, _, h2 => by omega
  | f + 1, g + 1, n, a, h, h1, h2 => by
    cases e : recAt l a with
    | none => rw [runL_end _ _ e, runL_end _ _ e]
    | some z =>
      obtain ⟨n', rows, b⟩ := z
      have hb := recAt_up h e
      by_cases hn : n' = n
      · subst hn
        rw [runL_hit e, runL_hit e, runL_fuel f g (n' + 1) b hb.2 (by omega) (by omega)]
      · rw [runL_miss e hn, runL_miss e hn]
/-- behind whole records -/
theorem parse_behind {recs : List (List (List Nat))} {n : Nat} {Y : List Nat} (hne : recs ≠ []) (hg : ∀ r ∈ recs, GoodRec r) (hn : n + recs.length ≤ 10 ^ 60) :
    parseL (logL n recs ++ Y) = (some n, recs ++ (runL Y (Y.length + 1) (n + recs.length) 0).1, (logL n recs).length + (runL Y (Y.length + 1) (n + recs.length) 0).2) := by
  have hl := logL_len recs n
  have e := runL_log (l := logL n recs ++ Y) recs n 0 ((logL n recs ++ Y).length + 1 - recs.length) hg hn rfl
  have hl2 : (logL n recs ++ Y).length = (logL n recs).length + Y.length := List.length_append ..
  rw [show (logL n recs ++ Y).length + 1 - recs.length + recs.length = (logL n recs ++ Y).length + 1 by omega, Nat.zero_add] at e
  have e2 := runL_shift (logL n recs) Y ((logL n recs ++ Y).length + 1 - recs.length) (n + recs.length) 0
  rw [Nat.add_zero (logL n recs).length] at e2
  rw [e2] at e
  have e3 := runL_fuel (l := Y) ((logL n recs ++ Y).length + 1 - recs.length) (Y.length + 1) (n + recs.length) 0 (Nat.zero_le _) (by omega) (by omega)
  rw [e3] at e
  cases recs with
  | nil => exact absurd rfl hne
  | cons r rs =>
    have g := hg r (List.mem_cons_self ..)
    have hn' : n + (rs.length + 1) ≤ 10 ^ 60 := hn
    have e1 := recAt_rec (l := logL n (r :: rs) ++ Y) (a := 0) (B := logL (n + 1) rs ++ Y) (by show recL n r ++ logL (n + 1) rs ++ Y = _; rw [List.append_assoc]) (by omega) g.1 g.2.1 g.2.2
    unfold parseL
    rw [e1]
    dsimp only
    rw [e]
theorem runL_len {l : List Nat} : ∀ (f n a : Nat), a ≤ l.length → (runL l f n a).1.length + a ≤ l.length
  | 0, _, _, h => by
    show 0 + _ ≤ _
    omega
  | f + 1, n, a, h => by
    cases e : recAt l a with
    | none =>
      rw [runL_end _ _ e]
      show 0 + a ≤ _
      omega
    | some z =>
      obtain ⟨n', rows, b⟩ := z
      have hb := recAt_up h e
      by_cases hn : n' = n
      · subst hn
        rw [runL_hit e]
        have ih := runL_len f (n' + 1) b hb.2
        show (_ :: _).length + a ≤ _
        rw [List.length_cons]
        omega
      · rw [runL_miss e hn]
        show 0 + a ≤ _
        omega
theorem parse_len (l : List Nat) : (parseL l).2.1.length ≤ l.length := by
  unfold parseL
  cases e : recAt l 0 with
  | none => exact Nat.zero_le _
  | some z =>
    have h := runL_len (l := l) (l.length + 1) z.1 0 (Nat.zero_le _)
    exact h
theorem run_bad {Y : List Nat} (n : Nat) (h : recAt Y 0 = none) : runL Y (Y.length + 1) n 0 = ([], 0) := runL_end _ _ h
theorem run_told {Y : List Nat} (n : Nat) : (runL Y (Y.length + 1) n 0) = if (parseL Y).1 = some n then ((parseL Y).2.1, (parseL Y).2.2) else ([], 0) := by
  unfold parseL
  cases e : recAt Y 0 with
  | none =>
    rw [runL_end _ _ e]
    rfl
  | some z =>
    obtain ⟨n', rows, b⟩ := z
    dsimp only
    by_cases hn : n' = n
    · subst hn
      rw [if_pos rfl]
    · rw [runL_miss e hn, if_neg (fun h => hn (Option.some.inj h))]
theorem parse_bad {Y : List Nat} (h : recAt Y 0 = none) : parseL Y = (none, [], 0) := by
  unfold parseL
  rw [h]
/-- a log begins by a figure -/
theorem log_head (n : Nat) (recs : List (List (List Nat))) (k : Nat) : ((logL n recs).take k).head? ≠ some 32 := by
  cases recs with
  | nil =>
    show (([] : List Nat).take k).head? ≠ _
    rw [List.take_nil]
    simp
  | cons r rs =>
    cases k with
    | zero =>
      rw [List.take_zero]
      simp
    | succ k =>
      cases e : numL n with
      | nil => exact absurd e (TL.numL_ne n)
      | cons d t =>
        have hd := num_ok' n d (by rw [e]; exact List.mem_cons_self ..)
        have : logL n (r :: rs) = d :: (t ++ ([32] ++ numL (joinL [10] r).length ++ [58] ++ numL (chkL (headL n (joinL [10] r).length (joinL [10] r))) ++ [61] ++ joinL [10] r ++ [10] ++ logL (n + 1) rs)) := by
          show recL n r ++ logL (n + 1) rs = _
          unfold recL
          rw [e]
          simp
        rw [this, List.take_succ_cons]
        intro h
        have : d = 32 := Option.some.inj h
        unfold Dig at hd
        omega
end Lr
namespace Lr
open PySem PySem.Spec PyProof.Rows L2 Lf
/-! ### another sign, another check -/
theorem chk_back {s1 s2 x : Nat} (h1 : s1 < 1000003) (h2 : s2 < 1000003) (h : (33 * s1 + x) % 1000003 = (33 * s2 + x) % 1000003) : s1 = s2 := by omega
theorem chk_fold : ∀ (v : List Nat) {s1 s2 : Nat}, s1 < 1000003 → s2 < 1000003 → s1 ≠ s2 → v.foldl (fun c x => (33 * c + x) % 1000003) s1 ≠ v.foldl (fun c x => (33 * c + x) % 1000003) s2
  | [], _, _, _, _, h => h
  | x :: v, s1, s2, h1, h2, h => chk_fold v (Nat.mod_lt _ (by decide)) (Nat.mod_lt _ (by decide)) fun e => h (chk_back h1 h2 e)
theorem chk_other (u v : List Nat) {c d : Nat} (hc : c < 1000 ) (hd : d < 1000) (h : c ≠ d) : chkL (u ++ c :: v) ≠ chkL (u ++ d :: v) := by
  unfold chkL
  rw [List.foldl_append, List.foldl_append, List.foldl_cons, List.foldl_cons]
  refine chk_fold v (Nat.mod_lt _ (by decide)) (Nat.mod_lt _ (by decide)) ?_
  generalize List.foldl (fun c x => (33 * c + x) % 1000003) 7 u = s
  omega
/-! ### what is read stays so with more behind -/
theorem ix_app {c : Nat} {k : Nat} : ∀ {p r : List Nat}, ix c p = some k → ix c (p ++ r) = some k := fun {p} => by
  induction p generalizing k with
  | nil => intro r h; cases h
  | cons d p ih =>
    intro r h
    rw [List.cons_append]
    unfold ix at h ⊢
    by_cases e : d = c
    · rw [if_pos e] at h ⊢
      exact h
    · rw [if_neg e] at h ⊢
      cases h2 : ix c p with
      | none => rw [h2] at h; cases h
      | some j =>
        rw [h2] at h
        rw [ih h2]
        exact h
theorem upto_ext {X Y : List Nat} {a c n b : Nat} (h : upto X a c = (some n, b)) : upto (X ++ Y) a c = (some n, b) := by
  unfold upto at h ⊢
  cases e : ix c ((X.drop a).take 61) with
  | none => rw [e] at h; cases h
  | some k =>
    rw [e] at h
    obtain ⟨hk, _⟩ := ix_some e
    have hk2 : k < X.length - a := by
      rw [List.length_take, List.length_drop] at hk
      omega
    have e1 : (X ++ Y).drop a = X.drop a ++ Y := List.drop_append_of_le_length (by omega)
    have e2 : ((X ++ Y).drop a).take 61 = (X.drop a).take 61 ++ Y.take (61 - (X.drop a).length) := by rw [e1, List.take_append]
    rw [e2, ix_app e]
    dsimp only at h ⊢
    have e3 : ((X ++ Y).drop a).take k = (X.drop a).take k := by
      rw [e1]
      exact List.take_append_of_le_length (by rw [List.length_drop]; omega)
    rw [e3]
    exact h
theorem recAt_ext {X Y : List Nat} {a n b : Nat} {rows : List (List Nat)} (h : recAt X a = some (n, rows, b)) : recAt (X ++ Y) a = some (n, rows, b) := by
  obtain ⟨o1, a1, e1⟩ : ∃ o1 a1, upto X a 32 = (o1, a1) := ⟨_, _, rfl⟩
  obtain ⟨o2, a2, e2⟩ : ∃ o2 a2, upto X a1 58 = (o2, a2) := ⟨_, _, rfl⟩
  obtain ⟨o3, a3, e3⟩ : ∃ o3 a3, upto X a2 61 = (o3, a3) := ⟨_, _, rfl⟩
  rw [recAt_eq e1 e2 e3] at h
  cases o1 with
  | none => cases h
  | some n1 =>
  cases o2 with
  | none => cases h
  | some m =>
  cases o3 with
  | none => cases h
  | some k =>
  rw [recAt_eq (upto_ext e1) (upto_ext e2) (upto_ext e3)]
  unfold recFin at h ⊢
  dsimp only at h ⊢
  by_cases c1 : (X.drop (a3 + m)).take 1 = [10]
  · have hl : a3 + m < X.length := by
      refine Nat.lt_of_not_le fun hge => ?_
      rw [List.drop_of_length_le hge] at c1
      cases c1
    have d1 : ((X ++ Y).drop (a3 + m)).take 1 = [10] := by
      rw [List.drop_append_of_le_length (by omega), List.take_append_of_le_length (by rw [List.length_drop]; omega)]
      exact c1
    have d2 : ((X ++ Y).drop a3).take m = (X.drop a3).take m := by
      rw [List.drop_append_of_le_length (by omega), List.take_append_of_le_length (by rw [List.length_drop]; omega)]
    rw [if_pos c1] at h
    rw [if_pos d1, d2]
    exact h
  · rw [if_neg c1] at h
    cases h
theorem recAt_cut {n c : Nat} {rows : List (List Nat)} (hn : n < 10 ^ 60) (g : GoodRec rows) (hc : c < (recL n rows).length) : recAt ((recL n rows).take c) 0 = none := by
  cases e : recAt ((recL n rows).take c) 0 with
  | none => rfl
  | some z =>
    obtain ⟨n', rows', b⟩ := z
    have h := recAt_ext (Y := (recL n rows).drop c) e
    rw [List.take_append_drop] at h
    have h2 := recAt_rec (l := recL n rows) (B := []) (a := 0) (by simp) hn g.1 g.2.1 g.2.2
    rw [h] at h2
    have h3 := recAt_up (Nat.zero_le _) e
    have h4 : b = 0 + (recL n rows).length := by
      injection h2 with h2
      injection h2 with _ h2
      injection h2
    rw [List.length_take] at h3
    omega
/-! ### a log cut -/
def endsL : Nat → Nat → List (List (List Nat)) → List Nat
  | _, _, [] => []
  | b, n, r :: rs => (b + (recL n r).length) :: endsL (b + (recL n r).length) (n + 1) rs
theorem endsL_ge : ∀ (recs : List (List (List Nat))) (b n : Nat), ∀ e ∈ endsL b n recs, b ≤ e
  | [], _, _, e, h => by cases h
  | r :: rs, b, n, e, h => by
    rcases List.mem_cons.mp h with rfl | h
    · omega
    · have := endsL_ge rs _ _ e h
      omega
theorem endsL_len : ∀ (recs : List (List (List Nat))) (b n : Nat), (endsL b n recs).length = recs.length
  | [], _, _ => rfl
  | r :: rs, b, n => congrArg (· + 1) (endsL_len rs _ _)
theorem endsL_get : ∀ (recs : List (List (List Nat))) (b n i : Nat), i < recs.length → (endsL b n recs)[i]? = some (b + (logL n (recs.take (i + 1))).length)
  | [], _, _, _, h => by cases h
  | r :: rs, b, n, 0, _ => by
    show some (b + (recL n r).length) = some (b + (recL n r ++ []).length)
    rw [List.append_nil]
  | r :: rs, b, n, i + 1, h => by
    have ih := endsL_get rs (b + (recL n r).length) (n + 1) i (Nat.lt_of_succ_lt_succ h)
    show (endsL (b + (recL n r).length) (n + 1) rs)[i]? = _
    rw [ih]
    show _ = some (b + (recL n r ++ logL (n + 1) (rs.take (i + 1))).length)
    rw [List.length_append, Nat.add_assoc]
theorem endsL_snoc : ∀ (recs : List (List (List Nat))) (b n : Nat) (r : List (List Nat)), endsL b n (recs ++ [r]) = endsL b n recs ++ [b + (logL n (recs ++ [r])).length]
  | [], b, n, r => by
    show [b + (recL n r).length] = [] ++ [b + (recL n r ++ []).length]
    simp
  | x :: xs, b, n, r => by
    show (b + (recL n x).length) :: endsL (b + (recL n x).length) (n + 1) (xs ++ [r]) = (b + (recL n x).length) :: (endsL (b + (recL n x).length) (n + 1) xs ++ [b + (recL n x ++ logL (n + 1) (xs ++ [r])).length])
    rw [endsL_snoc xs, List.length_append, Nat.add_assoc]
def cntE (b n : Nat) (recs : List (List (List Nat))) (c : Nat) : Nat := ((endsL b n recs).filter fun e => decide (e ≤ c)).length
theorem cut_main : ∀ (recs : List (List (List Nat))) (n b c : Nat), (∀ r ∈ recs, GoodRec r) → n + recs.length ≤ 10 ^ 60 →
    cntE b n recs (b + c) ≤ recs.length ∧ ∃ P, (logL n recs).take c = logL n (recs.take (cntE b n recs (b + c))) ++ P ∧ recAt P 0 = none
  | [], n, b, c, _, _ => ⟨Nat.le_refl _, [], by show ([] : List Nat).take c = _; rw [List.take_nil]; rfl, recAt_nil rfl⟩
  | r :: rs, n, b, c, hg, hn => by
    have hn' : n + (rs.length + 1) ≤ 10 ^ 60 := hn
    have g := hg r (List.mem_cons_self ..)
    by_cases hc : (recL n r).length ≤ c
    · obtain ⟨c', rfl⟩ : ∃ c', c = (recL n r).length + c' := ⟨c - (recL n r).length, by omega⟩
      obtain ⟨hk, P, e1, e2⟩ := cut_main rs (n + 1) (b + (recL n r).length) c' (fun z hz => hg z (List.mem_cons_of_mem _ hz)) (by omega)
      have ek : cntE b n (r :: rs) (b + ((recL n r).length + c')) = cntE (b + (recL n r).length) (n + 1) rs (b + (recL n r).length + c') + 1 := by
        unfold cntE
        rw [show endsL b n (r :: rs) = (b + (recL n r).length) :: endsL (b + (recL n r).length) (n + 1) rs from rfl, List.filter_cons_of_pos (by simp), List.length_cons, Nat.add_assoc b]
      rw [ek]
      refine ⟨by rw [List.length_cons]; omega, P, ?_, e2⟩
      show (recL n r ++ logL (n + 1) rs).take _ = recL n r ++ logL (n + 1) (rs.take _) ++ P
      rw [List.take_append, List.take_of_length_le (by omega), Nat.add_sub_cancel_left, e1, List.append_assoc]
    · have ek : cntE b n (r :: rs) (b + c) = 0 := by
        unfold cntE
        rw [List.length_eq_zero_iff, List.filter_eq_nil_iff]
        intro e he
        rcases List.mem_cons.mp he with rfl | he
        · simp
          omega
        · have := endsL_ge rs _ _ e he
          simp
          omega
      rw [ek]
      refine ⟨Nat.zero_le _, (recL n r).take c, ?_, recAt_cut (by omega) g (by omega)⟩
      show (recL n r ++ logL (n + 1) rs).take c = [] ++ _
      rw [List.take_append_of_le_length (by omega)]
      rfl
theorem parse_cut {recs : List (List (List Nat))} {n c : Nat} (hg : ∀ r ∈ recs, GoodRec r) (hn : n + recs.length ≤ 10 ^ 60) :
    parseL ((logL n recs).take c) = if cntE 0 n recs c = 0 then (none, [], 0) else (some n, recs.take (cntE 0 n recs c), (logL n (recs.take (cntE 0 n recs c))).length) := by
  obtain ⟨hk, P, e1, e2⟩ := cut_main recs n 0 c hg hn
  rw [Nat.zero_add] at hk e1
  rw [e1]
  split
  · rename_i h0
    rw [h0]
    exact parse_bad e2
  · rename_i h0
    have hne : recs.take (cntE 0 n recs c) ≠ [] := fun z => by
      have := congrArg List.length z
      rw [List.length_take, List.length_nil] at this
      omega
    rw [parse_behind hne (fun r hr => hg r (List.mem_of_mem_take hr)) (by rw [List.length_take]; omega), run_bad _ e2, List.append_nil, Nat.add_zero]
/-! ### a sign exchanged -/
def preL (n m k : Nat) : List Nat := numL n ++ [32] ++ numL m ++ [58] ++ numL k ++ [61]
theorem preL_ix (n m k : Nat) (R : List Nat) : ix 61 (preL n m k ++ R) = some ((preL n m k).length - 1) := by
  have e : preL n m k ++ R = (numL n ++ [32] ++ numL m ++ [58] ++ numL k) ++ 61 :: R := by
    unfold preL
    simp
  have hl : (preL n m k).length - 1 = (numL n ++ [32] ++ numL m ++ [58] ++ numL k).length := by
    unfold preL
    rw [List.length_append]
    exact Nat.add_sub_cancel ..
  rw [e, hl, ix_at]
  intro h
  have d : ∀ z, 61 ∈ numL z → False := fun z hz => by
    have := num_ok' z 61 hz
    unfold Dig at this
    omega
  simp only [List.mem_append, List.mem_singleton] at h
  rcases h with ((((h | h) | h) | h) | h)
  · exact d _ h
  · omega
  · exact d _ h
  · omega
  · exact d _ h
theorem recL_pre (n : Nat) (rows : List (List Nat)) : recL n rows = preL n (joinL [10] rows).length (chkL (headL n (joinL [10] rows).length (joinL [10] rows))) ++ (joinL [10] rows ++ [10]) := by
  unfold recL preL
  simp
theorem recAt_spoilt {n k : Nat} {body' B : List Nat} (hn : n < 10 ^ 60) (hb : body'.length < 10 ^ 60) (hk : k < 10 ^ 60) (hne : k ≠ chkL (headL n body'.length body')) :
    recAt (preL n body'.length k ++ (body' ++ [10] ++ B)) 0 = none := by
  have d0 : (preL n body'.length k ++ (body' ++ [10] ++ B)).drop 0 = numL n ++ 32 :: (numL body'.length ++ 58 :: (numL k ++ 61 :: (body' ++ 10 :: B))) := by
    unfold preL
    simp
  generalize (preL n body'.length k ++ (body' ++ [10] ++ B)) = l at d0
  have e1 := upto_hit d0 hn (by decide)
  have d1 := drop_hit d0
  have e2 := upto_hit d1 hb (by decide)
  have d2 := drop_hit d1
  have e3 := upto_hit d2 hk (by decide)
  have d3 := drop_hit d2
  rw [recAt_eq e1 e2 e3]
  generalize 0 + (numL n).length + 1 + (numL body'.length).length + 1 + (numL k).length + 1 = b3 at *
  have t2 : (l.drop b3).take body'.length = body' := by
    rw [d3]
    exact List.take_left
  unfold recFin
  dsimp only
  split
  · rw [t2, if_neg (fun h => hne h.2)]
  · rfl
/-- one sign of a record's rows is another one -/
theorem parse_spoilt {recs : List (List (List Nat))} {n i j d : Nat} {r : List (List Nat)} {B : List Nat} (hg : ∀ r ∈ recs, GoodRec r) (hn : n + recs.length ≤ 10 ^ 60) (hi : recs[i]? = some r) (hj : j < (joinL [10] r).length)
    (hd : d < 1000) (hc : (joinL [10] r)[j]? ≠ some d) (hc2 : ∀ c ∈ joinL [10] r, c < 1000) :
    parseL (logL n (recs.take i) ++ (preL (n + i) (joinL [10] r).length (chkL (headL (n + i) (joinL [10] r).length (joinL [10] r))) ++ ((joinL [10] r).set j d ++ [10] ++ B))) =
      if i = 0 then (none, [], 0) else (some n, recs.take i, (logL n (recs.take i)).length) := by
  have hi' : i < recs.length := (List.getElem?_eq_some_iff.mp hi).1
  have g := hg r (List.mem_of_getElem? hi)
  have bad : recAt (preL (n + i) (joinL [10] r).length (chkL (headL (n + i) (joinL [10] r).length (joinL [10] r))) ++ ((joinL [10] r).set j d ++ [10] ++ B)) 0 = none := by
    have el : ((joinL [10] r).set j d).length = (joinL [10] r).length := List.length_set ..
    have h := recAt_spoilt (n := n + i) (k := chkL (headL (n + i) (joinL [10] r).length (joinL [10] r))) (body' := (joinL [10] r).set j d) (B := B) (by omega) (by rw [el]; exact g.2.2) (Nat.lt_trans (chk_lt _) (by decide)) ?_
    · rw [el] at h
      exact h
    · rw [el]
      have es : joinL [10] r = (joinL [10] r).take j ++ (joinL [10] r)[j] :: (joinL [10] r).drop (j + 1) := by
        rw [List.getElem_cons_drop, List.take_append_drop]
      have es2 : (joinL [10] r).set j d = (joinL [10] r).take j ++ d :: (joinL [10] r).drop (j + 1) := by
        rw [List.set_eq_take_append_cons_drop, if_pos hj]
      have hne : (joinL [10] r)[j] ≠ d := fun z => hc (by rw [List.getElem?_eq_getElem hj, z])
      have hlt : (joinL [10] r)[j] < 1000 := hc2 _ (List.getElem_mem hj)
      unfold headL
      rw [es2]
      have h := chk_other (numL (n + i) ++ [32] ++ numL (joinL [10] r).length ++ [58] ++ (joinL [10] r).take j) ((joinL [10] r).drop (j + 1)) hlt hd hne
      rw [List.append_assoc, List.append_assoc (bs := (joinL [10] r).take j), ← es] at h
      exact h
  split
  · rename_i h0
    subst h0
    exact parse_bad bad
  · have hne : recs.take i ≠ [] := fun z => by
      have := congrArg List.length z
      rw [List.length_take, List.length_nil] at this
      omega
    rw [parse_behind hne (fun r hr => hg r (List.mem_of_mem_take hr)) (by rw [List.length_take]; omega), run_bad _ bad, List.append_nil, Nat.add_zero]
end Lr
namespace Lr
open PySem PySem.Spec PyProof.Rows L2 Lf
section
variable {P : Program} {w : World} {K : PySem.W.Frag} {mg : Str → Option Value} {base : Heap}
theorem DpAll.app {H : Hp} : ∀ {xs ys : List V} {ds es : List PyData}, DpAll K H xs ds → DpAll K H ys es → DpAll K H (xs ++ ys) (ds ++ es)
  | [], _, [], _, _, h => h
  | _ :: _, _, _ :: _, _, .cons h1 h2, h => .cons h1 (DpAll.app h2 h)
theorem cut_take (x : Str) (c : Nat) : cutS x none (some (c : Int)) = S ((tl x).take c) := by
  refine TL.ext_tl ?_
  show ((tl x).drop (HT.sIx x.length 0 none)).take (HT.sIx x.length x.length (some (c : Int)) - HT.sIx x.length 0 none) = (tl x).take c
  rw [HT.sIx_none, HT.sIx_nat, List.drop_zero, Nat.sub_zero]
  have hl := len_tl x
  rcases Nat.le_total c x.length with h | h
  · rw [Nat.min_eq_left h]
  · rw [Nat.min_eq_right h, List.take_of_length_le (by omega), List.take_of_length_le (by omega)]
/-- what is told of a text, as data -/
def parD (l : List Nat) : PyData := .tuple [match (parseL l).1 with | some n => .int (n : Int) | none => .none, recsD (parseL l).2.1, .int (((parseL l).2.2 : Nat) : Int)]
theorem parD_lay (l : List Nat) : Lay 3 (parD l) := .tup (k := 2) fun d hd => by
  simp only [List.mem_cons, List.not_mem_nil, or_false] at hd
  rcases hd with rfl | rfl | rfl
  · cases (parseL l).1 with
    | none => exact .non
    | some n => exact .int _
  · exact recsD_lay (parse_rows l)
  · exact .int _
/-- what stands there is what parsed tells of l -/
def ParAt (l : List Nat) (H0 H : Hp) (p : Addr) (qs : List Addr) (r : Addr) : Prop := H0 p = none ∧ H0 r = none ∧ H p = some (.tup [optV (parseL l).1, .ref r, .int (((parseL l).2.2 : Nat) : Int)]) ∧ H r = some (.lst (qs.map V.ref)) ∧ RowsAll H0 r H qs (parseL l).2.1
theorem ParAt.keep {l : List Nat} {H0 H H' : Hp} {p r : Addr} {qs : List Addr} (h : ParAt l H0 H p qs r) (s : Same H H') : ParAt l H0 H' p qs r := by
  obtain ⟨hp, h0, h1, h2, h3⟩ := h
  exact ⟨hp, h0, s _ _ h1, s _ _ h2, h3.keep fun q o _ _ h => s q o h⟩
theorem ParAt.keepK {l : List Nat} {H0 H H' : Hp} {p r a : Addr} {qs : List Addr} (h : ParAt l H0 H p qs r) (f : FeedAt H0 a) (s : Kp a H H') : ParAt l H0 H' p qs r := by
  obtain ⟨hp, h0, h1, h2, h3⟩ := h
  exact ⟨hp, h0, s _ _ (f.ne hp) h1, s _ _ (f.ne h0) h2, h3.keep fun q o hq _ h => s q o (f.ne hq) h⟩
theorem ParAt.dp {l : List Nat} {H0 H : Hp} {p r : Addr} {qs : List Addr} (h : ParAt l H0 H p qs r) : Dp K H (.ref p) (parD l) := by
  obtain ⟨hp, h0, h1, h2, h3⟩ := h
  refine .tup (SqT.of h1) (.cons ?_ (.cons (.lst (SqL.of h2) h3.dp) (.cons (.int _) .nil)))
  cases (parseL l).1 with
  | none => exact .non
  | some n => exact .int _

theorem cutV_take (xs : List V) (n : Nat) : cutV xs none (some (n : Int)) = xs.take n := by
  unfold cutV
  rw [HT.sIx_none, HT.sIx_nat, List.drop_zero, Nat.sub_zero]
  rcases Nat.le_total n xs.length with h | h
  · rw [Nat.min_eq_left h]
  · rw [Nat.min_eq_right h, List.take_of_length_le h, List.take_of_length_le (Nat.le_refl _)]
theorem DpAll.take {H : Hp} : ∀ {xs : List V} {ds : List PyData} (n : Nat), DpAll K H xs ds → DpAll K H (xs.take n) (ds.take n)
  | _, _, 0, _ => .nil
  | _, _, _ + 1, .nil => .nil
  | _, _, n + 1, .cons h1 h2 => .cons h1 (DpAll.take n h2)
theorem SqT.sm {H H' : Hp} {p : Addr} {xs : List V} (s : Same H H') (h : SqT K H p xs) : SqT K H' p xs := by
  rcases h with (h | ⟨o, h⟩) | h
  · exact .inl (.inl (s _ _ h))
  · exact .inl (.inr ⟨o, s _ _ h⟩)
  · exact .inr h
theorem SqL.sm {H H' : Hp} {p : Addr} {xs : List V} (s : Same H H') (h : SqL K H p xs) : SqL K H' p xs := by
  rcases h with (h | ⟨o, h⟩) | h
  · exact .inl (.inl (s _ _ h))
  · exact .inl (.inr ⟨o, s _ _ h⟩)
  · exact .inr h
mutual
theorem Dp.same {H H' : Hp} (s : Same H H') : ∀ {v : V} {d : PyData}, Dp K H v d → Dp K H' v d
  | _, _, .non => .non
  | _, _, .bl b => .bl b
  | _, _, .int i => .int i
  | _, _, .str x => .str x
  | _, _, .lst h h2 => .lst (SqL.sm s h) (DpAll.same s h2)
  | _, _, .tup h h2 => .tup (SqT.sm s h) (DpAll.same s h2)
theorem DpAll.same {H H' : Hp} (s : Same H H') : ∀ {v : List V} {d : List PyData}, DpAll K H v d → DpAll K H' v d
  | _, _, .nil => .nil
  | _, _, .cons h1 h2 => .cons (Dp.same s h1) (DpAll.same s h2)
end
def endV (l : List Nat) : List V := l.map fun x : Nat => V.int (x : Int)
/-- a log, its records' lists, where each ends -/
structure LogAt (H0 H : Hp) (n : Nat) (recs : List (List (List Nat))) (sm e : Addr) (qs : List Addr) : Prop where
  some_ : H sm = some (.lst (qs.map V.ref))
  rows : RowsAll H0 sm H qs recs
  ends : H e = some (.lst (endV (endsL 0 n recs)))
  drawn : ∀ r ∈ recs, DrawnRec r
  few : recs.length ≤ 4
  num : n ≤ 10 ^ 30
theorem LogAt.same {H0 H H' : Hp} {n : Nat} {recs : List (List (List Nat))} {sm e : Addr} {qs : List Addr} (h : LogAt H0 H n recs sm e qs) (s : Same H H') : LogAt H0 H' n recs sm e qs :=
  ⟨s _ _ h.some_, h.rows.keep fun q o _ _ z => s q o z, s _ _ h.ends, h.drawn, h.few, h.num⟩
theorem LogAt.dp {H0 H : Hp} {n : Nat} {recs : List (List (List Nat))} {sm e : Addr} {qs : List Addr} (h : LogAt H0 H n recs sm e qs) : DpAll K H (qs.map V.ref) (recs.map rowsD) := h.rows.dp
theorem LogAt.good {H0 H : Hp} {n : Nat} {recs : List (List (List Nat))} {sm e : Addr} {qs : List Addr} (h : LogAt H0 H n recs sm e qs) : ∀ r ∈ recs, GoodRec r := fun r hr => Drawn.good (h.drawn r hr).1 (h.drawn r hr).2.2 (h.drawn r hr).2.1
theorem LogAt.small {H0 H : Hp} {n : Nat} {recs : List (List (List Nat))} {sm e : Addr} {qs : List Addr} (h : LogAt H0 H n recs sm e qs) : n + recs.length ≤ 10 ^ 60 := by
  have h1 := h.few
  have h2 := h.num
  have : (10 : Nat) ^ 30 + 4 ≤ 10 ^ 60 := by decide +kernel
  omega
theorem LogAt.len {H0 H : Hp} {n : Nat} {recs : List (List (List Nat))} {sm e : Addr} {qs : List Addr} (h : LogAt H0 H n recs sm e qs) : (logL n recs).length ≤ 1600 := by
  have h1 := log_len (n := n) h.drawn h.small
  have h2 := h.few
  omega
def spCut : Sp := fun vs H Q _ => ∃ (n : Nat) (recs : List (List (List Nat))) (sm e : Addr) (qs : List Addr) (H0 : Hp), vs = [.str (S (logL n recs)), .ref sm, .ref e, .int (n : Int)] ∧ LogAt H0 H n recs sm e qs ∧ ∀ H', Same H H' → Q (.bl true) H'
abbrev sCut : Stmt := topS 20
theorem scCut : FnScope ["_law_log", "_law_some", "_law_ends", "_law_number", "_law_cut", "_law_whole_here", "_law_due", "_law_end"] ["_law_log", "_law_some", "_law_ends", "_law_number"] (defScope sCut) := ⟨rfl, rfl, rfl, by decide +kernel, rfl, by decide +kernel, by decide +kernel⟩
set_option maxHeartbeats 4000000 in
theorem ok_cut {f : Addr} {fd : FuncData} (F : Fun K "_law_cut_right" "_law_cut_right" sCut f fd) (T : Bs mg) (c_parsed : Callee P w K mg base 4 "parsed" ["log"] spPar) : FnOk P w K mg base CX0 5 f fd ["_law_log", "_law_some", "_law_ends", "_law_number"] spCut := by
  refine F.ok scCut (fun vs H Q E h => ?_) (fun cdv A outer s H vs Q E hr h => ?_)
  · obtain ⟨n, recs, sm, e, qs, H0, rfl, _⟩ := h
    rfl
  · obtain ⟨n, recs, sm, e, qs, H0, rfl, hL, q⟩ := h
    have nd := scCut.nd
    refine ⟨_, (pss_cons (ps_for PassesOwn.never rfl (pi_range1 (by rfl) T.range (pa_cons (pe_op op_add (pe_callB call_len_str (by rfl) T.len PySem.boot_len (pa_cons (pv 0) pa_nil)) pe_int) pa_nil)) (pg_name (i := 4) nd rfl (Or.inr rfl))
  (pss_cons (ps_set (i := 5) nd rfl (Or.inl rfl) (pe_callB call_len_seq (by rfl) T.len PySem.boot_len (pa_cons (pe_lc (own := [("_law_end", 7)]) (g := gName 7) rfl nd (pi_list (pv 2)) (blkOk_by (own := [("_law_end", 7)]) (N := ["_law_log", "_law_some", "_law_ends", "_law_number", "_law_cut", "_law_whole_here", "_law_due", "_law_end"]) (sc := defScope (topS 20)) (by decide +kernel)) (fun _ _ _ _ _ => (pg_name (i := 7) nd rfl (Or.inl rfl))) (fun _ _ _ _ _ => (pts_one (pt_cmpR op_le (pv 7) (pv 4) (nomark _)))) (fun _ _ _ _ _ => (pv 7))) pa_nil)))
  (pss_cons (ps_set (i := 6) nd rfl (Or.inl rfl) (pe_tup (pa_cons pe_non (pa_cons (pe_lst pa_nil) (pa_cons pe_int pa_nil)))))
  (Evl.pss_cut (ps_if (pt_cmpR op_gt (pv 5) pe_int (nomark _))
  (pss_one (ps_set (i := 6) nd rfl (Or.inl rfl) (pe_tup (pa_cons (pv 3) (pa_cons (pe_slice sl_list (pv 1) po_none (po_some (pv 5))) (pa_cons (pe_ix ix_list (pv 2) (pe_op op_sub (pv 5) pe_int) (fun _ _ => rfl)) pa_nil))))))
  pss_nil)
  (pss_one (ps_if (pt_cmpR (op_neD hr.units) (pe_own c_parsed (hr.mono (by decide)) (by rfl) (pa_cons (pe_slice sl_str (pv 0) po_none (po_some (pv 4))) pa_nil)) (pv 6) (nomark _))
  (pss_one (ps_ret pe_bl))
  pss_nil))))))
  (pss_one (ps_ret pe_bl))), ?_⟩
    have ez : sizeLine = 16777216 := by decide +kernel
    have hlen := hL.len
    have hpc := fun c => parse_cut (c := c) hL.good hL.small
    have hce := fun i => endsL_get recs 0 n i
    have hel := endsL_len recs 0 n
    refine ⟨_, rfl, _, rfl, by rw [S_len, ez]; omega, _, 1, rfl, rfl, _, rfl, by rw [S_len]; omega, by rw [S_len]; omega, ?_⟩
    rw [S_len]
    refine for_range (lo := 0) (n := (((logL n recs).length : Int) + 1).toNat) (fun i σ H' => ∃ y4 y5 y6 y7, Same H H' ∧ σ = [some (.str (S (logL n recs))), some (.ref sm), some (.ref e), some (.int (n : Int)), y4, y5, y6, y7]) ⟨_, _, _, _, same_refl H, rfl⟩ (fun c σ H1 hc h => ?_) (fun σ H1 h => ?_)
    · obtain ⟨y4, y5, y6, y7, s1, rfl⟩ := h
      have hL1 := hL.same s1
      rw [Int.zero_add]
      refine ⟨_, rfl, e, rfl, ⟨_, SqL.of hL1.ends⟩, fun D hD => ?_⟩
      refine lc_list (xs := endV (endsL 0 n recs)) (fun i H' => Same H1 H' ∧ H' D = some (.lst (endV (((endsL 0 n recs).take i).filter fun x => decide (x ≤ c))))) ⟨same_new hD, by rw [upd_same]; rfl⟩ (fun i H' _ pp => SqL.of (pp.1 _ _ hL1.ends)) (fun i y H' hy pp => ?_) (fun H' pp => ?_)
      · obtain ⟨s2, e2⟩ := pp
        obtain ⟨x, hx, rfl⟩ : ∃ x : Nat, (endsL 0 n recs)[i]? = some x ∧ y = .int (x : Int) := by
          unfold endV at hy
          rw [List.getElem?_map] at hy
          cases ex : (endsL 0 n recs)[i]? with
          | none => rw [ex] at hy; cases hy
          | some x =>
            rw [ex] at hy
            exact ⟨x, rfl, (Option.some.inj hy).symm⟩
        have et : (endsL 0 n recs).take (i + 1) = (endsL 0 n recs).take i ++ [x] := by
          rw [List.take_succ, hx]
          rfl
        rw [et, List.filter_append]
        refine ⟨rfl, _, rfl, _, rfl, x, c, rfl, rfl, _, rfl, ?_⟩
        by_cases hxc : x ≤ c
        · rw [decide_eq_true (Int.ofNat_le.mpr hxc)]
          refine iteT ⟨_, rfl, _, e2, ?_, s2.mutN hD, ?_⟩
          · unfold endV
            rw [List.length_map, ez]
            have h1 := List.length_filter_le (fun x => decide (x ≤ c)) ((endsL 0 n recs).take i)
            rw [List.length_take, hel] at h1
            have h2 := hL.few
            omega
          · rw [upd_same, List.filter_cons_of_pos (by simpa using hxc)]
            unfold endV
            rw [List.map_append]
            rfl
        · rw [decide_eq_false (fun z => hxc (Int.ofNat_le.mp z))]
          refine iteF ⟨s2, ?_⟩
          rw [List.filter_cons_of_neg (by simpa using hxc), List.filter_nil, List.append_nil]
          exact e2
      · obtain ⟨s2, e2⟩ := pp
        have el : (endV (endsL 0 n recs)).length = recs.length := by
          unfold endV
          rw [List.length_map, hel]
        rw [el, ← hel, List.take_length] at e2
        have hk : (endV ((endsL 0 n recs).filter fun x => decide (x ≤ c))).length = cntE 0 n recs c := by
          unfold endV cntE
          rw [List.length_map]
        refine ⟨D, _, rfl, .inl (SqL.of e2), ?_⟩
        rw [hk]
        have hkr : cntE 0 n recs c ≤ recs.length := by
          have h := (cut_main recs n 0 c hL.good hL.small).1
          rw [Nat.zero_add] at h
          exact h
        have hpc' := hpc c
        generalize hkk : cntE 0 n recs c = k at hkr hpc' ⊢
        have s12 := s1.tr s2
        -- what is due
        refine ⟨(by show 0 ≤ sizeLine; decide), fun l hl => ⟨(by show 3 ≤ sizeLine; decide), fun t ht => ?_⟩⟩
        have s3 := same_new (o := .lst []) hl
        have e3 : (upd H' l (.lst [])) l = some (.lst []) := upd_same
        generalize upd H' l (.lst []) = H3 at s3 e3 ht ⊢
        have s4 := same_new (o := .tup [.non, .ref l, .int 0]) ht
        have e4 : (upd H3 t (.tup [.non, .ref l, .int 0])) t = some (.tup [.non, .ref l, .int 0]) := upd_same
        generalize upd H3 t (.tup [V.non, .ref l, .int 0]) = H4 at s4 e4 ⊢
        have s14 := s12.tr (s3.tr s4)
        have hL4 := hL.same s14
        refine ⟨fun σ' H5 => ∃ t', Same H H5 ∧ Dp K H5 (.ref t') (parD ((logL n recs).take c)) ∧ σ' = [some (.str (S (logL n recs))), some (.ref sm), some (.ref e), some (.int (n : Int)), some (.int (c : Int)), some (.int (k : Int)), some (.ref t'), y7], ?_, fun σ' H5 hm => ?_⟩
        · refine ⟨_, rfl, k, 0, rfl, rfl, _, rfl, ite2 (fun ck => ?_) (fun ck => ?_)⟩
          · have ck' : 0 < k := by have := of_decide_eq_true ck; omega
            refine ⟨_, rfl, _, rfl, _, rfl, k, rfl, sm, _, rfl, SqL.of hL4.some_, fun p hp => ?_⟩
            have s5 := same_new (o := .lst (cutV (qs.map V.ref) none (some (k : Int)))) hp
            have e5 : (upd H4 p (.lst (cutV (qs.map V.ref) none (some (k : Int))))) p = some (.lst ((qs.map V.ref).take k)) := by rw [upd_same, cutV_take]
            generalize upd H4 p (.lst (cutV (qs.map V.ref) none (some (k : Int)))) = H5 at s5 e5 ⊢
            have hL5 := hL4.same s5
            have eg := hce (k - 1) (by omega)
            rw [show k - 1 + 1 = k by omega, Nat.zero_add] at eg
            have eg2 : (endV (endsL 0 n recs))[k - 1]? = some (.int ((logL n (recs.take k)).length : Int)) := by
              unfold endV
              rw [List.getElem?_map, eg]
              rfl
            have ei : (k : Int) - 1 = ((k - 1 : Nat) : Int) := by omega
            refine ⟨_, rfl, _, rfl, k, 1, rfl, rfl, e, _, _, _, rfl, rfl, SqL.of hL5.ends, by rw [ei]; exact atI_nat eg2, (by show 3 ≤ sizeLine; decide), fun t2 ht2 => ?_⟩
            have s6 := same_new (o := .tup [.int (n : Int), .ref p, .int ((logL n (recs.take k)).length : Int)]) ht2
            refine ⟨t2, s14.tr (s5.tr s6), ?_, rfl⟩
            unfold parD
            rw [hpc', if_neg (by omega)]
            refine .tup (SqT.of upd_same) (.cons (.int _) (.cons (.lst (SqL.of (s6 _ _ e5)) ?_) (.cons (.int _) .nil)))
            show DpAll K _ ((qs.map V.ref).take k) ((recs.take k).map rowsD)
            rw [List.map_take]
            exact DpAll.take k (hL5.same s6).dp
          · have ck' : k = 0 := by
              have : ¬ ((k : Int) > 0) := fun z => ck (decide_eq_true z)
              omega
            refine ⟨t, s14, ?_, by rw [ck']; rfl⟩
            unfold parD
            rw [hpc', if_pos ck']
            exact .tup (SqT.of e4) (.cons .non (.cons (.lst (SqL.of (s4 _ _ e3)) .nil) (.cons (.int _) .nil)))
        · obtain ⟨t', s5, d5, rfl⟩ := hm
          refine ⟨_, rfl, _, rfl, (c : Int), rfl, _, rfl, by rw [S_len]; omega, ?_⟩
          rw [cut_take, tl_S]
          refine ⟨_, rfl, by rw [S_len, List.length_take]; omega, fun p5 r5 qs5 H6 s6 hp5 hr5 _ ep5 er5 ra5 => ?_⟩
          have P5 : ParAt ((logL n recs).take c) H5 H6 p5 qs5 r5 := ⟨hp5, hr5, ep5, er5, ra5⟩
          have l5 := (parD_lay ((logL n recs).take c)).shaped (by decide)
          refine ⟨_, rfl, _, _, P5.dp, Dp.same s6 d5, l5, l5, _, rfl, ?_⟩
          rw [(parD_lay ((logL n recs).take c)).eqv]
          refine iteF ?_
          exact ⟨_, _, _, _, s5.tr s6, rfl⟩
    · obtain ⟨y4, y5, y6, y7, s1, rfl⟩ := h
      exact q _ s1
end
end Lr
namespace Lr
open PySem PySem.Spec PyProof.Rows L2 Lf
/-! ### a sign taken out of a text -/
theorem replL_one (c : Nat) : ∀ l : List Nat, StrLaws.replL [c] [] l = l.filter fun d => decide (d ≠ c)
  | [] => StrLaws.replL_nil
  | d :: l => by
    by_cases e : d = c
    · subst e
      rw [StrLaws.replL_hit (by simp) (by simp), List.filter_cons_of_neg (by simp)]
      exact replL_one d l
    · rw [StrLaws.replL_miss (by simpa using e), List.filter_cons_of_pos (by simpa using e), replL_one c l]
section
variable {P : Program} {w : World} {K : PySem.W.Frag} {mg : Str → Option Value} {base : Heap}
/-- one sign of a text -/
def spPickS : Sp := fun vs H Q _ => ∃ (a : Addr) (z : Str), vs = [.ref a, .str z] ∧ FeedAt H a ∧ 0 < z.length ∧ z.length ≤ 1000 ∧ ∀ (c : Nat) (H' : Hp), c ∈ tl z → Kp a H H' → FeedAt H' a → Q (.str ⟨#[c]⟩) H'
theorem ok_pickS {f : Addr} {fd : FuncData} (F : Fun K "_law_pick" "_law_pick" sPick f fd) (T : Bs mg) (c__law_take : Callee P w K mg base 1 "_law_take" ["_law_feed_here", "_law_many"] spTake) : FnOk P w K mg base CX0 2 f fd ["_law_feed_here", "_law_some"] spPickS := by
  refine F.ok scPick (fun vs H Q E h => ?_) (fun cdv A outer s H vs Q E hr h => ?_)
  · obtain ⟨a, z, rfl, _⟩ := h
    rfl
  · obtain ⟨a, z, rfl, hF, h0, h1, q⟩ := h
    have nd := scPick.nd
    refine ⟨_, (pss_one (ps_ret (pe_ix ix_str (pv 1) (pe_own c__law_take (hr.mono (by decide)) (by rfl) (pa_cons (pv 0) (pa_cons (pe_callB call_len_str (by rfl) T.len PySem.boot_len (pa_cons (pv 1) pa_nil)) pa_nil))) (fun _ _ => rfl)))), ?_⟩
    have ez : sizeLine = 16777216 := by decide +kernel
    refine ⟨_, rfl, .ref a, rfl, _, rfl, z, rfl, by rw [ez]; omega, a, _, rfl, hF, by omega, Int.le_trans (b := 1000) (by omega) (by decide +kernel), fun v H1 k1 f1 v0 v1 => ?_⟩
    obtain ⟨c, mc, ec⟩ := atI_mem (xs := z.cps.toList) v0 (by have e := len_tl z; show v < (((tl z).length : Nat) : Int); omega)
    exact ⟨z, v, c, rfl, rfl, by rw [ez]; omega, ec, q c _ mc k1 f1⟩
/-- the signs -/
def sgs : Str := Str.ofString " !\"#$&'()*+,-./0123456789:;<=>?@ABCDEFGHIJKLMNOPQRSTUVWXYZ[\\]^_`abcdefghijklmnopqrstuvwxyz{|}~"
def spSgs : Sp := fun vs H Q _ => vs = [] ∧ Q (.str sgs) H
theorem ok_sgs {f : Addr} {fd : FuncData} (F : Fun K "_law_signs" "_law_signs" sSigns f fd) : FnOk P w K mg base CX0 1 f fd [] spSgs := by
  refine F.ok scSigns (fun vs H Q E h => ?_) (fun cdv A outer s H vs Q E hr h => ?_)
  · obtain ⟨rfl, _⟩ := h
    rfl
  · obtain ⟨rfl, q⟩ := h
    have nd := scSigns.nd
    refine ⟨_, (pss_one (ps_ret pe_str)), ?_⟩
    exact q
theorem sgs_ok : ∀ c ∈ tl sgs, signOk c := by decide +kernel
theorem sgs_len : sgs.length ≤ 100 := by decide +kernel
theorem sgs_two : 97 ∈ tl sgs ∧ 98 ∈ tl sgs := by decide +kernel
/-- the signs but one -/
theorem sgs_but (c : Nat) : tl (Txt.replace sgs ⟨#[c]⟩ Str.empty) = (tl sgs).filter fun d => decide (d ≠ c) := by
  have h := StrLaws.replace_list (x := sgs) (y := ⟨#[c]⟩) (z := Str.empty) (by show 1 ≤ 1; decide)
  show (Txt.replace sgs ⟨#[c]⟩ Str.empty).cps.toList = _
  rw [h]
  exact replL_one c _
abbrev sOther : Stmt := topS 21
theorem scOther : FnScope ["_law_feed_here", "_law_sign", "_law_signs_here"] ["_law_feed_here", "_law_sign"] (defScope sOther) := ⟨rfl, rfl, rfl, by decide +kernel, rfl, by decide +kernel, by decide +kernel⟩
/-- its promise, of a sign that is known as an object -/
def OtherRun (P : Program) (w : World) (K : PySem.W.Frag) (mg : Str → Option Value) (base : Heap) (k : Nat) (f : Addr) : Prop :=
  ∀ (A : Around) (outer : List Env) (s : Shared) (H : Hp) (a : Addr) (c : Nat) (t : Tok) (Q : VK) (E : XK), Room k A → Env0 P w K mg base A outer s H → t ≠ 0 → t < s.toks → FeedAt H a →
    (∀ (d : Nat) (H' : Hp), Kp a H H' → FeedAt H' a → d ≠ c → signOk d → Q (.str ⟨#[d]⟩) H') → codeAny (model P w) A (.call (.ref f) ⟨[.ref a, .str ⟨#[c]⟩ t], []⟩) (CR CX0 outer P w H s Q E) s
set_option maxHeartbeats 4000000 in
theorem other_run {f fS : Addr} {fd fdS : FuncData} (F : Fun K "_law_other" "_law_other" sOther f fd) (bF : Binds K fd ["_law_feed_here", "_law_sign"] []) (FS : FnOk P w K mg base CX0 1 fS fdS [] spSgs) (gS : mg "_law_signs" = some (.ref fS)) (kS : PySem.W.keepIn K (.ref fS) = true) (bS : Binds K fdS [] [])
    (c__law_pick : Callee P w K mg base 2 "_law_pick" ["_law_feed_here", "_law_some"] spPickS) : OtherRun P w K mg base 3 f := by
  obtain ⟨oc, od, kV, doc, pm, an, cdv, ct, osl, rfl, lk, hcd⟩ := F.ex
  intro A outer s H a c t Q E rm e0 ht0 hts hF q
  have inK : K.In s.heap := e0.mod.kin.keeps fun b o e => (e0.bs b o e).1
  have S := scOther
  refine codeAny_call_function rm.depth (inK _ _ lk) rfl S.co S.gen rfl (PySem.W.codeRec_of inK hcd) (bF s [.ref a, .str ⟨#[c]⟩ t] inK rfl _ _ _ _ ?_)
  refine PySem.wpAny_with_toks (Nat.le_refl s.toks) (wpAny_newFunctionEnv_cells S.kind (fun ⟨n, v⟩ hm => (S.par n (List.of_mem_zip hm).1).imp id fun c => ⟨c, PySem.W.cellsFrom_some _ _ _ (.inl c)⟩) fun env he s1 ic htk => ?_)
  subst he
  refine ⟨(e0.mod.nolimit.keeps fun b o e => (e0.bs b o e).1).keeps ic.toInCall.keep, codeAny_func ?_⟩
  have rv : Vals [V.ref a, .str ⟨#[c]⟩] [Value.ref a, .str ⟨#[c]⟩ t] := .cons rfl (.cons ⟨t, rfl⟩ .nil)
  obtain ⟨X, hX⟩ : ∃ X, X = cxOf CX0 P w K mg base ["_law_feed_here", "_law_sign", "_law_signs_here"] "_law_other" (defScope sOther) f cdv A outer s H E := ⟨_, rfl⟩
  have I : Inv (cxOf CX0 P w K mg base ["_law_feed_here", "_law_sign", "_law_signs_here"] "_law_other" (defScope sOther) f cdv A outer s H E) [] (start ["_law_feed_here", "_law_sign", "_law_signs_here"] [.ref a, .str ⟨#[c]⟩]) H s1 := inv_start S rm.hd e0 rfl rv ic
  have hn := ic.toInCall.ns
  have nd := S.nd
  have rm2 : Room 2 (A.deeper (envOfC "_law_other" (defScope sOther) s.heap.objs.size f cdv)) := rm.deeper _
  have m1 := bindL_get (kindOf := (envOfC "_law_other" (defScope sOther) s.heap.objs.size f cdv).kindOf) (x := "_law_sign") (v := Value.str ⟨#[c]⟩ t) (P := ["_law_feed_here", "_law_sign"]) (vs := [.ref a, .str ⟨#[c]⟩ t]) (i := 1) (m := fun _ => none) (by decide +kernel) rfl rfl rfl
  refine wpAny_execs_cons (wpAny_Assign_Name (PySem.Call_method2 rfl rfl rfl (wpAny_mono (PySem.wpAny_toks (Q := fun v s2 => Inv (cxOf CX0 P w K mg base ["_law_feed_here", "_law_sign", "_law_signs_here"] "_law_other" (defScope sOther) f cdv A outer s H E) [] (start ["_law_feed_here", "_law_sign", "_law_signs_here"] [.ref a, .str ⟨#[c]⟩]) H s2 ∧ s2.heap.Ns s.heap.objs.size (bindL (envOfC "_law_other" (defScope sOther) s.heap.objs.size f cdv).kindOf ((["_law_feed_here", "_law_sign"] : List Str).zip [Value.ref a, .str ⟨#[c]⟩ t]) fun _ => none) ∧ ∃ tx, v = Value.str sgs tx) ?_) (fun v s2 q2 => ?_) fun _ _ z => z.2)) ?_)
  · refine wpAny_Call_Name_kw (ld_glob I rfl gS ?_ (by decide))
    refine PySem.W.callWith_K0 I.kIn kS (wpAny_call (codeAny_mono (FS.run _ _ s1 H ⟨[], []⟩ [] [] (fun v H' => v = .str sgs ∧ H' = H) (fun _ _ _ => False) (rm2.mono (by decide)) I.env0 (bS s1 [] I.kIn rfl) .nil ⟨rfl, rfl, rfl⟩) fun r s' hq => ?_))
    cases r with
    | error e => exact False.elim hq
    | ok fl =>
      cases fl with
      | ret u =>
        obtain ⟨v, H2, os, bare, un, hok, r, rfl, rfl⟩ := hq
        refine ⟨I.call' (ch := []) os un hok bare (fun b z => absurd z (by simp)), ?_, ?_⟩
        · obtain ⟨o, es, ep, ho, r'⟩ := hn
          obtain ⟨sl, hL⟩ := un.any ho I.free (by simp)
          exact ⟨_, es, ep, hL, r'⟩
        · exact r
      | next => exact False.elim hq
      | brk => exact False.elim hq
      | cont => exact False.elim hq
  · obtain ⟨hk2, I2, hn2, tx, rfl⟩ := q2
    refine ⟨"str", _, PySem.F.plainAttrs_str, PySem.F.slot_str_replace, PySem.F.type_str_replace, typeIs_str _ _ _, (fun _ e => nomatch e), Calls.callWith_builtin rfl (Calls.evalArgs_plain (Calls.spliced_cons ?_))⟩
    refine wpAny_Name (wpAny_loadName_local S.kind rfl hn2 m1 ?_) (by decide)
    refine Calls.spliced_cons (Calls.Constant_str (Calls.spliced_nil ?_))
    have hz : (Str.ofString "" : Str) = Str.empty := by decide +kernel
    have sl := sgs_len
    have sl0 : (Str.empty : Str).length = 0 := by decide +kernel
    have ht2 : t < s2.toks := Nat.lt_of_lt_of_le hts (Nat.le_trans htk hk2)
    rw [hz]
    refine PySem.SC.replace ht0 (Nat.ne_of_gt (Nat.lt_of_le_of_lt (Nat.zero_le _) ht2)) (Nat.ne_of_lt ht2) ?_ (by rw [sl0]; omega) fun t' k => ?_
    · rw [beq_eq_false_iff_ne]
      intro z
      have := congrArg (fun x : Str => x.length) z
      rw [sl0] at this
      cases this
    refine store_ok (i := 2) (x := "_law_signs_here") (v := V.str (Txt.replace sgs ⟨#[c]⟩ Str.empty)) (I2.tok k) nd rfl (Or.inl rfl) ⟨t', rfl⟩ (fun s3 I3 => ?_)
    have hlen : 0 < (Txt.replace sgs ⟨#[c]⟩ Str.empty).length ∧ (Txt.replace sgs ⟨#[c]⟩ Str.empty).length ≤ 1000 := by
      rw [len_tl, sgs_but]
      have h1 := List.length_filter_le (fun d => decide (d ≠ c)) (tl sgs)
      rw [← len_tl] at h1
      refine ⟨List.length_pos_iff.mpr fun z => ?_, by omega⟩
      rw [List.filter_eq_nil_iff] at z
      have z1 := z 97 sgs_two.1
      have z2 := z 98 sgs_two.2
      simp at z1 z2
      omega
    have hret : PSs (cxOf CX0 P w K mg base ["_law_feed_here", "_law_sign", "_law_signs_here"] "_law_other" (defScope sOther) f cdv A outer s H E).nox [(defBody sOther).getD 1 (.Pass ⟨0, 0, 0, 0⟩)] _ := pss_one (ps_ret (pe_own c__law_pick rm2 (by rfl) (pa_cons (pv 0) (pa_cons (pv 2) pa_nil))))
    refine wpAny_mono (hret.nox.run [] s3 _ H { nx := fun _ H' => Q .non H', rt := Q } I3 ?_) (fun fl s' hs => ?_) fun _ _ h => h
    · refine ⟨.ref a, rfl, _, rfl, a, _, rfl, hF, hlen.1, hlen.2, fun d H' hd k' f' => ?_⟩
      rw [sgs_but] at hd
      have hd2 := List.mem_filter.mp hd
      exact q d H' k' f' (of_decide_eq_true hd2.2) (sgs_ok d hd2.1)
    · cases fl with
      | ret u => exact let ⟨v, _, H', J, r, q⟩ := hs; ⟨v, H', J.os, J.bare, J.base, J.hok, r, q⟩
      | next => exact let ⟨_, H', J, q⟩ := hs; ⟨V.non, H', J.os, J.bare, J.base, J.hok, rfl, q⟩
      | brk => exact (let ⟨_, _, _, q⟩ := hs; q : False).elim
      | cont => exact (let ⟨_, _, _, q⟩ := hs; q : False).elim
  · rfl
end
end Lr
namespace Lr
open PySem PySem.Spec PyProof.Rows L2 Lf
section
variable {X : Cx}
/-- behind a stored number a token is out -/
theorem pss_int {rest : List Stmt} {u : TS} {i : Nat} {n : Int} {j : Nat} {x : Str} {cpos pos' pos : Pos} (hN : X.N.Nodup) (hi : X.N[i]? = some x) (hx : Loc X.env.scope x) (h2 : PSsT X rest u)
    (hs : swapsWith (.Constant (.int n) j cpos) (some (.Name x pos')) pos.line X.env = pure false := by rfl) (hf : X.fn x = true ∨ X.env.scope.names.lookup x = some .local := by first | exact .inl rfl | exact .inr rfl | assumption) :
    PSs X (.Assign [.Name x pos'] (.Constant (.int n) j cpos) pos :: rest) (tSeq (tAsg (tC (.int n)) (gName i)) u) := by
  refine ⟨fun pins s σ H D I h => ?_⟩
  refine wpAny_execs_cons (wpAny_Assign_Name (wpAny_Constant_int ?_) hs)
  refine wpAny_mono (PySem.wpAny_toks (store_ok (v := V.int n) (u := Value.int n s.toks) (Q := fun _ s2 => Inv X pins (σ.set i (some (V.int n))) H s2) (I.tok (s.toks + 1)) hN hi hx ⟨s.toks, rfl⟩ (fun _ I2 => I2) hf)) (fun _ s2 q => ?_) fun _ _ z => z.2
  have hk : s.toks + 1 ≤ s2.toks := q.1
  exact h2 pins s2 _ H D (Nat.le_trans (Nat.le_add_left 1 _) hk) q.2 h
theorem psst_cut {st : Stmt} {rest : List Stmt} {t u : TS} (h1 : PST X st t) (h2 : PSsT X rest u) : PSsT X (st :: rest) (Evl.tCut t u) := by
  intro pins s σ H D h0 I h
  obtain ⟨Mid, hm, hu⟩ := h
  refine wpAny_execs_cons (wpAny_mono (PySem.wpAny_toks (h1 pins s σ H { D with nx := Mid } h0 I hm)) (fun f s1 q => ?_) fun _ _ x => x.2)
  obtain ⟨hk, q⟩ := q
  cases f with
  | next =>
    obtain ⟨σ', H', I', q⟩ := q
    exact h2 pins s1 σ' H' D (Nat.le_trans h0 hk) I' (hu σ' H' q)
  | ret v => exact q
  | brk => exact q
  | cont => exact q
theorem pst_set {i : Nat} {x : Str} {e : Expr} {te : TE} {pos pos' : Pos} (hN : X.N.Nodup) (hi : X.N[i]? = some x) (hx : Loc X.env.scope x) (he : PET X e te) (hs : swapsWith e (some (.Name x pos')) pos.line X.env = pure false := by rfl) (hf : X.fn x = true ∨ X.env.scope.names.lookup x = some .local := by first | exact .inl rfl | exact .inr rfl | assumption) :
    PST X (.Assign [.Name x pos'] e pos) (tAsg te (gName i)) := by
  intro pins s σ H D h0 I h
  refine wpAny_Assign_Name (thn (he pins s σ H _ h0 I h) fun v s1 ⟨y, H1, I1, r1, q1⟩ => ?_) hs
  exact store_ok I1 hN hi hx r1 (fun s2 I2 => ⟨_, H1, I2, q1⟩) hf
/-- _law_other(feed, log[place]) -/
def tOth (i j l : Nat) : TE := fun σ H Q => ∃ (a : Addr) (z : Str) (k : Int) (c : Nat), σ[i]? = some (some (.ref a)) ∧ σ[j]? = some (some (.str z)) ∧ σ[l]? = some (some (.int k)) ∧ z.length ≤ sizeLine ∧ atI z.cps.toList k = some c ∧ FeedAt H a ∧
  ∀ (d : Nat) (H' : Hp), Kp a H H' → FeedAt H' a → d ≠ c → signOk d → Q (.str ⟨#[d]⟩) H'
theorem pet_oth {k i j l : Nat} {f : Addr} {fx xi xj xl : Str} {pf p1 p2 p3 q0 pos : Pos} (R : OtherRun X.prog X.w X.K X.mg X.base k f) (hr : Room k X.A) (hg : Gl X fx) (hm : X.mg fx = some (.ref f)) (hk : PySem.W.keepIn X.K (.ref f) = true)
    (hNi : X.N[i]? = some xi) (hvi : Vis X.env.scope xi) (hNj : X.N[j]? = some xj) (hvj : Vis X.env.scope xj) (hNl : X.N[l]? = some xl) (hvl : Vis X.env.scope xl) (hs : PlainIx (.Name xl p3))
    (hdb : (fx == ("__debug__" : Str)) = false := by decide) (di : (xi == ("__debug__" : Str)) = false := by decide) (ci : (xi == ("__classdict__" : Str)) = false := by decide) (dj : (xj == ("__debug__" : Str)) = false := by decide) (cj : (xj == ("__classdict__" : Str)) = false := by decide)
    (dl : (xl == ("__debug__" : Str)) = false := by decide) (cl : (xl == ("__classdict__" : Str)) = false := by decide) :
    PET X (.Call (.Name fx pf) [.Name xi p1, .Subscript (.Name xj p2) (.Name xl p3) q0] [] pos) (tOth i j l) := by
  intro pins s σ H Q h0 I h
  obtain ⟨a, z, n, c, hi, hj, hl, hz, hc, hF, q⟩ := h
  refine wpAny_Call_Name_kw (ld_glob I hg hm ?_ hdb)
  refine PySem.W.callWith_K (h₀ := X.base) I.ok.mod.kin hk ?_ rfl rfl
  show wpAny _ _ (spliced ((false, eval (.Name xi p1) X.env) :: backTo pos (starEach [.Subscript (.Name xj p2) (.Name xl p3) q0] X.env))) _ _ s
  refine Calls.spliced_cons (raw_name hNi hvi I hi (fun v r => ?_) di ci)
  obtain rfl : v = Value.ref a := r
  show wpAny _ _ (spliced ((false, eval (.Subscript (.Name xj p2) (.Name xl p3) q0) X.env) :: backTo pos (starEach [] X.env))) _ _ _
  refine Calls.spliced_cons (Subscript_ (raw_name hNj hvj I hj (fun v r => raw_name hNl hvl I hl (fun v' r' => ?_) dl cl) dj cj))
  obtain ⟨t, rfl⟩ := r
  obtain ⟨t', rfl⟩ := r'
  obtain ⟨j', h1, h2, h3, h4, h5⟩ := atI_get hc
  have hll : z.cps.toList.length = z.length := by simp [Str.length]
  rw [hll] at h1 h4 h5
  have hn := line63
  refine tail_any (typeIs_str s z t) slot_str_getitem.lookup (getItem_str (c := c) (by
    have e1 : decide (n < -(2 ^ 63 : Int)) = false := decide_eq_false (by omega)
    have e2 : decide (n ≥ 2 ^ 63) = false := decide_eq_false (by omega)
    rw [e1, e2, Bool.or_false]) (by rw [h1]; simpa using h2) ?_) (hs _ _)
  refine Calls.spliced_nil ?_
  have I2 : Inv X pins σ H { s with toks := s.toks + 1 } := I.tok _
  refine ⟨I2.kIn, wpAny_call (codeAny_mono (R X.A X.stack { s with toks := s.toks + 1 } H a c s.toks Q (fun _ _ _ => False) hr I2.env0 (Nat.ne_of_gt h0) (Nat.lt_succ_self _) hF q) fun r s' hq => ?_)⟩
  cases r with
  | error e => exact False.elim hq
  | ok fl =>
    cases fl with
    | ret u => exact I2.after hq
    | next => exact False.elim hq
    | brk => exact False.elim hq
    | cont => exact False.elim hq
end
end Lr
namespace Lr
open PySem PySem.Spec PyProof.Rows L2 Lf
theorem find0 (x : Str) (c : Nat) : Txt.find x ⟨#[c]⟩ = (match ix c (tl x) with | some k => ((k : Nat) : Int) | none => -1) := by
  unfold Txt.find
  rw [StrLaws.occ_eq, occ_ix x c x.length (Nat.le_refl _) _ 0 0 (Nat.le_refl _) rfl, List.drop_zero, Nat.sub_zero, List.take_of_length_le (by rw [← len_tl]; exact Nat.le_refl _)]
  cases ix c (tl x) with
  | none => rfl
  | some k =>
    show ((0 + k : Nat) : Int) = _
    rw [Nat.zero_add]
theorem cutS_drop (x : Str) (n : Nat) : cutS x (some (n : Int)) none = S ((tl x).drop n) := by
  refine TL.ext_tl ?_
  show ((tl x).drop (HT.sIx x.length 0 (some (n : Int)))).take (HT.sIx x.length x.length none - HT.sIx x.length 0 (some (n : Int))) = (tl x).drop n
  rw [HT.sIx_none, HT.sIx_nat]
  have hl := len_tl x
  rcases Nat.le_total n x.length with h | h
  · rw [Nat.min_eq_left h, List.take_of_length_le]
    rw [List.length_drop]
    omega
  · rw [Nat.min_eq_right h, List.drop_of_length_le (by omega), List.drop_of_length_le (by omega), List.take_nil]
theorem logL_split : ∀ {recs : List (List (List Nat))} {n i : Nat} {r : List (List Nat)}, recs[i]? = some r → ∃ B, logL n recs = logL n (recs.take i) ++ (recL (n + i) r ++ B) ∧ logL n (recs.take (i + 1)) = logL n (recs.take i) ++ recL (n + i) r
  | [], _, _, _, h => by cases h
  | x :: xs, n, 0, r, h => by
    cases Option.some.inj h
    refine ⟨logL (n + 1) xs, rfl, ?_⟩
    show recL n x ++ [] = [] ++ recL n x
    simp
  | x :: xs, n, i + 1, r, h => by
    obtain ⟨B, e1, e2⟩ := logL_split (recs := xs) (n := n + 1) (i := i) h
    refine ⟨B, ?_, ?_⟩
    · show recL n x ++ logL (n + 1) xs = recL n x ++ logL (n + 1) (xs.take i) ++ _
      rw [e1, show n + 1 + i = n + (i + 1) by omega, List.append_assoc]
    · show recL n x ++ logL (n + 1) (xs.take (i + 1)) = recL n x ++ logL (n + 1) (xs.take i) ++ _
      rw [e2, show n + 1 + i = n + (i + 1) by omega, List.append_assoc]
theorem joinL_signs {rows : List (List Nat)} (h : ∀ r ∈ rows, rowOk r) : ∀ c ∈ joinL [10] rows, c < 1000 := by
  induction rows with
  | nil => intro c hc; cases hc
  | cons x xs ih =>
    have hx : ∀ c ∈ x, c < 1000 := fun c hc => by
      have h1 : 32 ≤ c ∧ c ≤ 126 := (h x (List.mem_cons_self ..)).2 c hc
      omega
    cases xs with
    | nil => exact hx
    | cons y ys =>
      intro c hc
      have hc' : c ∈ x ++ ([10] ++ joinL [10] (y :: ys)) := hc
      rcases List.mem_append.mp hc' with hc | hc
      · exact hx c hc
      · rcases List.mem_append.mp hc with hc | hc
        · rw [List.mem_singleton.mp hc]
          decide
        · exact ih (fun r hr => h r (List.mem_cons_of_mem _ hr)) c hc
theorem joinL_first {rows : List (List Nat)} (hne : rows ≠ []) (h : ∀ r ∈ rows, rowOk r) : ∃ c, (joinL [10] rows)[0]? = some c ∧ c ≠ 10 := by
  cases rows with
  | nil => exact absurd rfl hne
  | cons x xs =>
    have hx := h x (List.mem_cons_self ..)
    cases x with
    | nil => exact absurd rfl hx.1
    | cons c cs =>
      have h1 : 32 ≤ c ∧ c ≤ 126 := hx.2 c (List.mem_cons_self ..)
      refine ⟨c, ?_, by omega⟩
      cases xs with
      | nil => rfl
      | cons y ys => rfl
/-- the places of a record's rows but of the line feeds -/
def spotN (body : List Nat) (k : Nat) : List Nat := (List.range k).filter fun j => decide (body[j]? ≠ some 10)
def spotV (bs : Nat) (l : List Nat) : List V := l.map fun j => V.int ((bs + j : Nat) : Int)
section
variable {P : Program} {w : World} {K : PySem.W.Frag} {mg : Str → Option Value} {base : Heap}
def spExch : Sp := fun vs H Q _ => ∃ (a : Addr) (n : Nat) (recs : List (List (List Nat))) (sm e : Addr) (qs : List Addr) (H0 : Hp), vs = [.ref a, .str (S (logL n recs)), .ref sm, .ref e, .int (n : Int)] ∧ FeedAt H a ∧ FeedAt H0 a ∧ LogAt H0 H n recs sm e qs ∧ recs ≠ [] ∧ sm ≠ a ∧ e ≠ a ∧
  ∀ H', Kp a H H' → FeedAt H' a → Q (.bl true) H'
abbrev sExch : Stmt := topS 22
theorem scExch : FnScope ["_law_feed_here", "_law_log", "_law_some", "_law_ends", "_law_number", "_law_at", "_law_begin", "_law_body", "_law_place", "_law_spots", "_law_spoilt", "_law_due"] ["_law_feed_here", "_law_log", "_law_some", "_law_ends", "_law_number"] (defScope sExch) := ⟨rfl, rfl, rfl, by decide +kernel, rfl, by decide +kernel, by decide +kernel⟩
set_option maxHeartbeats 4000000 in
theorem ok_exch {f fO : Addr} {fd : FuncData} (F : Fun K "_law_exchanged_right" "_law_exchanged_right" sExch f fd) (T : Bs mg) (c__law_take : Callee P w K mg base 1 "_law_take" ["_law_feed_here", "_law_many"] spTake) (c__law_pick : Callee P w K mg base 2 "_law_pick" ["_law_feed_here", "_law_some"] (spPick K))
    (RO : OtherRun P w K mg base 3 fO) (gO : mg "_law_other" = some (.ref fO)) (kO : PySem.W.keepIn K (.ref fO) = true) (c_parsed : Callee P w K mg base 4 "parsed" ["log"] spPar) : FnOk P w K mg base CX0 5 f fd ["_law_feed_here", "_law_log", "_law_some", "_law_ends", "_law_number"] spExch := by
  refine F.ok scExch (fun vs H Q E h => ?_) (fun cdv A outer s H vs Q E hr h => ?_)
  · obtain ⟨a, n, recs, sm, e, qs, H0, rfl, _⟩ := h
    rfl
  · obtain ⟨a, n, recs, sm, e, qs, H0, rfl, hF, hF0, hL, hne, hsa, hea, q⟩ := h
    have nd := scExch.nd
    refine ⟨_, (pss_cons (ps_set (i := 5) nd rfl (Or.inl rfl) (pe_own c__law_take (hr.mono (by decide)) (by rfl) (pa_cons (pv 0) (pa_cons (pe_callB call_len_seq (by rfl) T.len PySem.boot_len (pa_cons (pv 2) pa_nil)) pa_nil))))
 (pss_int (i := 6) nd rfl (Or.inl rfl)
 (psst_cut (PST.of (ps_if (pt_cmpR op_gt (pv 5) pe_int (nomark _))
  (pss_one (ps_set (i := 6) nd rfl (Or.inl rfl) (pe_ix ix_list (pv 3) (pe_op op_sub (pv 5) pe_int) (fun _ _ => rfl))))
  pss_nil))
 (psst_cons (PST.of (ps_set (i := 7) nd rfl (Or.inl rfl) (pe_op op_add (pe_op op_add (pv 6) (pe_bm PySem.F.plainAttrs_str PySem.F.slot_str_find PySem.F.type_str_find mt_find (pe_slice sl_str (pv 1) (po_some (pv 6)) po_none) (pa_cons pe_str pa_nil))) pe_int)))
 (psst_cons (PST.of (ps_setLc (i := 9) (own := [("_law_place", 8)]) (g := gName 8) rfl nd rfl rfl (sw_true rfl rfl rfl (by decide +kernel)) (pi_range2 (by rfl) T.range (pa_cons (pv 7) (pa_cons (pe_op op_sub (pe_ix ix_list (pv 3) (pv 5) (fun _ _ => rfl)) pe_int) pa_nil))) (blkOk_by (own := [("_law_place", 8)]) (N := ["_law_feed_here", "_law_log", "_law_some", "_law_ends", "_law_number", "_law_at", "_law_begin", "_law_body", "_law_place", "_law_spots", "_law_spoilt", "_law_due"]) (sc := defScope (topS 22)) (by decide +kernel)) (fun _ _ _ _ _ => (pg_name (i := 8) nd rfl (Or.inl rfl))) (fun _ _ _ _ _ => (pts_one (pt_cmpR op_ne (pe_ix ix_str (pv 1) (pv 8) (fun _ _ => rfl)) pe_str (nomark _)))) (fun _ _ _ _ _ => (pv 8))))
 (psst_cons (PST.of (ps_set (i := 8) nd rfl (Or.inl rfl) (pe_own c__law_pick (hr.mono (by decide)) (by rfl) (pa_cons (pv 0) (pa_cons (pv 9) pa_nil)))))
 (psst_cons (pst_set (i := 10) nd rfl (Or.inl rfl) (CwR.pet_op op_add_str (CwR.pet_op op_add_str (CwR.PET.of (pe_slice sl_str (pv 1) po_none (po_some (pv 8)))) (pet_oth (i := 0) (j := 1) (l := 8) (fx := "_law_other") (xi := "_law_feed_here") (xj := "_law_log") (xl := "_law_place") RO (hr.mono (by decide)) (by rfl) gO kO rfl (by first | exact Or.inl rfl | exact Or.inr rfl | exact Or.inr (Or.inl rfl) | exact Or.inr (Or.inr rfl)) rfl (by first | exact Or.inl rfl | exact Or.inr rfl | exact Or.inr (Or.inl rfl) | exact Or.inr (Or.inr rfl)) rfl (by first | exact Or.inl rfl | exact Or.inr rfl | exact Or.inr (Or.inl rfl) | exact Or.inr (Or.inr rfl)) (fun _ _ => rfl))) (CwR.PET.of (pe_slice sl_str (pv 1) (po_some (pe_op op_add (pv 8) pe_int)) po_none))))
 (psst_cons (PST.of (ps_set (i := 11) nd rfl (Or.inl rfl) (pe_tup (pa_cons pe_non (pa_cons (pe_lst pa_nil) (pa_cons pe_int pa_nil))))))
 (psst_cut (PST.of (ps_if (pt_cmpR op_gt (pv 5) pe_int (nomark _))
  (pss_one (ps_set (i := 11) nd rfl (Or.inl rfl) (pe_tup (pa_cons (pv 4) (pa_cons (pe_slice sl_list (pv 2) po_none (po_some (pv 5))) (pa_cons (pv 6) pa_nil))))))
  pss_nil))
 (CwR.psst_one (PST.of (ps_ret (pe_cmpR (op_eqD hr.units) (pe_own c_parsed (hr.mono (by decide)) (by rfl) (pa_cons (pv 10) pa_nil)) (pv 11) (nomark _)))))))))))))), ?_⟩
    have ez : sizeLine = 16777216 := by decide +kernel
    have big : ∀ n : Int, n ≤ 10 ^ 9 → n ≤ 10 ^ 60 := fun n hn => Int.le_trans hn (by decide +kernel)
    have hlq := hL.rows.len
    have hlen := hL.len
    have hrl : 0 < recs.length := List.length_pos_iff.mpr hne
    have hlog := logL_len recs n
    -- at
    refine ⟨.ref a, rfl, _, rfl, sm, _, rfl, .inl (SqL.of hL.some_), a, _, rfl, hF, by rw [List.length_map]; omega, big _ (by rw [List.length_map]; omega), fun v1 H1 k1 f1 v10 v11 => ?_⟩
    obtain ⟨i, rfl⟩ := Int.eq_ofNat_of_zero_le v10
    rw [List.length_map] at v11
    have hi : i < recs.length := by omega
    obtain ⟨r, hr'⟩ : ∃ r, recs[i]? = some r := ⟨recs[i], List.getElem?_eq_getElem hi⟩
    have g := hL.good r (List.mem_of_getElem? hr')
    obtain ⟨B, eL, eL2⟩ := logL_split (n := n) hr'
    have hdr := hL.drawn r (List.mem_of_getElem? hr')
    have hbl := Drawn.len hdr.2.2 hdr.2.1
    have hbl2 := joinL_len [10] r
    rw [show [10].length = 1 from rfl] at hbl2
    have hsig := joinL_signs g.2.1
    have hfst := joinL_first g.1 g.2.1
    have hps := fun j d B => parse_spoilt (n := n) (i := i) (j := j) (d := d) (B := B) hL.good hL.small hr'
    rw [recL_pre] at eL eL2
    obtain ⟨A, hA⟩ : ∃ A, A = logL n (recs.take i) := ⟨_, rfl⟩
    obtain ⟨pre, hpre⟩ : ∃ pre, pre = preL (n + i) (joinL [10] r).length (chkL (headL (n + i) (joinL [10] r).length (joinL [10] r))) := ⟨_, rfl⟩
    have hix : ∀ R, ix 61 (pre ++ R) = some (pre.length - 1) := fun R => by rw [hpre]; exact preL_ix _ _ _ R
    have hpl : 1 ≤ pre.length := by
      rw [hpre]
      unfold preL
      simp only [List.length_append, List.length_cons, List.length_nil]
      omega
    rw [← hA] at eL eL2 hps
    rw [← hpre] at eL eL2 hps
    generalize joinL [10] r = body at *
    have hLl : (logL n recs).length = A.length + pre.length + body.length + 1 + B.length := by
      rw [eL]
      simp only [List.length_append, List.length_cons, List.length_nil]
      omega
    have hbs : A.length + pre.length + body.length + 1 ≤ 1600 := by omega
    have eE : (endsL 0 n recs)[i]? = some (A.length + pre.length + body.length + 1) := by
      rw [endsL_get recs 0 n i hi, eL2]
      simp only [List.length_append, List.length_cons, List.length_nil]
      congr 1
      omega
    have eV : (endV (endsL 0 n recs))[i]? = some (.int ((A.length + pre.length + body.length + 1 : Nat) : Int)) := by
      unfold endV
      rw [List.getElem?_map, eE]
      rfl
    have eA : 0 < i → (endV (endsL 0 n recs))[i - 1]? = some (.int ((A.length : Nat) : Int)) := fun h0 => by
      unfold endV
      rw [List.getElem?_map, endsL_get recs 0 n (i - 1) (by omega), show i - 1 + 1 = i by omega, ← hA, Nat.zero_add]
      rfl
    have eA0 : i = 0 → A.length = 0 := fun h0 => by rw [hA, h0]; rfl
    have hL1s := k1 _ _ hsa hL.some_
    have hL1e := k1 _ _ hea hL.ends
    -- begin
    refine ⟨fun σ' H' => H' = H1 ∧ σ' = [some (.ref a), some (.str (S (logL n recs))), some (.ref sm), some (.ref e), some (.int (n : Int)), some (.int (i : Int)), some (.int (A.length : Int)), none, none, none, none, none], ?_, fun σ' H' hm => ?_⟩
    · refine ⟨_, rfl, (i : Int), 0, rfl, rfl, _, rfl, ite2 (fun ci => ?_) (fun ci => ?_)⟩
      · have ci' : 0 < i := by have := of_decide_eq_true ci; omega
        have ei : (i : Int) - 1 = ((i - 1 : Nat) : Int) := by omega
        exact ⟨_, rfl, _, rfl, (i : Int), 1, rfl, rfl, e, _, _, _, rfl, rfl, SqL.of hL1e, by rw [ei]; exact atI_nat (eA ci'), rfl, rfl⟩
      · have ci' : i = 0 := by
          have : ¬ ((i : Int) > 0) := fun z => ci (decide_eq_true z)
          omega
        refine ⟨rfl, ?_⟩
        rw [eA0 ci']
        rfl
    obtain ⟨rfl, rfl⟩ := hm
    have eDrop : (logL n recs).drop A.length = pre ++ (body ++ [10] ++ B) := by
      rw [eL, List.drop_left]
      simp only [List.append_assoc]
    have hSl : (S (logL n recs)).length ≤ sizeLine := by rw [S_len, ez]; omega
    -- body
    refine ⟨_, rfl, _, rfl, _, rfl, (A.length : Int), rfl, _, rfl, hSl, rfl, _, _, rfl, rfl, ?_⟩
    have e61 : (Str.ofString "=" : Str) = ⟨#[61]⟩ := by decide +kernel
    have eF : Txt.find (cutS (S (logL n recs)) (some (A.length : Int)) none) "=" = ((pre.length - 1 : Nat) : Int) := by
      show Txt.find _ (Str.ofString "=") = _
      rw [e61, find0, cutS_drop, tl_S, tl_S, eDrop, hix]
    rw [eF]
    refine ⟨_, _, rfl, rfl, _, 1, rfl, rfl, ?_⟩
    have eB : (A.length : Int) + ((pre.length - 1 : Nat) : Int) + 1 = ((A.length + pre.length : Nat) : Int) := by omega
    dsimp only
    rw [eB]
    obtain ⟨bs, hbs'⟩ : ∃ bs, bs = A.length + pre.length := ⟨_, rfl⟩
    rw [← hbs']
    have eBody : ∀ j, j < body.length → (logL n recs)[bs + j]? = body[j]? := fun j hj => by
      have e1 : logL n recs = (A ++ pre) ++ (body ++ ([10] ++ B)) := by
        rw [eL]
        simp only [List.append_assoc]
      rw [e1, hbs', ← List.length_append, List.getElem?_append_right (Nat.le_add_right _ _), Nat.add_sub_cancel_left, List.getElem?_append_left hj]
    -- the spots
    refine ⟨_, rfl, _, rfl, _, rfl, e, _, _, _, rfl, rfl, SqL.of hL1e, atI_nat eV, _, 1, rfl, rfl, (bs : Int), _, rfl, ⟨by omega, by omega, by omega, by omega⟩, fun D hD => ?_⟩
    have eN : (((A.length + pre.length + body.length + 1 : Nat) : Int) - 1 - (bs : Int)).toNat = body.length := by omega
    rw [eN]
    have hDa := f1.ne hD
    have hz10 : (Str.ofString "\n" : Str) = ⟨#[10]⟩ := by decide +kernel
    refine lc_range (lo := (bs : Int)) (n := body.length) (fun k H2 => Same H' H2 ∧ H2 D = some (.lst (spotV bs (spotN body k)))) ⟨same_new hD, by rw [upd_same]; rfl⟩ (fun k H2 hk pp => ?_) (fun H2 pp => ?_)
    · obtain ⟨s2, e2⟩ := pp
      obtain ⟨c, hc⟩ : ∃ c, body[k]? = some c := ⟨body[k], List.getElem?_eq_getElem hk⟩
      have hlk := eBody k hk
      rw [hc] at hlk
      have ek : (bs : Int) + (k : Int) = ((bs + k : Nat) : Int) := by omega
      rw [ek]
      refine ⟨rfl, _, rfl, _, rfl, S (logL n recs), ((bs + k : Nat) : Int), c, rfl, rfl, hSl, atI_nat hlk, rfl, _, rfl, ?_⟩
      have esp : spotN body (k + 1) = spotN body k ++ (if c = 10 then [] else [k]) := by
        unfold spotN
        rw [List.range_succ, List.filter_append]
        congr 1
        by_cases h10 : c = 10
        · rw [if_pos h10, List.filter_cons_of_neg (by rw [hc, h10]; simp), List.filter_nil]
        · rw [if_neg h10, List.filter_cons_of_pos (by rw [hc]; simpa using h10), List.filter_nil]
      rw [esp]
      by_cases h10 : c = 10
      · rw [if_pos h10, List.append_nil]
        have ed : decide (V.str ⟨#[c]⟩ = V.str (Str.ofString "\n")) = true := by rw [hz10, h10]; exact decide_eq_true rfl
        rw [ed]
        exact iteF ⟨s2, e2⟩
      · rw [if_neg h10]
        have ed : decide (V.str ⟨#[c]⟩ = V.str (Str.ofString "\n")) = false := decide_eq_false fun z => by
          rw [hz10] at z
          injection z with z
          have z2 : tl (⟨#[c]⟩ : Str) = tl (⟨#[10]⟩ : Str) := by rw [z]
          have z3 : [c] = [10] := z2
          injection z3 with z3
          exact h10 z3
        rw [ed]
        refine iteT ⟨_, rfl, _, e2, ?_, s2.mutN hD, ?_⟩
        · unfold spotV
          rw [List.length_map, ez]
          unfold spotN
          have h1 := List.length_filter_le (fun j => decide (body[j]? ≠ some 10)) (List.range k)
          rw [List.length_range] at h1
          omega
        · rw [upd_same]
          unfold spotV
          rw [List.map_append]
          rfl
    · obtain ⟨s2, e2⟩ := pp
      have f2 := f1.same s2
      have hsp : 0 < (spotV bs (spotN body body.length)).length ∧ (spotV bs (spotN body body.length)).length ≤ 1000 := by
        unfold spotV
        rw [List.length_map]
        obtain ⟨c, hc0, hc10⟩ := hfst
        have hb0 : 0 < body.length := by
          rcases Nat.eq_zero_or_pos body.length with z | z
          · rw [List.length_eq_zero_iff.mp z] at hc0
            cases hc0
          · exact z
        refine ⟨List.length_pos_iff.mpr fun z => ?_, ?_⟩
        · unfold spotN at z
          rw [List.filter_eq_nil_iff] at z
          have := z 0 (List.mem_range.mpr hb0)
          rw [hc0] at this
          simp at this
          exact hc10 this
        · unfold spotN
          have h1 := List.length_filter_le (fun j => decide (body[j]? ≠ some 10)) (List.range body.length)
          rw [List.length_range] at h1
          omega
      -- the place
      refine ⟨.ref a, rfl, .ref D, rfl, a, D, _, rfl, f2, hDa, SqL.of e2, hsp.1, hsp.2, fun ix v H3 hv k3 f3 => ?_⟩
      obtain ⟨j, rfl, hj, hj10⟩ : ∃ j, v = .int ((bs + j : Nat) : Int) ∧ j < body.length ∧ body[j]? ≠ some 10 := by
        have hm := List.mem_of_getElem? hv
        unfold spotV at hm
        obtain ⟨j, hj, rfl⟩ := List.mem_map.mp hm
        unfold spotN at hj
        have hf := List.mem_filter.mp hj
        exact ⟨j, rfl, List.mem_range.mp hf.1, of_decide_eq_true hf.2⟩
      obtain ⟨c, hc⟩ : ∃ c, body[j]? = some c := ⟨body[j], List.getElem?_eq_getElem hj⟩
      have hlj := eBody j hj
      rw [hc] at hlj
      have kk := (k1.trans s2.kp).trans k3
      -- the spoilt log
      refine ⟨_, rfl, _, rfl, ((bs + j : Nat) : Int), rfl, _, rfl, hSl, a, S (logL n recs), ((bs + j : Nat) : Int), c, rfl, rfl, rfl, hSl, atI_nat hlj, f3, fun d H4 k4 f4 hdc hds => ?_⟩
      rw [cut_take, tl_S]
      have hd1000 : d < 1000 := by
        unfold signOk at hds
        omega
      refine ⟨_, _, rfl, rfl, ?_, _, rfl, _, rfl, _, 1, rfl, rfl, (((bs + j : Nat) : Int) + 1), rfl, _, rfl, hSl, ?_⟩
      · rw [S_len, List.length_take, ez]
        show min _ _ + 1 ≤ _
        omega
      have ej : ((bs + j : Nat) : Int) + 1 = ((bs + j + 1 : Nat) : Int) := by omega
      dsimp only
      rw [ej, cutS_drop, tl_S]
      have eSp : S ((logL n recs).take (bs + j)) ++ ⟨#[d]⟩ ++ S ((logL n recs).drop (bs + j + 1)) = S (A ++ (pre ++ (body.set j d ++ [10] ++ B))) := by
        show S ((logL n recs).take (bs + j)) ++ S [d] ++ S ((logL n recs).drop (bs + j + 1)) = _
        rw [S_append, S_append]
        congr 1
        have e1 : logL n recs = (A ++ pre) ++ (body ++ ([10] ++ B)) := by
          rw [eL]
          simp only [List.append_assoc]
        have e2 : bs + j = (A ++ pre).length + j := by rw [List.length_append, hbs']
        rw [e1, e2, Nat.add_assoc, List.take_append, List.drop_append, List.take_of_length_le (by omega), List.drop_of_length_le (by omega), Nat.add_sub_cancel_left, Nat.add_sub_cancel_left, List.nil_append,
          List.take_append_of_le_length (by omega), List.drop_append_of_le_length (by omega), List.set_eq_take_append_cons_drop, if_pos hj]
        simp only [List.append_assoc, List.cons_append, List.nil_append]
      refine ⟨_, _, rfl, rfl, ?_, ?_⟩
      · rw [str_len_append, S_len, S_len, List.length_take, List.length_drop, ez]
        show min _ _ + 1 + _ ≤ _
        omega
      rw [eSp]
      have kk4 := kk.trans k4
      have hpar := hps j d B hj hd1000 (by rw [hc]; intro z; exact hdc (Option.some.inj z).symm) hsig
      have hSpl : (A ++ (pre ++ (body.set j d ++ [10] ++ B))).length ≤ 1600 := by
        simp only [List.length_append, List.length_cons, List.length_nil, List.length_set]
        omega
      generalize hsp' : A ++ (pre ++ (body.set j d ++ [10] ++ B)) = spo at hpar hSpl ⊢
      -- what is due
      refine ⟨(by show 0 ≤ sizeLine; decide), fun l hl => ⟨(by show 3 ≤ sizeLine; decide), fun t ht => ?_⟩⟩
      have s5 := same_new (o := .lst []) hl
      have e5 : (upd H4 l (.lst [])) l = some (.lst []) := upd_same
      generalize upd H4 l (.lst []) = H5 at s5 e5 ht ⊢
      have s6 := same_new (o := .tup [.non, .ref l, .int 0]) ht
      have e6 : (upd H5 t (.tup [.non, .ref l, .int 0])) t = some (.tup [.non, .ref l, .int 0]) := upd_same
      generalize upd H5 t (.tup [V.non, .ref l, .int 0]) = H6 at s6 e6 ⊢
      have s46 := s5.tr s6
      have kk6 := kk4.trans s46.kp
      have f6 := f4.same s46
      have hL6s := kk6 _ _ hsa hL.some_
      have hL6r : RowsAll H0 sm H6 qs recs := hL.rows.keep fun q o hq _ h => kk6 _ _ (hF0.ne hq) h
      refine ⟨fun σ' H7 => ∃ t', Same H6 H7 ∧ Dp K H7 (.ref t') (parD spo) ∧ σ' = [some (.ref a), some (.str (S (logL n recs))), some (.ref sm), some (.ref e), some (.int (n : Int)), some (.int (i : Int)), some (.int (A.length : Int)), some (.int (bs : Int)), some (.int ((bs + j : Nat) : Int)), some (.ref D), some (.str (S spo)), some (.ref t')], ?_, fun σ' H7 hm => ?_⟩
      · refine ⟨_, rfl, (i : Int), 0, rfl, rfl, _, rfl, ite2 (fun ci => ?_) (fun ci => ?_)⟩
        · have ci' : 0 < i := by have := of_decide_eq_true ci; omega
          refine ⟨_, rfl, _, rfl, _, rfl, (i : Int), rfl, sm, _, rfl, SqL.of hL6s, fun p hp => ?_⟩
          have s7 := same_new (o := .lst (cutV (qs.map V.ref) none (some (i : Int)))) hp
          have e7 : (upd H6 p (.lst (cutV (qs.map V.ref) none (some (i : Int))))) p = some (.lst ((qs.map V.ref).take i)) := by rw [upd_same, cutV_take]
          generalize upd H6 p (.lst (cutV (qs.map V.ref) none (some (i : Int)))) = H7 at s7 e7 ⊢
          refine ⟨_, rfl, (by show 3 ≤ sizeLine; decide), fun t2 ht2 => ?_⟩
          have s8 := same_new (o := .tup [.int (n : Int), .ref p, .int (A.length : Int)]) ht2
          refine ⟨t2, s7.tr s8, ?_, rfl⟩
          unfold parD
          rw [hpar, if_neg (by omega)]
          refine .tup (SqT.of upd_same) (.cons (.int _) (.cons (.lst (SqL.of (s8 _ _ e7)) ?_) (.cons (.int _) .nil)))
          show DpAll K _ ((qs.map V.ref).take i) ((recs.take i).map rowsD)
          rw [List.map_take]
          exact DpAll.take i (DpAll.same (s7.tr s8) hL6r.dp)
        · have ci' : i = 0 := by
            have : ¬ ((i : Int) > 0) := fun z => ci (decide_eq_true z)
            omega
          refine ⟨t, same_refl H6, ?_, rfl⟩
          unfold parD
          rw [hpar, if_pos ci']
          exact .tup (SqT.of e6) (.cons .non (.cons (.lst (SqL.of (s6 _ _ e5)) .nil) (.cons (.int _) .nil)))
      · obtain ⟨t', s7, d7, rfl⟩ := hm
        refine ⟨_, rfl, _, rfl, by rw [S_len]; omega, fun p8 r8 qs8 H8 s8 hp8 hr8 _ ep8 er8 ra8 => ?_⟩
        rw [tl_S] at ep8 ra8
        have P8 : ParAt spo H7 H8 p8 qs8 r8 := ⟨hp8, hr8, ep8, er8, ra8⟩
        have l8 := (parD_lay spo).shaped (by decide)
        refine ⟨_, rfl, _, _, P8.dp, Dp.same s8 d7, l8, l8, ?_⟩
        rw [(parD_lay spo).eqv]
        exact q _ (kk6.trans (s7.tr s8).kp) (f6.same (s7.tr s8))
end
end Lr
namespace Lr
open PySem PySem.Spec PyProof.Rows L2 Lf
section
variable {P : Program} {w : World} {K : PySem.W.Frag} {mg : Str → Option Value} {base : Heap}
def spLaw (K : PySem.W.Frag) : Sp := fun vs H Q _ => ∃ (a : Addr) (ns : List Int), vs = [.ref a] ∧ SqL K H a (ns.map V.int) ∧ ns.length ≤ 63 ∧ ∀ H', Q (.bl true) H'
abbrev sLaw : Stmt := topS 23
theorem scLaw : FnScope ["_law_script", "_law_k", "_law_feed_here", "_law_number", "_law_turn", "_law_some", "_law_log", "_law_ends", "_law_at", "_law_lines"] ["_law_script"] (defScope sLaw) := ⟨rfl, rfl, rfl, by decide +kernel, rfl, by decide +kernel, by decide +kernel⟩
theorem logL_take_snoc {recs : List (List (List Nat))} {n i : Nat} {r : List (List Nat)} (h : recs[i]? = some r) : recs.take (i + 1) = recs.take i ++ [r] := by
  rw [List.take_succ, h]
  rfl
set_option maxHeartbeats 4000000 in
theorem ok_law {f : Addr} {fd : FuncData} (F : Fun K "law" "law" sLaw f fd) (T : Bs mg) (c__law_feed : Callee P w K mg base 1 "_law_feed" ["_law_script", "_law_k"] (spFeed K)) (c__law_take : Callee P w K mg base 1 "_law_take" ["_law_feed_here", "_law_many"] spTake)
    (c__law_pick : Callee P w K mg base 2 "_law_pick" ["_law_feed_here", "_law_some"] (spPick K)) (c__law_rows_drawn : Callee P w K mg base 4 "_law_rows_drawn" ["_law_feed_here"] spRowsD) (c_record : Callee P w K mg base 2 "record" ["number", "rows"] (spRec K))
    (c__law_cut_right : Callee P w K mg base 5 "_law_cut_right" ["_law_log", "_law_some", "_law_ends", "_law_number"] spCut) (c__law_exchanged_right : Callee P w K mg base 5 "_law_exchanged_right" ["_law_feed_here", "_law_log", "_law_some", "_law_ends", "_law_number"] spExch) : FnOk P w K mg base CX0 6 f fd ["_law_script"] (spLaw K) := by
  refine F.ok scLaw (fun vs H Q E h => ?_) (fun cdv A outer s H vs Q E hr h => ?_)
  · obtain ⟨a, ns, rfl, _⟩ := h
    rfl
  · obtain ⟨a, ns, rfl, hS, hl63, q⟩ := h
    have nd := scLaw.nd
    refine ⟨_, (pss_cons (ps_for PassesOwn.never rfl (pi_range1 (by rfl) T.range (pa_cons (pe_callB (call_max2 rfl) (by rfl) T.max (by decide +kernel) (pa_cons pe_int (pa_cons (pe_callB (call_min2 rfl) (by rfl) T.min (by decide +kernel) (pa_cons pe_int (pa_cons (pe_callB call_len_seq (by rfl) T.len PySem.boot_len (pa_cons (pv 0) pa_nil)) pa_nil))) pa_nil))) pa_nil)) (pg_name (i := 1) nd rfl (Or.inl rfl))
  (pss_cons (ps_set (i := 2) nd rfl (Or.inr rfl) (pe_own c__law_feed (hr.mono (by decide)) (by rfl) (pa_cons (pv 0) (pa_cons (pv 1) pa_nil))))
  (Evl.pss_cut (ps_set (i := 3) nd rfl (Or.inl rfl) (pe_own c__law_pick (hr.mono (by decide)) (by rfl) (pa_cons (pv 2) (pa_cons (pe_lst (pa_cons pe_int (pa_cons pe_int (pa_cons pe_int (pa_cons (pe_op op_pow pe_int pe_int) pa_nil))))) pa_nil))))
  (Evl.pss_cut (ps_setLc (i := 5) (own := [("_law_turn", 4)]) (g := gName 4) (tt := tYes) rfl nd rfl rfl (sw_true rfl rfl rfl (by decide +kernel)) (pi_range1 (by rfl) T.range (pa_cons (pe_op op_add pe_int (pe_own c__law_take (hr.mono (by decide)) (by rfl) (pa_cons (pv 2) (pa_cons pe_int pa_nil)))) pa_nil)) (blkOk_by (own := [("_law_turn", 4)]) (N := ["_law_script", "_law_k", "_law_feed_here", "_law_number", "_law_turn", "_law_some", "_law_log", "_law_ends", "_law_at", "_law_lines"]) (sc := defScope (topS 23)) (by decide +kernel)) (fun _ _ _ _ _ => (pg_name (i := 4) nd rfl (Or.inl rfl))) (fun _ _ _ _ _ => pts_nil) (fun _ _ _ _ _ => (pe_own c__law_rows_drawn (hr.mono (by decide)) (by rfl) (pa_cons (pv 2) pa_nil))))
  (pss_cons (ps_set (i := 6) nd rfl (Or.inl rfl) pe_str)
  (pss_cons (ps_set (i := 7) nd rfl (Or.inl rfl) (pe_lst pa_nil))
  (Evl.pss_cut (ps_for PassesOwn.never rfl (pi_enum (by rfl) T.enumerate (pa_cons (pv 5) pa_nil)) (pg_tup rfl (pgs_cons (pg_name (i := 8) nd rfl (Or.inl rfl)) (pgs_cons (pg_name (i := 9) nd rfl (Or.inl rfl)) pgs_nil)))
  (pss_cons (ps_set (i := 6) nd rfl (Or.inl rfl) (pe_op op_add_str (pv 6) (pe_own c_record (hr.mono (by decide)) (by rfl) (pa_cons (pe_op op_add (pv 3) (pv 8)) (pa_cons (pv 9) pa_nil)))))
  (pss_one (ps_expr (pe_bm PySem.F.plainAttrs_list PySem.F.slot_list_append PySem.F.type_list_append mt_append (pv 7) (pa_cons (pe_callB call_len_str (by rfl) T.len PySem.boot_len (pa_cons (pv 6) pa_nil)) pa_nil))))))
  (Evl.pss_cut (ps_if (PW.pt (pw_and (pt_cmpR op_lt (pe_callB call_len_str (by rfl) T.len PySem.boot_len (pa_cons (pv 6) pa_nil)) pe_int (nomark _)) (pw_and1 (pt_not (pt_val (pe_own c__law_cut_right (hr.mono (by decide)) (by rfl) (pa_cons (pv 6) (pa_cons (pv 5) (pa_cons (pv 7) (pa_cons (pv 3) pa_nil))))))))))
  (pss_one (ps_ret pe_bl))
  pss_nil)
  (pss_one (ps_for PassesOwn.never rfl (pi_range1 (by rfl) T.range (pa_cons pe_int pa_nil)) (pg_name (i := 4) nd rfl (Or.inl rfl))
  (pss_one (ps_if (pt_not (pt_val (pe_own c__law_exchanged_right (hr.mono (by decide)) (by rfl) (pa_cons (pv 2) (pa_cons (pv 6) (pa_cons (pv 5) (pa_cons (pv 7) (pa_cons (pv 3) pa_nil))))))))
  (pss_one (ps_ret pe_bl))
  pss_nil))))))))))))
  (pss_one (ps_ret pe_bl))), ?_⟩
    have ez : sizeLine = 16777216 := by decide +kernel
    have big : ∀ n : Int, n ≤ 10 ^ 9 → n ≤ 10 ^ 60 := fun n hn => Int.le_trans hn (by decide +kernel)
    have cp : ∀ e : Int, 0 ≤ e → e ≤ 100 → CPow 10 e := fun e h0 h1 => ⟨h0, by omega, by decide⟩
    refine ⟨.ref a, rfl, a, _, rfl, .inl hS, 4, _, rfl, 1, _, rfl, ?_⟩
    rw [List.length_map]
    generalize hm : (if (if ((ns.length : Nat) : Int) < 4 then ((ns.length : Nat) : Int) else 4) > 1 then (if ((ns.length : Nat) : Int) < 4 then ((ns.length : Nat) : Int) else 4) else 1) = m
    have hm1 : 1 ≤ m ∧ m ≤ 4 := by
      rw [← hm]
      constructor <;> (repeat' split) <;> omega
    refine ⟨m, rfl, by omega, by omega, for_range (lo := 0) (n := m.toNat) (fun i σ H' => (∃ y1 y2 y3 y4 y5 y6 y7 y8 y9, σ = [some (.ref a), y1, y2, y3, y4, y5, y6, y7, y8, y9]) ∧ Same H H')
      ⟨⟨_, _, _, _, _, _, _, _, _, rfl⟩, same_refl H⟩ (fun i σ H1 hi h => ?_) (fun σ H1 h => q _)⟩
    obtain ⟨⟨y1, y2, y3, y4, y5, y6, y7, y8, y9, rfl⟩, s1⟩ := h
    refine ⟨_, rfl, _, rfl, a, ns, _, rfl, s1.seq hS, by omega, by omega, fun fd H2 s2 hfd f2 => ?_⟩
    have h0 : H fd = none := s1.fresh hfd
    have s02 := s1.tr s2
    -- the number
    refine ⟨fun σ' H3 => ∃ n : Nat, n ≤ 10 ^ 30 ∧ Kp fd H2 H3 ∧ FeedAt H3 fd ∧ σ' = [some (.ref a), some (.int (0 + (i : Int))), some (.ref fd), some (.int (n : Int)), y4, y5, y6, y7, y8, y9], ?_, fun σ' H3 hm => ?_⟩
    · refine ⟨.ref fd, rfl, 10, 20, rfl, rfl, cp _ (by decide) (by decide), (by show 4 ≤ sizeLine; decide), fun l hl => ⟨fd, l, _, rfl, f2.new hl, f2.ne hl, SqL.of upd_same, (by show 0 < 4; decide), (by show 4 ≤ 1000; decide), fun j v H4 hv k4 f4 => ?_⟩⟩
      have k04 : Kp fd H2 H4 := ((Kp.refl fd H2).new hl).trans k4
      rcases j with _ | _ | _ | _ | j
      · exact ⟨0, by decide, k04, f4, by rw [← Option.some.inj hv]; rfl⟩
      · exact ⟨3, by decide, k04, f4, by rw [← Option.some.inj hv]; rfl⟩
      · exact ⟨9, by decide, k04, f4, by rw [← Option.some.inj hv]; rfl⟩
      · exact ⟨10 ^ 20, by decide +kernel, k04, f4, by rw [← Option.some.inj hv]; rfl⟩
      · cases hv
    obtain ⟨n, hn30, k3, f3, rfl⟩ := hm
    have hn60 : n + 10 ≤ 10 ^ 60 := by
      have : (10 : Nat) ^ 30 + 10 ≤ 10 ^ 60 := by decide +kernel
      omega
    -- the rows
    refine ⟨fun σ' H4 => ∃ (D : Addr) (qs : List Addr) (recs : List (List (List Nat))) (y4' : Option V), recs ≠ [] ∧ recs.length ≤ 4 ∧ (∀ r ∈ recs, DrawnRec r) ∧ Kp fd H2 H4 ∧ FeedAt H4 fd ∧ H2 D = none ∧ H4 D = some (.lst (qs.map V.ref)) ∧ RowsAll H2 D H4 qs recs ∧
      σ' = [some (.ref a), some (.int (0 + (i : Int))), some (.ref fd), some (.int (n : Int)), y4', some (.ref D), y6, y7, y8, y9], ?_, fun σ' H4 hm => ?_⟩
    · refine ⟨.ref fd, rfl, fd, 4, rfl, f3, by decide, big _ (by decide), fun v1 H4 k4 f4 v10 v11 => ?_⟩
      obtain ⟨mm, rfl⟩ := Int.eq_ofNat_of_zero_le v10
      have en : (1 : Int) + (mm : Int) = ((1 + mm : Nat) : Int) := by omega
      refine ⟨1, _, rfl, rfl, ?_⟩
      dsimp only
      rw [en]
      refine ⟨((1 + mm : Nat) : Int), rfl, by omega, by omega, fun D hD => ?_⟩
      have hDa := f4.ne hD
      have k24 := k3.trans k4
      have hD2 : H2 D = none := k24.fresh hD hDa
      refine lc_range (lo := 0) (n := 1 + mm) (fun i H' => Kp fd H4 H' ∧ FeedAt H' fd ∧ ∃ (qs : List Addr) (recs : List (List (List Nat))), recs.length = i ∧ (∀ r ∈ recs, DrawnRec r) ∧ H' D = some (.lst (qs.map V.ref)) ∧ RowsAll H2 D H' qs recs) ⟨(Kp.refl fd H4).new hD, f4.new hD, [], [], rfl, by simp, upd_same, trivial⟩ (fun i H5 hi p => ?_) (fun H5 p => ?_)
      · obtain ⟨k5, f5, qs, recs, hl4, hok, e4, ra4⟩ := p
        refine ⟨rfl, .ref fd, rfl, fd, rfl, f5, fun p rows H6 hne h5 hdr k6 f6 hp ep => ?_⟩
        have hpa := f5.ne hp
        have hpD : p ≠ D := fun z => by rw [z, e4] at hp; cases hp
        have hp2 : H2 p = none := (k24.trans k5).fresh hp hpa
        refine ⟨_, k6 _ _ hDa e4, ?_, (k5.trans k6).mutN hD, f6.mut hDa, qs ++ [p], recs ++ [rows], by rw [List.length_append, hl4]; rfl, ?_, ?_, ?_⟩
        · rw [List.length_map, ra4.len, hl4, ez]
          omega
        · intro c hc
          rcases List.mem_append.mp hc with hc | hc
          · exact hok c hc
          · rw [List.mem_singleton.mp hc]
            exact ⟨hne, h5, hdr⟩
        · rw [upd_same, List.map_append]
          rfl
        · have keep : ∀ q o, H2 q = none → q ≠ D → H5 q = some o → (upd H6 D (.lst (qs.map V.ref ++ [V.ref p]))) q = some o := fun q o h0 hne h => by
            rw [upd_ne hne]
            exact k6 _ _ (f2.ne h0) h
          refine (ra4.keep keep).snoc hp2 hpD ?_
          rw [upd_ne hpD]
          exact ep
      · obtain ⟨k5, f5, qs, recs, hl4, hok, e4, ra4⟩ := p
        exact ⟨D, qs, recs, _, fun z => by rw [z, List.length_nil] at hl4; omega, by omega, hok, k24.trans k5, f5, hD2, e4, ra4, rfl⟩
    obtain ⟨D, qs, recs, y4', hne, hl4, hdr, k4, f4, hD2, e4, ra4, rfl⟩ := hm
    have hDa := f2.ne hD2
    have hll := log_len (n := n) hdr (by omega)
    -- the log
    refine ⟨(by show 0 ≤ sizeLine; decide), fun e he => ?_⟩
    have hea : e ≠ fd := f4.ne he
    have h4e := same_new (o := .lst []) he
    have hlq := ra4.len
    refine ⟨fun σ' H5 => Kp fd H2 H5 ∧ FeedAt H5 fd ∧ LogAt H2 H5 n recs D e qs ∧ ∃ y8' y9', σ' = [some (.ref a), some (.int (0 + (i : Int))), some (.ref fd), some (.int (n : Int)), y4', some (.ref D), some (.str (S (logL n recs))), some (.ref e), y8', y9'], ?_, fun σ' H5 hm => ?_⟩
    · refine ⟨_, rfl, D, _, rfl, SqL.of (h4e _ _ e4), for_it (walk_enum (xs := qs.map V.ref)) (fun j σ H' => Same H4 H' ∧ H' e = some (.lst (endV (endsL 0 n (recs.take j)))) ∧ ∃ y8' y9', σ = [some (.ref a), some (.int (0 + (i : Int))), some (.ref fd), some (.int (n : Int)), y4', some (.ref D), some (.str (S (logL n (recs.take j)))), some (.ref e), y8', y9'])
        ⟨h4e, upd_same, _, _, rfl⟩ (fun j σ H' _ p => SqL.of (p.1 _ _ e4)) (fun j v σ H5 H6 hj p y => ?_) (fun σ H5 p => ?_)⟩
      · obtain ⟨s5, e5, y8', y9', rfl⟩ := p
        obtain ⟨T1, u1, u2, rfl, hT, rfl, hu1, hu2⟩ := y
        cases Option.some.inj hu1
        have hj' : j < recs.length := by
          rw [List.length_map, hlq] at hj
          exact hj
        obtain ⟨q0, rows, hq0, hr0, _, _, eq0⟩ := ra4.get j hj'
        have evq : u2 = .ref q0 := by
          have hu3 : (qs.map V.ref)[j]? = some u2 := hu2
          rw [List.getElem?_map, hq0] at hu3
          exact (Option.some.inj hu3).symm
        subst evq
        have hd := hdr rows (List.mem_of_getElem? hr0)
        have hln := Drawn.len hd.2.2 hd.2.1
        have s6 := s5.tr (same_new (o := .tup [.int (j : Nat), .ref q0]) hT)
        have e6 : (upd H5 T1 (.tup [.int (j : Nat), .ref q0])) e = some (.lst (endV (endsL 0 n (recs.take j)))) := by
          rw [upd_ne (ne_of_none e5 hT)]
          exact e5
        have ets := logL_take_snoc (n := n) hr0
        have hls := logL_snoc (recs.take j) n rows
        rw [← ets] at hls
        have htl : (recs.take j).length = j := by rw [List.length_take]; omega
        rw [htl] at hls
        have hll2 : (logL n (recs.take (j + 1))).length ≤ 1600 := by
          have := log_len (n := n) (recs := recs.take (j + 1)) (fun r hr => hdr r (List.mem_of_mem_take hr)) (by rw [List.length_take]; omega)
          rw [List.length_take] at this
          omega
        refine ⟨T1, _, rfl, SqT.of upd_same, rfl, _, _, rfl, _, _, rfl, rfl, ?_⟩
        refine ⟨_, rfl, _, rfl, _, rfl, (n : Int), (j : Int), rfl, rfl, _, rfl, n + j, q0, rows, rfl, by omega, SqL.of (s6 _ _ eq0), by omega, _, _, rfl, rfl, ?_, ?_⟩
        · rw [hls, List.length_append] at hll2
          rw [S_len, S_len, ez]
          omega
        rw [S_append, ← hls]
        refine ⟨_, rfl, .inl ⟨rfl, _, SqL.of e6⟩, _, rfl, _, rfl, by rw [S_len, ez]; omega, e, _, _, rfl, rfl, e6, ?_, s6.mutN he, ?_, _, _, rfl⟩
        · unfold endV
          rw [List.length_map, endsL_len, htl, ez]
          omega
        · rw [upd_same, S_len, ets, endsL_snoc, ← ets, Nat.zero_add]
          unfold endV
          rw [List.map_append]
          rfl
      · obtain ⟨s5, e5, y8', y9', rfl⟩ := p
        rw [List.length_map, hlq, List.take_length] at e5
        rw [List.length_map, hlq, List.take_length]
        exact ⟨k4.trans s5.kp, f4.same s5, ⟨s5 _ _ e4, ra4.keep fun q o _ _ h => s5 q o h, e5, hdr, hl4, hn30⟩, _, _, rfl⟩
    obtain ⟨k5, f5, hL5, y8', y9', rfl⟩ := hm
    have hlen := hL5.len
    -- cut anywhere
    refine ⟨fun σ' H6 => Same H5 H6 ∧ σ' = [some (.ref a), some (.int (0 + (i : Int))), some (.ref fd), some (.int (n : Int)), y4', some (.ref D), some (.str (S (logL n recs))), some (.ref e), y8', y9'], ?_, fun σ' H6 hm => ?_⟩
    · refine ⟨_, rfl, _, rfl, by rw [S_len, ez]; omega, _, 150, rfl, rfl, _, rfl, ite2 (fun _ => ?_) (fun _ => iteF ⟨same_refl H5, rfl⟩)⟩
      exact ⟨_, rfl, _, rfl, _, rfl, _, rfl, n, recs, D, e, qs, H2, rfl, hL5, fun H' s' => ⟨true, rfl, iteF ⟨s', rfl⟩⟩⟩
    obtain ⟨s6, rfl⟩ := hm
    -- exchanged anywhere
    refine ⟨6, rfl, by decide, by decide, for_range (n := 6) (fun j σ H' => Kp fd H2 H' ∧ FeedAt H' fd ∧ LogAt H2 H' n recs D e qs ∧ ∃ y4'', σ = [some (.ref a), some (.int (0 + (i : Int))), some (.ref fd), some (.int (n : Int)), y4'', some (.ref D), some (.str (S (logL n recs))), some (.ref e), y8', y9'])
      ⟨k5.trans s6.kp, f5.same s6, hL5.same s6, _, rfl⟩ (fun j σ H7 hj h => ?_) (fun σ H7 h => ?_)⟩
    · obtain ⟨k7, f7, hL7, y4'', rfl⟩ := h
      exact ⟨_, rfl, _, rfl, _, rfl, _, rfl, _, rfl, fd, n, recs, D, e, qs, H2, rfl, f7, f2, hL7, hne, hDa, hea, fun H' k' f' => ⟨true, rfl, iteF ⟨k7.trans k', f', ⟨k' _ _ hDa hL7.some_, hL7.rows.keep (fun q o hq _ h => k' _ _ (f2.ne hq) h), k' _ _ hea hL7.ends, hL7.drawn, hL7.few, hL7.num⟩, _, rfl⟩⟩⟩
    · obtain ⟨k7, f7, hL7, y4'', rfl⟩ := h
      exact ⟨⟨_, _, _, _, _, _, _, _, _, rfl⟩, fun b o e => k7 b o (fun z => by rw [z, h0] at e; cases e) (s02 b o e)⟩
end
end Lr
namespace Lr
open PySem PySem.Spec PyProof.Rows L2 Lf
section
theorem all_mk {l : PySem.W.OpenLaw} {w : World} {K : PySem.W.Frag} {h : Heap} {mg : Str → Option Value} {fa : Addr} (X : K.In h) (G : h.Ns mainGlobals mg) (hfa : mg "law" = some (.ref fa))
    {od0 an0 : Option Addr} {sl0 : Array (Option Value)} {oc0 kV0 dc0 pm0 cd0 ct0 : Value} {f0 : Addr}
    {od1 an1 : Option Addr} {sl1 : Array (Option Value)} {oc1 kV1 dc1 pm1 cd1 ct1 : Value} {f1 : Addr}
    {od2 an2 : Option Addr} {sl2 : Array (Option Value)} {oc2 kV2 dc2 pm2 cd2 ct2 : Value} {f2 : Addr}
    {od3 an3 : Option Addr} {sl3 : Array (Option Value)} {oc3 kV3 dc3 pm3 cd3 ct3 : Value} {f3 : Addr}
    {od4 an4 : Option Addr} {sl4 : Array (Option Value)} {oc4 kV4 dc4 pm4 cd4 ct4 : Value} {f4 : Addr}
    {od5 an5 : Option Addr} {sl5 : Array (Option Value)} {oc5 kV5 dc5 pm5 cd5 ct5 : Value} {f5 : Addr}
    {od6 an6 : Option Addr} {sl6 : Array (Option Value)} {oc6 kV6 dc6 pm6 cd6 ct6 : Value} {f6 : Addr}
    {od7 an7 : Option Addr} {sl7 : Array (Option Value)} {oc7 kV7 dc7 pm7 cd7 ct7 : Value} {f7 : Addr}
    {od8 an8 : Option Addr} {sl8 : Array (Option Value)} {oc8 kV8 dc8 pm8 cd8 ct8 : Value} {f8 : Addr}
    {od9 an9 : Option Addr} {sl9 : Array (Option Value)} {oc9 kV9 dc9 pm9 cd9 ct9 : Value} {f9 : Addr}
    {od10 an10 : Option Addr} {sl10 : Array (Option Value)} {oc10 kV10 dc10 pm10 cd10 ct10 : Value} {f10 : Addr}
    {od11 an11 : Option Addr} {sl11 : Array (Option Value)} {oc11 kV11 dc11 pm11 cd11 ct11 : Value} {f11 : Addr}
    {od12 an12 : Option Addr} {sl12 : Array (Option Value)} {oc12 kV12 dc12 pm12 cd12 ct12 : Value} {f12 : Addr}
    {od13 an13 : Option Addr} {sl13 : Array (Option Value)} {oc13 kV13 dc13 pm13 cd13 ct13 : Value} {f13 : Addr}
    {od14 an14 : Option Addr} {sl14 : Array (Option Value)} {oc14 kV14 dc14 pm14 cd14 ct14 : Value} {f14 : Addr}
    {od15 an15 : Option Addr} {sl15 : Array (Option Value)} {oc15 kV15 dc15 pm15 cd15 ct15 : Value} {f15 : Addr}
    {od16 an16 : Option Addr} {sl16 : Array (Option Value)} {oc16 kV16 dc16 pm16 cd16 ct16 : Value} {f16 : Addr}
    {tk0 : Tok}
    (a0 : PySem.W.nsIn K mainGlobals "number_in" = some (some (.ref f0))) (l0 : K.lookup f0 = some ⟨oc0, od0, .func (PySem.W.fnOf "number_in" "number_in" (defArgs (topS 1)) (defBody (topS 1)) (defScope (topS 1)) .none kV0 dc0 pm0 an0 cd0 ct0), sl0⟩) (c0 : PySem.W.codeIn K cd0 "number_in" = true) (k0 : PySem.W.keepIn K (.ref f0) = true)
    (a1 : PySem.W.nsIn K mainGlobals "check_of" = some (some (.ref f1))) (l1 : K.lookup f1 = some ⟨oc1, od1, .func (PySem.W.fnOf "check_of" "check_of" (defArgs (topS 4)) (defBody (topS 4)) (defScope (topS 4)) .none kV1 dc1 pm1 an1 cd1 ct1), sl1⟩) (c1 : PySem.W.codeIn K cd1 "check_of" = true) (k1 : PySem.W.keepIn K (.ref f1) = true)
    (a2 : PySem.W.nsIn K mainGlobals "record" = some (some (.ref f2))) (l2 : K.lookup f2 = some ⟨oc2, od2, .func (PySem.W.fnOf "record" "record" (defArgs (topS 5)) (defBody (topS 5)) (defScope (topS 5)) .none kV2 dc2 pm2 an2 cd2 ct2), sl2⟩) (c2 : PySem.W.codeIn K cd2 "record" = true) (k2 : PySem.W.keepIn K (.ref f2) = true)
    (a3 : PySem.W.nsIn K mainGlobals "parsed" = some (some (.ref f3))) (l3 : K.lookup f3 = some ⟨oc3, od3, .func (PySem.W.fnOf "parsed" "parsed" (defArgs (topS 6)) (defBody (topS 6)) (defScope (topS 6)) .none kV3 dc3 pm3 an3 cd3 ct3), sl3⟩) (c3 : PySem.W.codeIn K cd3 "parsed" = true) (k3 : PySem.W.keepIn K (.ref f3) = true)
    (a4 : PySem.W.nsIn K mainGlobals "record_at" = some (some (.ref f4))) (l4 : K.lookup f4 = some ⟨oc4, od4, .func (PySem.W.fnOf "record_at" "record_at" (defArgs (topS 7)) (defBody (topS 7)) (defScope (topS 7)) .none kV4 dc4 pm4 an4 cd4 ct4), sl4⟩) (c4 : PySem.W.codeIn K cd4 "record_at" = true) (k4 : PySem.W.keepIn K (.ref f4) = true)
    (a5 : PySem.W.nsIn K mainGlobals "number_until" = some (some (.ref f5))) (l5 : K.lookup f5 = some ⟨oc5, od5, .func (PySem.W.fnOf "number_until" "number_until" (defArgs (topS 8)) (defBody (topS 8)) (defScope (topS 8)) .none kV5 dc5 pm5 an5 cd5 ct5), sl5⟩) (c5 : PySem.W.codeIn K cd5 "number_until" = true) (k5 : PySem.W.keepIn K (.ref f5) = true)
    (a6 : PySem.W.nsIn K mainGlobals "is_row" = some (some (.ref f6))) (l6 : K.lookup f6 = some ⟨oc6, od6, .func (PySem.W.fnOf "is_row" "is_row" (defArgs (topS 9)) (defBody (topS 9)) (defScope (topS 9)) .none kV6 dc6 pm6 an6 cd6 ct6), sl6⟩) (c6 : PySem.W.codeIn K cd6 "is_row" = true) (k6 : PySem.W.keepIn K (.ref f6) = true)
    (a7 : PySem.W.nsIn K mainGlobals "_law_feed" = some (some (.ref f7))) (l7 : K.lookup f7 = some ⟨oc7, od7, .func (PySem.W.fnOf "_law_feed" "_law_feed" (defArgs (topS 11)) (defBody (topS 11)) (defScope (topS 11)) .none kV7 dc7 pm7 an7 cd7 ct7), sl7⟩) (c7 : PySem.W.codeIn K cd7 "_law_feed" = true) (k7 : PySem.W.keepIn K (.ref f7) = true)
    (a8 : PySem.W.nsIn K mainGlobals "_law_take" = some (some (.ref f8))) (l8 : K.lookup f8 = some ⟨oc8, od8, .func (PySem.W.fnOf "_law_take" "_law_take" (defArgs (topS 12)) (defBody (topS 12)) (defScope (topS 12)) .none kV8 dc8 pm8 an8 cd8 ct8), sl8⟩) (c8 : PySem.W.codeIn K cd8 "_law_take" = true) (k8 : PySem.W.keepIn K (.ref f8) = true)
    (a9 : PySem.W.nsIn K mainGlobals "_law_pick" = some (some (.ref f9))) (l9 : K.lookup f9 = some ⟨oc9, od9, .func (PySem.W.fnOf "_law_pick" "_law_pick" (defArgs (topS 13)) (defBody (topS 13)) (defScope (topS 13)) .none kV9 dc9 pm9 an9 cd9 ct9), sl9⟩) (c9 : PySem.W.codeIn K cd9 "_law_pick" = true) (k9 : PySem.W.keepIn K (.ref f9) = true)
    (a10 : PySem.W.nsIn K mainGlobals "_law_signs" = some (some (.ref f10))) (l10 : K.lookup f10 = some ⟨oc10, od10, .func (PySem.W.fnOf "_law_signs" "_law_signs" (defArgs (topS 15)) (defBody (topS 15)) (defScope (topS 15)) .none kV10 dc10 pm10 an10 cd10 ct10), sl10⟩) (c10 : PySem.W.codeIn K cd10 "_law_signs" = true) (k10 : PySem.W.keepIn K (.ref f10) = true)
    (a11 : PySem.W.nsIn K mainGlobals "_law_row" = some (some (.ref f11))) (l11 : K.lookup f11 = some ⟨oc11, od11, .func (PySem.W.fnOf "_law_row" "_law_row" (defArgs (topS 16)) (defBody (topS 16)) (defScope (topS 16)) .none kV11 dc11 pm11 an11 cd11 ct11), sl11⟩) (c11 : PySem.W.codeIn K cd11 "_law_row" = true) (k11 : PySem.W.keepIn K (.ref f11) = true)
    (a12 : PySem.W.nsIn K mainGlobals "_law_rows_drawn" = some (some (.ref f12))) (l12 : K.lookup f12 = some ⟨oc12, od12, .func (PySem.W.fnOf "_law_rows_drawn" "_law_rows_drawn" (defArgs (topS 17)) (defBody (topS 17)) (defScope (topS 17)) .none kV12 dc12 pm12 an12 cd12 ct12), sl12⟩) (c12 : PySem.W.codeIn K cd12 "_law_rows_drawn" = true) (k12 : PySem.W.keepIn K (.ref f12) = true)
    (a13 : PySem.W.nsIn K mainGlobals "_law_cut_right" = some (some (.ref f13))) (l13 : K.lookup f13 = some ⟨oc13, od13, .func (PySem.W.fnOf "_law_cut_right" "_law_cut_right" (defArgs (topS 20)) (defBody (topS 20)) (defScope (topS 20)) .none kV13 dc13 pm13 an13 cd13 ct13), sl13⟩) (c13 : PySem.W.codeIn K cd13 "_law_cut_right" = true) (k13 : PySem.W.keepIn K (.ref f13) = true)
    (a14 : PySem.W.nsIn K mainGlobals "_law_other" = some (some (.ref f14))) (l14 : K.lookup f14 = some ⟨oc14, od14, .func (PySem.W.fnOf "_law_other" "_law_other" (defArgs (topS 21)) (defBody (topS 21)) (defScope (topS 21)) .none kV14 dc14 pm14 an14 cd14 ct14), sl14⟩) (c14 : PySem.W.codeIn K cd14 "_law_other" = true) (k14 : PySem.W.keepIn K (.ref f14) = true)
    (a15 : PySem.W.nsIn K mainGlobals "_law_exchanged_right" = some (some (.ref f15))) (l15 : K.lookup f15 = some ⟨oc15, od15, .func (PySem.W.fnOf "_law_exchanged_right" "_law_exchanged_right" (defArgs (topS 22)) (defBody (topS 22)) (defScope (topS 22)) .none kV15 dc15 pm15 an15 cd15 ct15), sl15⟩) (c15 : PySem.W.codeIn K cd15 "_law_exchanged_right" = true) (k15 : PySem.W.keepIn K (.ref f15) = true)
    (a16 : PySem.W.nsIn K mainGlobals "law" = some (some (.ref f16))) (l16 : K.lookup f16 = some ⟨oc16, od16, .func (PySem.W.fnOf "law" "law" (defArgs (topS 23)) (defBody (topS 23)) (defScope (topS 23)) .none kV16 dc16 pm16 an16 cd16 ct16), sl16⟩) (c16 : PySem.W.codeIn K cd16 "law" = true) (k16 : PySem.W.keepIn K (.ref f16) = true)
    (z0 : PySem.W.nsIn K mainGlobals "len" = some none)
    (z1 : PySem.W.nsIn K mainGlobals "range" = some none)
    (z2 : PySem.W.nsIn K mainGlobals "abs" = some none)
    (z3 : PySem.W.nsIn K mainGlobals "list" = some none)
    (z4 : PySem.W.nsIn K mainGlobals "tuple" = some none)
    (z5 : PySem.W.nsIn K mainGlobals "enumerate" = some none)
    (z6 : PySem.W.nsIn K mainGlobals "isinstance" = some none)
    (z7 : PySem.W.nsIn K mainGlobals "max" = some none)
    (z8 : PySem.W.nsIn K mainGlobals "min" = some none)
    (z9 : PySem.W.nsIn K mainGlobals "all" = some none)
    (z10 : PySem.W.nsIn K mainGlobals "ord" = some none)
    (z11 : PySem.W.nsIn K mainGlobals "str" = some none)
    (z12 : PySem.W.nsIn K mainGlobals "int" = some none)
    (z13 : PySem.W.nsIn K mainGlobals "bool" = some none)
    (y0 : PySem.W.nsIn K mainGlobals "FIGURES_MOST" = some (some (.int 60 tk0)))
    : ∃ fd : FuncData, (∀ (s : Shared) (v : Value), BindsTo s fd ⟨[v], []⟩ [("_law_script", v)]) ∧ ∀ base : Heap, K.In base → base.Ns mainGlobals mg → FnOk l.prog w K mg base CX0 6 fa fd ["_law_script"] (spLaw K) := by
  have e := hfa.symm.trans (PySem.W.mg_of X G a16)
  cases e
  have T : Bs mg := ⟨PySem.W.mg_none_of X G z0, PySem.W.mg_none_of X G z1, PySem.W.mg_none_of X G z2, PySem.W.mg_none_of X G z3, PySem.W.mg_none_of X G z4, PySem.W.mg_none_of X G z5, PySem.W.mg_none_of X G z6, PySem.W.mg_none_of X G z7, PySem.W.mg_none_of X G z8, PySem.W.mg_none_of X G z9, PySem.W.mg_none_of X G z10, PySem.W.mg_none_of X G z11, PySem.W.mg_none_of X G z12, PySem.W.mg_none_of X G z13, ⟨tk0, PySem.W.mg_of X G y0⟩⟩
  have F_number_in := fun_mk (st := topS 1) l0 c0 k0
  have g_number_in := PySem.W.mg_of X G a0
  have b_number_in := F_number_in.binds (ps := ["word"]) fun _ _ _ _ _ _ us hl => match us, hl with | [_], _ => rfl
  have F_check_of := fun_mk (st := topS 4) l1 c1 k1
  have g_check_of := PySem.W.mg_of X G a1
  have b_check_of := F_check_of.binds (ps := ["text"]) fun _ _ _ _ _ _ us hl => match us, hl with | [_], _ => rfl
  have F_record := fun_mk (st := topS 5) l2 c2 k2
  have g_record := PySem.W.mg_of X G a2
  have b_record := F_record.binds (ps := ["number", "rows"]) fun _ _ _ _ _ _ us hl => match us, hl with | [_, _], _ => rfl
  have F_parsed := fun_mk (st := topS 6) l3 c3 k3
  have g_parsed := PySem.W.mg_of X G a3
  have b_parsed := F_parsed.binds (ps := ["log"]) fun _ _ _ _ _ _ us hl => match us, hl with | [_], _ => rfl
  have F_record_at := fun_mk (st := topS 7) l4 c4 k4
  have g_record_at := PySem.W.mg_of X G a4
  have b_record_at := F_record_at.binds (ps := ["log", "at"]) fun _ _ _ _ _ _ us hl => match us, hl with | [_, _], _ => rfl
  have F_number_until := fun_mk (st := topS 8) l5 c5 k5
  have g_number_until := PySem.W.mg_of X G a5
  have b_number_until := F_number_until.binds (ps := ["log", "at", "closing"]) fun _ _ _ _ _ _ us hl => match us, hl with | [_, _, _], _ => rfl
  have F_is_row := fun_mk (st := topS 9) l6 c6 k6
  have g_is_row := PySem.W.mg_of X G a6
  have b_is_row := F_is_row.binds (ps := ["row"]) fun _ _ _ _ _ _ us hl => match us, hl with | [_], _ => rfl
  have F__law_feed := fun_mk (st := topS 11) l7 c7 k7
  have g__law_feed := PySem.W.mg_of X G a7
  have b__law_feed := F__law_feed.binds (ps := ["_law_script", "_law_k"]) fun _ _ _ _ _ _ us hl => match us, hl with | [_, _], _ => rfl
  have F__law_take := fun_mk (st := topS 12) l8 c8 k8
  have g__law_take := PySem.W.mg_of X G a8
  have b__law_take := F__law_take.binds (ps := ["_law_feed_here", "_law_many"]) fun _ _ _ _ _ _ us hl => match us, hl with | [_, _], _ => rfl
  have F__law_pick := fun_mk (st := topS 13) l9 c9 k9
  have g__law_pick := PySem.W.mg_of X G a9
  have b__law_pick := F__law_pick.binds (ps := ["_law_feed_here", "_law_some"]) fun _ _ _ _ _ _ us hl => match us, hl with | [_, _], _ => rfl
  have F__law_signs := fun_mk (st := topS 15) l10 c10 k10
  have g__law_signs := PySem.W.mg_of X G a10
  have b__law_signs := F__law_signs.binds (ps := []) fun _ _ _ _ _ _ us hl => match us, hl with | [], _ => rfl
  have F__law_row := fun_mk (st := topS 16) l11 c11 k11
  have g__law_row := PySem.W.mg_of X G a11
  have b__law_row := F__law_row.binds (ps := ["_law_feed_here"]) fun _ _ _ _ _ _ us hl => match us, hl with | [_], _ => rfl
  have F__law_rows_drawn := fun_mk (st := topS 17) l12 c12 k12
  have g__law_rows_drawn := PySem.W.mg_of X G a12
  have b__law_rows_drawn := F__law_rows_drawn.binds (ps := ["_law_feed_here"]) fun _ _ _ _ _ _ us hl => match us, hl with | [_], _ => rfl
  have F__law_cut_right := fun_mk (st := topS 20) l13 c13 k13
  have g__law_cut_right := PySem.W.mg_of X G a13
  have b__law_cut_right := F__law_cut_right.binds (ps := ["_law_log", "_law_some", "_law_ends", "_law_number"]) fun _ _ _ _ _ _ us hl => match us, hl with | [_, _, _, _], _ => rfl
  have F__law_other := fun_mk (st := topS 21) l14 c14 k14
  have g__law_other := PySem.W.mg_of X G a14
  have b__law_other := F__law_other.binds (ps := ["_law_feed_here", "_law_sign"]) fun _ _ _ _ _ _ us hl => match us, hl with | [_, _], _ => rfl
  have F__law_exchanged_right := fun_mk (st := topS 22) l15 c15 k15
  have g__law_exchanged_right := PySem.W.mg_of X G a15
  have b__law_exchanged_right := F__law_exchanged_right.binds (ps := ["_law_feed_here", "_law_log", "_law_some", "_law_ends", "_law_number"]) fun _ _ _ _ _ _ us hl => match us, hl with | [_, _, _, _, _], _ => rfl
  have F_law := fun_mk (st := topS 23) l16 c16 k16
  have g_law := PySem.W.mg_of X G a16
  have b_law := F_law.binds (ps := ["_law_script"]) fun _ _ _ _ _ _ us hl => match us, hl with | [_], _ => rfl
  refine ⟨PySem.W.fnOf "law" "law" (defArgs (topS 23)) (defBody (topS 23)) (defScope (topS 23)) .none kV16 dc16 pm16 an16 cd16 ct16, fun s v => .of_eq rfl, fun base _ _ => ?_⟩
  have C_num : Callee l.prog w K mg base 1 "number_in" ["word"] spNum := ⟨_, _, ok_num F_number_in T, g_number_in, F_number_in.kp, b_number_in⟩
  have C_chk : Callee l.prog w K mg base 1 "check_of" ["text"] spChk := ⟨_, _, ok_chk F_check_of T, g_check_of, F_check_of.kp, b_check_of⟩
  have C_unt : Callee l.prog w K mg base 2 "number_until" ["log", "at", "closing"] spUnt := ⟨_, _, ok_unt F_number_until T C_num, g_number_until, F_number_until.kp, b_number_until⟩
  have C_row : Callee l.prog w K mg base 1 "is_row" ["row"] spRow := ⟨_, _, ok_row F_is_row T, g_is_row, F_is_row.kp, b_is_row⟩
  have C_rec : Callee l.prog w K mg base 2 "record" ["number", "rows"] (spRec K) := ⟨_, _, ok_rec F_record T C_chk, g_record, F_record.kp, b_record⟩
  have C_rat : Callee l.prog w K mg base 3 "record_at" ["log", "at"] spRat := ⟨_, _, ok_rat F_record_at T C_chk C_unt C_row, g_record_at, F_record_at.kp, b_record_at⟩
  have C_par : Callee l.prog w K mg base 4 "parsed" ["log"] spPar := ⟨_, _, ok_par F_parsed T C_rat, g_parsed, F_parsed.kp, b_parsed⟩
  have C_take : Callee l.prog w K mg base 1 "_law_take" ["_law_feed_here", "_law_many"] spTake := ⟨_, _, ok_take F__law_take, g__law_take, F__law_take.kp, b__law_take⟩
  have C_feed : Callee l.prog w K mg base 1 "_law_feed" ["_law_script", "_law_k"] (spFeed K) := ⟨_, _, ok_feed F__law_feed T, g__law_feed, F__law_feed.kp, b__law_feed⟩
  have C_pick : Callee l.prog w K mg base 2 "_law_pick" ["_law_feed_here", "_law_some"] (spPick K) := ⟨_, _, ok_pick F__law_pick T C_take, g__law_pick, F__law_pick.kp, b__law_pick⟩
  have C_pickS : Callee l.prog w K mg base 2 "_law_pick" ["_law_feed_here", "_law_some"] spPickS := ⟨_, _, ok_pickS F__law_pick T C_take, g__law_pick, F__law_pick.kp, b__law_pick⟩
  have C_signs : Callee l.prog w K mg base 1 "_law_signs" [] spSigns := ⟨_, _, ok_signs F__law_signs, g__law_signs, F__law_signs.kp, b__law_signs⟩
  have C_lrow : Callee l.prog w K mg base 3 "_law_row" ["_law_feed_here"] spRowD := ⟨_, _, ok_rowd F__law_row T C_take C_pick C_signs, g__law_row, F__law_row.kp, b__law_row⟩
  have C_lrows : Callee l.prog w K mg base 4 "_law_rows_drawn" ["_law_feed_here"] spRowsD := ⟨_, _, ok_rowsd F__law_rows_drawn T C_take C_pick C_lrow, g__law_rows_drawn, F__law_rows_drawn.kp, b__law_rows_drawn⟩
  have C_cut : Callee l.prog w K mg base 5 "_law_cut_right" ["_law_log", "_law_some", "_law_ends", "_law_number"] spCut := ⟨_, _, ok_cut F__law_cut_right T C_par, g__law_cut_right, F__law_cut_right.kp, b__law_cut_right⟩
  have R_oth := other_run (base := base) (P := l.prog) (w := w) F__law_other b__law_other (ok_sgs F__law_signs) g__law_signs F__law_signs.kp b__law_signs C_pickS
  have C_exch : Callee l.prog w K mg base 5 "_law_exchanged_right" ["_law_feed_here", "_law_log", "_law_some", "_law_ends", "_law_number"] spExch := ⟨_, _, ok_exch F__law_exchanged_right T C_take C_pick R_oth g__law_other F__law_other.kp C_par, g__law_exchanged_right, F__law_exchanged_right.kp, b__law_exchanged_right⟩
  exact ok_law F_law T C_feed C_take C_pick C_lrows C_rec C_cut C_exch
end
end Lr
open PySem PySem.W PyProof.Rows
set_option maxRecDepth 100000 in
set_option maxHeartbeats 0 in
theorem PySem.Challenge.cw_leafround_k69_whole_logs_cut_and_spoilt_holds : PySem.Challenge.rw_leafround_k69_whole_logs_cut_and_spoilt.Holds := by
  w_on; o_law; k_head; (case hw => w_witness2)
  k_fill
  refine L2.walk_of (l := PySem.Challenge.rw_leafround_k69_whole_logs_cut_and_spoilt) (n := 63) (k := 6) (x := "_law_script") (CX := fun _ => L2.CX0) (sp := fun w => Lr.spLaw _) rfl (by decide) rfl ⟨rfl, by decide, by decide⟩ (fun w h Y => PySem.W.kIn_of Y) ?F (fun _ _ a ns hl _ hS => ⟨a, ns, rfl, hS, hl, fun _ => rfl⟩) (fun _ _ _ _ _ h => h)
  case F =>
    intro w mg fa h KX G hmg
    refine' Lr.all_mk KX G hmg ?a0 ?l0 ?c0 ?k0 ?a1 ?l1 ?c1 ?k1 ?a2 ?l2 ?c2 ?k2 ?a3 ?l3 ?c3 ?k3 ?a4 ?l4 ?c4 ?k4 ?a5 ?l5 ?c5 ?k5 ?a6 ?l6 ?c6 ?k6 ?a7 ?l7 ?c7 ?k7 ?a8 ?l8 ?c8 ?k8 ?a9 ?l9 ?c9 ?k9 ?a10 ?l10 ?c10 ?k10 ?a11 ?l11 ?c11 ?k11 ?a12 ?l12 ?c12 ?k12 ?a13 ?l13 ?c13 ?k13 ?a14 ?l14 ?c14 ?k14 ?a15 ?l15 ?c15 ?k15 ?a16 ?l16 ?c16 ?k16 ?z0 ?z1 ?z2 ?z3 ?z4 ?z5 ?z6 ?z7 ?z8 ?z9 ?z10 ?z11 ?z12 ?z13 ?y0
    (case a0 => k_is); (case l0 => k_is); (case c0 => k_is); (case k0 => k_is); (case a1 => k_is); (case l1 => k_is); (case c1 => k_is); (case k1 => k_is); (case a2 => k_is); (case l2 => k_is); (case c2 => k_is); (case k2 => k_is); (case a3 => k_is); (case l3 => k_is); (case c3 => k_is); (case k3 => k_is); (case a4 => k_is); (case l4 => k_is); (case c4 => k_is); (case k4 => k_is); (case a5 => k_is); (case l5 => k_is); (case c5 => k_is); (case k5 => k_is); (case a6 => k_is); (case l6 => k_is); (case c6 => k_is); (case k6 => k_is); (case a7 => k_is); (case l7 => k_is); (case c7 => k_is); (case k7 => k_is); (case a8 => k_is); (case l8 => k_is); (case c8 => k_is); (case k8 => k_is); (case a9 => k_is); (case l9 => k_is); (case c9 => k_is); (case k9 => k_is); (case a10 => k_is); (case l10 => k_is); (case c10 => k_is); (case k10 => k_is); (case a11 => k_is); (case l11 => k_is); (case c11 => k_is); (case k11 => k_is); (case a12 => k_is); (case l12 => k_is); (case c12 => k_is); (case k12 => k_is); (case a13 => k_is); (case l13 => k_is); (case c13 => k_is); (case k13 => k_is); (case a14 => k_is); (case l14 => k_is); (case c14 => k_is); (case k14 => k_is); (case a15 => k_is); (case l15 => k_is); (case c15 => k_is); (case k15 => k_is); (case a16 => k_is); (case l16 => k_is); (case c16 => k_is); (case k16 => k_is); (case z0 => k_is); (case z1 => k_is); (case z2 => k_is); (case z3 => k_is); (case z4 => k_is); (case z5 => k_is); (case z6 => k_is); (case z7 => k_is); (case z8 => k_is); (case z9 => k_is); (case z10 => k_is); (case z11 => k_is); (case z12 => k_is); (case z13 => k_is); (case y0 => k_is)
