import PyProof.Rows.All
import Wide.All
import OpenK.AllK
import Wide.FinOn
import HandS.ForMost
import HandS.Star
import HandS.Style
import HandS.Wide
import HandS.IsInst
import HandS.EndBits
import HandS.More
import HandS.TupAny
import HandS.Evl
import KE.KeyNested
import PyProof.DictMoreH
import HandS.SetKeys
import HandS.DictComp
import PyProof.ReprRoads
import KE.SortData
import KE.DataCmp
import HandS.SortRule
import HandS.Lambda
import HandS.Deep
import HandS.Text
import HandS.Iter
import PyProof.CallFns
import PyProof.Rows.TupDisplay
import HandS.TupLen
import HandS.Defaults
import HandS.Conv
import HandS.Flow
import HandS.SetFor
import HandS.OwnEq
import HandS.Dict
import KE.DataMinMax
import HandS.SortKw
import KE.SortKeyHeap
import HandS.NestedK
import KE.GoesEnumKw
import KE.KDictPairs
import HandS.TryOnly
import HandS.StrMore
import HandS.FStr
import HandS.MakeKwOnly
import HandS.RaiseMore
import HandS.Codes
import PySem.Challenge.RW_leafround_k88_patches_lead_over
set_option Elab.async false
set_option linter.all false
set_option maxRecDepth 100000
namespace Lf
open PySem PySem.Spec PyProof.Rows L2

/-- an own def: where it stands, its promise, how it is called -/
def Callee (P : Program) (w : World) (K : PySem.W.Frag) (mg : Str → Option Value) (base : Heap) (k : Nat) (x : Str) (ps : List Str) (sp : Sp) : Prop :=
  ∃ (f : Addr) (fd : FuncData), FnOk P w K mg base CX0 k f fd ps sp ∧ mg x = some (.ref f) ∧ PySem.W.keepIn K (.ref f) = true ∧ Binds K fd ps []
section
variable {X : Cx} {k : Nat} {x : Str} {ps : List Str} {sp : Sp} {e : Expr} {es : List Expr} {t : TA} {p pos : Pos}
theorem pe_own (C : Callee X.prog X.w X.K X.mg X.base k x ps sp) (hr : Room k X.A) (hg : Gl X x) (ha : PA X (e :: es) t)
    (hdb : (x == ("__debug__" : Str)) = false := by decide) (he : starEach (e :: es) X.env = (false, eval e X.env) :: starEach es X.env := by rfl) (hpl : (backTo pos (starEach es X.env)).any (·.1) = false := by rfl) :
    PE X (.Call (.Name x p) (e :: es) [] pos) (tCall sp [] E0 t) := by
  obtain ⟨f, fd, F, hm, hk, hb⟩ := C
  exact pe_call F hr hg hm hk hb .nil pass0 ha hdb he hpl
end

/-- all but the object at a stays -/
def Kp (a : Addr) (H H' : Hp) : Prop := ∀ b o, b ≠ a → H b = some o → H' b = some o
theorem Kp.refl (a : Addr) (H : Hp) : Kp a H H := fun _ _ _ h => h
theorem Kp.trans {a : Addr} {H H1 H2 : Hp} (x : Kp a H H1) (y : Kp a H1 H2) : Kp a H H2 := fun b o n h => y b o n (x b o n h)
theorem Kp.new {a p : Addr} {H H' : Hp} {o : HO} (x : Kp a H H') (h : H' p = none) : Kp a H (upd H' p o) := fun b u n e => by
  rw [upd_ne (ne_of_none (x b u n e) h)]
  exact x b u n e
theorem Kp.mut {a : Addr} {H H' : Hp} {o : HO} (x : Kp a H H') : Kp a H (upd H' a o) := fun b u n e => by
  rw [upd_ne n]
  exact x b u n e
theorem Kp.seqL {K : PySem.W.Frag} {a p : Addr} {H H' : Hp} {xs : List V} (x : Kp a H H') (n : p ≠ a) (h : SqL K H p xs) : SqL K H' p xs := by
  rcases h with (h | ⟨o, h⟩) | h
  · exact .inl (.inl (x _ _ n h))
  · exact .inl (.inr ⟨o, x _ _ n h⟩)
  · exact .inr h

/-- the tape: two ints -/
def TapeAt (H : Hp) (a : Addr) : Prop := ∃ u v : Int, H a = some (.lst [.int u, .int v]) ∧ 0 ≤ u ∧ 0 ≤ v ∧ v < 2147483648
theorem TapeAt.keep {a b : Addr} {H H' : Hp} (h : TapeAt H a) (k : Kp b H H') (n : a ≠ b) : TapeAt H' a := by
  obtain ⟨u, v, e, r⟩ := h
  exact ⟨u, v, k _ _ n e, r⟩
theorem TapeAt.new {a p : Addr} {H : Hp} {o : HO} (h : TapeAt H a) (n : H p = none) : TapeAt (upd H p o) a := by
  obtain ⟨u, v, e, r⟩ := h
  exact ⟨u, v, by rw [upd_ne (ne_of_none e n)]; exact e, r⟩
def spDigit : Sp := fun vs H Q _ => ∃ (a : Addr) (n : Int), vs = [.ref a, .int n] ∧ TapeAt H a ∧ 0 < n ∧ n ≤ 10 ^ 60 ∧
  ∀ (v : Int) (H' : Hp), Kp a H H' → TapeAt H' a → 0 ≤ v → v < n → Q (.int v) H'
/-- an object that H does not know may change -/
theorem Kp.mutN {a p : Addr} {H H' : Hp} {o : HO} (x : Kp a H H') (h : H p = none) : Kp a H (upd H' p o) := fun b u n e => by
  rw [upd_ne (ne_of_none e h)]
  exact x b u n e
theorem Kp.fresh {a p : Addr} {H H' : Hp} (x : Kp a H H') (h : H' p = none) (n : p ≠ a) : H p = none := by
  cases e : H p with
  | none => rfl
  | some o =>
    rw [x p o n e] at h
    cases h
theorem Kp.get {a b : Addr} {H H' : Hp} {o : HO} (x : Kp a H H') (n : b ≠ a) (h : H b = some o) : H' b = some o := x b o n h
theorem TapeAt.ne {a p : Addr} {H : Hp} (h : TapeAt H a) (n : H p = none) : p ≠ a := fun e => by
  obtain ⟨u, v, h, _⟩ := h
  rw [e, h] at n
  cases n
theorem TapeAt.mut {a p : Addr} {H : Hp} {o : HO} (h : TapeAt H a) (n : p ≠ a) : TapeAt (upd H p o) a := by
  obtain ⟨u, v, e, r⟩ := h
  exact ⟨u, v, by rw [upd_ne n.symm]; exact e, r⟩
theorem atI_mem {α : Type} {xs : List α} {i : Int} (h0 : 0 ≤ i) (h1 : i < xs.length) : ∃ x, x ∈ xs ∧ atI xs i = some x := by
  obtain ⟨n, rfl⟩ := Int.eq_ofNat_of_zero_le h0
  have h : n < xs.length := by omega
  exact ⟨xs[n], List.getElem_mem h, atI_nat (List.getElem?_eq_getElem h)⟩
theorem str_len_append (x y : Str) : (x ++ y).length = x.length + y.length := by
  show (x.cps ++ y.cps).size = _
  rw [Array.size_append]
  rfl
theorem join_len (sep : Str) (hs : sep.length = 0) : ∀ ys : List Str, (Str.join sep ys).length = (ys.map (·.length)).sum
  | [] => rfl
  | [x] => by
    show x.length = x.length + 0
    omega
  | x :: y :: r => by
    show (x ++ sep ++ Str.join sep (y :: r)).length = x.length + ((y :: r).map (·.length)).sum
    rw [str_len_append, str_len_append, join_len sep hs (y :: r), hs]
    omega
theorem sum_ones : ∀ {ys : List Str}, (∀ y ∈ ys, y.length = 1) → (ys.map (·.length)).sum = ys.length
  | [], _ => rfl
  | y :: r, h => by
    rw [List.map_cons, List.sum_cons, h y (List.mem_cons_self ..), sum_ones fun z hz => h z (List.mem_cons_of_mem _ hz)]
    show 1 + r.length = r.length + 1
    omega
end Lf
namespace L2
open PySem
theorem Same.kp {a : Addr} {H H' : Hp} (s : Same H H') : Lf.Kp a H H' := fun b o _ h => s b o h
theorem same_new {H : Hp} {p : Addr} {o : HO} (h : H p = none) : Same H (upd H p o) := fun b x e => by
  rw [upd_ne (ne_of_none e h)]
  exact e
theorem Same.tr {H H1 H2 : Hp} (x : Same H H1) (y : Same H1 H2) : Same H H2 := fun b o h => y b o (x b o h)
theorem Same.fresh {H H' : Hp} {p : Addr} (s : Same H H') (h : H' p = none) : H p = none := by
  cases e : H p with
  | none => rfl
  | some o =>
    rw [s p o e] at h
    cases h
theorem Same.mutN {H H' : Hp} {p : Addr} {o : HO} (s : Same H H') (h : H p = none) : Same H (upd H' p o) := fun b u e => by
  rw [upd_ne (ne_of_none e h)]
  exact s b u e
theorem same_refl (H : Hp) : Same H H := fun _ _ h => h
end L2
namespace Lf
open PySem PySem.Spec PyProof.Rows L2
/-- a comprehension over enumerate(list): each turn's pair is a new tuple at T -/
theorem lc_enum {K : PySem.W.Frag} {a : Addr} {xs : List V} {g : TG} {tt : TT} {te : TE} {vs : List Nat} {σ : L2.St} {H1 : Hp} {D : Addr} {Qd : Hp → Prop} (Pv : Nat → Hp → Prop)
    (h0 : Pv 0 (upd H1 D (.lst []))) (hl : ∀ i H, Pv i H → SqL K H a xs)
    (hs : ∀ i x T H, xs[i]? = some x → H T = none → Pv i H → g (.ref T) (wipe σ vs) (upd H T (.tup [.int (i : Nat), x])) fun σ2 H2 => wipe σ2 vs = wipe σ vs ∧ tt σ2 H2 fun b H3 =>
      if b = true then te σ2 H3 fun y H4 => ∃ acc, H4 D = some (.lst acc) ∧ acc.length < sizeLine ∧ Pv (i + 1) (upd H4 D (.lst (acc ++ [y]))) else Pv (i + 1) H3)
    (hd : ∀ H, Pv xs.length H → Qd H) :
    ∃ W : Nat → Nat → Hp → Prop, (∃ m, W 0 m (upd H1 D (.lst []))) ∧ ∀ i m H, W i m H → ((Ite K a).stop i H ∧ Qd H) ∨
      ((Ite K a).go i H ∧ ∃ Nx : Hp → Prop, (∀ H', Nx H' → ∃ m', m' < m ∧ W (i + 1) m' H') ∧ ∀ x H', (Ite K a).yld i H x H' → g x (wipe σ vs) H' fun σ2 H2 => wipe σ2 vs = wipe σ vs ∧ tt σ2 H2 fun b H3 =>
        if b = true then te σ2 H3 fun y H4 => ∃ acc, H4 D = some (.lst acc) ∧ acc.length < sizeLine ∧ Nx (upd H4 D (.lst (acc ++ [y]))) else Nx H3) := by
  refine ⟨fun i m H => i + m = xs.length ∧ Pv i H, ⟨xs.length, Nat.zero_add _, h0⟩, fun i m H ⟨em, p⟩ => ?_⟩
  by_cases hi : i < xs.length
  · refine .inr ⟨⟨xs, xs[i], hl i H p, List.getElem?_eq_getElem hi⟩, Pv (i + 1), fun H' p' => ⟨m - 1, by omega, by omega, p'⟩, fun x H' y => ?_⟩
    obtain ⟨T, z, rfl, hT, rfl, hz⟩ := y
    exact hs i z T H (hz xs (hl i H p)) hT p
  · have e : i = xs.length := by omega
    exact .inl ⟨⟨xs, hl i H p, by omega⟩, hd H (e ▸ p)⟩
end Lf
namespace Lf
open PySem PySem.Spec PyProof.Rows L2
/-- signs that a text may hold -/
abbrev SOk (x : Str) : Prop := ∀ c ∈ x.cps.toList, c < 0x110000
theorem sok_append {x y : Str} (h1 : SOk x) (h2 : SOk y) : SOk (x ++ y) := fun c hc => by
  have e : (x ++ y).cps.toList = x.cps.toList ++ y.cps.toList := by
    show (x.cps ++ y.cps).toList = _
    rw [Array.toList_append]
  rw [e] at hc
  rcases List.mem_append.mp hc with h | h
  · exact h1 c h
  · exact h2 c h
theorem sok_join {sep : Str} (hs : SOk sep) : ∀ {ys : List Str}, (∀ y ∈ ys, SOk y) → SOk (Str.join sep ys)
  | [], _ => fun c hc => by
    have h : c ∈ ([] : List Nat) := hc
    cases h
  | [x], h => h x (List.mem_cons_self ..)
  | x :: y :: r, h => sok_append (sok_append (h x (List.mem_cons_self ..)) hs) (sok_join hs fun z hz => h z (List.mem_cons_of_mem _ hz))
end Lf
namespace Lf
open PySem PySem.Spec PyProof.Rows L2
theorem len_K {X : Cx} : CallR X (.builtin "len") (Evl.rLenS X.K) := call_len_seq
end Lf
/-! Dicts whose keys are data of any depth: None, whole numbers, tuples of what they like. -/
namespace Vd
open PySem
section
variable {prog : Program} {w : World} {A : Around} {E : Value → Shared → Prop} {s : Shared}
abbrev Row := NestedKey × Value × Value
/-- what may be a key here: not too deep -/
structure KeyOk (k : NestedKey) : Prop where
  deep : k.depth ≤ 8
  noText : ∀ x, k = .text x → True
def ent (w : World) (x : Row) : DictEntry := { hash := x.1.hash w, key := x.2.1, val := x.2.2 }
/-- these rows may stand in a dict of the heap h -/
structure Rows (h : Heap) (xs : List Row) : Prop where
  ok : ∀ x ∈ xs, KeyOk x.1
  is : ∀ x ∈ xs, NestedIs h x.1 x.2.1
  nd : (xs.map (·.1)).Nodup
theorem one_place {xs : List Row} (hn : (xs.map (·.1)).Nodup) {i j : Nat} {k : NestedKey} {p q : Value × Value} (hi : xs[i]? = some (k, p)) (hj : xs[j]? = some (k, q)) : i = j := by
  have a : (xs.map (·.1))[i]? = some k := by rw [List.getElem?_map, hi]; rfl
  have b : (xs.map (·.1))[j]? = some k := by rw [List.getElem?_map, hj]; rfl
  exact (List.getElem?_inj (List.getElem?_eq_some_iff.mp a).1 hn).mp (a.trans b.symm)
theorem ent_at {es : Array DictEntry} {xs : List Row} (he : es.toList = xs.map (ent w)) (j : Nat) : es[j]? = (xs[j]?).map (ent w) := by
  rw [← Array.getElem?_toList, he, List.getElem?_map]
theorem ent_size {es : Array DictEntry} {xs : List Row} (he : es.toList = xs.map (ent w)) : es.size = xs.length := by
  rw [← Array.length_toList, he, List.length_map]
theorem eq_key {x y : NestedKey} {a b : Value} {Q : Bool → Shared → Prop} (hx : NestedIs s.heap x a) (hy : NestedIs s.heap y b) (ox : x.depth ≤ 8) (hu : A.units + 8 < cLine) (h : Q (decide (x = y)) s) :
    wpAny (model prog w) A (eqBool a b) Q E s := by
  have hm : A.units + min x.depth y.depth < cLine := by omega
  exact eqAt_key x y A s _ _ hx hy hm _ _ _ _ (by rw [← NestedKey.decide_eq]; exact h)
/-- the places asked are those of one hash -/
theorem places_mem {n i : Nat} {f : Nat → Option Int} {h : Int} : i ∈ placesWithHash n f h ↔ i < n ∧ (f i == some h) = true := by
  unfold placesWithHash
  rw [List.mem_filter, List.mem_range]
theorem places_nodup {n : Nat} {f : Nat → Option Int} {h : Int} : (placesWithHash n f h).Nodup := by
  unfold placesWithHash
  exact List.Pairwise.filter _ List.nodup_range
theorem may_tell {key : Value} {k : NestedKey} {stored : List Value} {Q : Bool → Shared → Prop} (hk : NestedIs s.heap k key) (ok : k.depth ≤ 8) (hst : ∀ v ∈ stored, ∃ j, NestedIs s.heap j v ∧ j.depth ≤ 8) (h : Q false s) :
    wpAny (model prog w) A (tableMayTell key stored) Q E s := by
  unfold tableMayTell
  split
  · exact wpAny_pure h
  · refine wpAny_bind (quiet_key k key 8 s hk ok A E _ ?_)
    rw [if_neg (by simp)]
    refine wpAny_bind (wpAny_forIn_list _ (fun rest r s' => s' = s ∧ r = (none, ()) ∧ ∀ v ∈ rest, ∃ j, NestedIs s.heap j v ∧ j.depth ≤ 8) _ ?_ ?_ _ _ ⟨rfl, rfl, hst⟩)
    · rintro x rest r s' ⟨rfl, rfl, hr⟩
      obtain ⟨j, hj, oj⟩ := hr x (List.mem_cons_self ..)
      refine wpAny_bind (quiet_key j x 8 s' hj oj A E _ ?_)
      rw [if_neg (by simp)]
      exact wpAny_pure ⟨rfl, rfl, fun v hv => hr v (List.mem_cons_of_mem _ hv)⟩
    · rintro r s' ⟨rfl, rfl, _⟩
      exact wpAny_pure h
theorem wIf {M : Model} {α : Type} {c : Prop} [Decidable c] {x y : Sem α} {Q : α → Shared → Prop} (h1 : c → wpAny M A x Q E s) (h2 : ¬ c → wpAny M A y Q E s) : wpAny M A (if c then x else y) Q E s := by
  by_cases h : c
  · rw [if_pos h]; exact h1 h
  · rw [if_neg h]; exact h2 h
/-- where a key stands, if anywhere -/
theorem find {d : Addr} {key : Value} {o : Obj} {es : Array DictEntry} {ep : Nat} {xs : List Row} {k : NestedKey} {Q : Option Nat → Shared → Prop} (hu : A.units + 8 < cLine) (hk : NestedIs s.heap k key) (ok : KeyOk k)
    (ho : s.heap.get? d = some o) (hd : o.data = .dict es ep) (he : es.toList = xs.map (ent w)) (R : Rows s.heap xs)
    (h0 : (∀ (j : Nat) (p : Value × Value), xs[j]? ≠ some (k, p)) → Q none s) (h1 : ∀ (j : Nat) (p : Value × Value), xs[j]? = some (k, p) → Q (some j) s) :
    wpAny (model prog w) A (dictFind d key (k.hash w)) Q E s := by
  have hsz : es.size = xs.length := ent_size he
  have row : ∀ i : Nat, i < es.size → ∃ (z : NestedKey) (p : Value × Value), xs[i]? = some (z, p) ∧ es[i]? = some (ent w (z, p)) ∧ NestedIs s.heap z p.1 ∧ KeyOk z := by
    intro i hi
    have hx : xs[i]? = some (xs[i]'(by omega)) := List.getElem?_eq_getElem _
    refine ⟨(xs[i]'(by omega)).1, (xs[i]'(by omega)).2, hx, ?_, R.is _ (List.mem_of_getElem? hx), R.ok _ (List.mem_of_getElem? hx)⟩
    rw [ent_at he i, hx]
    rfl
  have rowm : ∀ e ∈ es, ∃ z p, e = ent w (z, p) ∧ NestedIs s.heap z p.1 ∧ KeyOk z := by
    intro e hin
    obtain ⟨i, hi⟩ := Array.mem_iff_getElem?.mp hin
    obtain ⟨z, p, _, e2, r1, r2⟩ := row i (Array.getElem?_eq_some_iff.mp hi).1
    exact ⟨z, p, Option.some.inj (hi.symm.trans e2), r1, r2⟩
  generalize hpl : placesWithHash es.size (fun i => es[i]?.map (·.hash)) (k.hash w) = places
  have pm : ∀ i ∈ places, i < es.size ∧ ((es[i]?.map (·.hash)) == some (k.hash w)) = true := fun i hi => places_mem.mp (hpl ▸ hi)
  have pin : ∀ (j : Nat) (p : Value × Value), xs[j]? = some (k, p) → j ∈ places := by
    intro j p hj
    rw [← hpl]
    refine places_mem.mpr ⟨?_, ?_⟩
    · rw [hsz]
      exact (List.getElem?_eq_some_iff.mp hj).1
    · show (es[j]?.map (·.hash) == some (k.hash w)) = true
      rw [ent_at he j, hj]
      simp [ent]
  have pnd : places.Nodup := hpl ▸ places_nodup
  have turn : ∀ x ∈ places, ∃ (z : NestedKey) (p : Value × Value), xs[x]? = some (z, p) ∧ es[x]? = some (ent w (z, p)) ∧ NestedIs s.heap z p.1 ∧ KeyOk z ∧ z.hash w = k.hash w := by
    intro x hx
    obtain ⟨a, b⟩ := pm x hx
    obtain ⟨z, p, e1, e2, r1, r2⟩ := row x a
    refine ⟨z, p, e1, e2, r1, r2, ?_⟩
    rw [e2] at b
    simpa [ent] using b
  have walk : wpAny (model prog w) A (dictWalkPlain d key (k.hash w) es places) Q E s := by
    unfold dictWalkPlain
    refine wpAny_bind (wpAny_forIn_list _ (fun rest r s' => s' = s ∧ r = (none, ()) ∧ (∀ i ∈ rest, i ∈ places) ∧ ∀ (j : Nat) (p : Value × Value), xs[j]? = some (k, p) → j ∈ rest) _ ?_ ?_ _ _ ⟨rfl, rfl, fun _ h => h, pin⟩)
    · rintro x rest r s' ⟨rfl, rfl, hr, hj⟩
      obtain ⟨z, p, e1, e2, r1, r2, r3⟩ := turn x (hr x (List.mem_cons_self ..))
      have later : z ≠ k → ∀ (j : Nat) (p : Value × Value), xs[j]? = some (k, p) → j ∈ rest := fun ne j q hq => by
        rcases List.mem_cons.mp (hj j q hq) with e | h
        · subst e
          rw [e1] at hq
          cases hq
          exact absurd rfl ne
        · exact h
      rw [e2]
      dsimp only [ent]
      rw [if_pos (by rw [r3]; simp)]
      refine wpAny_bind (wpAny_dictEpoch ho hd (wpAny_bind (eq_key r1 hk r2.deep hu (wpAny_bind (wpAny_dictEpoch ho hd ?_)))))
      rw [if_neg (by simp)]
      by_cases c : z = k
      · rw [decide_eq_true c, if_pos rfl]
        subst c
        exact wpAny_bind (wpAny_rule (wpAny_pure (wpAny_pure (h1 x p e1))))
      · rw [decide_eq_false c, if_neg (by simp)]
        exact wpAny_bind (wpAny_rule (wpAny_pure ⟨rfl, rfl, fun i hi => hr i (List.mem_cons_of_mem _ hi), later c⟩))
    · rintro r s' ⟨rfl, rfl, _, hj⟩
      exact wpAny_pure (h0 fun j p hp => nomatch hj j p hp)
  have stq : ∀ v ∈ places.filterMap (fun i => es[i]?.map (·.key)), ∃ j, NestedIs s.heap j v ∧ j.depth ≤ 8 := by
    intro v hv
    obtain ⟨i, hi, e⟩ := List.mem_filterMap.mp hv
    obtain ⟨z, p, _, e2, r1, r2, _⟩ := turn i hi
    rw [e2] at e
    cases e
    exact ⟨z, r1, r2.deep⟩
  unfold dictFind
  refine wpAny_holding ?_
  refine wpAny_bind (wpAny_dictEntries ho hd ?_)
  have nany : ∀ a : Addr, key = .ref a → ¬ (es.any fun e => e.key == Value.ref a && e.hash != k.hash w) = true := by
    rintro a rfl
    rw [← Array.any_toList, List.any_eq_true]
    rintro ⟨e, hin, hc⟩
    obtain ⟨z, p, rfl, r1, r2⟩ := rowm e (Array.mem_toList_iff.mp hin)
    simp only [ent, Bool.and_eq_true, beq_iff_eq, bne_iff_ne, ne_eq] at hc
    have q := hc.1 ▸ r1
    exact hc.2 (by rw [NestedIs.inj _ _ _ q hk])
  have loop : ∀ f : Nat → Option (Option Nat) × Option Nat → Sem (ForInStep (Option (Option Nat) × Option Nat)),
      (∀ (i : Nat) (z : NestedKey) (p : Value × Value) (hit : Option Nat) (P : ForInStep (Option (Option Nat) × Option Nat) → Shared → Prop), es[i]? = some (ent w (z, p)) → NestedIs s.heap z p.1 → KeyOk z → z.hash w = k.hash w →
        (z = k → hit = none ∧ P (.done (some (some i), hit)) s ∧ P (.yield (none, some i)) s) → (z ≠ k → P (.yield (none, hit)) s) → wpAny (model prog w) A (f i (none, hit)) P E s) →
      wpAny (model prog w) A (forIn places (none, none) f) (fun r s' => s' = s ∧ ((∃ i p, xs[i]? = some (k, p) ∧ (r.1 = some (some i) ∨ (r.1 = none ∧ r.2 = some i))) ∨ ((∀ (j : Nat) (p : Value × Value), xs[j]? ≠ some (k, p)) ∧ r.1 = none ∧ r.2 = none))) E s := by
    intro f hf
    refine wpAny_forIn_list _ (fun rest r s' => s' = s ∧ rest.Nodup ∧ (∀ i ∈ rest, i ∈ places) ∧ r.1 = none ∧
      ((r.2 = none ∧ ∀ (j : Nat) (p : Value × Value), xs[j]? = some (k, p) → j ∈ rest) ∨ ∃ j p, r.2 = some j ∧ xs[j]? = some (k, p) ∧ j ∉ rest)) _ ?_ ?_ _ _ ⟨rfl, pnd, fun _ h => h, rfl, .inl ⟨rfl, pin⟩⟩
    · rintro x rest ⟨r1, hit⟩ s' ⟨rfl, hn, hr, e, hj⟩
      dsimp only at e hj
      subst e
      obtain ⟨z, p, e1, e2, i1, i2, i3⟩ := turn x (hr x (List.mem_cons_self ..))
      have hn' := List.nodup_cons.mp hn
      refine hf x z p hit _ e2 i1 i2 i3 (fun c => ?_) fun c => ⟨rfl, hn'.2, fun i hi => hr i (List.mem_cons_of_mem _ hi), rfl, ?_⟩
      · subst c
        have hz : hit = none := by
          rcases hj with ⟨a, _⟩ | ⟨j, q, _, b, c⟩
          · exact a
          · exact absurd (one_place R.nd e1 b ▸ List.mem_cons_self ..) c
        exact ⟨hz, ⟨rfl, .inl ⟨x, p, e1, .inl rfl⟩⟩, rfl, hn'.2, fun i hi => hr i (List.mem_cons_of_mem _ hi), rfl, .inr ⟨x, p, rfl, e1, hn'.1⟩⟩
      · rcases hj with ⟨a, b⟩ | ⟨j, q, a, b, c'⟩
        · refine .inl ⟨a, fun j q hq => ?_⟩
          rcases List.mem_cons.mp (b j q hq) with e | h
          · subst e
            rw [e1] at hq
            cases hq
            exact absurd rfl c
          · exact h
        · exact .inr ⟨j, q, a, b, fun h => c' (List.mem_cons_of_mem _ h)⟩
    · rintro ⟨r1, hit⟩ s' ⟨rfl, _, _, e, hj⟩
      dsimp only at e hj
      subst e
      rcases hj with ⟨rfl, b⟩ | ⟨j, q, rfl, b, _⟩
      · exact ⟨rfl, .inr ⟨fun j p hp => (nomatch b j p hp), rfl, rfl⟩⟩
      · exact ⟨rfl, .inl ⟨j, q, b, .inr ⟨rfl, rfl⟩⟩⟩
  have hk' := hk
  have bindW : ∀ W : Sem (Option Nat), wpAny (model prog w) A W Q E s → wpAny (model prog w) A (W >>= fun r => pure r) Q E s := fun W h => wpAny_bind (wpAny_mono h (fun _ _ h => wpAny_pure h) fun _ _ h => h)
  have walk' := bindW _ walk
  have tell : wpAny (model prog w) A (tableMayTell key (places.filterMap fun i => es[i]?.map (·.key))) (fun b s' => b = false ∧ s' = s) E s := may_tell hk ok.deep stq ⟨rfl, rfl⟩
  have step : ∀ {α : Type} {z : NestedKey} {p : Value × Value} {rest : Bool → Sem α} {P : α → Shared → Prop}, NestedIs s.heap z p.1 → KeyOk z → wpAny (model prog w) A (rest (decide (z = k))) P E s →
      wpAny (model prog w) A (eqBool p.1 key >>= rest) P E s := fun a b c => wpAny_bind (eq_key a hk b.deep hu c)
  have dec : ∀ z : NestedKey, z = k ∨ z ≠ k := fun z => Decidable.em _
  cases hk with
  | text x t =>
    dsimp only
    simp only [hpl]
    refine wIf (fun hall => ?_) fun _ => ?_
    · unfold foundByValue
      cases hf : es.findIdx? (fun e => e.key.isStr x) with
      | none =>
        refine wpAny_pure (h0 fun j p hj => ?_)
        have hx := ent_at (w := w) he j
        rw [hj] at hx
        have := Array.findIdx?_eq_none_iff.mp hf (ent w (.text x, p)) (Array.mem_of_getElem? hx)
        have r := R.is _ (List.mem_of_getElem? hj)
        dsimp only [ent] at this r
        generalize p.1 = v at this r
        cases r
        simp [Value.isStr] at this
      | some i =>
        have hi : i < es.size := (Array.findIdx?_eq_some_iff_getElem.mp hf).1
        have hs := (Array.findIdx?_eq_some_iff_getElem.mp hf).2.1
        obtain ⟨z, p, e1, e2, r1, r2⟩ := row i hi
        have ez : z = .text x := by
          have e3 : es[i] = ent w (z, p) := Option.some.inj ((Array.getElem?_eq_getElem hi).symm.trans e2)
          rw [e3] at hs
          dsimp only [ent] at hs
          generalize p.1 = v at hs r1
          cases r1 with
          | text y u =>
            simp [Value.isStr] at hs
            rw [hs]
          | _ => simp [Value.isStr] at hs
        subst ez
        dsimp only
        rw [e2]
        dsimp only [ent]
        refine wpAny_bind (wpAny_dictEpoch ho hd (wpAny_bind (eq_key r1 hk' r2.deep hu (wpAny_bind (wpAny_dictEpoch ho hd ?_)))))
        rw [if_neg (by simp), decide_eq_true rfl, if_pos rfl]
        exact wpAny_bind (wpAny_rule (wpAny_pure (h1 i p e1)))
    · skip
      refine wIf (fun ca => ?_) fun _ => ?_
      · first | exact walk | exact walk' | (simp [carriedByValue] at ca)
      · first | (refine wIf (fun c => absurd c (nany _ rfl)) fun _ => ?_) | skip
        refine wIf (fun _ => ?_) fun _ => ?_ <;>
          (first | refine wpAny_bind (wpAny_pure ?_) | refine wpAny_bind (wpAny_mono tell (fun b s' h => ?_) fun _ _ h => h); obtain ⟨rfl, rfl⟩ := h)
        all_goals
          rw [if_neg (by simp)]
          refine wpAny_bind (wpAny_mono (loop _ fun i z p hit P e2 i1 i2 i3 yes no => ?_) (fun r s' h => ?_) fun _ _ h => h)
          rotate_left
          · obtain ⟨rfl, ⟨i, p, e1, e | ⟨e, e'⟩⟩ | ⟨no, e, e'⟩⟩ := h <;> rw [e]
            · exact wpAny_pure (h1 i p e1)
            · dsimp only
              rw [e']
              exact wpAny_pure (h1 i p e1)
            · dsimp only
              rw [e']
              exact wpAny_pure (h0 no)
          rw [e2]
          dsimp only [ent]
          rw [if_pos (by rw [i3]; simp)]
          refine wpAny_bind (wpAny_dictEpoch ho hd (step i1 i2 (wpAny_bind (wpAny_dictEpoch ho hd ?_))))
          rw [if_neg (by simp)]
          rcases dec z with c | c
          · obtain ⟨rfl, y1, y2⟩ := yes c
            rw [decide_eq_true c, if_pos rfl, if_neg (by simp)]
            refine wpAny_bind (wpAny_rule ?_)
            split
            · exact wpAny_pure y1
            · exact wpAny_pure y2
          · rw [decide_eq_false c, if_neg (by simp)]
            refine wpAny_bind (wpAny_rule ?_)
            rw [if_neg (by simp)]
            exact wpAny_pure (no c)
  | _ =>
    dsimp only
    simp only [hpl]
    refine wIf (fun ca => ?_) fun _ => ?_
    · first | exact walk | exact walk' | (simp [carriedByValue] at ca)
    · first | (refine wIf (fun c => absurd c (nany _ rfl)) fun _ => ?_) | skip
      refine wIf (fun _ => ?_) fun _ => ?_ <;>
        (first | refine wpAny_bind (wpAny_pure ?_) | refine wpAny_bind (wpAny_mono tell (fun b s' h => ?_) fun _ _ h => h); obtain ⟨rfl, rfl⟩ := h)
      all_goals
        rw [if_neg (by simp)]
        refine wpAny_bind (wpAny_mono (loop _ fun i z p hit P e2 i1 i2 i3 yes no => ?_) (fun r s' h => ?_) fun _ _ h => h)
        rotate_left
        · obtain ⟨rfl, ⟨i, p, e1, e | ⟨e, e'⟩⟩ | ⟨no, e, e'⟩⟩ := h <;> rw [e]
          · exact wpAny_pure (h1 i p e1)
          · dsimp only
            rw [e']
            exact wpAny_pure (h1 i p e1)
          · dsimp only
            rw [e']
            exact wpAny_pure (h0 no)
        rw [e2]
        dsimp only [ent]
        rw [if_pos (by rw [i3]; simp)]
        refine wpAny_bind (wpAny_dictEpoch ho hd (step i1 i2 (wpAny_bind (wpAny_dictEpoch ho hd ?_))))
        rw [if_neg (by simp)]
        rcases dec z with c | c
        · obtain ⟨rfl, y1, y2⟩ := yes c
          rw [decide_eq_true c, if_pos rfl, if_neg (by simp)]
          refine wpAny_bind (wpAny_rule ?_)
          split
          · exact wpAny_pure y1
          · exact wpAny_pure y2
        · rw [decide_eq_false c, if_neg (by simp)]
          refine wpAny_bind (wpAny_rule ?_)
          rw [if_neg (by simp)]
          exact wpAny_pure (no c)
end
end Vd
namespace Vd
open PySem PySem.Calls PyProof.Rows
section
variable {prog : Program} {w : World} {A : Around} {E : Value → Shared → Prop} {s : Shared}
/-- what stands under a key -/
def look : List Row → NestedKey → Option Value
  | [], _ => none
  | x :: r, k => if x.1 = k then some x.2.2 else look r k
/-- a value put under a key: the key that stands there stays, a new one comes behind all -/
def put : List Row → NestedKey → Value → Value → List Row
  | [], k, a, v => [(k, a, v)]
  | x :: r, k, a, v => if x.1 = k then (x.1, x.2.1, v) :: r else x :: put r k a v
theorem look_none : ∀ {xs : List Row} {k : NestedKey}, (∀ (j : Nat) (p : Value × Value), xs[j]? ≠ some (k, p)) → look xs k = none
  | [], _, _ => rfl
  | x :: r, k, h => by
    rw [look, if_neg fun e => h 0 x.2 (by rw [← e]; rfl)]
    exact look_none fun j p e => h (j + 1) p e
theorem look_at : ∀ {xs : List Row} {j : Nat} {k : NestedKey} {p : Value × Value}, (xs.map (·.1)).Nodup → xs[j]? = some (k, p) → look xs k = some p.2
  | x :: r, 0, k, p, _, h => by
    cases h
    rw [look, if_pos rfl]
  | x :: r, j + 1, k, p, hn, h => by
    have hn' := List.nodup_cons.mp hn
    have hm : k ∈ r.map (·.1) := List.mem_map.mpr ⟨_, List.mem_of_getElem? (show r[j]? = some (k, p) from h), rfl⟩
    have ne : ¬ x.1 = k := fun e => hn'.1 (by show x.1 ∈ _; rw [e]; exact hm)
    rw [look, if_neg ne]
    exact look_at hn'.2 h
theorem put_new : ∀ {xs : List Row} {k : NestedKey} (a v : Value), (∀ (j : Nat) (p : Value × Value), xs[j]? ≠ some (k, p)) → put xs k a v = xs ++ [(k, a, v)]
  | [], _, _, _, _ => rfl
  | x :: r, k, a, v, h => by
    rw [put, if_neg fun e => h 0 x.2 (by rw [← e]; rfl), put_new a v fun j p e => h (j + 1) p e]
    rfl
theorem put_old (a v : Value) {k : NestedKey} {p : Value × Value} (xs : List Row) : ∀ {j : Nat}, (xs.map (·.1)).Nodup → xs[j]? = some (k, p) → put xs k a v = xs.set j (k, p.1, v) := by
  induction xs with
  | nil => intro j _ h; cases h
  | cons x r ih =>
    intro j hn h
    have hn' := List.nodup_cons.mp hn
    cases j with
    | zero =>
      have e : x = (k, p) := Option.some.inj h
      subst e
      rw [put, if_pos rfl]
      rfl
    | succ j =>
      have h' : r[j]? = some (k, p) := h
      have hm : k ∈ r.map (·.1) := List.mem_map.mpr ⟨_, List.mem_of_getElem? h', rfl⟩
      have ne : ¬ x.1 = k := fun e => hn'.1 (by show x.1 ∈ _; rw [e]; exact hm)
      rw [put, if_neg ne, ih hn'.2 h', List.set_cons_succ]
theorem put_keys : ∀ (xs : List Row) (k : NestedKey) (a v : Value), (put xs k a v).map (·.1) = if k ∈ xs.map (·.1) then xs.map (·.1) else xs.map (·.1) ++ [k]
  | [], k, a, v => rfl
  | x :: r, k, a, v => by
    rw [put]
    by_cases e : x.1 = k
    · rw [if_pos e, List.map_cons, List.map_cons, if_pos (by rw [e]; exact List.mem_cons_self ..)]
    · have ne : k ≠ x.1 := fun z => e z.symm
      rw [if_neg e, List.map_cons, List.map_cons, put_keys r k a v]
      by_cases m : k ∈ r.map (·.1)
      · rw [if_pos m, if_pos (List.mem_cons_of_mem _ m)]
      · rw [if_neg m, if_neg fun h => (List.mem_cons.mp h).elim ne m]
        rfl
theorem put_nd {xs : List Row} {k : NestedKey} {a v : Value} (h : (xs.map (·.1)).Nodup) : ((put xs k a v).map (·.1)).Nodup := by
  rw [put_keys]
  split
  · exact h
  · rename_i m
    refine List.nodup_append.mpr ⟨h, by simp, fun x hx y hy => ?_⟩
    rw [List.mem_singleton.mp hy]
    exact fun e => m (e ▸ hx)
theorem put_mem : ∀ {xs : List Row} {k : NestedKey} {a v : Value} {x : Row}, x ∈ put xs k a v → (x.1 = k ∧ x.2.1 = a) ∨ ∃ y ∈ xs, y.1 = x.1 ∧ y.2.1 = x.2.1
  | [], k, a, v, x, h => by
    rw [List.mem_singleton.mp h]
    exact .inl ⟨rfl, rfl⟩
  | z :: r, k, a, v, x, h => by
    rw [put] at h
    split at h
    · rcases List.mem_cons.mp h with e | h
      · rw [e]
        exact .inr ⟨z, List.mem_cons_self .., rfl, rfl⟩
      · exact .inr ⟨x, List.mem_cons_of_mem _ h, rfl, rfl⟩
    · rcases List.mem_cons.mp h with e | h
      · rw [e]
        exact .inr ⟨z, List.mem_cons_self .., rfl, rfl⟩
      · rcases put_mem h with h | ⟨y, h, e⟩
        · exact .inl h
        · exact .inr ⟨y, List.mem_cons_of_mem _ h, e⟩
theorem put_len (xs : List Row) (k : NestedKey) (a v : Value) : (put xs k a v).length ≤ xs.length + 1 := by
  have h := congrArg List.length (put_keys xs k a v)
  rw [List.length_map] at h
  rw [h]
  split <;> simp
/-- the object of a dict with these rows -/
def Holds (w : World) (h : Heap) (d : Addr) (xs : List Row) : Prop := ∃ o es ep, h.get? d = some o ∧ o.ExactDict ∧ o.data = .dict es ep ∧ es.toList = xs.map (ent w)
theorem Holds.ty {d : Addr} {xs : List Row} (x : Holds w s.heap d xs) : s.TypeIs (.ref d) "dict" := let ⟨o, _, _, e, c, _⟩ := x; ⟨o, e, c.1⟩
theorem Holds.stay {h h' : Heap} {d : Addr} {xs : List Row} (x : Holds w h d xs) (k : ∀ o, h.get? d = some o → h'.get? d = some o) : Holds w h' d xs := let ⟨o, es, ep, e, r⟩ := x; ⟨o, es, ep, k o e, r⟩
theorem Holds.new (h : Heap) : Holds w (h.push { cls := .type "dict", data := .dict #[] }) h.objs.size [] := ⟨_, #[], 0, Heap.get?_push_size _ rfl, ⟨rfl, rfl, rfl⟩, rfl, rfl⟩
/-- keys stay keys while a dict changes -/
theorem key_stays {h h' : Heap} {d : Addr} {o : Obj} {es : Array DictEntry} {ep : Nat} (ho : h.get? d = some o) (hd : o.data = .dict es ep) (sb : Heap.SameBut d h h') {k : NestedKey} {v : Value} (x : NestedIs h k v) : NestedIs h' k v :=
  NestedIs.at (fun b ob vs n hb hc => (sb.2 b fun e => by
    subst e
    rw [ho] at hb
    cases hb
    rw [hd] at hc
    cases hc).trans hb) k v x
theorem get {d : Addr} {key : Value} {xs : List Row} {k : NestedKey} {Q : Option Value → Shared → Prop} (hu : A.units + 8 < cLine) (hk : NestedIs s.heap k key) (ok : KeyOk k) (hm : Holds w s.heap d xs) (R : Rows s.heap xs)
    (h : Q (look xs k) { s with toks := s.toks + k.draws }) : wpAny (model prog w) A (dictGet d key) Q E s := by
  have hd8 := ok.deep
  obtain ⟨o, es, ep, ho, hc, hd, he⟩ := hm
  unfold dictGet
  refine wpAny_holding (wpAny_bind (pyHash_key k key A s _ hk (by omega) (wpAny_bind (find (s := { s with toks := s.toks + k.draws }) hu hk ok ho hd he ⟨R.ok, R.is, R.nd⟩ (fun no => ?_) fun j p hj => ?_))))
  · rw [look_none no] at h
    exact wpAny_pure h
  · rw [look_at R.nd hj] at h
    refine wpAny_bind (wpAny_dictEntries ho hd ?_)
    rw [ent_at he j, hj]
    exact wpAny_pure h
theorem set {d : Addr} {key v : Value} {xs : List Row} {k : NestedKey} {Q : Unit → Shared → Prop} (hu : A.units + 8 < cLine) (hk : NestedIs s.heap k key) (ok : KeyOk k) (hm : Holds w s.heap d xs) (R : Rows s.heap xs) (hz : xs.length ≤ sizeLine)
    (h : ∀ h', Holds w h' d (put xs k key v) → Rows h' (put xs k key v) → Heap.SameBut d s.heap h' → Q () { s with heap := h', toks := s.toks + k.draws }) : wpAny (model prog w) A (dictSet d key v) Q E s := by
  have hd8 := ok.deep
  obtain ⟨o, es, ep, ho, hc, hd, he⟩ := hm
  have hes := ent_size he
  have R' : ∀ h', Heap.SameBut d s.heap h' → Rows h' (put xs k key v) := fun h' sb => ⟨fun x hx => by
    rcases put_mem hx with ⟨e, _⟩ | ⟨y, hy, e, _⟩
    · rw [e]; exact ok
    · rw [← e]; exact R.ok y hy, fun x hx => by
    rcases put_mem hx with ⟨e, e'⟩ | ⟨y, hy, e, e'⟩
    · rw [e, e']; exact key_stays ho hd sb hk
    · rw [← e, ← e']; exact key_stays ho hd sb (R.is y hy), put_nd R.nd⟩
  unfold dictSet
  refine wpAny_holding (wpAny_bind (pyHash_key k key A s _ hk (by omega) ?_))
  unfold dictSetHashed
  refine wpAny_holding (wpAny_bind (find (s := { s with toks := s.toks + k.draws }) hu hk ok ho hd he ⟨R.ok, R.is, R.nd⟩ (fun no => ?_) fun j p hj => ?_))
  · refine wpAny_bind (wpAny_rule (wpAny_updateDictKeys (hz := by omega) ho hd (h _ ⟨_, _, ep + 1, Heap.get?_update_self _ ho (Obj.isFreed_of_dict (Obj.data_mapDictKeys hd _)), hc.mapDictKeys _, Obj.data_mapDictKeys hd _, ?_⟩ (R' _ (Heap.SameBut.update ..)) (Heap.SameBut.update ..))))
    rw [put_new _ _ no]
    simp [he, ent]
  · refine wpAny_bind (wpAny_rule (wpAny_bind (wpAny_updateDict ho hd (wpAny_point (h _ ⟨_, _, ep, Heap.get?_update_self _ ho (Obj.isFreed_of_dict (Obj.data_mapDict hd _)), hc.mapDict _, Obj.data_mapDict hd _, ?_⟩ (R' _ (Heap.SameBut.update ..)) (Heap.SameBut.update ..))))))
    have e1 : es[j]? = some (ent w (k, p)) := by rw [ent_at he j, hj]; rfl
    have e2 : (xs.map (ent w))[j]? = some (ent w (k, p)) := by rw [List.getElem?_map, hj]; rfl
    rw [put_old _ _ xs R.nd hj, Array.toList_modify, he]
    refine List.ext_getElem? fun i => ?_
    rw [List.getElem?_modify, List.map_set, List.getElem?_set]
    by_cases c : j = i
    · subst c
      have hlt : j < (xs.map (ent w)).length := (List.getElem?_eq_some_iff.mp e2).1
      rw [if_pos rfl, e2, if_pos hlt]
      simp [ent]
    · simp [c]
theorem setdefault {d : Addr} {key v : Value} {xs : List Row} {k : NestedKey} {Q : Value → Shared → Prop} (hu : A.units + 8 < cLine) (hk : NestedIs s.heap k key) (ok : KeyOk k) (hm : Holds w s.heap d xs) (R : Rows s.heap xs) (hz : xs.length ≤ sizeLine)
    (h1 : ∀ u, look xs k = some u → Q u { s with toks := s.toks + k.draws })
    (h2 : look xs k = none → ∀ h', Holds w h' d (put xs k key v) → Rows h' (put xs k key v) → Heap.SameBut d s.heap h' → Q v { s with heap := h', toks := s.toks + k.draws }) : wpAny (model prog w) A (dictSetDefault d key v) Q E s := by
  have hd8 := ok.deep
  obtain ⟨o, es, ep, ho, hc, hd, he⟩ := hm
  have hes := ent_size he
  have R' : ∀ h', Heap.SameBut d s.heap h' → Rows h' (put xs k key v) := fun h' sb => ⟨fun x hx => by
    rcases put_mem hx with ⟨e, _⟩ | ⟨y, hy, e, _⟩
    · rw [e]; exact ok
    · rw [← e]; exact R.ok y hy, fun x hx => by
    rcases put_mem hx with ⟨e, e'⟩ | ⟨y, hy, e, e'⟩
    · rw [e, e']; exact key_stays ho hd sb hk
    · rw [← e, ← e']; exact key_stays ho hd sb (R.is y hy), put_nd R.nd⟩
  unfold dictSetDefault
  refine wpAny_holding (wpAny_bind (pyHash_key k key A s _ hk (by omega) (wpAny_bind (find (s := { s with toks := s.toks + k.draws }) hu hk ok ho hd he ⟨R.ok, R.is, R.nd⟩ (fun no => ?_) fun j p hj => ?_))))
  · refine wpAny_bind (wpAny_rule (wpAny_bind (wpAny_updateDictKeys (hz := by omega) ho hd (wpAny_pure (h2 (look_none no) _ ⟨_, _, ep + 1, Heap.get?_update_self _ ho (Obj.isFreed_of_dict (Obj.data_mapDictKeys hd _)), hc.mapDictKeys _, Obj.data_mapDictKeys hd _, ?_⟩ (R' _ (Heap.SameBut.update ..)) (Heap.SameBut.update ..))))))
    rw [put_new _ _ no]
    simp [he, ent]
  · refine wpAny_bind (wpAny_dictEntries ho hd ?_)
    rw [ent_at he j, hj]
    exact wpAny_bind (wpAny_rule (wpAny_pure (h1 p.2 (look_at R.nd hj))))
end
end Vd
/-! Such dicts over the abstract heap. -/
namespace Vd
open PySem PySem.Spec PyProof.Rows L2
abbrev KVR := NestedKey × V × V
mutual
/-- the value y is the key k -/
def KeyAt (H : Hp) : NestedKey → V → Prop
  | .none, y => y = .non
  | .num i, y => y = .int i
  | .text x, y => y = .str x
  | .tup ks, y => ∃ a ys, y = .ref a ∧ H a = some (.tup ys) ∧ KeysAt H ks ys
def KeysAt (H : Hp) : List NestedKey → List V → Prop
  | [], ys => ys = []
  | k :: ks, ys => ∃ y r, ys = y :: r ∧ KeyAt H k y ∧ KeysAt H ks r
end
/-- the tuples of H stand in H' -/
def Tups (H H' : Hp) : Prop := ∀ a xs, H a = some (.tup xs) → H' a = some (.tup xs)
mutual
theorem KeyAt.keep {H H' : Hp} (t : Tups H H') : ∀ {k : NestedKey} {y : V}, KeyAt H k y → KeyAt H' k y
  | .none, _, h => h
  | .num _, _, h => h
  | .text _, _, h => h
  | .tup ks, _, h => by
    simp only [KeyAt] at h ⊢
    obtain ⟨a, ys, e, ha, hk⟩ := h
    exact ⟨a, ys, e, t a ys ha, KeysAt.keep t hk⟩
theorem KeysAt.keep {H H' : Hp} (t : Tups H H') : ∀ {ks : List NestedKey} {ys : List V}, KeysAt H ks ys → KeysAt H' ks ys
  | [], _, h => h
  | k :: ks, _, h => by
    simp only [KeysAt] at h ⊢
    obtain ⟨y, r, e, h1, h2⟩ := h
    exact ⟨y, r, e, KeyAt.keep t h1, KeysAt.keep t h2⟩
end
mutual
theorem KeyAt.is {P : Program} {w : World} {H : Hp} {h : Heap} (ok : HOk P w H h) : ∀ {k : NestedKey} {y : V} {u : Value}, KeyAt H k y → RelV y u → NestedIs h k u
  | .none, _, _, e, r => by
    simp only [KeyAt] at e
    subst e
    cases r
    exact .none
  | .num i, _, _, e, r => by
    simp only [KeyAt] at e
    subst e
    obtain ⟨t, rfl⟩ := r
    exact .int i t
  | .text x, _, _, e, r => by
    simp only [KeyAt] at e
    subst e
    obtain ⟨t, rfl⟩ := r
    exact .text x t
  | .tup ks, _, _, e, r => by
    simp only [KeyAt] at e
    obtain ⟨a, ys, rfl, ha, hk⟩ := e
    cases r
    obtain ⟨_, its, rv, o, ho, hc, n, hd⟩ := (show ObjOk P w H h a (.tup ys) from ok a _ ha)
    exact .tup ho hc hd (KeysAt.are ok hk rv)
theorem KeysAt.are {P : Program} {w : World} {H : Hp} {h : Heap} (ok : HOk P w H h) : ∀ {ks : List NestedKey} {ys : List V} {us : List Value}, KeysAt H ks ys → Vals ys us → NestedAll h ks us
  | [], _, _, e, r => by
    simp only [KeysAt] at e
    subst e
    cases r
    exact .nil
  | k :: ks, _, _, e, r => by
    simp only [KeysAt] at e
    obtain ⟨y, ys, rfl, h1, h2⟩ := e
    cases r with
    | cons r1 r2 => exact .cons (KeyAt.is ok h1 r1) (KeysAt.are ok h2 r2)
end
def RelR (p : KVR) (q : Row) : Prop := p.1 = q.1 ∧ RelV p.2.1 q.2.1 ∧ RelV p.2.2 q.2.2
def lookV : List KVR → NestedKey → Option V
  | [], _ => none
  | x :: r, k => if x.1 = k then some x.2.2 else lookV r k
def putV : List KVR → NestedKey → V → V → List KVR
  | [], k, y, v => [(k, y, v)]
  | x :: r, k, y, v => if x.1 = k then (x.1, x.2.1, v) :: r else x :: putV r k y v
theorem rel_look {kvs : List KVR} {xs : List Row} (r : Paired RelR kvs xs) (k : NestedKey) : RelO (lookV kvs k) (look xs k) := by
  induction r with
  | nil => exact True.intro
  | cons h _ ih =>
    rw [lookV, look, ← h.1]
    split
    · exact h.2.2
    · exact ih
theorem rel_put {kvs : List KVR} {xs : List Row} (r : Paired RelR kvs xs) (k : NestedKey) {y v : V} {a u : Value} (ry : RelV y a) (rv : RelV v u) : Paired RelR (putV kvs k y v) (put xs k a u) := by
  induction r with
  | nil => exact .cons ⟨rfl, ry, rv⟩ .nil
  | cons h t ih =>
    rw [putV, put, ← h.1]
    split
    · exact .cons ⟨rfl, h.2.1, rv⟩ t
    · exact .cons h ih
theorem rel_keys {kvs : List KVR} {xs : List Row} (r : Paired RelR kvs xs) : kvs.map (·.1) = xs.map (·.1) := by
  induction r with
  | nil => rfl
  | cons h _ ih => rw [List.map_cons, List.map_cons, ih, h.1]
theorem putV_len : ∀ (kvs : List KVR) (k : NestedKey) (y v : V), (putV kvs k y v).length ≤ kvs.length + 1
  | [], _, _, _ => Nat.le_refl _
  | x :: r, k, y, v => by
    rw [putV]
    split
    · exact Nat.le_succ _
    · exact Nat.succ_le_succ (putV_len r k y v)
theorem putV_keys : ∀ (xs : List KVR) (k : NestedKey) (a v : V), (putV xs k a v).map (·.1) = if k ∈ xs.map (·.1) then xs.map (·.1) else xs.map (·.1) ++ [k]
  | [], k, a, v => rfl
  | x :: r, k, a, v => by
    rw [putV]
    by_cases e : x.1 = k
    · rw [if_pos e, List.map_cons, List.map_cons, if_pos (by rw [e]; exact List.mem_cons_self ..)]
    · have ne : k ≠ x.1 := fun z => e z.symm
      rw [if_neg e, List.map_cons, List.map_cons, putV_keys r k a v]
      by_cases m : k ∈ r.map (·.1)
      · rw [if_pos m, if_pos (List.mem_cons_of_mem _ m)]
      · rw [if_neg m, if_neg fun h => (List.mem_cons.mp h).elim ne m]
        rfl
theorem putV_mem : ∀ {xs : List KVR} {k : NestedKey} {a v : V} {x : KVR}, x ∈ putV xs k a v → (x.1 = k ∧ x.2.1 = a) ∨ ∃ y ∈ xs, y.1 = x.1 ∧ y.2.1 = x.2.1
  | [], k, a, v, x, h => by
    rw [List.mem_singleton.mp h]
    exact .inl ⟨rfl, rfl⟩
  | z :: r, k, a, v, x, h => by
    rw [putV] at h
    split at h
    · rcases List.mem_cons.mp h with e | h
      · rw [e]
        exact .inr ⟨z, List.mem_cons_self .., rfl, rfl⟩
      · exact .inr ⟨x, List.mem_cons_of_mem _ h, rfl, rfl⟩
    · rcases List.mem_cons.mp h with e | h
      · rw [e]
        exact .inr ⟨z, List.mem_cons_self .., rfl, rfl⟩
      · rcases putV_mem h with h | ⟨y, h, e⟩
        · exact .inl h
        · exact .inr ⟨y, List.mem_cons_of_mem _ h, e⟩
theorem lookV_put : ∀ (kvs : List KVR) (k j : NestedKey) (y v : V), lookV (putV kvs k y v) j = if k = j then some v else lookV kvs j
  | [], k, j, y, v => rfl
  | x :: r, k, j, y, v => by
    rw [putV]
    by_cases e : x.1 = k
    · rw [if_pos e, lookV, lookV, e]
      by_cases c : k = j
      · rw [if_pos c, if_pos c]
      · rw [if_neg c, if_neg c, if_neg c]
    · rw [if_neg e, lookV, lookV, lookV_put r k j y v]
      by_cases c : k = j
      · subst c
        rw [if_neg e, if_pos rfl, if_pos rfl]
      · rw [if_neg c, if_neg c]
/-- what stands at the address of such a dict -/
def dV (w : World) (d : Addr) (kvs : List KVR) : HO := .ext fun h => (d == sysModules) = false ∧ kvs.length ≤ sizeLine ∧ ∃ xs, Paired RelR kvs xs ∧ Holds w h d xs
theorem dV_ok {P : Program} {w : World} {H : Hp} {h : Heap} {d : Addr} {kvs : List KVR} {xs : List Row} (hd : (d == sysModules) = false) (hz : kvs.length ≤ sizeLine) (r : Paired RelR kvs xs) (m : Holds w h d xs) : ObjOk P w H h d (dV w d kvs) :=
  ⟨⟨hd, hz, xs, r, m⟩, (let ⟨o, _, _, e, _⟩ := m; ⟨o, e⟩), fun _ _ p k => let ⟨a, b, ys, c, m⟩ := p; ⟨a, b, ys, c, m.stay k⟩⟩
/-- a dict of these entries -/
structure DAt (w : World) (H : Hp) (d : Addr) (kvs : List KVR) : Prop where
  «at» : Rd H d (dV w d kvs)
  ok : ∀ p ∈ kvs, KeyOk p.1 ∧ KeyAt H p.1 p.2.1
  nd : (kvs.map (·.1)).Nodup
theorem paired_mem {kvs : List KVR} {xs : List Row} (r : Paired RelR kvs xs) {x : Row} (hx : x ∈ xs) : ∃ p ∈ kvs, RelR p x := by
  induction r with
  | nil => cases hx
  | cons h _ ih =>
    rcases List.mem_cons.mp hx with e | hx
    · rw [e]
      exact ⟨_, List.mem_cons_self .., h⟩
    · obtain ⟨p, hp, q⟩ := ih hx
      exact ⟨p, List.mem_cons_of_mem _ hp, q⟩
theorem DAt.out {P : Program} {w : World} {H : Hp} {h : Heap} {d : Addr} {kvs : List KVR} (D : DAt w H d kvs) (ok : HOk P w H h) :
    (d == sysModules) = false ∧ kvs.length ≤ sizeLine ∧ ∃ xs, Paired RelR kvs xs ∧ Holds w h d xs ∧ Rows h xs := by
  obtain ⟨⟨hd, hz, xs, r, m⟩, _⟩ := (show ObjOk P w H h d (dV w d kvs) from D.at.ok ok)
  refine ⟨hd, hz, xs, r, m, ?_, ?_, by rw [← rel_keys r]; exact D.nd⟩
  · intro x hx
    obtain ⟨p, hp, q⟩ := paired_mem r hx
    rw [← q.1]
    exact (D.ok p hp).1
  · intro x hx
    obtain ⟨p, hp, q⟩ := paired_mem r hx
    rw [← q.1]
    exact (D.ok p hp).2.is ok q.2.1
theorem DAt.keep {w : World} {H H' : Hp} {d : Addr} {kvs : List KVR} (D : DAt w H d kvs) (t : Tups H H') (e : Rd H' d (dV w d kvs)) : DAt w H' d kvs := ⟨e, fun p hp => ⟨(D.ok p hp).1, (D.ok p hp).2.keep t⟩, D.nd⟩
theorem DAt.put {w : World} {H : Hp} {d : Addr} {kvs : List KVR} {k : NestedKey} {y v : V} (D : DAt w H d kvs) (hd : H d = some (dV w d kvs)) (ok : KeyOk k) (hy : KeyAt H k y) : DAt w (upd H d (dV w d (putV kvs k y v))) d (putV kvs k y v) := by
  have t : Tups H (upd H d (dV w d (putV kvs k y v))) := fun a xs e => by
    rw [upd_ne (ne_of e hd (fun z => nomatch z))]
    exact e
  refine ⟨.inl upd_same, fun p hp => ?_, ?_⟩
  · rcases putV_mem hp with ⟨e, e'⟩ | ⟨q, hq, e, e'⟩
    · rw [e, e']
      exact ⟨ok, hy.keep t⟩
    · rw [← e, ← e']
      exact ⟨(D.ok q hq).1, (D.ok q hq).2.keep t⟩
  · rw [putV_keys]
    split
    · exact D.nd
    · rename_i m
      refine List.nodup_append.mpr ⟨D.nd, by simp, fun x hx z hz => ?_⟩
      rw [List.mem_singleton.mp hz]
      exact fun e => m (e ▸ hx)
end Vd
namespace Vd
open PySem PySem.Spec PyProof.Rows L2
section
variable {X : Cx} {pins : List (Addr × Obj)} {σ : L2.St} {H : Hp} {s : Shared} {a : Addr} {kvs : List KVR} {k : NestedKey} {y z : V} {u r : Value} {A : Around} {E : Value → Shared → Prop}
/-- room for a call that looks a key up -/
theorem room8 (hu : A.units + 64 < cLine) : A.in1.units + 8 < cLine := by rw [Around.in1_units]; omega
theorem look_cases {kvs : List KVR} {xs : List Row} (r : Paired RelR kvs xs) (k : NestedKey) : (lookV kvs k = none ∧ look xs k = none) ∨ ∃ v u, lookV kvs k = some v ∧ look xs k = some u ∧ RelV v u := by
  have h := rel_look r k
  cases e1 : lookV kvs k with
  | none =>
    cases e2 : look xs k with
    | none => exact .inl ⟨rfl, rfl⟩
    | some u => rw [e1, e2] at h; exact h.elim
  | some v =>
    cases e2 : look xs k with
    | none => rw [e1, e2] at h; exact h.elim
    | some u => rw [e1, e2] at h; exact .inr ⟨v, u, rfl, rfl, h⟩
theorem inv_tok {n : Nat} (I : Inv X pins σ H s) : Inv X pins σ H { s with toks := n } := I.tok _
theorem c_get2 {Q : Value → Shared → Prop} (hu : A.units + 64 < cLine) (I : Inv X pins σ H s) (D : DAt X.w H a kvs) (ok : KeyOk k) (ky : KeyAt H k y) (ry : RelV y u) (rz : RelV z r) (h : ∀ w' s', Inv X pins σ H s' → RelV ((lookV kvs k).getD z) w' → Q w' s') :
    wpAny (model X.prog X.w) A (call (.builtin "dict.get") [.ref a, u, r]) Q E s := by
  obtain ⟨hd, hz, xs, rel, m, R⟩ := D.out I.hok
  refine call_meetsIn PySem.F.slot_dict_get m.ty PySem.F.entry_dict_get (PySem.F.args_dict_get_3 _ _ _) (S := fun A' R s' => A' = A ∧ s' = s ∧ ∀ w' s2, Inv X pins σ H s2 → RelV ((lookV kvs k).getD z) w' → R (.ok (.ret w')) s2) (.of_wp fun A' R' s' hS => ?_) ⟨rfl, rfl, fun w' s2 i q => h w' s2 i q⟩
  obtain ⟨rfl, rfl, hq⟩ := hS
  show wpAny _ _ (dictGet a u >>= _) _ _ _
  refine wpAny_bind (get (room8 hu) (ky.is I.hok ry) ok m R ?_)
  rcases look_cases rel k with ⟨e1, e2⟩ | ⟨v, w', e1, e2, rv⟩
  · rw [e2]
    rw [e1] at hq
    show wpAny _ _ (Builtin.Dict.missed a u >>= _) _ _ _
    exact wpAny_bind (wpAny_missed_other hd (wpAny_pure ⟨r, rfl, hq r _ (I.tok _) rz⟩))
  · rw [e2]
    rw [e1] at hq
    exact wpAny_pure ⟨w', rfl, hq w' _ (I.tok _) rv⟩
theorem c_setd {Q : Value → Shared → Prop} (hu : A.units + 64 < cLine) (I : Inv X pins σ H s) (hD : H a = some (dV X.w a kvs)) (D : DAt X.w H a kvs) (ok : KeyOk k) (ky : KeyAt H k y) (ry : RelV y u) (rz : RelV z r) (hl : kvs.length < sizeLine)
    (h1 : ∀ v, lookV kvs k = some v → ∀ w' s', Inv X pins σ H s' → RelV v w' → Q w' s') (h2 : lookV kvs k = none → ∀ w' s', Inv X pins σ (upd H a (dV X.w a (putV kvs k y z))) s' → RelV z w' → Q w' s') :
    wpAny (model X.prog X.w) A (call (.builtin "dict.setdefault") [.ref a, u, r]) Q E s := by
  obtain ⟨hd, hz, xs, rel, m, R⟩ := D.out I.hok
  have hzx : xs.length ≤ sizeLine := by rw [← Paired.length rel]; exact hz
  have hzp : (putV kvs k y z).length ≤ sizeLine := by have := putV_len kvs k y z; omega
  refine call_meetsIn PySem.F.slot_dict_setdefault m.ty PySem.F.entry_dict_setdefault (PySem.F.args_dict_setdefault_3 _ _ _) (S := fun A' R s' => A' = A ∧ s' = s ∧ (∀ v, lookV kvs k = some v → ∀ w' s', Inv X pins σ H s' → RelV v w' → R (.ok (.ret w')) s') ∧
    (lookV kvs k = none → ∀ w' s', Inv X pins σ (upd H a (dV X.w a (putV kvs k y z))) s' → RelV z w' → R (.ok (.ret w')) s')) (.of_wp fun A' R' s' hS => ?_) ⟨rfl, rfl, h1, h2⟩
  obtain ⟨rfl, rfl, q1, q2⟩ := hS
  unfold Builtin.«dict.setdefault»
  refine wpAny_bind ?_
  unfold Builtin.Dict.keyAndDefault
  refine wpAny_bind (wpAny_notOrdered_dict m.ty ?_)
  show wpAny _ _ (pure (a, u, some r)) _ _ _
  refine wpAny_pure ?_
  show wpAny _ _ (if (a == sysModules) = true then _ else (dictSetDefault a u r >>= _)) _ _ _
  rw [if_neg (by rw [hd]; exact Bool.false_ne_true)]
  refine wpAny_bind (setdefault (room8 hu) (ky.is I.hok ry) ok m R hzx (fun v hv => ?_) fun hn h' m' R2 sb => ?_)
  · rcases look_cases rel k with ⟨e1, e2⟩ | ⟨v', w', e1, e2, rv⟩
    · rw [e2] at hv; cases hv
    · rw [e2] at hv
      cases hv
      exact wpAny_pure ⟨v, rfl, q1 v' e1 v _ (I.tok _) rv⟩
  · rcases look_cases rel k with ⟨e1, e2⟩ | ⟨v', w', e1, e2, rv⟩
    · refine wpAny_pure ⟨r, rfl, q2 e1 r _ (d_write I (by rw [hD]; exact True.intro) sb (let ⟨o, _, _, e, _⟩ := m'; ⟨o, e⟩) (dV_ok hd hzp (rel_put rel k ry rz) m')) rz⟩
    · rw [e2] at hn; cases hn
theorem c_item {v : V} {Q : Value → Shared → Prop} (hu : A.units + 64 < cLine) (I : Inv X pins σ H s) (D : DAt X.w H a kvs) (ok : KeyOk k) (ky : KeyAt H k y) (ry : RelV y u) (hv : lookV kvs k = some v) (h : ∀ w' s', Inv X pins σ H s' → RelV v w' → Q w' s') :
    wpAny (model X.prog X.w) A (getItem (.ref a) u) Q E s := by
  obtain ⟨hd, hz, xs, rel, m, R⟩ := D.out I.hok
  unfold getItem
  refine wpAny_holding (wpAny_bind (wpAny_sequenceKey m.ty (by decide) ?_))
  refine wpAny_bind (wpAny_callSpecial?_slot (name := Str.ofString "__getitem__") m.ty slot_dict_getitem (wpAny_call_entry slot_dict_getitem m.ty entry_dict_getitem ?_ (args_dict_getitem _ _)))
  show wpAny _ _ (dictGet a u >>= _) _ _ _
  refine wpAny_bind (get (room8 hu) (ky.is I.hok ry) ok m R ?_)
  rcases look_cases rel k with ⟨e1, e2⟩ | ⟨v', w', e1, e2, rv⟩
  · rw [e1] at hv; cases hv
  · rw [e1] at hv
    cases hv
    rw [e2]
    exact wpAny_pure ⟨w', rfl, wpAny_pure (h w' _ (I.tok _) rv)⟩
theorem c_in {Q : Bool → Shared → Prop} (hu : A.units + 64 < cLine) (I : Inv X pins σ H s) (D : DAt X.w H a kvs) (ok : KeyOk k) (ky : KeyAt H k y) (ry : RelV y u) (h : ∀ s', Inv X pins σ H s' → Q (lookV kvs k).isSome s') :
    wpAny (model X.prog X.w) A (contains (.ref a) u) Q E s := by
  obtain ⟨hd, hz, xs, rel, m, R⟩ := D.out I.hok
  refine wpAny_contains_slot m.ty PySem.F.slot_dict_contains ?_
  refine call_meetsIn PySem.F.slot_dict_contains m.ty PySem.F.entry_dict_contains (PySem.F.args_dict_contains_2 _ _) (S := fun A' R s' => A' = A ∧ s' = s ∧ ∀ s2, Inv X pins σ H s2 → R (.ok (.ret (.bool (lookV kvs k).isSome))) s2) (fun A' R' s' hS => ?_) ⟨rfl, rfl, fun s2 i => wpAny_truthy_bool (h s2 i)⟩
  obtain ⟨rfl, rfl, hq⟩ := hS
  show wpAny _ _ (dictGet a u >>= _) _ _ _
  refine wpAny_bind (get (room8 hu) (ky.is I.hok ry) ok m R ?_)
  rcases look_cases rel k with ⟨e1, e2⟩ | ⟨v', w', e1, e2, rv⟩
  · rw [e2]
    rw [e1] at hq
    show wpAny _ _ (Builtin.Dict.pendingKey? a u >>= _) _ _ _
    exact wpAny_bind (wpAny_pendingKey_other hd (wpAny_pure (hq _ (I.tok _))))
  · rw [e2]
    rw [e1] at hq
    exact wpAny_pure (hq _ (I.tok _))
theorem c_put {Q : Unit → Shared → Prop} (hu : A.units + 64 < cLine) (I : Inv X pins σ H s) (hD : H a = some (dV X.w a kvs)) (D : DAt X.w H a kvs) (ok : KeyOk k) (ky : KeyAt H k y) (ry : RelV y u) (rz : RelV z r) (hl : kvs.length < sizeLine)
    (h : ∀ s', Inv X pins σ (upd H a (dV X.w a (putV kvs k y z))) s' → Q () s') : wpAny (model X.prog X.w) A (dictSet a u r) Q E s := by
  obtain ⟨hd, hz, xs, rel, m, R⟩ := D.out I.hok
  have hzx : xs.length ≤ sizeLine := by rw [← Paired.length rel]; exact hz
  have hzp : (putV kvs k y z).length ≤ sizeLine := by have := putV_len kvs k y z; omega
  have h8 : A.units + 8 < cLine := by omega
  exact set h8 (ky.is I.hok ry) ok m R hzx fun h' m' R2 sb => h _ (d_write I (by rw [hD]; exact True.intro) sb (let ⟨o, _, _, e, _⟩ := m'; ⟨o, e⟩) (dV_ok hd hzp (rel_put rel k ry rz) m'))
theorem c_store {Q : Unit → Shared → Prop} (hu : A.units + 64 < cLine) (I : Inv X pins σ H s) (hD : H a = some (dV X.w a kvs)) (D : DAt X.w H a kvs) (ok : KeyOk k) (ky : KeyAt H k y) (ry : RelV y u) (rz : RelV z r) (hl : kvs.length < sizeLine)
    (h : ∀ s', Inv X pins σ (upd H a (dV X.w a (putV kvs k y z))) s' → Q () s') : wpAny (model X.prog X.w) A (setItem (.ref a) u r) Q E s := by
  obtain ⟨hd, hz, xs, rel, m, R⟩ := D.out I.hok
  have hu' : A.in1.units + 62 < cLine := by rw [Around.in1_units]; omega
  unfold setItem
  refine wpAny_holding (wpAny_bind (wpAny_sequenceKey m.ty (by decide) ?_))
  refine wpAny_bind (wpAny_callSpecial?_slot (name := Str.ofString "__setitem__") m.ty slot_dict_setitem (wpAny_call_entry slot_dict_setitem m.ty entry_dict_setitem ?_ (args_dict_setitem _ _ _)))
  show wpAny _ _ (Builtin.Dict.notOrdered "__setitem__" ⟨[.ref a, u, r], []⟩ >>= _) _ _ _
  refine wpAny_bind (wpAny_notOrdered_dict m.ty ?_)
  show wpAny _ _ (dictSet a u r >>= _) _ _ _
  have hzx : xs.length ≤ sizeLine := by rw [← Paired.length rel]; exact hz
  have hzp : (putV kvs k y z).length ≤ sizeLine := by have := putV_len kvs k y z; omega
  exact wpAny_bind (set (room8 hu) (ky.is I.hok ry) ok m R hzx fun h' m' R2 sb => wpAny_pure ⟨.none, rfl, wpAny_pure (h _ (d_write I (by rw [hD]; exact True.intro) sb (let ⟨o, _, _, e, _⟩ := m'; ⟨o, e⟩) (dV_ok hd hzp (rel_put rel k ry rz) m')))⟩)
end
end Vd
/-! The rules: {}, d.get(k, x), d.setdefault(k, x), d[k], d[k] = v, k in d; the keys walked. -/
namespace Vd
open PySem PySem.Spec PyProof.Rows L2
/-- some dict of this layer stands at a -/
def Some (w : World) (H : Hp) (a : Addr) : Prop := ∃ kvs, Rd H a (dV w a kvs)
theorem some_at {X : Cx} {pins : List (Addr × Obj)} {σ : L2.St} {H : Hp} {s : Shared} {a : Addr} (I : Inv X pins σ H s) (d : Some X.w H a) :
    s.TypeIs (.ref a) "dict" ∧ ∀ b, Value.ref a = .ref b → ∃ ob, s.heap.get? b = some ob ∧ ob.dict = none := by
  obtain ⟨kvs, e⟩ := d
  obtain ⟨⟨_, _, xs, _, m⟩, _⟩ := (show ObjOk X.prog X.w H s.heap a (dV X.w a kvs) from e.ok I.hok)
  refine ⟨m.ty, fun b q => ?_⟩
  cases q
  obtain ⟨o, _, _, h1, h2, _⟩ := m
  exact ⟨o, h1, h2.2.1⟩
/-- {} -/
def tNew (w : World) : TE := fun _ H Q => ∀ p, H p = none → Q (.ref p) (upd H p (dV w p []))
/-- d.get(k, x) -/
def tGet2 (w : World) (td ty tx : TE) : TE := fun σ H Q => td σ H fun x H1 => ∃ a, x = .ref a ∧ Some w H1 a ∧ ty σ H1 fun y H2 => tx σ H2 fun z H3 => ∃ kvs k, DAt w H3 a kvs ∧ KeyOk k ∧ KeyAt H3 k y ∧ Q ((lookV kvs k).getD z) H3
/-- d.setdefault(k, x) -/
def tSetd (w : World) (td ty tx : TE) : TE := fun σ H Q => td σ H fun x H1 => ∃ a, x = .ref a ∧ Some w H1 a ∧ ty σ H1 fun y H2 => tx σ H2 fun z H3 => ∃ kvs k, H3 a = some (dV w a kvs) ∧ DAt w H3 a kvs ∧ KeyOk k ∧ KeyAt H3 k y ∧ kvs.length < sizeLine ∧
  (∀ v, lookV kvs k = some v → Q v H3) ∧ (lookV kvs k = none → Q z (upd H3 a (dV w a (putV kvs k y z))))
/-- d[k], the key there -/
def tIx (w : World) (td ty : TE) : TE := fun σ H Q => td σ H fun x H1 => ty σ H1 fun y H2 => ∃ a kvs k v, x = .ref a ∧ DAt w H2 a kvs ∧ KeyOk k ∧ KeyAt H2 k y ∧ lookV kvs k = some v ∧ Q v H2
/-- k in d -/
def tIn (w : World) (ty td : TE) : TE := fun σ H Q => ty σ H fun y H1 => td σ H1 fun x H2 => ∃ a kvs k, x = .ref a ∧ DAt w H2 a kvs ∧ KeyOk k ∧ KeyAt H2 k y ∧ Q (.bl (lookV kvs k).isSome) H2
def tNotIn (w : World) (ty td : TE) : TE := fun σ H Q => ty σ H fun y H1 => td σ H1 fun x H2 => ∃ a kvs k, x = .ref a ∧ DAt w H2 a kvs ∧ KeyOk k ∧ KeyAt H2 k y ∧ Q (.bl (!(lookV kvs k).isSome)) H2
/-- d[k] = v -/
def sPut (w : World) (td ty tv : TE) : TS := fun D σ H => tv σ H fun v H1 => td σ H1 fun x H2 => ty σ H2 fun y H3 => ∃ a kvs k, x = .ref a ∧ H3 a = some (dV w a kvs) ∧ DAt w H3 a kvs ∧ KeyOk k ∧ KeyAt H3 k y ∧ kvs.length < sizeLine ∧ D.nx σ (upd H3 a (dV w a (putV kvs k y v)))
section
variable {X : Cx} {o i e f value : Expr} {pos pos' apos cpos : Pos} {td ty tx tv : TE}
theorem pe_new : PE X (.Dict [] [] pos) (tNew X.w) := ⟨fun pins s σ H Q I h =>
  wpAny_Dict_empty ⟨.ref s.heap.objs.size, _, I.laid (a := s.heap.objs.size) (o := dV X.w s.heap.objs.size []) (t' := s.toks) (fun _ _ q => Heap.get?_push_of_some _ q) (Nat.le_refl _)
    (dV_ok (beq_eq_false_iff_ne.mpr (Ne.symm (Nat.ne_of_lt I.big))) (Nat.zero_le _) .nil (Holds.new s.heap)), rfl, h _ (I.hok.fresh (Nat.le_refl _))⟩⟩
theorem pe_get2 (hu : X.A.units + 64 < cLine) (ho : PE X o td) (he : PE X e ty) (hf : PE X f tx) (m : M2 X o "get" apos e f cpos) : PE X (.Call (.Attribute o "get" apos) [e, f] [] cpos) (tGet2 X.w td ty tx) := by
  refine ⟨fun pins s σ H Q I h => ?_⟩
  refine wpAny_Call_method m.base m.few m.line PySem.F.plainAttrs_dict PySem.F.slot_dict_get PySem.F.type_dict_get (thn (ho.run pins s σ H _ I h) fun u s1 ⟨x, H1, I1, rx, a, ex, d, q1⟩ => ?_)
  subst ex
  cases (show u = Value.ref a from rx)
  refine ⟨(some_at I1 d).1, (some_at I1 d).2, ?_⟩
  rw [m.trees]
  refine Calls.callWith_builtin rfl (Calls.evalArgs_plain (Calls.spliced_cons (thn (he.run pins s1 σ H1 _ I1 q1) fun iv s2 ⟨y, H2, I2, ry, q2⟩ => Calls.spliced_cons (thn (hf.run pins s2 σ H2 _ I2 q2) fun fv s3 ⟨z, H3, I3, rz, kvs, k, D, ok, ky, q3⟩ => Calls.spliced_nil ?_))))
  exact c_get2 hu I3 D ok ky ry rz fun w' s4 I4 rw' => ⟨_, H3, I4, rw', q3⟩
theorem pe_setd (hu : X.A.units + 64 < cLine) (ho : PE X o td) (he : PE X e ty) (hf : PE X f tx) (m : M2 X o "setdefault" apos e f cpos) : PE X (.Call (.Attribute o "setdefault" apos) [e, f] [] cpos) (tSetd X.w td ty tx) := by
  refine ⟨fun pins s σ H Q I h => ?_⟩
  refine wpAny_Call_method m.base m.few m.line PySem.F.plainAttrs_dict PySem.F.slot_dict_setdefault PySem.F.type_dict_setdefault (thn (ho.run pins s σ H _ I h) fun u s1 ⟨x, H1, I1, rx, a, ex, d, q1⟩ => ?_)
  subst ex
  cases (show u = Value.ref a from rx)
  refine ⟨(some_at I1 d).1, (some_at I1 d).2, ?_⟩
  rw [m.trees]
  refine Calls.callWith_builtin rfl (Calls.evalArgs_plain (Calls.spliced_cons (thn (he.run pins s1 σ H1 _ I1 q1) fun iv s2 ⟨y, H2, I2, ry, q2⟩ => Calls.spliced_cons (thn (hf.run pins s2 σ H2 _ I2 q2) fun fv s3 ⟨z, H3, I3, rz, kvs, k, hD, D, ok, ky, hl, q3, q4⟩ => Calls.spliced_nil ?_))))
  exact c_setd hu I3 hD D ok ky ry rz hl (fun v hv w' s4 I4 rw' => ⟨v, _, I4, rw', q3 v hv⟩) fun hn w' s4 I4 rw' => ⟨z, _, I4, rw', q4 hn⟩
theorem pe_ix (hu : X.A.units + 64 < cLine) (ho : PE X o td) (hi : PE X i ty) (hs : NoSl i) : PE X (.Subscript o i pos) (tIx X.w td ty) := by
  refine ⟨fun pins s σ H Q I h => ?_⟩
  refine subD_of PySem.F.slot_dict_getitem.lookup hs (thn (ho.run pins s σ H _ I h) fun u s1 ⟨x, H1, I1, rx, q1⟩ => thn (hi.run pins s1 σ H1 _ I1 q1) fun iv s2 ⟨y, H2, I2, ry, a, kvs, k, v, ex, D, ok, ky, hv, q2⟩ => ?_)
  subst ex
  cases (show u = Value.ref a from rx)
  exact ⟨(some_at I2 ⟨kvs, D.at⟩).1, c_item hu I2 D ok ky ry hv fun w' s3 I3 rw' => ⟨v, H2, I3, rw', q2⟩⟩
theorem pc_in (hu : X.A.units + 64 < cLine) (hi : PE X i ty) (ho : PE X o td) : PC X .In i o (tIn X.w ty td) := by
  refine ⟨fun pins s σ H Q I h => ?_⟩
  refine thn (hi.run pins s σ H _ I h) fun iv s1 ⟨y, H1, I1, ry, q1⟩ => thn (ho.run pins s1 σ H1 _ I1 q1) fun u s2 ⟨x, H2, I2, rx, a, kvs, k, ex, D, ok, ky, q2⟩ => ?_
  subst ex
  cases (show u = Value.ref a from rx)
  show wpAny _ _ (contains (.ref a) iv >>= fun b => pure (Value.bool b)) _ _ _
  exact wpAny_bind (c_in hu I2 D ok ky ry fun s3 I3 => wpAny_pure ⟨.bl (lookV kvs k).isSome, H2, I3, rfl, q2⟩)
theorem pc_notin (hu : X.A.units + 64 < cLine) (hi : PE X i ty) (ho : PE X o td) : PC X .NotIn i o (tNotIn X.w ty td) := by
  refine ⟨fun pins s σ H Q I h => ?_⟩
  refine thn (hi.run pins s σ H _ I h) fun iv s1 ⟨y, H1, I1, ry, q1⟩ => thn (ho.run pins s1 σ H1 _ I1 q1) fun u s2 ⟨x, H2, I2, rx, a, kvs, k, ex, D, ok, ky, q2⟩ => ?_
  subst ex
  cases (show u = Value.ref a from rx)
  show wpAny _ _ (contains (.ref a) iv >>= fun b => pure (Value.bool (!b))) _ _ _
  exact wpAny_bind (c_in hu I2 D ok ky ry fun s3 I3 => wpAny_pure ⟨.bl (!(lookV kvs k).isSome), H2, I3, rfl, q2⟩)
theorem ps_put (hu : X.A.units + 64 < cLine) (ho : PE X o td) (hi : PE X i ty) (hv : PE X value tv) (hs : swapsWith value (some (.Subscript o i pos')) pos.line X.env = pure false) :
    PS X (.Assign [.Subscript o i pos'] value pos) (sPut X.w td ty tv) := by
  refine ⟨fun pins s σ H D I h => ?_⟩
  refine wpAny_Assign_Subscript (thn (hv.run pins s σ H _ I h) fun r s1 ⟨v, H1, I1, rv, q1⟩ => thn (ho.run pins s1 σ H1 _ I1 q1) fun u s2 ⟨x, H2, I2, rx, q2⟩ => thn (hi.run pins s2 σ H2 _ I2 q2) fun iv s3 ⟨y, H3, I3, ry, a, kvs, k, ex, hD, D3, ok, ky, hl, q3⟩ => ?_) hs
  subst ex
  cases (show u = Value.ref a from rx)
  exact c_store hu I3 hD D3 ok ky ry rv hl fun s4 I4 => ⟨σ, _, I4, q3⟩
end
/-! ### the keys walked -/
/-- the keys of the locked dict at d, in their order -/
def Itk (w : World) (d : Addr) (o : Obj) (kvs : List KVR) : It where
  go := fun i H => H d = some (.frz o (dV w d kvs)) ∧ i < kvs.length
  yld := fun i H x H' => H' = H ∧ ∃ p, kvs[i]? = some p ∧ x = p.2.1
  stop := fun i H => H d = some (.frz o (dV w d kvs)) ∧ kvs.length ≤ i
theorem frz_out {X : Cx} {pins : List (Addr × Obj)} {σ : L2.St} {H : Hp} {s : Shared} {d : Addr} {o : Obj} {kvs : List KVR} (I : Inv X pins σ H s) (h : H d = some (.frz o (dV X.w d kvs))) :
    (d == sysModules) = false ∧ s.heap.get? d = some o ∧ o.ExactDict ∧ ∃ (es : Array DictEntry) (ep : Nat), o.data = .dict es ep ∧ es.size = kvs.length ∧ ∀ (i : Nat) (p : KVR), kvs[i]? = some p → ∃ en : DictEntry, es[i]? = some en ∧ RelV p.2.1 en.key := by
  obtain ⟨ho, ⟨hd, hz, xs, r, o', es, ep, ho', hx, hdt, he⟩, _⟩ := I.hok d _ h
  rw [ho] at ho'
  cases ho'
  refine ⟨hd, ho, hx, es, ep, hdt, ?_, fun i p e => ?_⟩
  · rw [ent_size he, ← Paired.length r]
  · obtain ⟨q, hq, rq⟩ := paired_get r e
    refine ⟨ent X.w q, ?_, rq.2.1⟩
    rw [ent_at he i, hq]
    rfl
section
variable {w : World} {P : Program} {K : PySem.W.Frag} {tg : Expr} {d : Addr} {o : Obj} {es : Array DictEntry} {ep : Nat}
theorem turn_keys {kvs : List KVR} (it : Addr) (hod : o.data = .dict es ep) : Turn P w K tg (Itk w d o kvs) [it] it (fun i h => h.IsKeyIter it d i kvs.length ep) where
  mem := List.mem_singleton.mpr rfl
  obj := by
    intro i h st b hb
    rw [List.mem_singleton.mp hb]
    obtain ⟨oi, e, c, dd⟩ := st
    exact ⟨oi, e, fun v z => by rw [dd] at z; cases z⟩
  keep := fun i h h' st k => st.at fun oi e => k it (List.mem_singleton.mpr rfl) oi e
  item := by
    intro X hP hw hK hc i pins s σ H E I hf st hg
    subst hP hw hK
    have F := hf it (List.mem_singleton.mpr rfl)
    obtain ⟨hs, hgd, hx, es', ep', hdt, hsz, hm⟩ := frz_out I hg.1
    obtain ⟨rfl, rfl⟩ := dict_ep hod hdt
    have hlt : i < kvs.length := hg.2
    have hp : kvs[i]? = some (kvs[i]'hlt) := List.getElem?_eq_getElem hlt
    obtain ⟨en, hen, ren⟩ := hm i _ hp
    refine next_key_item st hgd hdt hsz hen fun h' stays sb => ?_
    have I1 : Inv X pins σ H { s with heap := h' } := I.turned (t' := s.toks) (fun b ob hb e => (sb.2 b hb).trans e) F.1 F.2.1 F.2.2.2.1 F.2.2.2.2.1 F.2.2.2.2.2
    obtain ⟨oi, e, c, dd⟩ := id stays
    exact ⟨en.key, rfl, go_of (s := { s with heap := h' }) e c dd (by decide) ⟨_, H, I1, ren, ⟨rfl, _, hp, rfl⟩, stays, fun b hb => (hf b hb).1⟩⟩
  done := by
    intro X hP hw hK hc i pins s σ H E I hf st hg
    subst hP hw hK
    have F := hf it (List.mem_singleton.mpr rfl)
    obtain ⟨hs, hgd, hx, es', ep', hdt, hsz, hm⟩ := frz_out I hg.1
    obtain ⟨rfl, rfl⟩ := dict_ep hod hdt
    exact next_key_end (I.ok.hd hc) st hgd hdt hsz hg.2 fun h' eb => ⟨rfl, I.turned (t' := s.toks) (fun b ob hb e => eb b ob hb e) F.1 F.2.1 F.2.2.2.1 F.2.2.2.2.1 F.2.2.2.2.2⟩
  self := fun A i s Q E st h => wpAny_pyIter_keyiter st h
end
/-- for k in d, the dict locked -/
def iKeys (w : World) (td : TE) : TI := fun σ H R => td σ H fun x H1 => ∃ d o kvs, x = .ref d ∧ H1 d = some (.frz o (dV w d kvs)) ∧ R (Itk w d o kvs) H1
theorem pi_keys {X : Cx} {tg e : Expr} {td : TE} (he : PE X e td) : PI X tg e (iKeys X.w td) := by
  refine ⟨fun pins s σ H R I h => thn (he.run pins s σ H _ I h) fun u s1 ⟨x, H1, I1, rx, d, o, kvs, ex, hd, q⟩ => ?_⟩
  subst ex
  cases (show u = Value.ref d from rx)
  obtain ⟨hs, hgd, hx, es, ep, hdt, hsz, hm⟩ := frz_out I1 hd
  refine iter_keys hs hgd hx hdt (pi_one (tk := s1.toks) I1 _ (turn_keys _ hdt) ⟨_, Heap.get?_push_size _ rfl, rfl, ?_⟩ q)
  rw [hsz]
  rfl
end Vd
/-! A dict comprehension whose dict is of this layer. -/
namespace Vd
open PySem PySem.Spec PyProof.Rows L2
/-- what an entry of the comprehension asks: D holds kvs still, the key is a key -/
def tEntry (w : World) (D : Addr) (tk tv : TE) (Nx : Hp → Prop) : L2.St → Hp → Prop := fun σ H => tk σ H fun y H1 => tv σ H1 fun z H2 => ∃ kvs k, H2 D = some (dV w D kvs) ∧ DAt w H2 D kvs ∧ KeyOk k ∧ KeyAt H2 k y ∧ kvs.length < sizeLine ∧ Nx (upd H2 D (dV w D (putV kvs k y z)))
/-- {k: v for target in iter if ..}: D the new dict -/
def tDc (w : World) (wi : TI) (g : TG) (tt : TT) (tk tv : TE) (vs : List Nat) : TE := fun σ H Q => wi σ H fun J H1 => ∀ D, H1 D = none → ∃ W : Nat → Nat → Hp → Prop, (∃ m, W 0 m (upd H1 D (dV w D []))) ∧ ∀ i m H, W i m H →
  (J.stop i H ∧ Q (.ref D) H) ∨ (J.go i H ∧ ∃ Nx : Hp → Prop, (∀ H', Nx H' → ∃ m', m' < m ∧ W (i + 1) m' H') ∧ ∀ x H', J.yld i H x H' → g x (wipe σ vs) H' fun σ2 H2 => wipe σ2 vs = wipe σ vs ∧ tt σ2 H2 fun b H3 => if b = true then tEntry w D tk tv Nx σ2 H3 else Nx H3)
section
variable {X : Cx}
theorem pe_dc {kx vx tg iter : Expr} {ifs : List Expr} {scope : Scope} {own : List (Str × Nat)} {pos : Pos} {wi : TI} {g : TG} {tt : TT} {tk tv : TE} (hu : X.A.units + 64 < cLine) (hc : X.calm = true) (hN : X.N.Nodup) (hi : PI X tg iter wi) (ok : BlkOk X.N X.env.scope scope own)
    (hg : ∀ (s : Shared) (H : Hp) (C : Addr) (cl : List (Str × Addr)) (fp : List Addr), PG (X.blk s H scope (compEnvC scope cl C X.env) fp) tg g) (ht : ∀ (s : Shared) (H : Hp) (C : Addr) (cl : List (Str × Addr)) (fp : List Addr), PTs (X.blk s H scope (compEnvC scope cl C X.env) fp) ifs tt)
    (hk : ∀ (s : Shared) (H : Hp) (C : Addr) (cl : List (Str × Addr)) (fp : List Addr), PE (X.blk s H scope (compEnvC scope cl C X.env) fp) kx tk) (he : ∀ (s : Shared) (H : Hp) (C : Addr) (cl : List (Str × Addr)) (fp : List Addr), PE (X.blk s H scope (compEnvC scope cl C X.env) fp) vx tv)
    (hs : ∀ x, foldedSetIterable iter X.env x = pure x := by intro _; rfl) : PE X (.DictComp kx vx [⟨tg, iter, ifs, 0⟩] scope pos) (tDc X.w wi g tt tk tv (own.map (·.2))) := by
  refine ⟨fun pins s σ H Q I h => ?_⟩
  rw [arm_eval_DictComp]
  have there : ∀ y ∈ scope.names, y.2 = .free → ∃ c, X.env.cells.lookup y.1 = some c := fun y hy e => (ok.free y hy e).elim (fun k => I.ok.has _ (.inl k)) fun k => I.ok.has _ (.inr k)
  refine wpAny_comprehension_free rfl hs (closure_ok there) ok.kind (fun y hy e => by rw [ok.uniq y hy, e]) (thn (hi.run pins s σ H _ I h) fun _ _ hx => thn hx fun _ s2 ⟨it, fp, tn, J, H2, e, I2, T, st2, f2, q⟩ => ?_)
  subst e
  refine wpAny_newObj_type (newEnv_comp ?_)
  -- the new dict stands at D
  obtain ⟨D, hD⟩ : ∃ D, s2.heap.objs.size = D := ⟨_, rfl⟩
  rw [hD]
  obtain ⟨W, ⟨m0, w0⟩, turn⟩ := q D (I2.hok.fresh (Nat.le_of_eq hD))
  obtain ⟨s3, hs3⟩ : ∃ s3 : Shared, { s2 with heap := s2.heap.push { cls := .type "dict", data := .dict #[] } } = s3 := ⟨_, rfl⟩
  rw [hs3]
  have h3 : s3.heap = s2.heap.push { cls := .type "dict", data := .dict #[] } := hs3 ▸ rfl
  have I3 : Inv X pins σ (upd H2 D (dV X.w D [])) s3 := by
    rw [← hs3]
    refine I2.laid (t' := s2.toks) (fun _ _ there => Heap.get?_push_of_some _ there) (Nat.le_of_eq hD) ?_
    rw [← hD]
    exact dV_ok (beq_eq_false_iff_ne.mpr (Ne.symm (Nat.ne_of_lt I2.big))) (Nat.zero_le _) .nil (Holds.new s2.heap)
  have up : ∀ b ∈ fp, ∀ o, s2.heap.get? b = some o → s3.heap.get? b = some o := fun b _ o e => by rw [h3]; exact Heap.get?_push_of_some _ e
  have old : ∀ b ∈ fp, b < s2.heap.objs.size := fun b hb => let ⟨_, e, _⟩ := T.obj _ _ st2 b hb; Heap.lt_size e
  have f3 : ∀ b ∈ fp, FpOk X pins (upd H2 D (dV X.w D [])) b ∧ b < s3.heap.objs.size := fun b hb =>
    ⟨⟨by rw [upd_ne (fun e => Nat.lt_irrefl _ (Nat.lt_of_lt_of_eq (old b hb) (hD.trans e.symm)))]; exact (f2 b hb).1, (f2 b hb).2⟩, by rw [h3, Heap.size_push]; exact Nat.lt_succ_of_lt (old b hb)⟩
  have I4 := block_start I3 ok hN f3
  obtain ⟨C, hC⟩ : ∃ C, s3.heap.objs.size = C := ⟨_, rfl⟩
  rw [hC] at I4
  obtain ⟨cl, hcl⟩ : ∃ cl, cellsFrom (C + 1) scope.names (cloFrom X.env.cells scope.names []) = cl := ⟨_, rfl⟩
  rw [hcl] at I4
  have pg := hg s3 (upd H2 D (dV X.w D [])) C cl fp
  have pt := ht s3 (upd H2 D (dV X.w D [])) C cl fp
  have pk := hk s3 (upd H2 D (dV X.w D [])) C cl fp
  have pv := he s3 (upd H2 D (dV X.w D [])) C cl fp
  obtain ⟨ce, hce⟩ : ∃ ce, compEnvC scope cl C X.env = ce := ⟨_, rfl⟩
  have cL : ce.locals = C := hce ▸ rfl
  rw [hce] at I4 pg pt pk pv
  obtain ⟨s4, hs4⟩ : ∃ s4 : Shared, { s3 with heap := pushCells (s3.heap.push { cls := .type "dict", data := .dict #[] }) scope.names } = s4 := ⟨_, rfl⟩
  rw [hs4] at I4
  obtain ⟨H3, hH3⟩ : ∃ H3, upd H2 D (dV X.w D []) = H3 := ⟨_, rfl⟩
  rw [hH3] at I3 I4 pg pt pk pv w0 f3
  have st4 : tn 0 s4.heap := T.keep _ _ _ (T.keep _ _ _ st2 up) fun b _ o e => by rw [← hs4]; exact pushCells_keeps _ _ _ _ (Heap.get?_push_of_some _ e)
  have stat : ∀ {σ' : L2.St} {H' : Hp} {s' : Shared}, Inv (X.blk s3 H3 scope ce fp) [] σ' H' s' → (∀ b ∈ fp, H' b = none) → ∀ b ∈ fp, FpOk (X.blk s3 H3 scope ce fp) [] H' b := fun I' hn b hb =>
    ⟨hn b hb, (I'.ok.exf b hb).1, I'.ok.exfs b hb, .inl hb, fun x c e => (I'.ok.exf b hb).2 x c e, fun p hp => by cases hp⟩
  have post : ∀ (s' : Shared) (H' : Hp), Inv X pins σ H' s' → Q (.ref D) H' → ∀ m, s'.heap.Ns C m → FpOk X pins H' C → compPost (model X.prog X.w) X.A X.xe none (EP X pins σ Q) (.ref D) C (.ok .next) s' := fun s' H' I' q m hn f =>
    ⟨m, hn, fun h'' sb => ⟨.ref D, H', I'.turned (t' := s'.toks) (fun b o hb e => (sb.2 b hb).trans e) f.1 f.2.1 f.2.2.2.1 f.2.2.2.2.1 f.2.2.2.2.2, rfl, q⟩⟩
  have loop : codeAny (model X.prog X.w) X.A (.compLoop (.DictComp kx vx [⟨tg, iter, ifs, 0⟩] scope pos) 0 (.ref it) (.ref D) ce) (compPost (model X.prog X.w) X.A X.xe none (EP X pins σ Q) (.ref D) C) s4 := by
    refine compLoop_anyD (fun n s' => ∃ i H', Inv (X.blk s3 H3 scope ce fp) [] (wipe σ (own.map (·.2))) H' s' ∧ tn i s'.heap ∧ (∀ b ∈ fp, H' b = none) ∧ W i n H') ?_ m0 ⟨0, H3, I4, st4, fun b hb => (f3 b hb).1.1, w0⟩
    rintro n sT ⟨i, HT, jT, tT, zT, wT⟩
    rcases turn i n HT wT with ⟨ends, qq⟩ | ⟨goes, Nx, hNx, then_⟩
    · refine thnF (T.done (X.blk s3 H3 scope ce fp) rfl rfl rfl hc i [] sT _ HT (fun _ _ => False) jT (stat jT zT) tT ends) fun r sN ⟨hr, jN⟩ => ?_
      subst hr
      have jA : Inv X pins σ HT sN := I3.call' (ch := fp) jN.os jN.base jN.hok jN.bare fun b hb => ⟨(f3 b hb).1.2.2.2.1, (f3 b hb).1.2.1, (f3 b hb).1.2.2.2.2.1, (f3 b hb).1.2.2.2.2.2⟩
      have nC : HT C = none := cL ▸ (show HT ce.locals = none from jN.free)
      obtain ⟨m, hn, _⟩ := jN.loc
      exact post sN HT jA qq m (cL ▸ (show sN.heap.Ns ce.locals m from hn)) (I3.fpOk (Nat.le_of_eq hC) nC)
    · refine thnF (T.item (X.blk s3 H3 scope ce fp) rfl rfl rfl hc i [] sT _ HT (fun _ _ => False) jT (stat jT zT) tT goes) fun r sN ⟨u, hr, hN⟩ => ?_
      subst hr
      refine thnF hN fun _ sA ⟨x, HA, jA, rA, yA, tA, zA⟩ => ?_
      refine thnF (pg.run _ sA _ HA x u _ (jA.pinned (stat jA zA) (T.obj _ _ tA)) rA (then_ x HA yA)) fun _ sG ⟨τ, HG, jG, same, qG⟩ => ?_
      refine thnF (pt.run _ sG τ HG _ jG qG) fun b sI ⟨HI, jI, qI⟩ => ?_
      have fin : ∀ {s' : Shared} {H' : Hp}, Inv (X.blk s3 H3 scope ce fp) ([] ++ pinsAt fp sA.heap) τ H' s' → Nx H' → ∃ m, m < n ∧ ∃ i H', Inv (X.blk s3 H3 scope ce fp) [] (wipe σ (own.map (·.2))) H' s' ∧ tn i s'.heap ∧ (∀ b ∈ fp, H' b = none) ∧ W i m H' := fun {s' H'} I' next => by
        obtain ⟨m', hm, w'⟩ := hNx H' next
        have pin : ∀ b ∈ fp, ∀ o, sA.heap.get? b = some o → s'.heap.get? b = some o ∧ H' b = none := fun b hb o e => let z := I'.pin (b, o) (List.mem_append_right _ (List.mem_append_right _ (mem_pinsAt hb e))); ⟨z.1, z.2.1⟩
        have len : (wipe σ (own.map (·.2))).length = τ.length := by rw [← same, wipe_length]
        exact ⟨m', hm, i + 1, H', (I'.unpinned (pins := [])).weak len (fun j v e => (wipe_some (same ▸ e)).1), T.keep _ _ _ tA fun b hb o e => (pin b hb o e).1, fun b hb => let ⟨o, e, _⟩ := T.obj _ _ tA b hb; (pin b hb o e).2, w'⟩
      cases b with
      | false => exact fin jI qI
      | true =>
        refine thnF (pk.run _ sI τ HI _ jI qI) fun z sK ⟨yk, HK, jK, r10, qK⟩ => ?_
        refine thnF (pv.run _ sK τ HK _ jK qK) fun z2 sV ⟨yv, HV, jV, r11, kvs, k, hD11, D11, okk, ky, hz11, next⟩ => ?_
        exact c_put (X := X.blk s3 H3 scope ce fp) hu jV hD11 D11 okk ky r10 r11 hz11 fun sE jE => fin jE next
  rw [← hce, ← hcl, ← hC, ← hs4] at loop
  exact codeAny_compStart_dict loop (T.self X.A 0 _ _ _ (hs4 ▸ st4) loop)
end
end Vd
/-! name = {..} on one line. -/
namespace Vd
open PySem PySem.Spec PyProof.Rows L2
section
variable {X : Cx}
theorem dc_core {pins : List (Addr × Obj)} {s : Shared} {σ : L2.St} {H : Hp} {Q : VK} {kx vx tg iter : Expr} {ifs : List Expr} {scope : Scope} {own : List (Str × Nat)} {pos pos' : Pos} {wi : TI} {g : TG} {tt : TT} {tk tv : TE} {use : Option (Value → Sem Unit)} {Qf : Value → Shared → Prop}
    (hu : X.A.units + 64 < cLine) (hc : X.calm = true) (hN : X.N.Nodup) (I : Inv X pins σ H s) (hi : PI X tg iter wi) (ok : BlkOk X.N X.env.scope scope own)
    (hg : ∀ (s : Shared) (H : Hp) (C : Addr) (cl : List (Str × Addr)) (fp : List Addr), PG (X.blk s H scope (compEnvC scope cl C X.env) fp) tg g) (ht : ∀ (s : Shared) (H : Hp) (C : Addr) (cl : List (Str × Addr)) (fp : List Addr), PTs (X.blk s H scope (compEnvC scope cl C X.env) fp) ifs tt)
    (hk : ∀ (s : Shared) (H : Hp) (C : Addr) (cl : List (Str × Addr)) (fp : List Addr), PE (X.blk s H scope (compEnvC scope cl C X.env) fp) kx tk) (he : ∀ (s : Shared) (H : Hp) (C : Addr) (cl : List (Str × Addr)) (fp : List Addr), PE (X.blk s H scope (compEnvC scope cl C X.env) fp) vx tv)
    (hs : ∀ x, foldedSetIterable iter X.env x = pure x) (h : tDc X.w wi g tt tk tv (own.map (·.2)) σ H Q)
    (hRR : ∀ D C s' m H', Inv X pins σ H' s' → Q (.ref D) H' → s'.heap.Ns C m → FpOk X pins H' C → compPost (model X.prog X.w) X.A X.xe use Qf (.ref D) C (.ok .next) s') :
    wpAny (model X.prog X.w) X.A (comprehension (.DictComp kx vx [⟨tg, iter, ifs, 0⟩] scope pos) scope X.env pos' newDict false (eval iter X.env) use) Qf X.xe s := by
  have there : ∀ y ∈ scope.names, y.2 = .free → ∃ c, X.env.cells.lookup y.1 = some c := fun y hy e => (ok.free y hy e).elim (fun k => I.ok.has _ (.inl k)) fun k => I.ok.has _ (.inr k)
  refine wpAny_comprehension_free (use := use) rfl hs (closure_ok there) ok.kind (fun y hy e => by rw [ok.uniq y hy, e]) (thn (hi.run pins s σ H _ I h) fun _ _ hx => thn hx fun _ s2 ⟨it, fp, tn, J, H2, e, I2, T, st2, f2, q⟩ => ?_)
  subst e
  refine wpAny_newObj_type (newEnv_comp ?_)
  -- the new dict stands at D
  obtain ⟨D, hD⟩ : ∃ D, s2.heap.objs.size = D := ⟨_, rfl⟩
  rw [hD]
  obtain ⟨W, ⟨m0, w0⟩, turn⟩ := q D (I2.hok.fresh (Nat.le_of_eq hD))
  obtain ⟨s3, hs3⟩ : ∃ s3 : Shared, { s2 with heap := s2.heap.push { cls := .type "dict", data := .dict #[] } } = s3 := ⟨_, rfl⟩
  rw [hs3]
  have h3 : s3.heap = s2.heap.push { cls := .type "dict", data := .dict #[] } := hs3 ▸ rfl
  have I3 : Inv X pins σ (upd H2 D (dV X.w D [])) s3 := by
    rw [← hs3]
    refine I2.laid (t' := s2.toks) (fun _ _ there => Heap.get?_push_of_some _ there) (Nat.le_of_eq hD) ?_
    rw [← hD]
    exact dV_ok (beq_eq_false_iff_ne.mpr (Ne.symm (Nat.ne_of_lt I2.big))) (Nat.zero_le _) .nil (Holds.new s2.heap)
  have up : ∀ b ∈ fp, ∀ o, s2.heap.get? b = some o → s3.heap.get? b = some o := fun b _ o e => by rw [h3]; exact Heap.get?_push_of_some _ e
  have old : ∀ b ∈ fp, b < s2.heap.objs.size := fun b hb => let ⟨_, e, _⟩ := T.obj _ _ st2 b hb; Heap.lt_size e
  have f3 : ∀ b ∈ fp, FpOk X pins (upd H2 D (dV X.w D [])) b ∧ b < s3.heap.objs.size := fun b hb =>
    ⟨⟨by rw [upd_ne (fun e => Nat.lt_irrefl _ (Nat.lt_of_lt_of_eq (old b hb) (hD.trans e.symm)))]; exact (f2 b hb).1, (f2 b hb).2⟩, by rw [h3, Heap.size_push]; exact Nat.lt_succ_of_lt (old b hb)⟩
  have I4 := block_start I3 ok hN f3
  obtain ⟨C, hC⟩ : ∃ C, s3.heap.objs.size = C := ⟨_, rfl⟩
  rw [hC] at I4
  obtain ⟨cl, hcl⟩ : ∃ cl, cellsFrom (C + 1) scope.names (cloFrom X.env.cells scope.names []) = cl := ⟨_, rfl⟩
  rw [hcl] at I4
  have pg := hg s3 (upd H2 D (dV X.w D [])) C cl fp
  have pt := ht s3 (upd H2 D (dV X.w D [])) C cl fp
  have pk := hk s3 (upd H2 D (dV X.w D [])) C cl fp
  have pv := he s3 (upd H2 D (dV X.w D [])) C cl fp
  obtain ⟨ce, hce⟩ : ∃ ce, compEnvC scope cl C X.env = ce := ⟨_, rfl⟩
  have cL : ce.locals = C := hce ▸ rfl
  rw [hce] at I4 pg pt pk pv
  obtain ⟨s4, hs4⟩ : ∃ s4 : Shared, { s3 with heap := pushCells (s3.heap.push { cls := .type "dict", data := .dict #[] }) scope.names } = s4 := ⟨_, rfl⟩
  rw [hs4] at I4
  obtain ⟨H3, hH3⟩ : ∃ H3, upd H2 D (dV X.w D []) = H3 := ⟨_, rfl⟩
  rw [hH3] at I3 I4 pg pt pk pv w0 f3
  have st4 : tn 0 s4.heap := T.keep _ _ _ (T.keep _ _ _ st2 up) fun b _ o e => by rw [← hs4]; exact pushCells_keeps _ _ _ _ (Heap.get?_push_of_some _ e)
  have stat : ∀ {σ' : L2.St} {H' : Hp} {s' : Shared}, Inv (X.blk s3 H3 scope ce fp) [] σ' H' s' → (∀ b ∈ fp, H' b = none) → ∀ b ∈ fp, FpOk (X.blk s3 H3 scope ce fp) [] H' b := fun I' hn b hb =>
    ⟨hn b hb, (I'.ok.exf b hb).1, I'.ok.exfs b hb, .inl hb, fun x c e => (I'.ok.exf b hb).2 x c e, fun p hp => by cases hp⟩
  have loop : codeAny (model X.prog X.w) X.A (.compLoop (.DictComp kx vx [⟨tg, iter, ifs, 0⟩] scope pos) 0 (.ref it) (.ref D) ce) (compPost (model X.prog X.w) X.A X.xe use Qf (.ref D) C) s4 := by
    refine compLoop_anyD (fun n s' => ∃ i H', Inv (X.blk s3 H3 scope ce fp) [] (wipe σ (own.map (·.2))) H' s' ∧ tn i s'.heap ∧ (∀ b ∈ fp, H' b = none) ∧ W i n H') ?_ m0 ⟨0, H3, I4, st4, fun b hb => (f3 b hb).1.1, w0⟩
    rintro n sT ⟨i, HT, jT, tT, zT, wT⟩
    rcases turn i n HT wT with ⟨ends, qq⟩ | ⟨goes, Nx, hNx, then_⟩
    · refine thnF (T.done (X.blk s3 H3 scope ce fp) rfl rfl rfl hc i [] sT _ HT (fun _ _ => False) jT (stat jT zT) tT ends) fun r sN ⟨hr, jN⟩ => ?_
      subst hr
      have jA : Inv X pins σ HT sN := I3.call' (ch := fp) jN.os jN.base jN.hok jN.bare fun b hb => ⟨(f3 b hb).1.2.2.2.1, (f3 b hb).1.2.1, (f3 b hb).1.2.2.2.2.1, (f3 b hb).1.2.2.2.2.2⟩
      have nC : HT C = none := cL ▸ (show HT ce.locals = none from jN.free)
      obtain ⟨m, hn, _⟩ := jN.loc
      exact hRR D C sN m HT jA qq (cL ▸ (show sN.heap.Ns ce.locals m from hn)) (I3.fpOk (Nat.le_of_eq hC) nC)
    · refine thnF (T.item (X.blk s3 H3 scope ce fp) rfl rfl rfl hc i [] sT _ HT (fun _ _ => False) jT (stat jT zT) tT goes) fun r sN ⟨u, hr, hN⟩ => ?_
      subst hr
      refine thnF hN fun _ sA ⟨x, HA, jA, rA, yA, tA, zA⟩ => ?_
      refine thnF (pg.run _ sA _ HA x u _ (jA.pinned (stat jA zA) (T.obj _ _ tA)) rA (then_ x HA yA)) fun _ sG ⟨τ, HG, jG, same, qG⟩ => ?_
      refine thnF (pt.run _ sG τ HG _ jG qG) fun b sI ⟨HI, jI, qI⟩ => ?_
      have fin : ∀ {s' : Shared} {H' : Hp}, Inv (X.blk s3 H3 scope ce fp) ([] ++ pinsAt fp sA.heap) τ H' s' → Nx H' → ∃ m, m < n ∧ ∃ i H', Inv (X.blk s3 H3 scope ce fp) [] (wipe σ (own.map (·.2))) H' s' ∧ tn i s'.heap ∧ (∀ b ∈ fp, H' b = none) ∧ W i m H' := fun {s' H'} I' next => by
        obtain ⟨m', hm, w'⟩ := hNx H' next
        have pin : ∀ b ∈ fp, ∀ o, sA.heap.get? b = some o → s'.heap.get? b = some o ∧ H' b = none := fun b hb o e => let z := I'.pin (b, o) (List.mem_append_right _ (List.mem_append_right _ (mem_pinsAt hb e))); ⟨z.1, z.2.1⟩
        have len : (wipe σ (own.map (·.2))).length = τ.length := by rw [← same, wipe_length]
        exact ⟨m', hm, i + 1, H', (I'.unpinned (pins := [])).weak len (fun j v e => (wipe_some (same ▸ e)).1), T.keep _ _ _ tA fun b hb o e => (pin b hb o e).1, fun b hb => let ⟨o, e, _⟩ := T.obj _ _ tA b hb; (pin b hb o e).2, w'⟩
      cases b with
      | false => exact fin jI qI
      | true =>
        refine thnF (pk.run _ sI τ HI _ jI qI) fun z sK ⟨yk, HK, jK, r10, qK⟩ => ?_
        refine thnF (pv.run _ sK τ HK _ jK qK) fun z2 sV ⟨yv, HV, jV, r11, kvs, k, hD11, D11, okk, ky, hz11, next⟩ => ?_
        exact c_put (X := X.blk s3 H3 scope ce fp) hu jV hD11 D11 okk ky r10 r11 hz11 fun sE jE => fin jE next
  rw [← hce, ← hcl, ← hC, ← hs4] at loop
  exact codeAny_compStart_dict loop (T.self X.A 0 _ _ _ (hs4 ▸ st4) loop)
theorem ps_setDc {i : Nat} {y : Str} {py : Pos} {kx vx tg iter : Expr} {ifs : List Expr} {scope : Scope} {own : List (Str × Nat)} {pos spos : Pos} {wi : TI} {g : TG} {tt : TT} {tk tv : TE} (hu : X.A.units + 64 < cLine) (hc : X.calm = true) (hN : X.N.Nodup) (hy : X.N[i]? = some y) (hyl : X.env.scope.names.lookup y = some .local)
    (hsw : swapsWith (.DictComp kx vx [⟨tg, iter, ifs, 0⟩] scope pos) (some (.Name y py)) spos.line X.env = pure true) (hi : PI X tg iter wi) (ok : BlkOk X.N X.env.scope scope own)
    (hg : ∀ (s : Shared) (H : Hp) (C : Addr) (cl : List (Str × Addr)) (fp : List Addr), PG (X.blk s H scope (compEnvC scope cl C X.env) fp) tg g) (ht : ∀ (s : Shared) (H : Hp) (C : Addr) (cl : List (Str × Addr)) (fp : List Addr), PTs (X.blk s H scope (compEnvC scope cl C X.env) fp) ifs tt)
    (hk : ∀ (s : Shared) (H : Hp) (C : Addr) (cl : List (Str × Addr)) (fp : List Addr), PE (X.blk s H scope (compEnvC scope cl C X.env) fp) kx tk) (he : ∀ (s : Shared) (H : Hp) (C : Addr) (cl : List (Str × Addr)) (fp : List Addr), PE (X.blk s H scope (compEnvC scope cl C X.env) fp) vx tv)
    (hs : ∀ x, foldedSetIterable iter X.env x = pure x := by intro _; rfl) :
    PS X (.Assign [.Name y py] (.DictComp kx vx [⟨tg, iter, ifs, 0⟩] scope pos) spos) (tAsg (tDc X.w wi g tt tk tv (own.map (·.2))) (gName i)) := by
  refine ⟨fun pins s σ H D I h => ?_⟩
  rw [exec_Assign_Name_used _ _ _ _ hsw]
  refine wpAny_bind (wpAny_standAt (wpAny_bind ?_))
  show wpAny _ X.A (do let _ ← comprehension (.DictComp kx vx [⟨tg, iter, ifs, 0⟩] scope pos) scope X.env (firstIterPos [⟨tg, iter, ifs, 0⟩] pos) newDict false (eval iter X.env) (some (assign (.Name y py) X.env))) _ _ s
  have h : tDc X.w wi g tt tk tv (own.map (·.2)) σ H (fun x H1 => gName i x σ H1 D.nx) := h
  refine wpAny_bind (thn (dc_core (Qf := fun _ s' => SP X pins D .next s') hu hc hN I hi ok hg ht hk he hs h fun L C s' m H' I' q hn f => ?_) fun _ s' hq => wpAny_pure (wpAny_pure hq))
  show wpAny _ _ (assign (.Name y py) X.env (.ref L)) _ _ _
  refine wpAny_assign_Name (store_ok2 (v := V.ref L) I' hN hy (.inl hyl) rfl (fun s2 I2 ⟨a, sb, ha⟩ => ?_) (.inr hyl))
  obtain ⟨g0, g1, g2, g3, g4, g5⟩ := f
  have other : C ≠ a := ha.elim (fun z => z ▸ g1) fun z e => g4 y a z e.symm
  exact ⟨m, hn.sameBut sb other, fun h3 sb3 => ⟨_, H', I2.turned (t' := s2.toks) (fun b o hb e => (sb3.2 b hb).trans e) g0 g1 g3 g4 g5, q⟩⟩
theorem sw_trueD {kx vx : Expr} {gs : List Comprehension} {scope : Scope} {pos py : Pos} {y : Str} {l : Nat} {env : Env} (hk : env.scope.kind = .function) (hy : env.scope.names.lookup y = some .local) (hl : (py.line == pos.line) = true)
    (ha : (scope.names.any fun (n, k) => n == y && (k == .local || k == .cell)) = false) : swapsWith (.DictComp kx vx gs scope pos) (some (.Name y py)) l env = pure true := by
  have e1 : env.kindOf y = some .local := hy
  have e2 : env.blockKind = .function := by unfold Env.blockKind; rw [hk]; rfl
  unfold swapsWith
  simp only [e2, e1, ha, Expr.pos, hl]
  rfl
end
end Vd
/-! A law's own def, run where the law is entered: there no guard stands around it, so repr of lists and tuples can be told. -/
namespace Gd
open PySem PySem.Spec PyProof.Rows L2
/-- the promise of a def at one place A alone -/
def RunAt (A : Around) (P : Program) (w : World) (K : PySem.W.Frag) (mg : Str → Option Value) (base : Heap) (f : Addr) (fd : FuncData) (ps : List Str) (sp : Sp) : Prop :=
  ∀ outer s H args us vs Q E, Env0 P w K mg base A outer s H → BindsTo s fd args (ps.zip us) → Vals vs us → sp vs H Q E → codeAny (model P w) A (.call (.ref f) args) (CR CX0 outer P w H s Q E) s
/-- the body's judgement, at this place, gives it -/
theorem runAt {A : Around} {P : Program} {w : World} {K : PySem.W.Frag} {mg : Str → Option Value} {base : Heap} {k : Nat} {x qual : Str} {st : Stmt} {f : Addr} {fd : FuncData} {N ps : List Str} {sp : Sp}
    (F : Fun K x qual st f fd) (S : FnScope N ps (defScope st)) (rm : Room (k + 1) A) (len : ∀ vs H Q E, sp vs H Q E → vs.length = ps.length)
    (body : ∀ cdv outer s H vs Q E, sp vs H Q E → ∃ t, PSs (cxOf CX0 P w K mg base N qual (defScope st) f cdv A outer s H E).nox (defBody st) t ∧ t { nx := fun _ H' => Q .non H', rt := Q } (start N vs) H) :
    RunAt A P w K mg base f fd ps sp := by
  obtain ⟨oc, od, kV, doc, pm, an, cdv, ct, osl, rfl, lk, hcd⟩ := F.ex
  intro outer s H args us vs Q E e0 hb rv hsp
  have inK : K.In s.heap := e0.mod.kin.keeps fun b o e => (e0.bs b o e).1
  refine codeAny_call_function rm.depth (inK _ _ lk) rfl S.co S.gen rfl (PySem.W.codeRec_of inK hcd) (hb _ _ _ _ ?_)
  refine wpAny_newFunctionEnv_cells S.kind (fun ⟨n, v⟩ hm => (S.par n (List.of_mem_zip hm).1).imp id fun c => ⟨c, PySem.W.cellsFrom_some _ _ _ (.inl c)⟩) fun env he s1 ic => ?_
  subst he
  obtain ⟨t, ht, hq⟩ := body cdv outer s H vs Q E hsp
  refine ⟨(e0.mod.nolimit.keeps fun b o e => (e0.bs b o e).1).keeps ic.toInCall.keep, codeAny_func (wpAny_mono (ht.nox.run [] s1 (start N vs) H _ (inv_start S rm.hd e0 (len _ _ _ _ hsp) rv ic) hq) (fun fl s' hs => ?_) fun _ _ h => h)⟩
  cases fl with
  | ret u => exact let ⟨v, _, H', J, r, q⟩ := hs; ⟨v, H', J.os, J.bare, J.base, J.hok, r, q⟩
  | next => exact let ⟨_, H', J, q⟩ := hs; ⟨V.non, H', J.os, J.bare, J.base, J.hok, rfl, q⟩
  | brk => exact (let ⟨_, _, _, q⟩ := hs; q : False).elim
  | cont => exact (let ⟨_, _, _, q⟩ := hs; q : False).elim
/-- what is tracked where the law is entered: at most the script, locked -/
def entry (a : Addr) (t : Bool) (o : Obj) (xs : List V) : Hp := fun b => if b = a ∧ t = true then some (.frz o (.lst xs)) else none
theorem entry_some {a b : Addr} {t : Bool} {o : Obj} {xs : List V} {u : HO} (h : entry a t o xs b = some u) : b = a ∧ t = true ∧ u = .frz o (.lst xs) := by
  unfold entry at h
  split at h
  · rename_i c
    exact ⟨c.1, c.2, (Option.some.inj h).symm⟩
  · cases h
theorem law_at {P : Program} {w : World} {K : PySem.W.Frag} {mg mb : Str → Option Value} {fa a : Addr} {fd : FuncData} {x : Str} {sp : Sp} {s : Shared} {vs : List Value} {ns : List Int}
    (inK : K.In s.heap) (glob : s.heap.Ns mainGlobals mg) (hb : s.heap.Ns builtinsNs mb) (boot : ∀ x : Str, x ≠ "__name__" → mb x = bootBuiltins x) (lim : s.heap.NoLimit) (hg : s.gens = #[])
    (at_ : s.heap.get? a = some { cls := .type "list", data := .seq vs.toArray }) (hi : IntsAre vs ns) (hl : ns.length ≤ sizeLine)
    (run : ∀ base : Heap, K.In base → base.Ns mainGlobals mg → RunAt callerA P w K mg base fa fd [x] sp) (binds : ∀ (s : Shared) (u : Value), BindsTo s fd ⟨[u], []⟩ [(x, u)])
    (hsp : ∀ H : Hp, Only H → SqL K H a (ns.map V.int) → sp [.ref a] H (fun v _ => v = .bl true) fun _ _ _ => False) :
    codeAny (model P w) callerA (.call (.ref fa) ⟨[.ref a], []⟩) (fun r s' => r = .ok (.ret (.bool true)) ∧ OldK s.heap s'.heap ∧ s'.os = s.os ∧ AllBare s'.gens) s := by
  have rv := vals_ints hi
  obtain ⟨t, ht⟩ : ∃ t : Bool, t = true ↔ K.lookup a = none := ⟨(K.lookup a).isNone, Option.isNone_iff_eq_none⟩
  let o : Obj := { cls := .type "list", data := .seq vs.toArray }
  let H : Hp := entry a t o (ns.map V.int)
  have none_of : ∀ {b : Addr} {u : Obj}, s.heap.get? b = some u → (b = a → t = true → u ≠ o) → H b = none := fun {b u} e n => by
    cases q : H b with
    | none => rfl
    | some z =>
      obtain ⟨rfl, h1, _⟩ := entry_some q
      rw [at_] at e
      exact absurd (Option.some.inj e).symm (n rfl h1)
  have names : ∀ {b : Addr} {m : Str → Option Value}, s.heap.Ns b m → (hidT s.heap H).Ns b m := fun {b m} ⟨u, es, ep, e, d, r⟩ =>
    ⟨u, es, ep, hidT_get e (none_of e fun _ _ z => by rw [z] at d; cases (show Data.seq vs.toArray _ = Data.dict es ep from d)), d, r⟩
  have kept : K.In (hidT s.heap H) := fun b u e => hidT_get (inK b u e) (none_of (inK b u e) fun h1 h2 _ => by rw [h1, ht.mp h2] at e; cases e)
  have ok : HOk P w H s.heap := fun b u q => by
    obtain ⟨rfl, _, rfl⟩ := entry_some q
    exact ⟨at_, by rw [List.length_map]; exact hl, vs, _, rv, at_⟩
  have only : Only H := fun b => by
    cases q : H b with
    | none => exact .inl rfl
    | some u => exact .inr ⟨_, _, congrArg some (entry_some q).2.2⟩
  have script : SqL K H a (ns.map V.int) := by
    cases q : K.lookup a with
    | none => exact .inl (.inr ⟨o, if_pos ⟨rfl, ht.mpr q⟩⟩)
    | some u =>
      obtain rfl : o = u := Option.some.inj (at_.symm.trans (inK a u q))
      exact .inr ⟨_, vs.toArray, _, q, rfl, rfl, rfl, by rw [List.size_toArray, hi.length]; exact hl, by simpa using rv⟩
  have env : Env0 P w K mg (hidT s.heap H) callerA [] s H :=
    { frames := rfl, mod := ⟨kept, names glob, ⟨mb, names hb, boot⟩, let ⟨mc, h1, h2⟩ := lim; ⟨mc, names h1, h2⟩⟩, bs := fun _ _ e => of_hidT e, bsz := Nat.le_of_eq (hidT_size _ _), funs := trivial, frf := fun b hb => absurd hb List.not_mem_nil, hok := ok, bare := .of_eq hg }
  refine codeAny_mono (run _ kept (names glob) [] s H ⟨[.ref a], []⟩ [.ref a] [.ref a] _ _ env (binds s _) (.cons rfl .nil) (hsp H only script)) fun r s' h => ?_
  match r, h with
  | .ok (.ret u), ⟨v, H', os, bare, un, hok', r', q⟩ =>
    obtain rfl : v = .bl true := q
    refine ⟨by rw [show u = Value.bool true from r'], OldK.of_keep fun b z e => ?_, os, bare⟩
    cases hb : H b with
    | none => exact un.keep b z e hb (by intro z; cases z) (by simp)
    | some y =>
      obtain ⟨rfl, _, rfl⟩ := entry_some hb
      have e2 := (hok' b _ (un.frzs b o _ hb)).1
      rw [at_] at e
      exact (Option.some.inj e) ▸ e2
/-- the end of a text: as L2.walk_of, the law's def run where it is entered -/
theorem walk_at {l : PySem.W.OpenLaw} {n : Nat} {q : Program} {loose : List Str} {XP : (Str → Option Value) → Heap → Prop} {YP : World → Heap → Prop} {d : DefRec} {K : Params → PySem.W.Frag} {sp : World → Sp} {x : Str}
    (hn : l.most = some n) (hn2 : n ≤ sizeLine) (hdf : d.params.defaults = []) (hY : ∀ (w : World) (h : Heap), YP w h → (K w.params).In h)
    (F : ∀ (w : World) (mg : Str → Option Value) (fa : Addr) (h : Heap), (K w.params).In h → h.Ns mainGlobals mg → mg d.name = some (.ref fa) →
      ∃ fd : FuncData, (∀ (s : Shared) (u : Value), BindsTo s fd ⟨[u], []⟩ [(x, u)]) ∧ ∀ base : Heap, (K w.params).In base → base.Ns mainGlobals mg → RunAt callerA l.prog w (K w.params) mg base fa fd [x] (sp w))
    (hsp : ∀ (w : World) (H : Hp) (a : Addr) (ns : List Int), ns.length ≤ n → Only H → SqL (K w.params) H a (ns.map V.int) → sp w [.ref a] H (fun v _ => v = .bl true) fun _ _ _ => False) :
    PySem.W.WalkO q loose XP YP l.row.toRowW d [] (fun f vs => PySem.call f vs) := by
  refine Att.attach_call hn hdf fun w _ s mg mb fa o pm cd doc a vs ns G Y ho hd hcd hmg hobj hints hlen hg => ?_
  obtain ⟨fd, hb, hF⟩ := F w mg fa _ (hY w _ Y) G.T.g hmg
  exact law_at (hY w _ Y) G.T.g G.T.b G.T.builtins G.T.nolimit hg hobj hints (Nat.le_trans hlen hn2) hF hb fun H hO hS => hsp w H a ns hlen hO hS
/-- no guard stands around the law's own def -/
theorem no_guards (env : Env) : (callerA.deeper env).guards = some [] := rfl
/-- repr of data at any depth -/
def rRepr (K : PySem.W.Frag) : List V → Hp → VK → Prop := fun vs H Q => ∃ (a : Addr) (d : PyData), vs = [.ref a] ∧ Dp K H (.ref a) d ∧ d.showable = true ∧ d.hasDict = false ∧ d.depth ≤ 60 ∧ d.shown.length ≤ sizeLine ∧ Q (.str d.shown) H
theorem call_repr {X : Cx} (hg : X.A.guards = some []) (hu : X.A.units + 64 < cLine) : CallR X (.builtin "repr") (rRepr X.K) := by
  intro pins s σ H xs us Q I r h
  obtain ⟨a, d, rfl, dp, hs, hd, hdep, hl, q⟩ := h
  obtain rfl := Vals.ref1 r
  obtain ⟨as, rd⟩ := Dp.reads I d _ _ dp rfl
  exact repr_of_reads' rd hs (fun z => by rw [hd] at z; cases z) hg (by omega) (fun _ _ e => e) (fun h' u tk hk => ⟨.str d.shown, H, I.kept hk, ⟨u, rfl⟩, q⟩) hl
end Gd
/-! Data at any depth, alike: <, >, <=, >=, sorted. -/
namespace Dt
open PySem PySem.Spec PySem.W PyProof.Rows L2
section
variable {X : Cx}
def rCmpD (K : PySem.W.Frag) (f : PyData → PyData → Bool) : R2 := fun x y H Q => ∃ d e, Dp K H x d ∧ Dp K H y e ∧ PySem.W.alike d e = true ∧ d ≠ .none ∧ d.depth ≤ 50 ∧ Q (.bl (f d e)) H
theorem op_ltD (hu : X.A.units + 64 < cLine) : OpR X (compareOp .Lt) (rCmpD X.K fun d e => dataLt d e) := by
  intro pins s σ H x y v u Q I rx ry h
  obtain ⟨d, e, hd, he, al, dn, dp, q⟩ := h
  obtain ⟨as, r1⟩ := Dp.reads I d x v hd rx
  obtain ⟨bs, r2⟩ := Dp.reads I e y u he ry
  exact lt_data r1 r2 al dn (by have := Nat.min_le_left d.depth e.depth; omega) ⟨.bl _, H, I, rfl, q⟩
theorem op_gtD (hu : X.A.units + 64 < cLine) : OpR X (compareOp .Gt) (rCmpD X.K fun d e => dataLt e d) := by
  intro pins s σ H x y v u Q I rx ry h
  obtain ⟨d, e, hd, he, al, dn, dp, q⟩ := h
  obtain ⟨as, r1⟩ := Dp.reads I d x v hd rx
  obtain ⟨bs, r2⟩ := Dp.reads I e y u he ry
  exact gt_data r1 r2 al dn (by have := Nat.min_le_left d.depth e.depth; omega) ⟨.bl _, H, I, rfl, q⟩
theorem op_leD (hu : X.A.units + 64 < cLine) : OpR X (compareOp .LtE) (rCmpD X.K fun d e => !dataLt e d) := by
  intro pins s σ H x y v u Q I rx ry h
  obtain ⟨d, e, hd, he, al, dn, dp, q⟩ := h
  obtain ⟨as, r1⟩ := Dp.reads I d x v hd rx
  obtain ⟨bs, r2⟩ := Dp.reads I e y u he ry
  exact le_data r1 r2 al dn (by have := Nat.min_le_left d.depth e.depth; omega) ⟨.bl _, H, I, rfl, q⟩
theorem op_geD (hu : X.A.units + 64 < cLine) : OpR X (compareOp .GtE) (rCmpD X.K fun d e => !dataLt d e) := by
  intro pins s σ H x y v u Q I rx ry h
  obtain ⟨d, e, hd, he, al, dn, dp, q⟩ := h
  obtain ⟨as, r1⟩ := Dp.reads I d x v hd rx
  obtain ⟨bs, r2⟩ := Dp.reads I e y u he ry
  exact ge_data r1 r2 al dn (by have := Nat.min_le_left d.depth e.depth; omega) ⟨.bl _, H, I, rfl, q⟩
/-- sorted(xs): the items with what they are -/
def rSortedD (K : PySem.W.Frag) : List V → Hp → VK → Prop := fun vs H Q => ∃ (a : Addr) (bs : List (V × PyData)), vs = [.ref a] ∧ SqL K H a (bs.map (·.1)) ∧ (∀ b ∈ bs, Dp K H b.1 b.2) ∧ AllAlike (bs.map (·.2)) ∧ Sortable (bs.map (·.2)) ∧
  (∀ b ∈ bs, b.2.depth ≤ 50) ∧ ∀ p, H p = none → Q (.ref p) (upd H p (.lst ((bs.mergeSort (dataLe false (·.2))).map (·.1))))
theorem each_out : ∀ {out : List Value} {bs : List (V × PyData)}, EachIs (fun u (b : V × PyData) => RelV b.1 u) out bs → Vals (bs.map (·.1)) out
  | [], [], _ => .nil
  | _ :: _, _ :: _, .cons h1 h2 => .cons h1 (each_out h2)
theorem each_in : ∀ {bs : List (V × PyData)} {us : List Value}, Vals (bs.map (·.1)) us → EachIs (fun u (b : V × PyData) => RelV b.1 u) us bs
  | [], _, r => by
    cases r
    exact .nil
  | b :: bs, _, r => by
    cases r with
    | cons h1 h2 => exact .cons h1 (each_in h2)
theorem each_both {α β : Type} {R S : α → β → Prop} : ∀ {as : List α} {bs : List β}, EachIs R as bs → (∀ a b, b ∈ bs → R a b → S a b) → EachIs S as bs
  | _, _, .nil, _ => .nil
  | _, _, .cons h1 h2, f => .cons (f _ _ (List.mem_cons_self ..) h1) (each_both h2 fun a b m r => f a b (List.mem_cons_of_mem _ m) r)
theorem cr_sortedD (hu : X.A.units + 64 < cLine) : CallR X (.builtin "sorted") (rSortedD X.K) := by
  intro pins s σ H vs us Q I r h
  obtain ⟨a, bs, rfl, hs, hd, al, so, dep, q⟩ := h
  obtain ⟨its, rv, hl, hz⟩ := I.list hs
  obtain rfl := Vals.ref1 r
  have e := each_in rv
  have er : EachIs (fun u (b : V × PyData) => ∃ as, Reads s.heap u b.2 as) its bs := each_both e fun u b m rb => Dp.reads I b.2 b.1 u (hd b m) rb
  have hbl : bs.length ≤ sizeLine := by
    rw [List.length_map] at hz
    exact hz
  refine sorted_data (enc := fun b : V × PyData => b.2) hl.isList e er al so hbl (fun b m => by have := dep b m; omega) fun out hlen ho => ?_
  obtain ⟨ep, he'⟩ := PyProof.Rows.sortedAll_at s.heap its out.toArray
  have hlen2 : ((bs.mergeSort (dataLe false (·.2))).map (·.1)).length ≤ sizeLine := by
    rw [List.length_map, List.length_mergeSort]
    exact hbl
  exact ⟨.ref _, upd H (s.heap.objs.size + 1) (.lst ((bs.mergeSort (dataLe false (·.2))).map (·.1))), I.laid (t' := s.toks) (fun _ _ => PyProof.Rows.sortedAll_old) (Nat.le_succ _) ⟨hlen2, out, ep, each_out ho, he'⟩, rfl, q _ (I.hok.fresh (Nat.le_succ _))⟩
end
end Dt
/-! sorted of tuples that are alike, or unlike by their first items (which are alike): what stands behind is not asked. -/
namespace Sa
open PySem PySem.Spec PySem.W PySem.Calls PyProof.Rows L2 SrtO
/-- d < d' can be told: they are alike, or tuples whose first items are alike and not equal -/
def Akin (d d' : PyData) : Prop := alike d d' = true ∨ ∃ x r x' r', d = .tuple (x :: r) ∧ d' = .tuple (x' :: r') ∧ alike x x' = true ∧ PyData.eqv x x' = false
/-- .. or told apart by their second items -/
def Akin3 (d d' : PyData) : Prop := Akin d d' ∨ ∃ x y r x' y' r', d = .tuple (x :: y :: r) ∧ d' = .tuple (x' :: y' :: r') ∧ alike x x' = true ∧ PyData.eqv x x' = true ∧ alike y y' = true ∧ PyData.eqv y y' = false
theorem swo_data {α : Type} (k : α → PyData) : Swo fun x y => dataLt (k x) (k y) := by
  refine ⟨fun x y h => ?_, fun x y z h1 h2 => ?_⟩
  · cases e : dataLt (k y) (k x) with
    | false => rfl
    | true =>
      have z := lex_trans (O := itemOrd) _ _ _ h e
      have z2 : dataLt (k x) (k x) = false := lex_irrefl _
      have z3 : dataLt (k x) (k x) = true := z
      rw [z2] at z3
      cases z3
  · cases e : dataLt (k z) (k x) with
    | false => rfl
    | true =>
      rcases lex_negTrans (O := itemOrd) (keyToks (k z)) (keyToks (k y)) (keyToks (k x)) e with q | q
      · exact absurd (show dataLt (k z) (k y) = true from q) (by rw [h2]; simp)
      · exact absurd (show dataLt (k y) (k x) = true from q) (by rw [h1]; simp)
section
variable {prog : Program} {w : World} {A : Around} {s : Shared}
theorem akin_cmp {vs : List Value} {k : Value → PyData} (T : Value) (hr : ∀ v ∈ vs, ∃ as x r, Reads s.heap v (k v) as ∧ k v = .tuple (x :: r) ∧ dataType x = T) (hk : ∀ v ∈ vs, ∀ u ∈ vs, Akin3 (k v) (k u)) (hu : ∀ v ∈ vs, A.units + (k v).depth < cLine) :
    Cmp prog w A s (tuples' (T != Value.type "tuple")) (fun p => p.1 ∈ vs) (lt2 fun v u => dataLt (k v) (k u)) := by
  intro p q hm hm'
  show wpAny (model prog w) A (keyLt' _ p.1 q.1) (fun r s' => s' = s ∧ r = dataLt (k p.1) (k q.1)) (fun _ _ => False) s
  obtain ⟨as, x1, r1, ra, e1, t1⟩ := hr _ hm
  obtain ⟨bs, x2, r2, rb, e2, t2⟩ := hr _ hm'
  have ak := hk _ hm _ hm'
  have room := hu _ hm
  rw [e1] at ra ak room ⊢
  rw [e2] at rb ak ⊢
  have hd : (PyData.tuple (x1 :: r1)).depth = PyData.depthAll (x1 :: r1) + 1 := by simp [PyData.depth]
  have hd1 : x1.depth ≤ PyData.depthAll (x1 :: r1) := by
    simp only [PyData.depthAll]
    exact Nat.le_max_left _ _
  have htop : (T != Value.type "tuple") = true → ∀ t, x1 ≠ .tuple t := fun hb t e => by
    rw [← t1, e] at hb
    have hb' : (Value.type "tuple" != Value.type "tuple") = true := hb
    exact absurd hb' (by decide)
  revert ra rb
  generalize p.1 = va
  generalize q.1 = vb
  intro ra rb
  cases ra with
  | @tuple l o xs n _ _ h1 h2 h3 h4 =>
  cases rb with
  | @tuple l' o' xs' n' _ _ k1 k2 k3 k4 =>
  have n1 : xs.size = (x1 :: r1).length := by simpa using SeqAt.ReadsAll.length _ _ _ h4
  have n2 : xs'.size = (x2 :: r2).length := by simpa using SeqAt.ReadsAll.length _ _ _ k4
  rw [dataLt_tuple]
  rcases ak with (al | ⟨y, r, y', r', ey, ey', al, ne⟩) | ⟨y, z, r, y', z', r', ey, ey', al0, eq0, al, ne⟩
  · exact kat_lt h1 h3 k1 k3 (katLex_alike (x1 :: r1) (x2 :: r2) 0 _ _ _ _ h4 k4 (by simpa [alike] using al) (by have := Nat.min_le_left (PyData.depthAll (x1 :: r1)) (PyData.depthAll (x2 :: r2)); omega)
      (fun hb _ x r t ex => by obtain ⟨rfl, rfl⟩ := List.cons.inj ex; exact htop hb t) (by rw [n1, n2]) ⟨rfl, rfl⟩)
  · cases ey
    cases ey'
    have dn : x1 ≠ .none := ne_none_of al ne
    refine kat_lt h1 h3 k1 k3 ?_
    cases hx : xs.toList with
    | nil =>
      rw [hx] at h4
      cases h4
    | cons f fr =>
    cases hx' : xs'.toList with
    | nil =>
      rw [hx'] at k4
      cases k4
    | cons g gr =>
    rw [hx] at h4
    rw [hx'] at k4
    cases h4 with
    | cons ra1 ra2 =>
    cases k4 with
    | cons rb1 rb2 =>
    have hroom : A.units + min x1.depth x2.depth < cLine := by
      have := Nat.min_le_left x1.depth x2.depth
      omega
    refine kat_cons ((eqAt_alike x1 x2 A s f g _ _ ra1 rb1 al hroom) prog w _ _ ?_)
    rw [ne]
    refine kat_no (oneLt_alike (fun hb t e => ?_) ra1 rb1 al dn hroom ⟨rfl, (dataLt_all_no al ne).symm⟩)
    rw [Bool.and_eq_true] at hb
    exact htop hb.1 t e
  · cases ey
    cases ey'
    have dn : z ≠ .none := ne_none_of al ne
    refine kat_lt h1 h3 k1 k3 ?_
    cases hx : xs.toList with
    | nil =>
      rw [hx] at h4
      cases h4
    | cons f fr =>
    cases hx' : xs'.toList with
    | nil =>
      rw [hx'] at k4
      cases k4
    | cons g gr =>
    rw [hx] at h4
    rw [hx'] at k4
    cases h4 with
    | cons ra1 ra2 =>
    cases k4 with
    | cons rb1 rb2 =>
    cases ra2 with
    | cons ra2 ra3 =>
    cases rb2 with
    | cons rb2 rb3 =>
    have hd2 : z.depth ≤ PyData.depthAll (x1 :: z :: r) := by
      simp only [PyData.depthAll]
      omega
    have hroom : A.units + min x1.depth x2.depth < cLine := by
      have := Nat.min_le_left x1.depth x2.depth
      omega
    have hroom2 : A.units + min z.depth z'.depth < cLine := by
      have := Nat.min_le_left z.depth z'.depth
      omega
    refine kat_cons ((eqAt_alike x1 x2 A s f g _ _ ra1 rb1 al0 hroom) prog w _ _ ?_)
    rw [eq0]
    refine kat_yes (kat_cons ((eqAt_alike z z' A s _ _ _ _ ra2 rb2 al hroom2) prog w _ _ ?_))
    rw [ne]
    refine kat_no (oneLt_alike (fun hb t e => ?_) ra2 rb2 al dn hroom2 ⟨rfl, ((dataLt_all_yes al0 eq0).trans (dataLt_all_no al ne)).symm⟩)
    rw [Bool.and_eq_true] at hb
    exact absurd hb.2 (by decide)
end
/-- sorted(xs) of such tuples: sorted by what they are, stable -/
def rSortedB (K : PySem.W.Frag) : List V → Hp → VK → Prop := fun vs H Q => ∃ (a : Addr) (xs : List V) (k : V → PyData) (T : Value), vs = [.ref a] ∧ SqL K H a xs ∧ (∀ x ∈ xs, ∃ t y r, x = .ref t ∧ Dp K H x (k x) ∧ k x = .tuple (y :: r) ∧ dataType y = T) ∧
  (∀ x ∈ xs, ∀ y ∈ xs, Akin3 (k x) (k y)) ∧ (∀ x ∈ xs, (k x).depth ≤ 50) ∧
  ∀ ys p, Srtd (fun x y => dataLt (k x) (k y)) ys → Stb (fun x y => dataLt (k x) (k y)) ys xs → H p = none → Q (.ref p) (upd H p (.lst ys))
section
variable {X : Cx}
theorem cr_sortedB (hu : X.A.units + 64 < cLine) : CallR X (.builtin "sorted") (rSortedB X.K) := by
  intro pins s σ H vs us Q I r h
  obtain ⟨a, xs, k, T, rfl, hs, hx, hk, dep, q⟩ := h
  obtain ⟨its, rv, hl, hz⟩ := I.list hs
  obtain rfl := Vals.ref1 r
  obtain ⟨e1, e2⟩ := refs_back rv fun x m => by
    obtain ⟨t, _, _, e, _⟩ := hx x m
    exact ⟨t, e⟩
  have mem : ∀ v ∈ its, backV v ∈ xs := fun v hv => by
    rw [e1]
    exact List.mem_map.mpr ⟨_, hv, rfl⟩
  have read : ∀ v ∈ its, ∃ as y r, Reads s.heap v (k (backV v)) as ∧ k (backV v) = .tuple (y :: r) ∧ dataType y = T := fun v hv => by
    obtain ⟨t, y, r, et, dp, ek, ty⟩ := hx _ (mem v hv)
    obtain ⟨b, rfl⟩ := e2 v hv
    obtain ⟨as, rd⟩ := Dp.reads I _ _ (.ref b) dp rfl
    exact ⟨as, y, r, rd, ek, ty⟩
  refine sorted_ord (ltv := fun v u => dataLt (k (backV v)) (k (backV u))) (swo_data fun v => k (backV v)) hl.isList (by rw [← rv.length]; exact hz) (fun h2 h₁ a' ha kk h' keep => ?_) fun out h1 h2 => ?_
  · have up : ∀ b o, s.heap.get? b = some o → h'.get? b = some o := fun b o e => keep b o (kk b o e).1 (kk b o e).2
    have read' : ∀ v ∈ its, ∃ as y r, Reads h' v (k (backV v)) as ∧ k (backV v) = .tuple (y :: r) ∧ dataType y = T := fun v hv => by
      obtain ⟨as, y, r, rd, ek, ty⟩ := read v hv
      exact ⟨as, y, r, PyProof.Rows.Reads.keeps up rd, ek, ty⟩
    refine ⟨tuples' (T != Value.type "tuple"), fun Q' E hq => ?_, akin_cmp T read' (fun v hv u hu' => hk _ (mem v hv) _ (mem u hu')) fun v hv => ?_⟩
    · obtain ⟨fs, t1, t2, t3⟩ : ∃ fs, KatTups h' its fs ∧ fs.length = its.length ∧ ∀ f ∈ fs, ∃ y as, Reads h' f y as ∧ dataType y = T := by
        clear hq h2 ha hl rv e1 mem read hz
        revert read' e2
        generalize its = vs
        intro e2 read'
        induction vs with
        | nil => exact ⟨[], KatTups.nil, rfl, fun f hf => absurd hf List.not_mem_nil⟩
        | cons v vs ih =>
          obtain ⟨fs, t1, t2, t3⟩ := ih (fun u hu => e2 u (List.mem_cons_of_mem _ hu)) fun u hu => read' u (List.mem_cons_of_mem _ hu)
          obtain ⟨as, y, r, rd, ek, ty⟩ := read' v (List.mem_cons_self ..)
          rw [ek] at rd
          cases rd with
          | @tuple a o xs n _ _ ho hc hd hr =>
            cases qq : xs.toList with
            | nil =>
              rw [qq] at hr
              cases hr
            | cons f fr =>
              rw [qq] at hr
              cases hr with
              | cons r1 r2 =>
                have hf : xs[0]? = some f := by rw [← Array.getElem?_toList, qq]; rfl
                refine ⟨f :: fs, KatTups.cons ho hc hd hf t1, by rw [List.length_cons, List.length_cons, t2], fun g hg => ?_⟩
                rcases List.mem_cons.mp hg with rfl | hg
                · exact ⟨y, _, r1, ty⟩
                · exact t3 g hg
      refine kat_kind (T := T) t1 (by omega) (fun f hf => ?_) (by obtain ⟨y, as, _, ty⟩ := t3 (fs[0]'(by omega)) (List.getElem_mem _); rw [← ty]; exact beq_self_eq_true _) hq
      obtain ⟨y, as, rd, ty⟩ := t3 f hf
      rw [← ty]
      exact looks_reads rd
    · have := dep _ (mem v hv)
      show X.A.units + 1 + 1 + _ < cLine
      omega
  · have h3 : ∀ u ∈ out, ∃ a, u = Value.ref a := fun u hu => e2 u (h2.perm.mem_iff.mp hu)
    obtain ⟨ep, he'⟩ := PyProof.Rows.sortedAll_at s.heap its out.toArray
    have hb : Stb (fun x y => dataLt (k x) (k y)) (out.map backV) xs := by
      rw [e1]
      exact Stb.map (swo_data k) backV h2
    exact ⟨.ref _, upd H (s.heap.objs.size + 1) (.lst (out.map backV)), I.laid (t' := s.toks) (fun _ _ => PyProof.Rows.sortedAll_old) (Nat.le_succ _) ⟨by rw [hb.len]; exact hz, out, ep, vals_back h3, he'⟩, rfl, q _ _ (srtd_map h1) hb (I.hok.fresh (Nat.le_succ _))⟩
/-- sorted(xs) of such tuples: sorted by what they are, stable -/
def rSortedA (K : PySem.W.Frag) : List V → Hp → VK → Prop := fun vs H Q => ∃ (a : Addr) (xs : List V) (k : V → PyData) (T : Value), vs = [.ref a] ∧ SqL K H a xs ∧ (∀ x ∈ xs, ∃ t y r, x = .ref t ∧ Dp K H x (k x) ∧ k x = .tuple (y :: r) ∧ dataType y = T) ∧
  (∀ x ∈ xs, ∀ y ∈ xs, Akin (k x) (k y)) ∧ (∀ x ∈ xs, (k x).depth ≤ 50) ∧
  ∀ ys p, Srtd (fun x y => dataLt (k x) (k y)) ys → Stb (fun x y => dataLt (k x) (k y)) ys xs → H p = none → Q (.ref p) (upd H p (.lst ys))
theorem cr_sortedA (hu : X.A.units + 64 < cLine) : CallR X (.builtin "sorted") (rSortedA X.K) := fun pins s σ H vs us Q I r ⟨a, xs, k, T, e, hs, hx, hk, q⟩ => cr_sortedB hu pins s σ H vs us Q I r ⟨a, xs, k, T, e, hs, hx, fun x m y n => .inl (hk x m y n), q⟩
end
end Sa
/-! A layer without heap: values are data or places of a store of one's own objects. -/
namespace Zl
open PySem PySem.Spec PyProof.Rows L2
/-! ### data that nobody changes any more -/
mutual
inductive Dz (Z : Hp) : V → PyData → Prop
  | non : Dz Z .non .none
  | bl (b : Bool) : Dz Z (.bl b) (.bool b)
  | int (i : Int) : Dz Z (.int i) (.int i)
  | str (x : Str) : Dz Z (.str x) (.str x)
  | lst {a : Addr} {xs : List V} {ds : List PyData} : Z a = some (.lst xs) → DzAll Z xs ds → Dz Z (.ref a) (.list ds)
  | tup {a : Addr} {xs : List V} {ds : List PyData} : Z a = some (.tup xs) → DzAll Z xs ds → Dz Z (.ref a) (.tuple ds)
inductive DzAll (Z : Hp) : List V → List PyData → Prop
  | nil : DzAll Z [] []
  | cons {v : V} {vs : List V} {d : PyData} {ds : List PyData} : Dz Z v d → DzAll Z vs ds → DzAll Z (v :: vs) (d :: ds)
end
mutual
theorem Dz.mono {Z Z' : Hp} (g : ∀ x o, Z x = some o → Z' x = some o) : ∀ (d : PyData) (v : V), Dz Z v d → Dz Z' v d
  | .none, _, h => by cases h; exact .non
  | .bool b, _, h => by cases h; exact .bl b
  | .int i, _, h => by cases h; exact .int i
  | .str x, _, h => by cases h; exact .str x
  | .list ds, _, h => by
    cases h with
    | lst h1 h2 => exact .lst (g _ _ h1) (DzAll.mono g ds _ h2)
  | .tuple ds, _, h => by
    cases h with
    | tup h1 h2 => exact .tup (g _ _ h1) (DzAll.mono g ds _ h2)
  | .dict _, _, h => by cases h
theorem DzAll.mono {Z Z' : Hp} (g : ∀ x o, Z x = some o → Z' x = some o) : ∀ (ds : List PyData) (vs : List V), DzAll Z vs ds → DzAll Z' vs ds
  | [], _, h => by cases h; exact .nil
  | d :: ds, _, h => by
    cases h with
    | cons h1 h2 => exact .cons (Dz.mono g d _ h1) (DzAll.mono g ds _ h2)
end
mutual
theorem Dz.dp {K : PySem.W.Frag} {Z : Hp} : ∀ (d : PyData) (v : V), Dz Z v d → Dp K Z v d
  | .none, _, h => by cases h; exact .non
  | .bool b, _, h => by cases h; exact .bl b
  | .int i, _, h => by cases h; exact .int i
  | .str x, _, h => by cases h; exact .str x
  | .list ds, _, h => by
    cases h with
    | lst h1 h2 => exact .lst (SqL.of h1) (DzAll.dp ds _ h2)
  | .tuple ds, _, h => by
    cases h with
    | tup h1 h2 => exact .tup (SqT.of h1) (DzAll.dp ds _ h2)
  | .dict _, _, h => by cases h
theorem DzAll.dp {K : PySem.W.Frag} {Z : Hp} : ∀ (ds : List PyData) (vs : List V), DzAll Z vs ds → DpAll K Z vs ds
  | [], _, h => by cases h; exact .nil
  | d :: ds, _, h => by
    cases h with
    | cons h1 h2 => exact .cons (Dz.dp d _ h1) (DzAll.dp ds _ h2)
end
/-! ### values, objects of one's own -/
inductive Val where
  | dat (d : PyData) | ptr (a : Addr) | scr (ns : List Int) | prt (k : PyData) (a : Addr) | tpl (ps : List (PyData ⊕ Addr))
inductive Node where
  | lst (xs : List Val)
  | dv (kvs : List (NestedKey × Val))
  | dvl (ob : Obj) (ks : List Vd.KVR) (kvs : List (NestedKey × Val))
  | ins (C dx : Addr) (fs : List (Str × Val))
  | tab (q : Str)
  | rng (lo hi c : Int)
abbrev Store := List (Addr × Node)
def Fz (μ : Store) (H : Hp) : Hp := fun x => if x ∈ μ.map (·.1) then none else H x
theorem Fz.sub {μ : Store} {H : Hp} {x : Addr} {o : HO} (h : Fz μ H x = some o) : x ∉ μ.map (·.1) ∧ H x = some o := by
  unfold Fz at h
  split at h
  · cases h
  · rename_i c
    exact ⟨c, h⟩
theorem Fz.of {μ : Store} {H : Hp} {x : Addr} {o : HO} (h : x ∉ μ.map (·.1)) (e : H x = some o) : Fz μ H x = some o := by
  unfold Fz
  rw [if_neg h]
  exact e
/-- an item of a tuple: data, or an own object -/
def RP (Z : Hp) (v : V) : PyData ⊕ Addr → Prop
  | .inl d => Dz Z v d
  | .inr a => v = .ref a
theorem RP.mono {Z Z' : Hp} (g : ∀ x o, Z x = some o → Z' x = some o) {v : V} {p : PyData ⊕ Addr} (h : RP Z v p) : RP Z' v p := by
  cases p with
  | inl d => exact Dz.mono g d v h
  | inr a => exact h
def RV (K : PySem.W.Frag) (Z : Hp) (v : V) : Val → Prop
  | .dat d => Dz Z v d
  | .ptr a => v = .ref a
  | .scr ns => ∃ a, v = .ref a ∧ SqL K Z a (ns.map V.int)
  | .prt k a => ∃ t u, v = .ref t ∧ Z t = some (.tup [u, .ref a]) ∧ Dz Z u k
  | .tpl ps => ∃ t vs, v = .ref t ∧ Z t = some (.tup vs) ∧ Paired (RP Z) vs ps
theorem sqL_mono {K : PySem.W.Frag} {Z Z' : Hp} {a : Addr} {xs : List V} (g : ∀ x o, Z x = some o → Z' x = some o) (h : SqL K Z a xs) : SqL K Z' a xs := by
  rcases h with (h | ⟨o, h⟩) | h
  · exact .inl (.inl (g _ _ h))
  · exact .inl (.inr ⟨o, g _ _ h⟩)
  · exact .inr h
theorem RV.mono {K : PySem.W.Frag} {Z Z' : Hp} (g : ∀ x o, Z x = some o → Z' x = some o) {v : V} {x : Val} (h : RV K Z v x) : RV K Z' v x := by
  cases x with
  | dat d => exact Dz.mono g d v h
  | ptr a => exact h
  | scr ns => exact h.imp fun a z => ⟨z.1, sqL_mono g z.2⟩
  | prt k a => exact h.imp fun t z => z.imp fun u z => ⟨z.1, g _ _ z.2.1, Dz.mono g k _ z.2.2⟩
  | tpl ps => exact h.imp fun t z => z.imp fun vs z => ⟨z.1, g _ _ z.2.1, L2.Paired.mapP z.2.2 fun _ _ => RP.mono g⟩
def RVo (K : PySem.W.Frag) (Z : Hp) : Option V → Option Val → Prop
  | some v, some x => RV K Z v x
  | none, some _ => False
  | _, none => True
theorem RVo.mono {K : PySem.W.Frag} {Z Z' : Hp} (g : ∀ x o, Z x = some o → Z' x = some o) {v : Option V} {x : Option Val} (h : RVo K Z v x) : RVo K Z' v x := by
  cases x with
  | none => cases v <;> trivial
  | some x =>
    cases v with
    | none => exact h
    | some v => exact RV.mono g h
abbrev RVs (K : PySem.W.Frag) (Z : Hp) : List V → List Val → Prop := Paired (RV K Z)
def RF (K : PySem.W.Frag) (Z : Hp) (p : Str × V) (q : Str × Val) : Prop := p.1 = q.1 ∧ RV K Z p.2 q.2
def RK (K : PySem.W.Frag) (Z : Hp) (p : Vd.KVR) (q : NestedKey × Val) : Prop := p.1 = q.1 ∧ Vd.KeyOk p.1 ∧ Vd.KeyAt Z p.1 p.2.1 ∧ RV K Z p.2.2 q.2
/-- a range with a step -/
def rgO (a : Addr) (lo hi c : Int) : HO := .ext fun h => ∃ t u v, h.get? a = some { cls := .type "range", data := .fields #[.int lo t, .int hi u, .int c v] }
def RN (w : World) (K : PySem.W.Frag) (Z H : Hp) (a : Addr) : Node → Prop
  | .lst xs => ∃ vs, H a = some (.lst vs) ∧ RVs K Z vs xs
  | .dv kvs => ∃ ks : List Vd.KVR, H a = some (Vd.dV w a ks) ∧ (ks.map (·.1)).Nodup ∧ Paired (RK K Z) ks kvs
  | .dvl ob ks kvs => H a = some (.frz ob (Vd.dV w a ks)) ∧ (ks.map (·.1)).Nodup ∧ Paired (RK K Z) ks kvs
  | .ins C dx fs => ∃ gs, H a = some (.ins C dx gs) ∧ Paired (RF K Z) gs fs
  | .tab q => ∃ ps : Array Value, H a = some (.tbl ps) ∧ TriplesOk ps.toList ∧ ∀ pos cv, codeAmong pos ps.toList = some cv → ∃ c, cv = .ref c ∧ Z c = some (LamX.CodeO c q)
  | .rng lo hi c => H a = some (rgO a lo hi c)
theorem RN.mono {w : World} {K : PySem.W.Frag} {Z Z' H H' : Hp} (g : ∀ x o, Z x = some o → Z' x = some o) {a : Addr} {n : Node} (h : RN w K Z H a n) (e : H' a = H a) : RN w K Z' H' a n := by
  cases n with
  | lst xs => exact h.imp fun vs z => ⟨e.trans z.1, L2.Paired.mapP z.2 fun _ _ => RV.mono g⟩
  | dv kvs => exact h.imp fun ks z => ⟨e.trans z.1, z.2.1, L2.Paired.mapP z.2.2 fun _ _ k => ⟨k.1, k.2.1, k.2.2.1.keep fun a xs h => g _ _ h, RV.mono g k.2.2.2⟩⟩
  | dvl ob ks kvs => exact ⟨e.trans h.1, h.2.1, L2.Paired.mapP h.2.2 fun _ _ k => ⟨k.1, k.2.1, k.2.2.1.keep fun a xs h => g _ _ h, RV.mono g k.2.2.2⟩⟩
  | ins C dx fs => exact h.imp fun gs z => ⟨e.trans z.1, L2.Paired.mapP z.2 fun _ _ k => ⟨k.1, RV.mono g k.2⟩⟩
  | tab q => exact h.imp fun ps z => ⟨e.trans z.1, z.2.1, fun pos cv h => (z.2.2 pos cv h).imp fun c k => ⟨k.1, g _ _ k.2⟩⟩
  | rng lo hi c => exact e.trans h
theorem RN.live {w : World} {K : PySem.W.Frag} {Z H : Hp} {a : Addr} {n : Node} (h : RN w K Z H a n) : H a ≠ none := by
  cases n with
  | lst xs =>
    obtain ⟨_, e, _⟩ := h
    rw [e]
    intro z
    cases z
  | dv kvs =>
    obtain ⟨_, e, _⟩ := h
    rw [e]
    intro z
    cases z
  | dvl ob ks kvs =>
    obtain ⟨e, _⟩ := h
    rw [e]
    intro z
    cases z
  | ins C dx fs =>
    obtain ⟨_, e, _⟩ := h
    rw [e]
    intro z
    cases z
  | tab q =>
    obtain ⟨_, e, _⟩ := h
    rw [e]
    intro z
    cases z
  | rng lo hi c =>
    rw [show H a = some (rgO a lo hi c) from h]
    intro z
    cases z
/-! ### the relation -/
abbrev DR := List (Option Val)
abbrev DK := Val → Store → Prop
/-- what stands behind: what nobody changes, what one's own hide for a while -/
structure Base where
  hp : Hp
  fr : Store
structure RL (w : World) (K : PySem.W.Frag) (B : Base) (H : Hp) (σ : List (Option V)) (ρ : DR) (μ : Store) : Prop where
  nd : ((B.fr ++ μ).map (·.1)).Nodup
  base : ∀ x o, B.hp x = some o → Fz (B.fr ++ μ) H x = some o
  sl : Paired (RVo K (Fz (B.fr ++ μ) H)) σ ρ
  st : ∀ p, p ∈ B.fr ++ μ → RN w K (Fz (B.fr ++ μ) H) H p.1 p.2
section
variable {w : World} {K : PySem.W.Frag} {B : Base} {H H' : Hp} {σ σ' : List (Option V)} {ρ ρ' : DR} {μ μ' : Store} {p a : Addr} {o : HO} {n n' : Node}
theorem RL.step (R : RL w K B H σ ρ μ) (nd : ((B.fr ++ μ').map (·.1)).Nodup) (g : ∀ x o, Fz (B.fr ++ μ) H x = some o → Fz (B.fr ++ μ') H' x = some o) (st : ∀ p, p ∈ B.fr ++ μ' → RN w K (Fz (B.fr ++ μ') H') H' p.1 p.2) : RL w K B H' σ ρ μ' :=
  ⟨nd, fun x o h => g _ _ (R.base x o h), L2.Paired.mapP R.sl fun _ _ => RVo.mono g, st⟩
theorem RL.live (R : RL w K B H σ ρ μ) (h : H p = none) : p ∉ (B.fr ++ μ).map (·.1) := fun z => by
  obtain ⟨q, hq, rfl⟩ := List.mem_map.mp z
  exact (R.st q hq).live h
/-- a new object of one's own -/
theorem RL.new (R : RL w K B H σ ρ μ) (hp : H p = none) (hn : RN w K (Fz (B.fr ++ μ) H) (upd H p o) p n) : RL w K B (upd H p o) σ ρ (μ ++ [(p, n)]) := by
  have lv := R.live hp
  have g : ∀ x u, Fz (B.fr ++ μ) H x = some u → Fz (B.fr ++ (μ ++ [(p, n)])) (upd H p o) x = some u := fun x u h => by
    obtain ⟨h1, h2⟩ := Fz.sub h
    have ne : x ≠ p := ne_of_none h2 hp
    refine Fz.of ?_ (by rw [upd_ne ne]; exact h2)
    rw [← List.append_assoc, List.map_append, List.mem_append]
    rintro (z | z)
    · exact h1 z
    · exact ne (List.mem_singleton.mp z)
  refine R.step ?_ g fun q hq => ?_
  · rw [← List.append_assoc, List.map_append, List.nodup_append]
    refine ⟨R.nd, by simp, fun x hx y hy => ?_⟩
    rw [List.map_singleton, List.mem_singleton] at hy
    rintro rfl
    rw [hy] at hx
    exact lv hx
  · rw [← List.append_assoc] at hq
    rcases List.mem_append.mp hq with hq | hq
    · refine (R.st q hq).mono g (upd_ne fun z => lv ?_)
      rw [← z]
      exact List.mem_map_of_mem hq
    · rw [List.mem_singleton.mp hq]
      exact hn.mono g rfl
/-- a new object that nobody changes -/
theorem RL.newZ (R : RL w K B H σ ρ μ) (hp : H p = none) : RL w K B (upd H p o) σ ρ μ ∧ (∀ x u, Fz (B.fr ++ μ) H x = some u → Fz (B.fr ++ μ) (upd H p o) x = some u) ∧ Fz (B.fr ++ μ) (upd H p o) p = some o := by
  have lv := R.live hp
  have g : ∀ x u, Fz (B.fr ++ μ) H x = some u → Fz (B.fr ++ μ) (upd H p o) x = some u := fun x u h => by
    obtain ⟨h1, h2⟩ := Fz.sub h
    exact Fz.of h1 (by rw [upd_ne (ne_of_none h2 hp)]; exact h2)
  refine ⟨R.step R.nd g fun q hq => (R.st q hq).mono g (upd_ne fun z => lv ?_), g, Fz.of lv upd_same⟩
  rw [← z]
  exact List.mem_map_of_mem hq
/-- an object of one's own is changed -/
theorem map_set_fst {j : Nat} (h : μ[j]? = some (a, n)) : (μ.set j (a, n')).map (·.1) = μ.map (·.1) := by
  rw [List.map_set]
  refine List.ext_getElem? fun i => ?_
  rw [List.getElem?_set]
  split
  · rename_i e
    subst e
    rw [List.getElem?_map, h, List.length_map, if_pos (List.getElem?_eq_some_iff.mp h).1]
    rfl
  · rfl
theorem RL.put (R : RL w K B H σ ρ μ) {j : Nat} (hj : μ[j]? = some (a, n)) (hn : RN w K (Fz (B.fr ++ μ) H) (upd H a o) a n') : RL w K B (upd H a o) σ ρ (μ.set j (a, n')) := by
  have em : (B.fr ++ μ.set j (a, n')).map (·.1) = (B.fr ++ μ).map (·.1) := by rw [List.map_append, List.map_append, map_set_fst hj]
  have ha : a ∈ (B.fr ++ μ).map (·.1) := List.mem_map.mpr ⟨_, List.mem_append_right _ (List.mem_of_getElem? hj), rfl⟩
  have g : ∀ x u, Fz (B.fr ++ μ) H x = some u → Fz (B.fr ++ μ.set j (a, n')) (upd H a o) x = some u := fun x u h => by
    obtain ⟨h1, h2⟩ := Fz.sub h
    exact Fz.of (by rw [em]; exact h1) (by rw [upd_ne (show x ≠ a from fun z => h1 (by rw [z]; exact ha))]; exact h2)
  have nd := R.nd
  rw [List.map_append, List.nodup_append] at nd
  refine R.step (by rw [em]; exact R.nd) g fun q hq => ?_
  rcases List.mem_append.mp hq with hq | hq
  · refine (R.st _ (List.mem_append_left _ hq)).mono g (upd_ne fun z => ?_)
    exact nd.2.2 _ (List.mem_map_of_mem hq) _ (List.mem_map_of_mem (List.mem_of_getElem? hj)) z
  · obtain ⟨i, hi, rfl⟩ := List.mem_iff_getElem.mp hq
    rw [List.length_set] at hi
    by_cases e : j = i
    · subst e
      rw [List.getElem_set_self]
      exact hn.mono g rfl
    · rw [List.getElem_set_ne e]
      refine (R.st _ (List.mem_append_right _ (List.getElem_mem hi))).mono g (upd_ne fun z => e ?_)
      have h1 : (μ.map (·.1))[j]? = some a := by rw [List.getElem?_map, hj]; rfl
      have h2 : (μ.map (·.1))[i]? = some a := by rw [List.getElem?_map, List.getElem?_eq_getElem hi, ← z]; rfl
      exact (List.getElem?_inj (by rw [List.length_map]; exact (List.getElem?_eq_some_iff.mp hj).1) nd.2.1).mp (h1.trans h2.symm)
/-- what is known of an object -/
theorem RL.at (R : RL w K B H σ ρ μ) {j : Nat} (hj : μ[j]? = some (a, n)) : RN w K (Fz (B.fr ++ μ) H) H a n := R.st _ (List.mem_append_right _ (List.mem_of_getElem? hj))
/-- the same under another base: objects in another order, fewer of them, hidden -/
theorem RL.as {B' : Base} (R : RL w K B H σ ρ μ) (nd : ((B'.fr ++ μ').map (·.1)).Nodup) (s : ∀ p, p ∈ B'.fr ++ μ' → p ∈ B.fr ++ μ) (hb : ∀ x o, B'.hp x = some o → Fz (B'.fr ++ μ') H x = some o) :
    RL w K B' H σ ρ μ' ∧ ∀ x u, Fz (B.fr ++ μ) H x = some u → Fz (B'.fr ++ μ') H x = some u := by
  have g : ∀ x u, Fz (B.fr ++ μ) H x = some u → Fz (B'.fr ++ μ') H x = some u := fun x u h => by
    obtain ⟨h1, h2⟩ := Fz.sub h
    refine Fz.of (fun z => h1 ?_) h2
    obtain ⟨q, hq, rfl⟩ := List.mem_map.mp z
    exact List.mem_map_of_mem (s _ hq)
  exact ⟨⟨nd, hb, L2.Paired.mapP R.sl fun _ _ => RVo.mono g, fun q hq => (R.st q (s _ hq)).mono g rfl⟩, g⟩
theorem RL.sub (R : RL w K B H σ ρ μ) (nd : (μ'.map (·.1)).Nodup) (s : ∀ p, p ∈ μ' → p ∈ μ) : RL w K B H σ ρ μ' ∧ ∀ x u, Fz (B.fr ++ μ) H x = some u → Fz (B.fr ++ μ') H x = some u := by
  have s' : ∀ p, p ∈ B.fr ++ μ' → p ∈ B.fr ++ μ := fun p hp => by
    rcases List.mem_append.mp hp with h | h
    · exact List.mem_append_left _ h
    · exact List.mem_append_right _ (s _ h)
  have nd0 := R.nd
  rw [List.map_append, List.nodup_append] at nd0
  have g : ∀ x u, Fz (B.fr ++ μ) H x = some u → Fz (B.fr ++ μ') H x = some u := fun x u h => by
    obtain ⟨h1, h2⟩ := Fz.sub h
    refine Fz.of (fun z => h1 ?_) h2
    obtain ⟨q, hq, rfl⟩ := List.mem_map.mp z
    exact List.mem_map_of_mem (s' _ hq)
  refine R.as ?_ s' fun x o h => g _ _ (R.base _ _ h)
  rw [List.map_append, List.nodup_append]
  refine ⟨nd0.1, nd, fun x hx y hy => ?_⟩
  obtain ⟨q, hq, rfl⟩ := List.mem_map.mp hy
  exact nd0.2.2 _ hx _ (List.mem_map_of_mem (s _ hq))
theorem RL.perm (R : RL w K B H σ ρ μ) (h : μ'.Perm μ) : RL w K B H σ ρ μ' := by
  have nd0 := R.nd
  rw [List.map_append, List.nodup_append] at nd0
  exact (R.sub ((h.map _).nodup_iff.mpr nd0.2.1) fun p hp => h.mem_iff.mp hp).1
theorem RL.cons (R : RL w K B H σ ρ μ) {v : V} {x : Val} (h : RV K (Fz (B.fr ++ μ) H) v x) : RL w K B H (some v :: σ) (some x :: ρ) μ := ⟨R.nd, R.base, .cons h R.sl, R.st⟩
theorem RL.head {v : V} {x : Val} (R : RL w K B H (some v :: σ) (some x :: ρ) μ) : RV K (Fz (B.fr ++ μ) H) v x := by
  obtain ⟨_, _, h, _⟩ := R
  cases h with
  | cons h1 h2 => exact h1
theorem RL.tail {v : Option V} {x : Option Val} (R : RL w K B H (v :: σ) (x :: ρ) μ) : RL w K B H σ ρ μ := by
  obtain ⟨h1, h2, h, h3⟩ := R
  cases h with
  | cons _ h => exact ⟨h1, h2, h, h3⟩
theorem paired_get {α β : Type} {F : α → β → Prop} : ∀ {l₁ : List α} {l₂ : List β} {i : Nat} {y : β}, Paired F l₁ l₂ → l₂[i]? = some y → ∃ x, l₁[i]? = some x ∧ F x y
  | _, _, _, _, .nil, e => by simp at e
  | _, _, 0, _, .cons r _, e => by simp at e; subst e; exact ⟨_, rfl, r⟩
  | _, _, i + 1, _, .cons _ t, e => by simpa using paired_get (i := i) t (by simpa using e)
theorem paired_app {α β : Type} {F : α → β → Prop} : ∀ {a : List α} {b : List β} {c : List α} {d : List β}, Paired F a b → Paired F c d → Paired F (a ++ c) (b ++ d)
  | _, _, _, _, .nil, h => h
  | _, _, _, _, .cons r t, h => .cons r (paired_app t h)
theorem paired_split {α β : Type} {F : α → β → Prop} : ∀ {a : List α} {b : List β} {c : List α} {d : List β}, a.length = b.length → Paired F (a ++ c) (b ++ d) → Paired F a b ∧ Paired F c d
  | [], [], _, _, _, h => ⟨.nil, h⟩
  | _ :: _, _ :: _, _, _, l, .cons r t => by
    obtain ⟨h1, h2⟩ := paired_split (by simpa using l) t
    exact ⟨.cons r h1, h2⟩
theorem paired_set {α β : Type} {F : α → β → Prop} {x : α} {y : β} : ∀ {l₁ : List α} {l₂ : List β} (i : Nat), Paired F l₁ l₂ → F x y → Paired F (l₁.set i x) (l₂.set i y)
  | _, _, _, .nil, _ => .nil
  | _, _, 0, .cons _ t, h => .cons h t
  | _, _, i + 1, .cons r t, h => .cons r (paired_set i t h)
theorem RL.rest {a : List (Option V)} {b : DR} (R : RL w K B H (a ++ σ) (b ++ ρ) μ) (l : a.length = b.length) : RL w K B H σ ρ μ := ⟨R.nd, R.base, (paired_split l R.sl).2, R.st⟩
theorem RL.get (R : RL w K B H σ ρ μ) {i : Nat} {x : Val} (h : ρ[i]? = some (some x)) : ∃ v, σ[i]? = some (some v) ∧ RV K (Fz (B.fr ++ μ) H) v x := by
  obtain ⟨v, e, r⟩ := paired_get R.sl h
  cases v with
  | none => exact absurd r (by intro z; exact z)
  | some v => exact ⟨v, e, r⟩
/-- slots otherwise -/
theorem RL.slots (R : RL w K B H σ ρ μ) (s : Paired (RVo K (Fz (B.fr ++ μ) H)) σ' ρ') : RL w K B H σ' ρ' μ := ⟨R.nd, R.base, s, R.st⟩
end
end Zl
namespace Zl
open PySem PySem.Spec PyProof.Rows L2
abbrev DTE := DR → Store → DK → Prop
abbrev DTA := DR → Store → (List Val → Store → Prop) → Prop
abbrev DTT := DR → Store → (Bool → Store → Prop) → Prop
structure DEnds where
  nx : DR → Store → Prop
  rt : DK
  bk : DR → Store → Prop := fun _ _ => False
  ct : DR → Store → Prop := fun _ _ => False
abbrev DTS := DEnds → DR → Store → Prop
/-- what follows, above and below -/
abbrev Low (X : Cx) (B : Base) (σ : List (Option V)) (ρ : DR) (Q0 : DK) (Q : VK) : Prop := ∀ x μ, Q0 x μ → ∀ v H, RL X.w X.K B H (some v :: σ) (some x :: ρ) μ → Q v H
def up (X : Cx) (B : Base) (f : DTE) : TE := fun σ H Q => ∃ (hv : List (Option V)) (hx ρ : DR) (μ : Store) (Q0 : DK), hv.length = hx.length ∧ RL X.w X.K B H (hv ++ σ) (hx ++ ρ) μ ∧ f ρ μ Q0 ∧ Low X B (hv ++ σ) (hx ++ ρ) Q0 Q
def upA (X : Cx) (B : Base) (f : DTA) : TA := fun σ H Q => ∃ (hv : List (Option V)) (hx ρ : DR) (μ : Store) (Q0 : List Val → Store → Prop), hv.length = hx.length ∧ RL X.w X.K B H (hv ++ σ) (hx ++ ρ) μ ∧ f ρ μ Q0 ∧
  ∀ xs μ', Q0 xs μ' → ∀ vs H', vs.length = xs.length → RL X.w X.K B H' (vs.map some ++ (hv ++ σ)) (xs.map some ++ (hx ++ ρ)) μ' → Q vs H'
def upT (X : Cx) (B : Base) (f : DTT) : TT := fun σ H Q => ∃ (hv : List (Option V)) (hx ρ : DR) (μ : Store) (Q0 : Bool → Store → Prop), hv.length = hx.length ∧ RL X.w X.K B H (hv ++ σ) (hx ++ ρ) μ ∧ f ρ μ Q0 ∧
  ∀ b μ', Q0 b μ' → ∀ H', RL X.w X.K B H' (hv ++ σ) (hx ++ ρ) μ' → Q b H'
structure Below (X : Cx) (B : Base) (E : DEnds) (D : Ends) : Prop where
  nx : ∀ ρ μ, E.nx ρ μ → ∀ σ H, RL X.w X.K B H σ ρ μ → D.nx σ H
  rt : ∀ x μ, E.rt x μ → ∀ v H, RL X.w X.K B H [some v] [some x] μ → D.rt v H
  bk : ∀ ρ μ, E.bk ρ μ → ∀ σ H, RL X.w X.K B H σ ρ μ → D.bk σ H
  ct : ∀ ρ μ, E.ct ρ μ → ∀ σ H, RL X.w X.K B H σ ρ μ → D.ct σ H
def upS (X : Cx) (B : Base) (t : DTS) : TS := fun D σ H => ∃ (ρ : DR) (μ : Store) (E : DEnds), RL X.w X.K B H σ ρ μ ∧ t E ρ μ ∧ Below X B E D
structure DE (X : Cx) (e : Expr) (f : DTE) : Prop where
  run : ∀ B : Base, PE X e (up X B f)
structure DA (X : Cx) (es : List Expr) (f : DTA) : Prop where
  run : ∀ B : Base, PA X es (upA X B f)
structure DT (X : Cx) (e : Expr) (f : DTT) : Prop where
  run : ∀ B : Base, PT X e (upT X B f)
structure DW (X : Cx) (e : Expr) (f : DTT) : Prop where
  run : ∀ B : Base, PW X e (upT X B f)
structure DS (X : Cx) (s : Stmt) (f : DTS) : Prop where
  run : ∀ B : Base, PS X s (upS X B f)
structure DSs (X : Cx) (s : List Stmt) (f : DTS) : Prop where
  run : ∀ B : Base, PSs X s (upS X B f)
section
variable {X : Cx} {B : Base}
theorem PE.weak {e : Expr} {t t' : TE} (h : PE X e t) (w : ∀ σ H Q, t' σ H Q → t σ H Q) : PE X e t' := ⟨fun pins s σ H Q I q => h.run pins s σ H Q I (w _ _ _ q)⟩
theorem PT.weak {e : Expr} {t t' : TT} (h : PT X e t) (w : ∀ σ H Q, t' σ H Q → t σ H Q) : PT X e t' := ⟨fun pins s σ H Q I q => h.run pins s σ H Q I (w _ _ _ q)⟩
theorem PW.weak {e : Expr} {t t' : TT} (h : PW X e t) (w : ∀ σ H Q, t' σ H Q → t σ H Q) : PW X e t' := ⟨fun wh pins s σ H Q I q => h.run wh pins s σ H Q I (w _ _ _ q)⟩
theorem PA.weak {e : List Expr} {t t' : TA} (h : PA X e t) (w : ∀ σ H Q, t' σ H Q → t σ H Q) : PA X e t' := ⟨fun pos pins s σ H Q I q => h.run pos pins s σ H Q I (w _ _ _ q)⟩
theorem PS.weak {e : Stmt} {t t' : TS} (h : PS X e t) (w : ∀ D σ H, t' D σ H → t D σ H) : PS X e t' := ⟨fun pins s σ H D I q => h.run pins s σ H D I (w _ _ _ q)⟩
theorem PSs.weak {e : List Stmt} {t t' : TS} (h : PSs X e t) (w : ∀ D σ H, t' D σ H → t D σ H) : PSs X e t' := ⟨fun pins s σ H D I q => h.run pins s σ H D I (w _ _ _ q)⟩
theorem OpR.weak {f : Value → Value → Sem Value} {r r' : R2} (h : OpR X f r) (w : ∀ x y H Q, r' x y H Q → r x y H Q) : OpR X f r' := fun pins s σ H x y v u Q I rx ry q => h pins s σ H x y v u Q I rx ry (w _ _ _ _ q)
/-! ### operators -/
abbrev DR2 := Val → Val → Store → DK → Prop
/-- r asks no more than R -/
def Op2 (X : Cx) (B : Base) (r : R2) (R : DR2) : Prop := ∀ (σ : List (Option V)) (ρ : DR) (H : Hp) (μ : Store) (u v : V) (x y : Val) (Q0 : DK) (Q : VK), RL X.w X.K B H (some v :: some u :: σ) (some y :: some x :: ρ) μ → R x y μ Q0 → Low X B σ ρ Q0 Q → r u v H Q
structure OpZ (X : Cx) (f : Value → Value → Sem Value) (R : DR2) : Prop where
  ex : ∃ r : R2, OpR X f r ∧ ∀ B : Base, Op2 X B r R
abbrev dOp (R : DR2) (fa fb : DTE) : DTE := fun ρ μ Q => fa ρ μ fun x μ1 => fb ρ μ1 fun y μ2 => R x y μ2 Q
theorem up_op {r : R2} {R : DR2} {fa fb : DTE} (S : Op2 X B r R) {σ : L2.St} {H : Hp} {Q : VK} (h : up X B (dOp R fa fb) σ H Q) : tOp r (up X B fa) (up X B fb) σ H Q := by
  obtain ⟨hv, hx, ρ, μ, Q0, hl, R0, h, low⟩ := h
  refine ⟨hv, hx, ρ, μ, _, hl, R0, h, fun x μ1 h1 u H1 R1 => ?_⟩
  refine ⟨some u :: hv, some x :: hx, ρ, μ1, _, by simp [hl], R1, h1, fun y μ2 h2 v H2 R2 => ?_⟩
  exact S _ _ _ _ _ _ _ _ _ _ R2 h2 low
theorem d_bin {a b : Expr} {op : Operator} {R : DR2} {fa fb : DTE} {pos : Pos} (o : OpZ X (binaryOp op) R) (ha : DE X a fa) (hb : DE X b fb) : DE X (.BinOp a op b pos) (dOp R fa fb) := by
  obtain ⟨r, h1, h2⟩ := o.ex
  exact ⟨fun B => PE.weak (pe_op h1 (ha.run B) (hb.run B)) fun _ _ _ h => up_op (h2 B) h⟩
theorem d_cmp {a b : Expr} {op : CmpOp} {R : DR2} {fa fb : DTE} {pos : Pos} (o : OpZ X (compareOp op) R) (ha : DE X a fa) (hb : DE X b fb) (hm : behindInMarks op b = false) : DE X (.Compare a [op] [b] pos) (dOp R fa fb) := by
  obtain ⟨r, h1, h2⟩ := o.ex
  exact ⟨fun B => PE.weak (pe_cmpR h1 (ha.run B) (hb.run B) hm) fun _ _ _ h => up_op (h2 B) h⟩
/-- a value as a test -/
abbrev dB (f : DTE) : DTT := fun ρ μ Q => f ρ μ fun x μ1 => match x with | .dat (.bool b) => Q b μ1 | _ => False
theorem up_B {f : DTE} {σ : L2.St} {H : Hp} {Q : Bool → Hp → Prop} (h : upT X B (dB f) σ H Q) : tTest (up X B f) σ H Q := by
  obtain ⟨hv, hx, ρ, μ, Q0, hl, R0, h, low⟩ := h
  refine ⟨hv, hx, ρ, μ, _, hl, R0, h, fun x μ1 h1 u H1 R1 => ?_⟩
  have hd := R1.head
  match x, h1, hd with
  | .dat (.bool b), h1, hd =>
    cases (hd : Dz _ u (.bool b))
    exact ⟨b, rfl, low _ _ h1 _ R1.tail⟩
theorem dt_cmp {a b : Expr} {op : CmpOp} {R : DR2} {fa fb : DTE} {pos : Pos} (o : OpZ X (compareOp op) R) (ha : DE X a fa) (hb : DE X b fb) (hm : behindInMarks op b = false) : DT X (.Compare a [op] [b] pos) (dB (dOp R fa fb)) := by
  obtain ⟨r, h1, h2⟩ := o.ex
  refine ⟨fun B => PT.weak (pt_cmpR h1 (ha.run B) (hb.run B) hm) fun _ _ _ h => ?_⟩
  obtain ⟨hv, hx, ρ, μ, Q0, hl, R0, h, low⟩ := h
  refine up_op (h2 B) ⟨hv, hx, ρ, μ, _, hl, R0, h, fun x μ1 h1 u H1 R1 => ?_⟩
  have hd := R1.head
  match x, h1, hd with
  | .dat (.bool b), h1, hd =>
    cases (hd : Dz _ u (.bool b))
    exact ⟨b, rfl, low _ _ h1 _ R1.tail⟩
theorem dt_val {e : Expr} {f : DTE} (h : DE X e f) (he : ∀ whole, isTrue e X.env whole = (do let v ← whole; standAt e.pos; holding [v] (truthy v)) := by intro _; rfl) : DT X e (dB f) :=
  ⟨fun B => PT.weak (pt_val (h.run B) he) fun _ _ _ h => up_B h⟩
abbrev dNot (f : DTT) : DTT := fun ρ μ Q => f ρ μ fun b μ1 => Q (!b) μ1
theorem dt_not {e : Expr} {f : DTT} {pos : Pos} (h : DT X e f) : DT X (.UnaryOp .Not e pos) (dNot f) :=
  ⟨fun B => PT.weak (pt_not (h.run B)) fun _ _ _ h => by
    obtain ⟨hv, hx, ρ, μ, Q0, hl, R0, h, low⟩ := h
    exact ⟨hv, hx, ρ, μ, _, hl, R0, h, fun b μ1 h1 H1 R1 => low _ _ h1 _ R1⟩⟩
abbrev dAnd (f g : DTT) : DTT := fun ρ μ Q => f ρ μ fun b μ1 => if b = true then g ρ μ1 Q else Q false μ1
abbrev dOr (f g : DTT) : DTT := fun ρ μ Q => f ρ μ fun b μ1 => if b = true then Q true μ1 else g ρ μ1 Q
theorem dw_and {a b : Expr} {rest : List Expr} {f g : DTT} {pos : Pos} (ha : DT X a f) (hb : DW X (.BoolOp .And (b :: rest) pos) g) : DW X (.BoolOp .And (a :: b :: rest) pos) (dAnd f g) :=
  ⟨fun B => PW.weak (pw_and (ha.run B) (hb.run B)) fun _ _ _ h => by
    obtain ⟨hv, hx, ρ, μ, Q0, hl, R0, h, low⟩ := h
    refine ⟨hv, hx, ρ, μ, _, hl, R0, h, fun c μ1 h1 H1 R1 => ?_⟩
    cases c with
    | true => exact ⟨hv, hx, ρ, μ1, _, hl, R1, h1, low⟩
    | false => exact low _ _ h1 _ R1⟩
theorem dw_and1 {a : Expr} {f : DTT} {pos : Pos} (ha : DT X a f) : DW X (.BoolOp .And [a] pos) f := ⟨fun B => pw_and1 (ha.run B)⟩
theorem dw_or {a b : Expr} {rest : List Expr} {f g : DTT} {pos : Pos} (ha : DT X a f) (hb : DW X (.BoolOp .Or (b :: rest) pos) g) : DW X (.BoolOp .Or (a :: b :: rest) pos) (dOr f g) :=
  ⟨fun B => PW.weak (pw_or (ha.run B) (hb.run B)) fun _ _ _ h => by
    obtain ⟨hv, hx, ρ, μ, Q0, hl, R0, h, low⟩ := h
    refine ⟨hv, hx, ρ, μ, _, hl, R0, h, fun c μ1 h1 H1 R1 => ?_⟩
    cases c with
    | true => exact low _ _ h1 _ R1
    | false => exact ⟨hv, hx, ρ, μ1, _, hl, R1, h1, low⟩⟩
theorem dw_or1 {a : Expr} {f : DTT} {pos : Pos} (ha : DT X a f) : DW X (.BoolOp .Or [a] pos) f := ⟨fun B => pw_or1 (ha.run B)⟩
theorem DW.dt {e : Expr} {f : DTT} (h : DW X e f) : DT X e f := ⟨fun B => (h.run B).pt⟩
abbrev dIf (c : DTT) (f g : DTE) : DTE := fun ρ μ Q => c ρ μ fun b μ1 => if b = true then f ρ μ1 Q else g ρ μ1 Q
theorem d_ifExp {c a b : Expr} {fc : DTT} {fa fb : DTE} {pos : Pos} (hc : DT X c fc) (ha : DE X a fa) (hb : DE X b fb) : DE X (.IfExp c a b pos) (dIf fc fa fb) :=
  ⟨fun B => PE.weak (pe_ifExp (hc.run B) (ha.run B) (hb.run B)) fun _ _ _ h => by
    obtain ⟨hv, hx, ρ, μ, Q0, hl, R0, h, low⟩ := h
    refine ⟨hv, hx, ρ, μ, _, hl, R0, h, fun c μ1 h1 H1 R1 => ?_⟩
    cases c with
    | true => exact ⟨hv, hx, ρ, μ1, _, hl, R1, h1, low⟩
    | false => exact ⟨hv, hx, ρ, μ1, _, hl, R1, h1, low⟩⟩
/-! ### names, constants -/
abbrev dVar (i : Nat) : DTE := fun ρ μ Q => match ρ[i]? with | some (some x) => Q x μ | _ => False
theorem d_of_var {e : Expr} {i : Nat} (h : PE X e (tVar i)) : DE X e (dVar i) :=
  ⟨fun B => PE.weak h fun σ H Q q => by
    obtain ⟨hv, hx, ρ, μ, Q0, hl, R0, h, low⟩ := q
    unfold dVar at h
    split at h
    · rename_i x e
      obtain ⟨v, ev, r⟩ := (R0.rest hl).get e
      exact ⟨v, ev, low _ _ h _ _ (R0.cons r)⟩
    · exact h.elim⟩
theorem dv (i : Nat) {x : Str} {pos : Pos} (hN : X.N[i]? = some x := by rfl) (hv : Vis X.env.scope x := by first | exact Or.inl rfl | exact Or.inr (Or.inl rfl) | exact Or.inr (Or.inr rfl)) (hd : (x == ("__debug__" : Str)) = false := by decide)
    (hcd : (x == ("__classdict__" : Str)) = false := by decide) : DE X (.Name x pos) (dVar i) := d_of_var (pv i hN hv hd hcd)
abbrev dC (d : PyData) : DTE := fun _ μ Q => Q (.dat d) μ
theorem d_of_c {e : Expr} {v : V} {d : PyData} (h : PE X e (tC v)) (z : ∀ Z, Dz Z v d) : DE X e (dC d) :=
  ⟨fun B => PE.weak h fun σ H Q q => by
    obtain ⟨hv, hx, ρ, μ, Q0, hl, R0, h, low⟩ := q
    exact low _ _ h _ _ (R0.cons (z _))⟩
theorem d_int {i : Int} {j pos} : DE X (.Constant (.int i) j pos) (dC (.int i)) := d_of_c pe_int fun _ => .int i
theorem d_bl {b : Bool} {j pos} : DE X (.Constant (.bool b) j pos) (dC (.bool b)) := d_of_c pe_bl fun _ => .bl b
theorem d_non {j pos} : DE X (.Constant .none j pos) (dC .none) := d_of_c pe_non fun _ => .non
theorem d_str {x : Str} {j pos} : DE X (.Constant (.str x) j pos) (dC (.str x)) := d_of_c pe_str fun _ => .str x
/-! ### argument lists, displays -/
abbrev dNil : DTA := fun _ μ Q => Q [] μ
abbrev dCons (f : DTE) (g : DTA) : DTA := fun ρ μ Q => f ρ μ fun x μ1 => g ρ μ1 fun xs μ2 => Q (x :: xs) μ2
theorem da_nil : DA X [] dNil := ⟨fun B => PA.weak pa_nil fun _ _ _ h => by
  obtain ⟨hv, hx, ρ, μ, Q0, hl, R0, h, low⟩ := h
  exact low _ _ h [] _ rfl R0⟩
theorem RL.turn {w : World} {K : PySem.W.Frag} {H : Hp} {σ : List (Option V)} {ρ : DR} {μ : Store} {a : List (Option V)} {b : DR} {v : Option V} {x : Option Val} (l : a.length = b.length) (R : RL w K B H (a ++ (v :: σ)) (b ++ (x :: ρ)) μ) : RL w K B H (v :: (a ++ σ)) (x :: (b ++ ρ)) μ := by
  obtain ⟨h1, h2⟩ := paired_split l R.sl
  cases h2 with
  | cons h3 h4 => exact R.slots (.cons h3 (paired_app h1 h4))
theorem da_cons {e : Expr} {es : List Expr} {f : DTE} {g : DTA} (ha : DE X e f) (hr : DA X es g) (hs : starEach (e :: es) X.env = (false, eval e X.env) :: starEach es X.env := by rfl) : DA X (e :: es) (dCons f g) :=
  ⟨fun B => PA.weak (pa_cons (ha.run B) (hr.run B) hs) fun _ _ _ h => by
    obtain ⟨hv, hx, ρ, μ, Q0, hl, R0, h, low⟩ := h
    refine ⟨hv, hx, ρ, μ, _, hl, R0, h, fun x μ1 h1 u H1 R1 => ?_⟩
    refine ⟨some u :: hv, some x :: hx, ρ, μ1, _, by simp [hl], R1, h1, fun xs μ2 h2 vs H2 l R2 => ?_⟩
    exact low _ _ h2 (u :: vs) H2 (by simp [l]) (RL.turn (by simp [l]) R2)⟩
/-- data of values -/
def datOf : List Val → Option (List PyData)
  | [] => some []
  | .dat d :: r => (datOf r).map (d :: ·)
  | _ :: _ => none
theorem datOf_all {K : PySem.W.Frag} {Z : Hp} : ∀ {vs : List V} {xs : List Val} {ds : List PyData}, Paired (RV K Z) vs xs → datOf xs = some ds → DzAll Z vs ds
  | _, _, _, .nil, e => by cases e; exact .nil
  | _, .dat d :: r, ds, .cons h t, e => by
    rw [show datOf (.dat d :: r) = (datOf r).map (d :: ·) from rfl] at e
    cases er : datOf r with
    | none => rw [er] at e; cases e
    | some ds' =>
      rw [er] at e
      cases e
      exact .cons h (datOf_all t er)
  | _, .ptr _ :: _, _, .cons h t, e => by cases e
  | _, .scr _ :: _, _, .cons h t, e => by cases e
theorem heads {K : PySem.W.Frag} {Z : Hp} : ∀ {vs : List V} {xs : List Val}, Paired (RVo K Z) (vs.map some) (xs.map some) → Paired (RV K Z) vs xs
  | [], [], _ => .nil
  | _ :: _, _ :: _, .cons h t => .cons h (heads t)
  | [], _ :: _, h => by cases h
  | _ :: _, [], h => by cases h
abbrev dTup (g : DTA) : DTE := fun ρ μ Q => g ρ μ fun xs μ1 => match datOf xs with | some ds => ds.length ≤ sizeLine ∧ Q (.dat (.tuple ds)) μ1 | none => False
theorem datOf_len : ∀ {xs : List Val} {ds : List PyData}, datOf xs = some ds → ds.length = xs.length
  | [], _, e => by cases e; rfl
  | .dat d :: r, ds, e => by
    rw [show datOf (.dat d :: r) = (datOf r).map (d :: ·) from rfl] at e
    cases er : datOf r with
    | none => rw [er] at e; cases e
    | some ds' =>
      rw [er] at e
      cases e
      simp [datOf_len er]
  | .ptr _ :: _, _, e => by cases e
  | .scr _ :: _, _, e => by cases e
  | .prt _ _ :: _, _, e => by cases e
  | .tpl _ :: _, _, e => by cases e
theorem d_tup {es : List Expr} {g : DTA} {x1} {pos : Pos} (h : DA X es g) : DE X (.Tuple es x1 pos) (dTup g) :=
  ⟨fun B => PE.weak (pe_tup (h.run B)) fun _ _ _ h => by
    obtain ⟨hv, hx, ρ, μ, Q0, hl, R0, h, low⟩ := h
    refine ⟨hv, hx, ρ, μ, _, hl, R0, h, fun xs μ1 h1 vs H1 l R1 => ?_⟩
    split at h1
    · rename_i ds e
      refine ⟨by rw [l, ← datOf_len e]; exact h1.1, fun p hp => ?_⟩
      obtain ⟨h2, h3⟩ := paired_split (by simp [l]) R1.sl
      obtain ⟨R2, g, ep⟩ := R1.newZ (o := .tup vs) hp
      exact low _ _ h1.2 _ _ ((R2.rest (by simp [l])).cons (.tup ep (DzAll.mono g _ _ (datOf_all (heads h2) e))))
    · exact h1.elim⟩
abbrev dLst (g : DTA) : DTE := fun ρ μ Q => g ρ μ fun xs μ1 => xs.length ≤ sizeLine ∧ ∀ p, Q (.ptr p) (μ1 ++ [(p, .lst xs)])
theorem d_lst {es : List Expr} {g : DTA} {pos : Pos} (h : DA X es g) : DE X (.List es pos) (dLst g) :=
  ⟨fun B => PE.weak (pe_lst (h.run B)) fun _ _ _ h => by
    obtain ⟨hv, hx, ρ, μ, Q0, hl, R0, h, low⟩ := h
    refine ⟨hv, hx, ρ, μ, _, hl, R0, h, fun xs μ1 h1 vs H1 l R1 => ?_⟩
    refine ⟨by rw [l]; exact h1.1, fun p hp => ?_⟩
    obtain ⟨h2, h3⟩ := paired_split (by simp [l]) R1.sl
    exact low _ _ (h1.2 p) _ _ (((R1.rest (by simp [l])).new (n := .lst xs) (o := .lst vs) hp ⟨vs, upd_same, heads h2⟩).cons rfl)⟩
end
end Zl
namespace Zl
open PySem PySem.Spec PyProof.Rows L2
section
variable {w : World} {K : PySem.W.Frag} {B : Base} {H : Hp} {σ : List (Option V)} {ρ : DR} {μ : Store}
theorem fz_le : ∀ x o, Fz μ H x = some o → H x = some o := fun _ _ h => (Fz.sub h).2
/-! ### a list or a tuple that is read -/
inductive Its (μ : Store) : Val → Bool → List Val → Prop
  | d (ds : List PyData) : Its μ (.dat (.list ds)) false (ds.map .dat)
  | t (ds : List PyData) : Its μ (.dat (.tuple ds)) true (ds.map .dat)
  | p (j : Nat) {a : Addr} {xs : List Val} : μ[j]? = some (a, .lst xs) → Its μ (.ptr a) false xs
  | s (ns : List Int) : Its μ (.scr ns) false (ns.map fun n => .dat (.int n))
theorem dz_all {Z : Hp} : ∀ {vs : List V} {ds : List PyData}, DzAll Z vs ds → Paired (RV K Z) vs (ds.map Val.dat)
  | _, [], h => by cases h; exact .nil
  | _, d :: ds, h => by
    cases h with
    | cons h1 h2 => exact .cons h1 (dz_all h2)
theorem ints_all {Z : Hp} : ∀ ns : List Int, Paired (RV K Z) (ns.map V.int) (ns.map fun n => Val.dat (.int n))
  | [] => .nil
  | n :: ns => .cons (.int n) (ints_all ns)
theorem Its.at (R : RL w K B H σ ρ μ) {v : V} {x : Val} {b : Bool} {xs : List Val} (h : Its μ x b xs) (r : RV K (Fz (B.fr ++ μ) H) v x) : ∃ a vs, v = .ref a ∧ (if b = true then SqT K H a vs else SqL K H a vs) ∧ Paired (RV K (Fz (B.fr ++ μ) H)) vs xs := by
  cases h with
  | d ds =>
    cases (r : Dz _ _ (.list ds)) with
    | lst h1 h2 => exact ⟨_, _, rfl, SqL.of (fz_le _ _ h1), dz_all h2⟩
  | t ds =>
    cases (r : Dz _ _ (.tuple ds)) with
    | tup h1 h2 => exact ⟨_, _, rfl, SqT.of (fz_le _ _ h1), dz_all h2⟩
  | p j hj =>
    obtain ⟨vs, e, h⟩ := R.at hj
    exact ⟨_, vs, r, SqL.of e, h⟩
  | s ns =>
    obtain ⟨a, e, h⟩ := r
    exact ⟨a, _, e, sqL_mono fz_le h, ints_all ns⟩
/-- a list that is tracked -/
inductive ItL (μ : Store) : Val → List Val → Prop
  | d (ds : List PyData) : ItL μ (.dat (.list ds)) (ds.map .dat)
  | p (j : Nat) {a : Addr} {xs : List Val} : μ[j]? = some (a, .lst xs) → ItL μ (.ptr a) xs
theorem ItL.at (R : RL w K B H σ ρ μ) {v : V} {x : Val} {xs : List Val} (h : ItL μ x xs) (r : RV K (Fz (B.fr ++ μ) H) v x) : ∃ a vs, v = .ref a ∧ H a = some (.lst vs) ∧ Paired (RV K (Fz (B.fr ++ μ) H)) vs xs := by
  cases h with
  | d ds =>
    cases (r : Dz _ _ (.list ds)) with
    | lst h1 h2 => exact ⟨_, _, rfl, fz_le _ _ h1, dz_all h2⟩
  | p j hj =>
    obtain ⟨vs, e, h⟩ := R.at hj
    exact ⟨_, vs, r, e, h⟩
/-- data as they are seen -/
inductive View (μ : Store) : Val → PyData → Prop
  | d (d : PyData) : View μ (.dat d) d
  | p (j : Nat) {a : Addr} {xs : List Val} {ds : List PyData} : μ[j]? = some (a, .lst xs) → datOf xs = some ds → View μ (.ptr a) (.list ds)
theorem View.at (R : RL w K B H σ ρ μ) {v : V} {x : Val} {d : PyData} (h : View μ x d) (r : RV K (Fz (B.fr ++ μ) H) v x) : Dp K H v d := by
  cases h with
  | d d => exact Dz.dp _ _ (Dz.mono fz_le _ _ r)
  | p j hj hd =>
    obtain ⟨vs, e, h⟩ := R.at hj
    rw [show v = .ref _ from r]
    exact .lst (SqL.of e) (DzAll.dp _ _ (DzAll.mono fz_le _ _ (datOf_all h hd)))
end
section
variable {X : Cx} {B : Base}
/-! ### arithmetic -/
theorem oz_ints {f : Value → Value → Sem Value} {C : Int → Int → Prop} {g : Int → Int → Int} (h : OpR X f (rI C fun i j => .int (g i j))) :
    OpZ X f fun x y μ Q => match x, y with | .dat (.int i), .dat (.int j) => C i j ∧ Q (.dat (.int (g i j))) μ | _, _ => False :=
  ⟨_, h, fun B σ ρ H μ u v x y Q0 Q R q low => by
    have hy := R.head
    have hx := R.tail.head
    match x, y, q, hx, hy with
    | .dat (.int i), .dat (.int j), q, hx, hy =>
      cases (hx : Dz _ u (.int i))
      cases (hy : Dz _ v (.int j))
      exact ⟨i, j, rfl, rfl, q.1, low _ _ q.2 _ _ (R.tail.tail.cons (.int _))⟩⟩
theorem oz_ints0 {f : Value → Value → Sem Value} {g : Int → Int → Int} (h : OpR X f (rI0 fun i j => .int (g i j))) :
    OpZ X f fun x y μ Q => match x, y with | .dat (.int i), .dat (.int j) => Q (.dat (.int (g i j))) μ | _, _ => False :=
  ⟨_, h, fun B σ ρ H μ u v x y Q0 Q R q low => by
    have hy := R.head
    have hx := R.tail.head
    match x, y, q, hx, hy with
    | .dat (.int i), .dat (.int j), q, hx, hy =>
      cases (hx : Dz _ u (.int i))
      cases (hy : Dz _ v (.int j))
      exact ⟨i, j, rfl, rfl, low _ _ q _ _ (R.tail.tail.cons (.int _))⟩⟩
def zSub : DR2 := fun x y μ Q => match x, y with | .dat (.int i), .dat (.int j) => Q (.dat (.int (i - j))) μ | _, _ => False
theorem oz_sub : OpZ X (binaryOp .Sub) zSub := oz_ints0 op_sub
def zMod : DR2 := fun x y μ Q => match x, y with | .dat (.int i), .dat (.int j) => 0 < j ∧ Q (.dat (.int (i % j))) μ | _, _ => False
theorem oz_mod : OpZ X (binaryOp .Mod) zMod := oz_ints op_mod
def zDiv : DR2 := fun x y μ Q => match x, y with | .dat (.int i), .dat (.int j) => CDivW i j ∧ Q (.dat (.int (i / j))) μ | _, _ => False
theorem oz_div : OpZ X (binaryOp .FloorDiv) zDiv := oz_ints op_fdivW
def zPow : DR2 := fun x y μ Q => match x, y with | .dat (.int i), .dat (.int j) => CPow i j ∧ Q (.dat (.int (i ^ j.toNat))) μ | _, _ => False
theorem oz_pow : OpZ X (binaryOp .Pow) zPow := oz_ints op_pow
/-- ints, texts, lists, tuples -/
def zAdd : DR2 := fun x y μ Q => match x, y with
  | .dat (.int i), .dat (.int j) => Q (.dat (.int (i + j))) μ
  | .dat (.str a), .dat (.str b) => a.length + b.length ≤ sizeLine ∧ Q (.dat (.str (a ++ b))) μ
  | x, y => ∃ xs ys, ItL μ x xs ∧ ItL μ y ys ∧ xs.length + ys.length ≤ sizeLine ∧ ∀ p, Q (.ptr p) (μ ++ [(p, .lst (xs ++ ys))])
theorem add_lists {σ : List (Option V)} {ρ : DR} {H : Hp} {μ : Store} {u v : V} {x y : Val} {Q0 : DK} {Q : VK} (R : RL X.w X.K B H (some v :: some u :: σ) (some y :: some x :: ρ) μ)
    (q : ∃ xs ys, ItL μ x xs ∧ ItL μ y ys ∧ xs.length + ys.length ≤ sizeLine ∧ ∀ p, Q0 (.ptr p) (μ ++ [(p, .lst (xs ++ ys))])) (low : Low X B σ ρ Q0 Q) : rCat u v H Q := by
  obtain ⟨xs, ys, h1, h2, hl, q⟩ := q
  obtain ⟨a, vs, rfl, e1, r1⟩ := h1.at R.tail R.tail.head
  obtain ⟨b, us, rfl, e2, r2⟩ := h2.at R R.head
  refine ⟨a, b, vs, us, rfl, rfl, e1, e2, by rw [r1.length, r2.length]; exact hl, fun p hp => low _ _ (q p) _ _ ?_⟩
  exact (R.tail.tail.new (n := .lst (xs ++ ys)) hp ⟨_, upd_same, paired_app r1 r2⟩).cons rfl
theorem oz_add : OpZ X (binaryOp .Add) zAdd :=
  ⟨_, OpR.or op_add (OpR.or op_add_str op_cat), fun B σ ρ H μ u v x y Q0 Q R q low => by
    have hy := R.head
    have hx := R.tail.head
    unfold zAdd at q
    split at q
    · rename_i i j
      cases (hx : Dz _ u (.int i))
      cases (hy : Dz _ v (.int j))
      exact .inl ⟨i, j, rfl, rfl, low _ _ q _ _ (R.tail.tail.cons (.int _))⟩
    · rename_i a b
      cases (hx : Dz _ u (.str a))
      cases (hy : Dz _ v (.str b))
      exact .inr (.inl ⟨a, b, rfl, rfl, q.1, low _ _ q.2 _ _ (R.tail.tail.cons (.str _))⟩)
    · exact .inr (.inr (add_lists R q low))⟩
/-- ints; a list times an int; a text of one sign -/
def zMul : DR2 := fun x y μ Q => match x, y with
  | .dat (.int i), .dat (.int j) => CMulW i j ∧ Q (.dat (.int (i * j))) μ
  | x, .dat (.int k) => ∃ xs, ItL μ x xs ∧ -(2 ^ 63) ≤ k ∧ k < 2 ^ 63 ∧ xs.length * k.toNat ≤ sizeLine ∧ ∀ p, Q (.ptr p) (μ ++ [(p, .lst (List.replicate k.toNat xs).flatten)])
  | _, _ => False
theorem paired_rep {α β : Type} {F : α → β → Prop} {a : List α} {b : List β} (h : Paired F a b) : ∀ n : Nat, Paired F (List.replicate n a).flatten (List.replicate n b).flatten
  | 0 => .nil
  | n + 1 => by
    rw [List.replicate_succ, List.replicate_succ, List.flatten_cons, List.flatten_cons]
    exact paired_app h (paired_rep h n)
theorem oz_mul : OpZ X (binaryOp .Mult) zMul :=
  ⟨_, OpR.or op_mulW op_rep, fun B σ ρ H μ u v x y Q0 Q R q low => by
    have hy := R.head
    have hx := R.tail.head
    unfold zMul at q
    split at q
    · rename_i i j
      cases (hx : Dz _ u (.int i))
      cases (hy : Dz _ v (.int j))
      exact .inl ⟨i, j, rfl, rfl, q.1, low _ _ q.2 _ _ (R.tail.tail.cons (.int _))⟩
    · rename_i k _
      cases (hy : Dz _ v (.int k))
      obtain ⟨xs, h1, k1, k2, hl, q⟩ := q
      obtain ⟨a, vs, rfl, e1, r1⟩ := h1.at R.tail R.tail.head
      refine .inr ⟨a, k, vs, rfl, rfl, e1, k1, k2, by rw [r1.length]; exact hl, fun p hp => low _ _ (q p) _ _ ?_⟩
      exact (R.tail.tail.new (n := .lst (List.replicate k.toNat xs).flatten) hp ⟨_, upd_same, paired_rep r1 _⟩).cons rfl
    · exact q.elim⟩
/-! ### comparisons -/
def eqS : PyData → PyData → Option Bool
  | .none, .none => some true
  | .none, .int _ => some false
  | .none, .str _ => some false
  | .none, .bool _ => some false
  | .int _, .none => some false
  | .str _, .none => some false
  | .bool _, .none => some false
  | .int i, .int j => some (decide (i = j))
  | .str a, .str b => some (decide (a = b))
  | .bool a, .bool b => some (decide (a = b))
  | .int _, .str _ => some false
  | .str _, .int _ => some false
  | .bool _, .str _ => some false
  | .str _, .bool _ => some false
  | _, _ => none
theorem eqS_ok {Z : Hp} {u v : V} {d e : PyData} {b : Bool} (h1 : Dz Z u d) (h2 : Dz Z v e) (h : eqS d e = some b) : scal u v = true ∧ decide (u = v) = b := by
  unfold eqS at h
  split at h <;> cases h1 <;> cases h2 <;> cases h <;> refine ⟨rfl, ?_⟩ <;> simp
def zEqq (g : Bool → Bool) : DR2 := fun x y μ Q => match x, y with
  | .dat d, .dat e => (match eqS d e with | some b => Q (.dat (.bool (g b))) μ | none => SeqAt.shaped d = true ∧ SeqAt.shaped e = true ∧ Q (.dat (.bool (g (PyData.eqv d e)))) μ)
  | x, y => ∃ d e, View μ x d ∧ View μ y e ∧ SeqAt.shaped d = true ∧ SeqAt.shaped e = true ∧ Q (.dat (.bool (g (PyData.eqv d e)))) μ
abbrev zEq : DR2 := zEqq id
abbrev zNe : DR2 := zEqq not
theorem eq_any {g : Bool → Bool} {σ : List (Option V)} {ρ : DR} {H : Hp} {μ : Store} {u v : V} {x y : Val} {Q0 : DK} {Q : VK} (R : RL X.w X.K B H (some v :: some u :: σ) (some y :: some x :: ρ) μ) (q : zEqq g x y μ Q0) (low : Low X B σ ρ Q0 Q) :
    (scal u v = true ∧ Q (.bl (g (decide (u = v)))) H) ∨ ∃ d e, Dp X.K H u d ∧ Dp X.K H v e ∧ SeqAt.shaped d = true ∧ SeqAt.shaped e = true ∧ Q (.bl (g (PyData.eqv d e))) H := by
  have hy := R.head
  have hx := R.tail.head
  have fin : ∀ b, Q0 (.dat (.bool b)) μ → Q (.bl b) H := fun b q => low _ _ q _ _ (R.tail.tail.cons (.bl b))
  unfold zEqq at q
  split at q
  · rename_i d e
    split at q
    · rename_i b eb
      obtain ⟨h1, h2⟩ := eqS_ok hx hy eb
      exact .inl ⟨h1, by rw [h2]; exact fin _ q⟩
    · exact .inr ⟨d, e, (View.d d).at R.tail hx, (View.d e).at R hy, q.1, q.2.1, fin _ q.2.2⟩
  · obtain ⟨d, e, h1, h2, h3, h4, q⟩ := q
    exact .inr ⟨d, e, h1.at R.tail hx, h2.at R hy, h3, h4, fin _ q⟩
theorem oz_eq (hu : X.A.units + 64 < cLine) : OpZ X (compareOp .Eq) zEq := ⟨_, OpR.or op_eq (op_eqD hu), fun B σ ρ H μ u v x y Q0 Q R q low => eq_any R q low⟩
theorem oz_ne (hu : X.A.units + 64 < cLine) : OpZ X (compareOp .NotEq) zNe := ⟨_, OpR.or op_ne (op_neD hu), fun B σ ρ H μ u v x y Q0 Q R q low => eq_any R q low⟩
/-- ints, texts, data -/
def zCmp (gi : Int → Int → Bool) (gs : Str → Str → Bool) (gd : PyData → PyData → Bool) : DR2 := fun x y μ Q => match x, y with
  | .dat (.int i), .dat (.int j) => Q (.dat (.bool (gi i j))) μ
  | .dat (.str a), .dat (.str b) => Q (.dat (.bool (gs a b))) μ
  | .dat d, .dat e => PySem.W.alike d e = true ∧ d ≠ .none ∧ d.depth ≤ 50 ∧ Q (.dat (.bool (gd d e))) μ
  | _, _ => False
theorem oz_cmp {f : Value → Value → Sem Value} {gi : Int → Int → Bool} {gs : Str → Str → Bool} {gd : PyData → PyData → Bool} (h1 : OpR X f (rI0 fun i j => .bl (gi i j))) (h2 : OpR X f fun x y H Q => ∃ i j, x = .str i ∧ y = .str j ∧ Q (.bl (gs i j)) H)
    (h3 : OpR X f (Dt.rCmpD X.K gd)) : OpZ X f (zCmp gi gs gd) :=
  ⟨_, OpR.or h1 (OpR.or h2 h3), fun B σ ρ H μ u v x y Q0 Q R q low => by
    have hy := R.head
    have hx := R.tail.head
    have fin : ∀ b, Q0 (.dat (.bool b)) μ → Q (.bl b) H := fun b q => low _ _ q _ _ (R.tail.tail.cons (.bl b))
    unfold zCmp at q
    split at q
    · rename_i i j
      cases (hx : Dz _ u (.int i))
      cases (hy : Dz _ v (.int j))
      exact .inl ⟨i, j, rfl, rfl, fin _ q⟩
    · rename_i a b
      cases (hx : Dz _ u (.str a))
      cases (hy : Dz _ v (.str b))
      exact .inr (.inl ⟨a, b, rfl, rfl, fin _ q⟩)
    · rename_i d e _ _
      exact .inr (.inr ⟨d, e, (View.d d).at R.tail hx, (View.d e).at R hy, q.1, q.2.1, q.2.2.1, fin _ q.2.2.2⟩)
    · exact q.elim⟩
abbrev sLt (a b : Str) : Bool := decide (a.cps.toList < b.cps.toList)
abbrev zLt : DR2 := zCmp (fun i j => decide (i < j)) sLt fun d e => PySem.W.dataLt d e
abbrev zLe : DR2 := zCmp (fun i j => decide (i ≤ j)) (fun a b => !sLt b a) fun d e => !PySem.W.dataLt e d
abbrev zGt : DR2 := zCmp (fun i j => decide (j < i)) (fun a b => sLt b a) fun d e => PySem.W.dataLt e d
abbrev zGe : DR2 := zCmp (fun i j => decide (j ≤ i)) (fun a b => !sLt a b) fun d e => !PySem.W.dataLt d e
theorem oz_lt (hu : X.A.units + 64 < cLine) : OpZ X (compareOp .Lt) zLt := oz_cmp op_lt op_lt_str (Dt.op_ltD hu)
theorem oz_le (hu : X.A.units + 64 < cLine) : OpZ X (compareOp .LtE) zLe := oz_cmp op_le op_le_str (Dt.op_leD hu)
theorem oz_gt (hu : X.A.units + 64 < cLine) : OpZ X (compareOp .Gt) zGt := oz_cmp op_gt op_gt_str (Dt.op_gtD hu)
theorem oz_ge (hu : X.A.units + 64 < cLine) : OpZ X (compareOp .GtE) zGe := oz_cmp op_ge op_ge_str (Dt.op_geD hu)
def isN : Val → Bool
  | .dat .none => true
  | _ => false
def zIs (g : Bool → Bool) : DR2 := fun x y μ Q => match y with | .dat .none => Q (.dat (.bool (g (isN x)))) μ | _ => False
theorem isN_ok {Z : Hp} {u : V} {x : Val} {K : PySem.W.Frag} (h : RV K Z u x) : decide (u = .non) = isN x := by
  cases x with
  | dat d =>
    cases (h : Dz _ u d) <;> simp [isN]
  | ptr a =>
    cases (h : u = .ref a)
    rfl
  | scr ns =>
    obtain ⟨a, rfl, _⟩ := h
    rfl
  | prt k a =>
    obtain ⟨t, u, rfl, _⟩ := h
    rfl
  | tpl ps =>
    obtain ⟨t, u, rfl, _⟩ := h
    rfl
theorem oz_isN : OpZ X (compareOp .Is) (zIs id) := ⟨_, op_isN, fun B σ ρ H μ u v x y Q0 Q R q low => by
  unfold zIs at q
  split at q
  · have hy := R.head
    cases (hy : Dz _ v .none)
    exact ⟨rfl, by rw [isN_ok R.tail.head]; exact low _ _ q _ _ (R.tail.tail.cons (.bl _))⟩
  · exact q.elim⟩
theorem oz_notN : OpZ X (compareOp .IsNot) (zIs not) := ⟨_, op_notN, fun B σ ρ H μ u v x y Q0 Q R q low => by
  unfold zIs at q
  split at q
  · have hy := R.head
    cases (hy : Dz _ v .none)
    exact ⟨rfl, by rw [isN_ok R.tail.head]; exact low _ _ q _ _ (R.tail.tail.cons (.bl _))⟩
  · exact q.elim⟩
/-! ### x[i] -/
structure IxZ (X : Cx) (R : DR2) : Prop where
  ex : ∃ r : R2, IxR X r ∧ ∀ B : Base, Op2 X B r R
theorem d_ixR {a b : Expr} {R : DR2} {fa fb : DTE} {pos : Pos} (o : IxZ X R) (ha : DE X a fa) (hb : DE X b fb) (hs : PlainIx b) : DE X (.Subscript a b pos) (dOp R fa fb) := by
  obtain ⟨r, h1, h2⟩ := o.ex
  exact ⟨fun B => PE.weak (pe_ix h1 (ha.run B) (hb.run B) hs) fun _ _ _ h => up_op (h2 B) h⟩
def zIx : DR2 := fun x y μ Q => match x, y with
  | .dat (.tuple ds), .dat (.int i) => ∃ d, atI ds i = some d ∧ Q (.dat d) μ
  | .dat (.list ds), .dat (.int i) => ∃ d, atI ds i = some d ∧ Q (.dat d) μ
  | .dat (.str z), .dat (.int i) => z.length ≤ sizeLine ∧ ∃ c, atI z.cps.toList i = some c ∧ Q (.dat (.str ⟨#[c]⟩)) μ
  | .scr ns, .dat (.int i) => ∃ n, atI ns i = some n ∧ Q (.dat (.int n)) μ
  | .ptr a, .dat (.int i) => ∃ (j : Nat) (xs : List Val) (x : Val), μ[j]? = some (a, Node.lst xs) ∧ atI xs i = some x ∧ Q x μ
  | _, _ => False
theorem paired_at {α β : Type} {F : α → β → Prop} {l₁ : List α} {l₂ : List β} {i : Int} {y : β} (h : Paired F l₁ l₂) (e : atI l₂ i = some y) : ∃ x, atI l₁ i = some x ∧ F x y := by
  unfold atI at e ⊢
  rw [h.length]
  cases ej : ixN l₂.length i with
  | none => rw [ej] at e; cases e
  | some j =>
    rw [ej] at e
    exact paired_get h e
theorem atI_map {α β : Type} {f : α → β} {xs : List α} {i : Int} {x : α} (e : atI xs i = some x) : atI (xs.map f) i = some (f x) := by
  unfold atI at e ⊢
  rw [List.length_map]
  cases ej : ixN xs.length i with
  | none => rw [ej] at e; cases e
  | some j =>
    rw [ej] at e
    show (xs.map f)[j]? = _
    rw [List.getElem?_map, show xs[j]? = some x from e]
    rfl
theorem ix_its {σ : List (Option V)} {ρ : DR} {H : Hp} {μ : Store} {u : V} {x : Val} {b : Bool} {xs : List Val} {i : Int} {z : Val} {Q0 : DK} {Q : VK} (R : RL X.w X.K B H (some u :: σ) (some x :: ρ) μ) (h : Its μ x b xs) (e : atI xs i = some z) (q : Q0 z μ) (low : Low X B σ ρ Q0 Q) :
    rIxL X.K u (.int i) H Q ∨ rIxT X.K u (.int i) H Q := by
  obtain ⟨a, vs, rfl, hs, r⟩ := h.at R R.head
  obtain ⟨v, ev, rv⟩ := paired_at r e
  have fin := low _ _ q _ _ (R.tail.cons rv)
  cases b with
  | true => exact .inr ⟨a, vs, i, v, rfl, rfl, hs, ev, fin⟩
  | false => exact .inl ⟨a, vs, i, v, rfl, rfl, hs, ev, fin⟩
theorem iz_seq : IxZ X zIx := ⟨_, ix_seq, fun B σ ρ H μ u v x y Q0 Q R q low => by
  have hy := R.head
  have hx := R.tail.head
  have fin : ∀ {b : Bool} {xs : List Val} {i : Int} {z : Val}, Its μ x b xs → atI xs i = some z → Q0 z μ → v = .int i → rIx X.K u v H Q := fun h e q ev => by
    rw [ev]
    rcases ix_its R.tail h e q low with z | z
    · exact .inl z
    · exact .inr (.inl z)
  unfold zIx at q
  split at q
  · cases (hy : Dz _ v (.int _))
    obtain ⟨d, e, q⟩ := q
    exact fin (.t _) (atI_map e) q rfl
  · cases (hy : Dz _ v (.int _))
    obtain ⟨d, e, q⟩ := q
    exact fin (.d _) (atI_map e) q rfl
  · rename_i z i
    cases (hy : Dz _ v (.int i))
    cases (hx : Dz _ u (.str z))
    obtain ⟨hz, c, e, q⟩ := q
    exact .inr (.inr ⟨z, i, c, rfl, rfl, hz, e, low _ _ q _ _ (R.tail.tail.cons (.str _))⟩)
  · cases (hy : Dz _ v (.int _))
    obtain ⟨n, e, q⟩ := q
    exact fin (.s _) (atI_map e) q rfl
  · cases (hy : Dz _ v (.int _))
    obtain ⟨j, xs, z, hj, e, q⟩ := q
    exact fin (.p j hj) e q rfl
  · exact q.elim⟩
theorem d_ix {a b : Expr} {fa fb : DTE} {pos : Pos} (ha : DE X a fa) (hb : DE X b fb) (hs : PlainIx b) : DE X (.Subscript a b pos) (dOp zIx fa fb) := d_ixR iz_seq ha hb hs
/-! ### -x -/
abbrev dNeg (f : DTE) : DTE := fun ρ μ Q => f ρ μ fun x μ1 => match x with | .dat (.int i) => Q (.dat (.int (-i))) μ1 | _ => False
theorem d_neg {a : Expr} {fa : DTE} {pos : Pos} (ha : DE X a fa) : DE X (.UnaryOp .USub a pos) (dNeg fa) :=
  ⟨fun B => PE.weak (pe_un un_neg (ha.run B)) fun _ _ _ h => by
    obtain ⟨hv, hx, ρ, μ, Q0, hl, R0, h, low⟩ := h
    refine ⟨hv, hx, ρ, μ, _, hl, R0, h, fun x μ1 h1 u H1 R1 => ?_⟩
    have hd := R1.head
    match x, h1, hd with
    | .dat (.int i), h1, hd =>
      cases (hd : Dz _ u (.int i))
      exact ⟨i, rfl, low _ _ h1 _ _ (R1.tail.cons (.int _))⟩⟩
/-! ### calls of builtins by values -/
structure CaZ (X : Cx) (f : Value) (R : List Val → Store → DK → Prop) : Prop where
  ex : ∃ r : List V → Hp → VK → Prop, CallR X f r ∧ ∀ (B : Base) (σ : List (Option V)) (ρ : DR) (H : Hp) (μ : Store) (vs : List V) (xs : List Val) (Q0 : DK) (Q : VK), vs.length = xs.length → RL X.w X.K B H (vs.map some ++ σ) (xs.map some ++ ρ) μ → R xs μ Q0 → Low X B σ ρ Q0 Q → r vs H Q
abbrev dCB (R : List Val → Store → DK → Prop) (g : DTA) : DTE := fun ρ μ Q => g ρ μ fun xs μ1 => R xs μ1 Q
theorem up_CB {r : List V → Hp → VK → Prop} {R : List Val → Store → DK → Prop} {g : DTA}
    (S : ∀ (σ : List (Option V)) (ρ : DR) (H : Hp) (μ : Store) (vs : List V) (xs : List Val) (Q0 : DK) (Q : VK), vs.length = xs.length → RL X.w X.K B H (vs.map some ++ σ) (xs.map some ++ ρ) μ → R xs μ Q0 → Low X B σ ρ Q0 Q → r vs H Q)
    {σ : L2.St} {H : Hp} {Q : VK} (h : up X B (dCB R g) σ H Q) : tCB r (upA X B g) σ H Q := by
  obtain ⟨hv, hx, ρ, μ, Q0, hl, R0, h, low⟩ := h
  exact ⟨hv, hx, ρ, μ, _, hl, R0, h, fun xs μ1 h1 vs H1 l R1 => S _ _ _ _ _ _ _ _ l R1 h1 low⟩
theorem d_callB {x : Str} {id : String} {R : List Val → Store → DK → Prop} {e : Expr} {es : List Expr} {g : DTA} {p pos : Pos} (c : CaZ X (.builtin id) R) (hg : Gl X x) (hm : X.mg x = none) (hv : bootBuiltins x = some (.builtin id)) (ha : DA X (e :: es) g)
    (hn : x ≠ "__name__" := by decide) (hdb : (x == ("__debug__" : Str)) = false := by decide) (he : starEach (e :: es) X.env = (false, eval e X.env) :: starEach es X.env := by rfl) (hpl : (backTo pos (starEach es X.env)).any (·.1) = false := by rfl) :
    DE X (.Call (.Name x p) (e :: es) [] pos) (dCB R g) := by
  obtain ⟨r, h1, h2⟩ := c.ex
  exact ⟨fun B => PE.weak (pe_callB h1 hg hm hv (ha.run B) hn hdb he hpl) fun _ _ _ h => up_CB (h2 B) h⟩
def lenOf (μ : Store) (x : Val) (Q : Nat → Prop) : Prop := match x with
  | .dat (.list ds) => Q ds.length
  | .dat (.tuple ds) => Q ds.length
  | .dat (.str z) => z.length ≤ sizeLine ∧ Q z.length
  | .scr ns => Q ns.length
  | .ptr a => ∃ (j : Nat) (xs : List Val), μ[j]? = some (a, Node.lst xs) ∧ Q xs.length
  | _ => False
def zLen : List Val → Store → DK → Prop := fun xs μ Q => match xs with | [x] => lenOf μ x fun n => Q (.dat (.int (n : Nat))) μ | _ => False
theorem one_arg {σ : List (Option V)} {ρ : DR} {H : Hp} {μ : Store} {vs : List V} {x : Val} (l : vs.length = [x].length) (R : RL X.w X.K B H (vs.map some ++ σ) ([x].map some ++ ρ) μ) : ∃ v, vs = [v] ∧ RL X.w X.K B H (some v :: σ) (some x :: ρ) μ := by
  match vs, l, R with
  | [v], _, R => exact ⟨v, rfl, R⟩
theorem two_args {σ : List (Option V)} {ρ : DR} {H : Hp} {μ : Store} {vs : List V} {x y : Val} (l : vs.length = [x, y].length) (R : RL X.w X.K B H (vs.map some ++ σ) ([x, y].map some ++ ρ) μ) : ∃ v u, vs = [v, u] ∧ RL X.w X.K B H (some v :: some u :: σ) (some x :: some y :: ρ) μ := by
  match vs, l, R with
  | [v, u], _, R => exact ⟨v, u, rfl, R⟩
theorem ca_len : CaZ X (.builtin "len") zLen := by
  refine ⟨fun vs H Q => (∃ p ys, vs = [.ref p] ∧ (SqL X.K H p ys ∨ SqT X.K H p ys) ∧ Q (.int (ys.length : Nat)) H) ∨ ∃ z, vs = [.str z] ∧ z.length ≤ sizeLine ∧ Q (.int (z.length : Nat)) H, ?_, ?_⟩
  · intro pins s σ H xs us Q I r h
    rcases h with h | h
    · exact call_len_seq pins s σ H xs us Q I r h
    · exact call_len_str pins s σ H xs us Q I r h
  · intro B σ ρ H μ vs xs Q0 Q l R q low
    match xs, l, R, q with
    | [x], l, R, q =>
      obtain ⟨v, rfl, R⟩ := one_arg l R
      have hx := R.head
      have fin : ∀ {b : Bool} {ys : List Val}, Its μ x b ys → Q0 (.dat (.int (ys.length : Nat))) μ → ∃ p us, [v] = [V.ref p] ∧ (SqL X.K H p us ∨ SqT X.K H p us) ∧ Q (.int (us.length : Nat)) H := fun {b ys} h q => by
        obtain ⟨a, us, rfl, hs, r⟩ := h.at R hx
        refine ⟨a, us, rfl, ?_, by rw [r.length]; exact low _ _ q _ _ (R.tail.cons (.int _))⟩
        cases b with
        | true => exact .inr hs
        | false => exact .inl hs
      have q : lenOf μ x (fun n => Q0 (.dat (.int (n : Nat))) μ) := q
      unfold lenOf at q
      split at q
      · exact .inl (fin (.d _) (by rw [List.length_map]; exact q))
      · exact .inl (fin (.t _) (by rw [List.length_map]; exact q))
      · cases (hx : Dz _ v (.str _))
        exact .inr ⟨_, rfl, q.1, low _ _ q.2 _ _ (R.tail.cons (.int _))⟩
      · exact .inl (fin (.s _) (by rw [List.length_map]; exact q))
      · obtain ⟨j, ys, hj, q⟩ := q
        exact .inl (fin (.p j hj) q)
      · exact q.elim
end
end Zl
namespace Zl
open PySem PySem.Spec PyProof.Rows L2 Lf
/-! ### what a def promises -/
abbrev DSp := List Val → Store → DK → Prop
def spZ (w : World) (K : PySem.W.Frag) (F : DSp) : Sp := fun vs H Q _ => ∃ (B : Base) (xs : List Val) (μ : Store) (Q0 : DK), vs.length = xs.length ∧ RL w K B H (vs.map some) (xs.map some) μ ∧ F xs μ Q0 ∧
  ∀ x μ', Q0 x μ' → ∀ v H', RL w K B H' [some v] [some x] μ' → Q v H'
/-- what follows is all that is wanted -/
abbrev CalZ (P : Program) (w : World) (K : PySem.W.Frag) (mg : Str → Option Value) (base : Heap) (k : Nat) (x : Str) (ps : List Str) (F : DSp) : Prop := Callee P w K mg base k x ps (spZ w K F)
def startZ (N : List Str) (xs : List Val) : DR := xs.map some ++ List.replicate (N.length - xs.length) none
/-- what nobody wants any more is forgotten -/
abbrev dEnd (Q : DK) : DEnds := { nx := fun _ μ => ∃ μ', List.Sublist μ' μ ∧ Q (.dat .none) μ', rt := fun x μ => ∃ μ', List.Sublist μ' μ ∧ Q x μ' }
theorem RL.less {w : World} {K : PySem.W.Frag} {B : Base} {H : Hp} {σ : List (Option V)} {ρ : DR} {μ μ' : Store} (R : RL w K B H σ ρ μ) (h : List.Sublist μ' μ) : RL w K B H σ ρ μ' := by
  have nd := R.nd
  rw [List.map_append, List.nodup_append] at nd
  exact (R.sub ((h.map _).nodup nd.2.1) fun p hp => h.subset hp).1
theorem paired_none {K : PySem.W.Frag} {Z : Hp} : ∀ n : Nat, Paired (RVo K Z) (List.replicate n none) (List.replicate n none)
  | 0 => .nil
  | n + 1 => .cons trivial (paired_none n)
theorem Fun.okZ {P : Program} {w : World} {K : PySem.W.Frag} {mg : Str → Option Value} {base : Heap} {x qual : Str} {st : Stmt} {f : Addr} {fd : FuncData} {N ps : List Str} {k : Nat} {F : DSp} (FF : Fun K x qual st f fd) (S : FnScope N ps (defScope st))
    (len : ∀ xs μ Q, F xs μ Q → xs.length = ps.length)
    (body : ∀ (cdv : Value) (A : Around) (outer : List Env) (s : Shared) (H : Hp) (E : XK), Room k (A.deeper (envOfC qual (defScope st) s.heap.objs.size f cdv)) →
      ∃ t : DTS, DSs (cxOf CX0 P w K mg base N qual (defScope st) f cdv A outer s H E).nox (defBody st) t ∧ ∀ xs μ Q, F xs μ Q → t (dEnd Q) (startZ N xs) μ) : FnOk P w K mg base CX0 (k + 1) f fd ps (spZ w K F) := by
  refine FF.ok S (fun vs H Q E h => ?_) fun cdv A outer s H vs Q E hr h => ?_
  · obtain ⟨B, xs, μ, Q0, l, _, h, _⟩ := h
    rw [l]
    exact len _ _ _ h
  · obtain ⟨B, xs, μ, Q0, l, R, h, low⟩ := h
    obtain ⟨t, d, q⟩ := body cdv A outer s H E hr
    refine ⟨_, (d.run B), startZ N xs, μ, dEnd Q0, ?_, q xs μ Q0 h, ?_⟩
    · refine R.slots ?_
      unfold L2.start startZ
      rw [l]
      exact paired_app R.sl (paired_none _)
    · exact ⟨fun ρ μ ⟨μ', h, q⟩ σ H R => low _ _ q _ _ ((R.less h).slots (.cons .non .nil)), fun x μ ⟨μ', h, q⟩ v H R => low _ _ q _ _ (R.less h), fun _ _ q => q.elim, fun _ _ q => q.elim⟩
section
variable {X : Cx} {B : Base} {k : Nat} {x : Str} {ps : List Str} {F : DSp} {e : Expr} {es : List Expr} {g : DTA} {p pos : Pos}
theorem nodup_perm {μ μ' : Store} (h : μ.Perm μ') (n : (μ.map (·.1)).Nodup) : (μ'.map (·.1)).Nodup := ((h.map _).nodup_iff).mp n
/-- the callee gets some of the objects, the others are hidden from it -/
theorem call_z {H : Hp} {σ : List (Option V)} {ρ : DR} {μ1 μ0 μr : Store} {vs : List V} {xs : List Val} {Q0 : DK} {Q : VK} (l : vs.length = xs.length) (R : RL X.w X.K B H (vs.map some ++ σ) (xs.map some ++ ρ) μ1) (pm : μ1.Perm (μ0 ++ μr))
    (f : F xs μ0 fun x ν => ∃ μ2, μ2.Perm (ν ++ μr) ∧ Q0 x μ2) (low : Low X B σ ρ Q0 Q) : spZ X.w X.K F vs H Q E0 := by
  have p1 : (B.fr ++ μ1).Perm ((B.fr ++ μr) ++ μ0) := by
    rw [List.append_assoc]
    exact (pm.trans List.perm_append_comm).append_left _
  obtain ⟨R1, g1⟩ := R.as (B' := ⟨Fz (B.fr ++ μ1) H, B.fr ++ μr⟩) (μ' := μ0) (nodup_perm p1 R.nd) (fun p hp => p1.mem_iff.mpr hp) fun x o h => by
    obtain ⟨h1, h2⟩ := Fz.sub h
    refine Fz.of (fun z => h1 ?_) h2
    exact ((p1.map (·.1)).mem_iff).mpr z
  refine ⟨⟨Fz (B.fr ++ μ1) H, B.fr ++ μr⟩, xs, μ0, _, l, R1.slots (paired_split (by simp [l]) R1.sl).1, f, fun x ν ⟨μ2, p2, q⟩ v H' R2 => low x μ2 q v H' ?_⟩
  have p3 : ((B.fr ++ μr) ++ ν).Perm (B.fr ++ μ2) := by
    rw [List.append_assoc]
    exact (List.perm_append_comm.trans p2.symm).append_left _
  have g2 : ∀ x u, Fz ((B.fr ++ μr) ++ ν) H' x = some u → Fz (B.fr ++ μ2) H' x = some u := fun x u h => by
    obtain ⟨h1, h2⟩ := Fz.sub h
    exact Fz.of (fun z => h1 (((p3.map (·.1)).mem_iff).mpr z)) h2
  have g3 : ∀ x u, Fz (B.fr ++ μ1) H x = some u → Fz (B.fr ++ μ2) H' x = some u := fun x u h => g2 _ _ (R2.base _ _ h)
  refine ⟨nodup_perm p3 R2.nd, fun x o h => g3 _ _ (R.base _ _ h), .cons (RVo.mono g2 (v := some v) (x := some x) R2.head) ?_, fun q hq => (R2.st q (p3.mem_iff.mpr hq)).mono g2 rfl⟩
  exact L2.Paired.mapP (R.rest (by simp [l])).sl fun _ _ => RVo.mono g3
/-- no object is handed over -/
abbrev dOwn0 (F : DSp) (g : DTA) : DTE := fun ρ μ Q => g ρ μ fun xs μ1 => F xs [] fun x ν => Q x (μ1 ++ ν)
/-- one object, the j-th, is handed over, and comes back in its place -/
abbrev dOwn1 (F : DSp) (g : DTA) : DTE := fun ρ μ Q => g ρ μ fun xs μ1 => ∃ (j : Nat) (a : Addr) (n : Node), μ1[j]? = some (a, n) ∧ F xs [(a, n)] fun x ν => ∃ n' ext, ν = (a, n') :: ext ∧ Q x (μ1.set j (a, n') ++ ext)
/-- any objects -/
abbrev dOwnG (F : DSp) (g : DTA) : DTE := fun ρ μ Q => g ρ μ fun xs μ1 => ∃ μ0 μr, μ1.Perm (μ0 ++ μr) ∧ F xs μ0 fun x ν => ∃ μ2, μ2.Perm (ν ++ μr) ∧ Q x μ2
theorem d_ownG (C : CalZ X.prog X.w X.K X.mg X.base k x ps F) (hr : Room k X.A) (hg : Gl X x) (ha : DA X (e :: es) g)
    (hdb : (x == ("__debug__" : Str)) = false := by decide) (he : starEach (e :: es) X.env = (false, eval e X.env) :: starEach es X.env := by rfl) (hpl : (backTo pos (starEach es X.env)).any (·.1) = false := by rfl) :
    DE X (.Call (.Name x p) (e :: es) [] pos) (dOwnG F g) :=
  ⟨fun B => PE.weak (pe_own C hr hg (ha.run B) hdb he hpl) fun σ H Q h => by
    obtain ⟨hv, hx, ρ, μ, Q0, hl, R0, h, low⟩ := h
    refine ⟨hv, hx, ρ, μ, _, hl, R0, h, fun xs μ1 h1 vs H1 l R1 => ?_⟩
    obtain ⟨μ0, μr, pm, f⟩ := h1
    show spZ _ _ _ (vs ++ []) _ _ _
    rw [List.append_nil]
    exact call_z l R1 pm f low⟩
theorem d_weak {e : Expr} {f f' : DTE} (h : DE X e f) (w : ∀ ρ μ Q, f' ρ μ Q → f ρ μ Q) : DE X e f' :=
  ⟨fun B => PE.weak (h.run B) fun σ H Q q => by
    obtain ⟨hv, hx, ρ, μ, Q0, hl, R0, h, low⟩ := q
    exact ⟨hv, hx, ρ, μ, Q0, hl, R0, w _ _ _ h, low⟩⟩
theorem perm_at {α : Type} : ∀ {l : List α} {j : Nat} {x : α}, l[j]? = some x → l.Perm (x :: l.eraseIdx j)
  | [], _, _, h => by simp at h
  | y :: r, 0, x, h => by
    cases (Option.some.inj h : y = x)
    exact .refl _
  | y :: r, j + 1, x, h => by
    have := perm_at (l := r) (j := j) (x := x) (by simpa using h)
    exact (this.cons y).trans (.swap x y _)
theorem erase_set {α : Type} : ∀ {l : List α} {j : Nat} {x : α}, (l.set j x).eraseIdx j = l.eraseIdx j
  | [], _, _ => rfl
  | _ :: _, 0, _ => rfl
  | y :: r, j + 1, x => congrArg (y :: ·) (erase_set (l := r) (j := j) (x := x))
theorem perm_get {μ : Store} {j : Nat} {a : Addr} {n : Node} (h : μ[j]? = some (a, n)) : μ.Perm ((a, n) :: μ.eraseIdx j) := perm_at h
theorem perm_set {μ : Store} {j : Nat} {a : Addr} {n : Node} (h : μ[j]? = some (a, n)) (n' : Node) : (μ.set j (a, n')).Perm ((a, n') :: μ.eraseIdx j) := by
  have := perm_at (l := μ.set j (a, n')) (j := j) (x := (a, n')) (by rw [List.getElem?_set_self]; exact (List.getElem?_eq_some_iff.mp h).1)
  rw [erase_set] at this
  exact this
/-- a promise may be used with fewer wishes -/
def MonoF (F : DSp) : Prop := ∀ xs μ (Q Q' : DK), (∀ x ν, Q x ν → Q' x ν) → F xs μ Q → F xs μ Q'
theorem call_mono {σ : List (Option V)} {H : Hp} {vs : List V} {Q : VK} {E : XK} {F F' : DSp} (w : ∀ xs μ (Q : DK), F' xs μ Q → ∃ Q', F xs μ Q' ∧ ∀ x ν, Q' x ν → Q x ν) (h : spZ X.w X.K F' vs H Q E) : spZ X.w X.K F vs H Q E := by
  obtain ⟨B, xs, μ, Q0, l, R, f, low⟩ := h
  obtain ⟨Q', f', m⟩ := w _ _ _ f
  exact ⟨B, xs, μ, Q', l, R, f', fun x ν q => low x ν (m _ _ q)⟩
/-- the wishes closed above -/
def Cl (F : DSp) : DSp := fun xs μ Q => ∃ Q', F xs μ Q' ∧ ∀ x ν, Q' x ν → Q x ν
theorem cal_cl {P : Program} {w : World} {K : PySem.W.Frag} {mg : Str → Option Value} {base : Heap} (C : CalZ P w K mg base k x ps F) : CalZ P w K mg base k x ps (Cl F) := by
  obtain ⟨f, fd, h1, h2⟩ := C
  refine ⟨f, fd, h1.imp fun vs H Q E h => ?_, h2⟩
  obtain ⟨B, xs, μ, Q0, l, R, ⟨Q', f', m⟩, low⟩ := h
  exact ⟨B, xs, μ, Q', l, R, f', fun x ν q => low x ν (m _ _ q)⟩
theorem d_own0 (C : CalZ X.prog X.w X.K X.mg X.base k x ps F) (hr : Room k X.A) (hg : Gl X x) (ha : DA X (e :: es) g)
    (hdb : (x == ("__debug__" : Str)) = false := by decide) (he : starEach (e :: es) X.env = (false, eval e X.env) :: starEach es X.env := by rfl) (hpl : (backTo pos (starEach es X.env)).any (·.1) = false := by rfl) :
    DE X (.Call (.Name x p) (e :: es) [] pos) (dOwn0 F g) :=
  ⟨fun B => PE.weak (pe_own (cal_cl C) hr hg (ha.run B) hdb he hpl) fun σ H Q h => by
    obtain ⟨hv, hx, ρ, μ, Q0, hl, R0, h, low⟩ := h
    refine ⟨hv, hx, ρ, μ, _, hl, R0, h, fun xs μ1 h1 vs H1 l R1 => ?_⟩
    show spZ _ _ _ (vs ++ []) _ _ _
    rw [List.append_nil]
    exact call_z (F := Cl F) l R1 (μ0 := []) (μr := μ1) (.refl _) ⟨_, h1, fun x ν q => ⟨_, List.perm_append_comm, q⟩⟩ low⟩
theorem d_own1 (C : CalZ X.prog X.w X.K X.mg X.base k x ps F) (hr : Room k X.A) (hg : Gl X x) (ha : DA X (e :: es) g)
    (hdb : (x == ("__debug__" : Str)) = false := by decide) (he : starEach (e :: es) X.env = (false, eval e X.env) :: starEach es X.env := by rfl) (hpl : (backTo pos (starEach es X.env)).any (·.1) = false := by rfl) :
    DE X (.Call (.Name x p) (e :: es) [] pos) (dOwn1 F g) :=
  ⟨fun B => PE.weak (pe_own (cal_cl C) hr hg (ha.run B) hdb he hpl) fun σ H Q h => by
    obtain ⟨hv, hx, ρ, μ, Q0, hl, R0, h, low⟩ := h
    refine ⟨hv, hx, ρ, μ, _, hl, R0, h, fun xs μ1 h1 vs H1 l R1 => ?_⟩
    obtain ⟨j, a, n, hj, f⟩ := h1
    show spZ _ _ _ (vs ++ []) _ _ _
    rw [List.append_nil]
    refine call_z (F := Cl F) l R1 (perm_get hj : μ1.Perm ([(a, n)] ++ _)) ⟨_, f, fun x ν ⟨n', ext, e, q⟩ => ⟨_, ?_, q⟩⟩ low
    subst e
    refine ((perm_set hj n').append_right ext).trans ?_
    exact List.Perm.cons _ List.perm_append_comm⟩
end
/-! ### statements -/
section
variable {X : Cx} {B : Base}
abbrev dSeq (t u : DTS) : DTS := fun E ρ μ => t { E with nx := u E } ρ μ
abbrev dNext : DTS := fun E ρ μ => E.nx ρ μ
theorem upS_iff {t : DTS} {D : Ends} {σ : L2.St} {H : Hp} {ρ : DR} {μ : Store} {E : DEnds} (R : RL X.w X.K B H σ ρ μ) (q : t E ρ μ) (b : Below X B E D) : upS X B t D σ H := ⟨ρ, μ, E, R, q, b⟩
theorem dss_nil : DSs X [] dNext := ⟨fun B => PSs.weak pss_nil fun D σ H ⟨ρ, μ, E, R, q, b⟩ => b.nx _ _ q _ _ R⟩
theorem dss_one {s : Stmt} {t : DTS} (h : DS X s t) : DSs X [s] t := ⟨fun B => PSs.weak (pss_one (h.run B)) fun D σ H q => q⟩
theorem dss_cons {s : Stmt} {r : List Stmt} {t u : DTS} (h1 : DS X s t) (h2 : DSs X r u) : DSs X (s :: r) (dSeq t u) :=
  ⟨fun B => PSs.weak (pss_cons (h1.run B) (h2.run B)) fun D σ H ⟨ρ, μ, E, R, q, b⟩ => ⟨ρ, μ, _, R, q, ⟨fun ρ' μ' q' σ' H' R' => ⟨ρ', μ', E, R', q', b⟩, b.rt, b.bk, b.ct⟩⟩⟩
/-- what follows is shown once -/
abbrev dCut (t u : DTS) : DTS := fun E ρ μ => ∃ M : DR → Store → Prop, t { E with nx := M } ρ μ ∧ ∀ ρ' μ', M ρ' μ' → u E ρ' μ'
theorem dss_cut {s : Stmt} {r : List Stmt} {t u : DTS} (h1 : DS X s t) (h2 : DSs X r u) : DSs X (s :: r) (dCut t u) :=
  ⟨fun B => PSs.weak (pss_cons (h1.run B) (h2.run B)) fun D σ H ⟨ρ, μ, E, R, ⟨M, q, m⟩, b⟩ => ⟨ρ, μ, { E with nx := M }, R, q, ⟨fun ρ' μ' hM σ' H' R' => ⟨ρ', μ', E, R', m _ _ hM, b⟩, b.rt, b.bk, b.ct⟩⟩⟩
/-- the objects seen otherwise: some forgotten, some whom nobody changes any more -/
def Weak (X : Cx) (ρ : DR) (μ : Store) (ρ' : DR) (μ' : Store) : Prop := ∀ (B : Base) (H : Hp) (σ : List (Option V)), RL X.w X.K B H σ ρ μ → RL X.w X.K B H σ ρ' μ'
abbrev dWeak (X : Cx) (t : DTS) : DTS := fun E ρ μ => ∃ ρ' μ', Weak X ρ μ ρ' μ' ∧ t E ρ' μ'
theorem weak_sub {ρ : DR} {μ μ' : Store} (h : List.Sublist μ' μ) : Weak X ρ μ ρ μ' := fun _ _ _ R => R.less h
theorem dss_weak {r : List Stmt} {t : DTS} (h : DSs X r t) : DSs X r (dWeak X t) :=
  ⟨fun B => PSs.weak (h.run B) fun D σ H ⟨ρ, μ, E, R, ⟨ρ', μ', w, q⟩, b⟩ => ⟨ρ', μ', E, w _ _ _ R, q, b⟩⟩
theorem ds_weak {r : Stmt} {t : DTS} (h : DS X r t) : DS X r (dWeak X t) :=
  ⟨fun B => PS.weak (h.run B) fun D σ H ⟨ρ, μ, E, R, ⟨ρ', μ', w, q⟩, b⟩ => ⟨ρ', μ', E, w _ _ _ R, q, b⟩⟩
abbrev dDrop (f : DTE) : DTS := fun E ρ μ => f ρ μ fun _ μ1 => E.nx ρ μ1
theorem ds_expr {e : Expr} {f : DTE} {pos : Pos} (h : DE X e f) (hs : swapsWith e none pos.line X.env = pure false := by rfl) : DS X (.Expr e pos) (dDrop f) :=
  ⟨fun B => PS.weak (ps_expr (h.run B) hs) fun D σ H ⟨ρ, μ, E, R, q, b⟩ => ⟨[], [], ρ, μ, _, rfl, R, q, fun x μ1 q1 v H1 R1 => b.nx _ _ q1 _ _ R1.tail⟩⟩
theorem ds_doc {x j pos pos'} : DS X (.Expr (.Constant (.str x) j pos) pos') dNext := ⟨fun B => PS.weak ps_doc fun D σ H ⟨ρ, μ, E, R, q, b⟩ => b.nx _ _ q _ _ R⟩
theorem ds_pass {pos} : DS X (.Pass pos) dNext := ⟨fun B => PS.weak ps_pass fun D σ H ⟨ρ, μ, E, R, q, b⟩ => b.nx _ _ q _ _ R⟩
abbrev dBreak : DTS := fun E ρ μ => E.bk ρ μ
abbrev dCont : DTS := fun E ρ μ => E.ct ρ μ
theorem ds_break {pos} : DS X (.Break pos) dBreak := ⟨fun B => PS.weak ps_break fun D σ H ⟨ρ, μ, E, R, q, b⟩ => b.bk _ _ q _ _ R⟩
theorem ds_continue {pos} : DS X (.Continue pos) dCont := ⟨fun B => PS.weak ps_continue fun D σ H ⟨ρ, μ, E, R, q, b⟩ => b.ct _ _ q _ _ R⟩
abbrev dRet (f : DTE) : DTS := fun E ρ μ => f ρ μ E.rt
theorem ds_ret {e : Expr} {f : DTE} {pos : Pos} (h : DE X e f) : DS X (.Return (some e) pos) (dRet f) :=
  ⟨fun B => PS.weak (ps_ret (h.run B)) fun D σ H ⟨ρ, μ, E, R, q, b⟩ => ⟨[], [], ρ, μ, _, rfl, R, q, fun x μ1 q1 v H1 R1 => b.rt _ _ q1 _ _ (R1.slots (.cons R1.head .nil))⟩⟩
abbrev dRetN : DTS := fun E _ μ => E.rt (.dat .none) μ
theorem ds_retN {pos : Pos} : DS X (.Return none pos) dRetN :=
  ⟨fun B => PS.weak ps_retN fun D σ H ⟨ρ, μ, E, R, q, b⟩ => b.rt _ _ q _ _ (R.slots (.cons .non .nil))⟩
abbrev dIfS (c : DTT) (t u : DTS) : DTS := fun E ρ μ => c ρ μ fun b μ1 => if b = true then t E ρ μ1 else u E ρ μ1
theorem ds_if {c : Expr} {a b : List Stmt} {fc : DTT} {t u : DTS} {pos : Pos} (hc : DT X c fc) (ha : DSs X a t) (hb : DSs X b u) : DS X (.If c a b pos) (dIfS fc t u) :=
  ⟨fun B => PS.weak (ps_if (hc.run B) (ha.run B) (hb.run B)) fun D σ H ⟨ρ, μ, E, R, q, b⟩ => ⟨[], [], ρ, μ, _, rfl, R, q, fun c μ1 q1 H1 R1 => by
    cases c with
    | true => exact ⟨ρ, μ1, E, R1, q1, b⟩
    | false => exact ⟨ρ, μ1, E, R1, q1, b⟩⟩⟩
/-! ### targets -/
abbrev DTG := Val → DR → Store → (DR → Store → Prop) → Prop
abbrev DTGs := List PyData → DR → Store → (DR → Store → Prop) → Prop
def upG (X : Cx) (B : Base) (g : DTG) : TG := fun v σ H Q => ∃ (hv : List (Option V)) (hx : DR) (x : Val) (ρ : DR) (μ : Store) (Q0 : DR → Store → Prop), hv.length = hx.length ∧ RL X.w X.K B H (some v :: (hv ++ σ)) (some x :: (hx ++ ρ)) μ ∧ g x ρ μ Q0 ∧
  ∀ ρ' μ', Q0 ρ' μ' → ∀ σ' H', RL X.w X.K B H' (hv ++ σ') (hx ++ ρ') μ' → Q σ' H'
def upGs (X : Cx) (B : Base) (g : DTGs) : TGs := fun vs σ H Q => ∃ (hv : List (Option V)) (hx : DR) (ds : List PyData) (ρ : DR) (μ : Store) (Q0 : DR → Store → Prop), hv.length = hx.length ∧ vs.length = ds.length ∧
  RL X.w X.K B H (vs.map some ++ (hv ++ σ)) (ds.map (fun d => some (Val.dat d)) ++ (hx ++ ρ)) μ ∧ g ds ρ μ Q0 ∧ ∀ ρ' μ', Q0 ρ' μ' → ∀ σ' H', RL X.w X.K B H' (hv ++ σ') (hx ++ ρ') μ' → Q σ' H'
structure DG (X : Cx) (e : Expr) (g : DTG) : Prop where
  run : ∀ B : Base, PG X e (upG X B g)
structure DGs (X : Cx) (es : List Expr) (g : DTGs) : Prop where
  run : ∀ B : Base, PGs X es (upGs X B g)
theorem PG.weak {e : Expr} {t t' : TG} (h : PG X e t) (w : ∀ v σ H Q, t' v σ H Q → t v σ H Q) : PG X e t' := ⟨fun pins s σ H v u Q I r q => h.run pins s σ H v u Q I r (w _ _ _ _ q)⟩
theorem PGs.weak {e : List Expr} {t t' : TGs} (h : PGs X e t) (w : ∀ v σ H Q, t' v σ H Q → t v σ H Q) : PGs X e t' := ⟨fun pins s σ H v u Q I r q => h.run pins s σ H v u Q I r (w _ _ _ _ q)⟩
def zName (i : Nat) : DTG := fun x ρ μ Q => Q (ρ.set i (some x)) μ
theorem RL.into {w : World} {K : PySem.W.Frag} {H : Hp} {σ : List (Option V)} {ρ : DR} {μ : Store} {hv : List (Option V)} {hx : DR} {v : V} {x : Val} (l : hv.length = hx.length) (R : RL w K B H (some v :: (hv ++ σ)) (some x :: (hx ++ ρ)) μ) (i : Nat) : RL w K B H (hv ++ σ.set i (some v)) (hx ++ ρ.set i (some x)) μ := by
  obtain ⟨h1, h2⟩ := paired_split l R.tail.sl
  exact R.slots (paired_app h1 (paired_set i h2 R.head))
theorem dg_of_name {e : Expr} {i : Nat} (h : PG X e (gName i)) : DG X e (zName i) :=
  ⟨fun B => PG.weak h fun v σ H Q ⟨hv, hx, x, ρ, μ, Q0, l, R, q, low⟩ => low _ _ q _ _ (R.into l i)⟩
def zgNil : DTGs := fun ds ρ μ Q => match ds with | [] => Q ρ μ | _ => False
def zgCons (g : DTG) (u : DTGs) : DTGs := fun ds ρ μ Q => match ds with | d :: r => g (.dat d) ρ μ fun ρ' μ' => u r ρ' μ' Q | [] => False
theorem dgs_nil : DGs X [] zgNil := ⟨fun B => PGs.weak pgs_nil fun vs σ H Q ⟨hv, hx, ds, ρ, μ, Q0, l, l2, R, q, low⟩ => by
  match ds, vs, l2, R, q with
  | [], [], _, R, q => exact ⟨rfl, low _ _ q _ _ R⟩⟩
theorem dgs_cons {e : Expr} {es : List Expr} {g : DTG} {u : DTGs} (h1 : DG X e g) (h2 : DGs X es u) (hs : (assignEach (e :: es) X.env).map (·.2) = assign e X.env :: (assignEach es X.env).map (·.2) := by rfl) : DGs X (e :: es) (zgCons g u) :=
  ⟨fun B => PGs.weak (pgs_cons (h1.run B) (h2.run B) hs) fun vs σ H Q ⟨hv, hx, ds, ρ, μ, Q0, l, l2, R, q, low⟩ => by
    match ds, vs, l2, R, q with
    | d :: r, v :: vr, l2, R, q =>
      have l3 : vr.length = r.length := by simpa using l2
      refine ⟨v, vr, rfl, vr.map some ++ hv, r.map (fun d => some (Val.dat d)) ++ hx, .dat d, ρ, μ, _, by simp [l, l3], by rw [List.append_assoc, List.append_assoc]; exact R, q, fun ρ' μ' q' σ' H' R' => ?_⟩
      exact ⟨hv, hx, r, ρ', μ', Q0, l, l3, by rw [List.append_assoc, List.append_assoc] at R'; exact R', q', low⟩⟩
def zgTup (n : Nat) (u : DTGs) : DTG := fun x ρ μ Q => match x with | .dat (.tuple ds) => ds.length = n ∧ u ds ρ μ Q | _ => False
theorem dz_some {K : PySem.W.Frag} {Z : Hp} : ∀ {vs : List V} {ds : List PyData}, DzAll Z vs ds → Paired (RVo K Z) (vs.map some) (ds.map fun d => some (Val.dat d))
  | _, [], h => by cases h; exact .nil
  | _, d :: ds, h => by
    cases h with
    | cons h1 h2 => exact .cons h1 (dz_some h2)
theorem dzAll_len {Z : Hp} : ∀ {vs : List V} {ds : List PyData}, DzAll Z vs ds → vs.length = ds.length
  | _, [], h => by cases h; rfl
  | _, d :: ds, h => by
    cases h with
    | cons h1 h2 => simp [dzAll_len h2]
theorem dg_tup {es : List Expr} {k n : Nat} {u : DTGs} {pos : Pos} (hc : X.calm = true) (h : DGs X es u) (hn : (assignEach es X.env).length = n := by rfl) (hst : (assignEach es X.env).findIdx? (·.1) = none := by rfl) : DG X (.Tuple es k pos) (zgTup n u) :=
  ⟨fun B => PG.weak (pg_tup hc (h.run B) hn hst) fun v σ H Q ⟨hv, hx, x, ρ, μ, Q0, l, R, q, low⟩ => by
    have hd := R.head
    match x, q, hd with
    | .dat (.tuple ds), q, hd =>
      cases (hd : Dz _ v (.tuple ds)) with
      | tup h1 h2 =>
        refine ⟨_, _, rfl, SqT.of (fz_le _ _ h1), by rw [dzAll_len h2]; exact q.1, hv, hx, ds, ρ, μ, Q0, l, dzAll_len h2, R.slots (paired_app (dz_some h2) R.tail.sl), q.2, low⟩⟩
/-- xs[i] = v, xs an own list -/
def zSetL (fo fi : DTE) : DTG := fun x ρ μ Q => fo ρ μ fun o μ1 => fi ρ μ1 fun i μ2 => match o, i with
  | .ptr a, .dat (.int k) => ∃ (j : Nat) (xs : List Val) (m : Nat), μ2[j]? = some (a, Node.lst xs) ∧ ixN xs.length k = some m ∧ Q ρ (μ2.set j (a, .lst (xs.set m x)))
  | _, _ => False
theorem dg_setL {a b : Expr} {fo fi : DTE} {pos : Pos} (h1 : ∀ B : Base, PG X (.Subscript a b pos) (gSub (up X B fo) (up X B fi) rSetL)) : DG X (.Subscript a b pos) (zSetL fo fi) :=
  ⟨fun B => PG.weak (h1 B) fun v σ H Q ⟨hv, hx, x, ρ, μ, Q0, l, R, q, low⟩ => by
    refine ⟨some v :: hv, some x :: hx, ρ, μ, _, by simp [l], R, q, fun o μ1 q1 vo H1 R1 => ?_⟩
    refine ⟨some vo :: some v :: hv, some o :: some x :: hx, ρ, μ1, _, by simp [l], R1, q1, fun i μ2 q2 vi H2 R2 => ?_⟩
    have hi := R2.head
    have ho := R2.tail.head
    match o, i, q2, hi, ho with
    | .ptr a, .dat (.int k), q2, hi, ho =>
      cases (hi : Dz _ vi (.int k))
      cases (ho : vo = .ref a)
      obtain ⟨j, xs, m, hj, hm, q3⟩ := q2
      obtain ⟨vs, e, r⟩ := R2.at hj
      refine ⟨a, vs, k, m, rfl, rfl, e, by rw [r.length]; exact hm, low _ _ q3 _ _ ?_⟩
      have R3 := R2.tail.tail
      exact (R3.put (n' := .lst (xs.set m x)) hj ⟨_, upd_same, paired_set m r R3.head⟩).tail⟩
abbrev dAsg (f : DTE) (g : DTG) : DTS := fun E ρ μ => f ρ μ fun x μ1 => g x ρ μ1 E.nx
theorem ds_asg {tg e : Expr} {f : DTE} {g : DTG} {pos : Pos} (he : DE X e f) (hg : DG X tg g) (hs : swapsWithSole [tg] e pos.line X.env = pure false := by rfl) (hw : swappedStores [tg] e X.env = pure none := by rfl)
    (h1 : (assignEach [tg] X.env).map (·.2) = [assign tg X.env] := by rfl) : DS X (.Assign [tg] e pos) (dAsg f g) :=
  ⟨fun B => PS.weak (ps_asg (he.run B) (hg.run B) hs hw h1) fun D σ H ⟨ρ, μ, E, R, q, b⟩ => ⟨[], [], ρ, μ, _, rfl, R, q, fun x μ1 q1 v H1 R1 => ⟨[], [], x, ρ, μ1, _, rfl, R1, q1, fun ρ' μ' q' σ' H' R' => b.nx _ _ q' _ _ R'⟩⟩⟩
abbrev dSet (i : Nat) (f : DTE) : DTS := fun E ρ μ => f ρ μ fun x μ1 => E.nx (ρ.set i (some x)) μ1
theorem ds_of_set {i : Nat} {s : Stmt} {f : DTE} (h : ∀ B : Base, PS X s (tAsg (up X B f) (gName i))) : DS X s (dSet i f) :=
  ⟨fun B => PS.weak (h B) fun D σ H ⟨ρ, μ, E, R, q, b⟩ => ⟨[], [], ρ, μ, _, rfl, R, q, fun x μ1 q1 v H1 R1 => b.nx _ _ q1 _ _ (RL.into (hv := []) (hx := []) rfl R1 i)⟩⟩
end
end Zl
namespace Zl
open PySem PySem.Spec PyProof.Rows L2 Lf
section
variable {X : Cx}
theorem PG.ex {α : Type} {e : Expr} {t : α → TG} (h : ∀ a, PG X e (t a)) : PG X e (fun v σ H Q => ∃ a, t a v σ H Q) := ⟨fun pins s σ H v u Q I r ⟨a, q⟩ => (h a).run pins s σ H v u Q I r q⟩
theorem PSs.ex {α : Type} {e : List Stmt} {t : α → TS} (h : ∀ a, PSs X e (t a)) : PSs X e (fun D σ H => ∃ a, t a D σ H) := ⟨fun pins s σ H D I ⟨a, q⟩ => (h a).run pins s σ H D I q⟩
theorem PE.ex {α : Type} {e : Expr} {t : α → TE} (h : ∀ a, PE X e (t a)) : PE X e (fun σ H Q => ∃ a, t a σ H Q) := ⟨fun pins s σ H Q I ⟨a, q⟩ => (h a).run pins s σ H Q I q⟩
theorem PT.ex {α : Type} {e : Expr} {t : α → TT} (h : ∀ a, PT X e (t a)) : PT X e (fun σ H Q => ∃ a, t a σ H Q) := ⟨fun pins s σ H Q I ⟨a, q⟩ => (h a).run pins s σ H Q I q⟩
theorem PTs.ex {α : Type} {e : List Expr} {t : α → TT} (h : ∀ a, PTs X e (t a)) : PTs X e (fun σ H Q => ∃ a, t a σ H Q) := ⟨fun pins s σ H Q I ⟨a, q⟩ => (h a).run pins s σ H Q I q⟩
theorem PI.weak {tg e : Expr} {t t' : TI} (h : PI X tg e t) (w : ∀ σ H Q, t' σ H Q → t σ H Q) : PI X tg e t' := ⟨fun pins s σ H R I q => h.run pins s σ H R I (w _ _ _ q)⟩
theorem PI.or {tg e : Expr} {t t' : TI} (h : PI X tg e t) (h' : PI X tg e t') : PI X tg e (fun σ H R => t σ H R ∨ t' σ H R) := ⟨fun pins s σ H R I q => by
  rcases q with q | q
  · exact h.run pins s σ H R I q
  · exact h'.run pins s σ H R I q⟩
/-! ### what is walked -/
structure SeqZ (X : Cx) (B : Base) (J : It) (ys : List Val) (ok : Store → Prop) : Prop where
  go : ∀ σ ρ H μ i, RL X.w X.K B H σ ρ μ → ok μ → i < ys.length → J.go i H ∧ ∀ x H', J.yld i H x H' → ∃ y, ys[i]? = some y ∧ RL X.w X.K B H' (some x :: σ) (some y :: ρ) μ
  stop : ∀ σ ρ H μ, RL X.w X.K B H σ ρ μ → ok μ → J.stop ys.length H
  more : ∀ μ q, ok μ → ok (μ ++ [q])
abbrev DTI := DR → Store → (List Val → (Store → Prop) → Store → Prop) → Prop
/-- all that nobody changes at this moment stays -/
abbrev firm (B : Base) (μ : Store) (H : Hp) : Base := ⟨Fz (B.fr ++ μ) H, B.fr⟩
def upI (X : Cx) (B : Base) (f : DTI) : TI := fun σ H R => ∃ (hv : List (Option V)) (hx ρ : DR) (μ : Store) (Q0 : List Val → (Store → Prop) → Store → Prop), hv.length = hx.length ∧ RL X.w X.K B H (hv ++ σ) (hx ++ ρ) μ ∧ f ρ μ Q0 ∧
  ∀ ys ok μ', Q0 ys ok μ' → ∀ J H', RL X.w X.K B H' (hv ++ σ) (hx ++ ρ) μ' → SeqZ X (firm B μ' H') J ys ok → R J H'
structure DI (X : Cx) (tg e : Expr) (f : DTI) : Prop where
  run : ∀ B : Base, PI X tg e (upI X B f)
theorem RL.firm {w : World} {K : PySem.W.Frag} {B : Base} {H : Hp} {σ : List (Option V)} {ρ : DR} {μ : Store} (R : RL w K B H σ ρ μ) : RL w K (firm B μ H) H σ ρ μ := ⟨R.nd, fun _ _ h => h, R.sl, R.st⟩
theorem RL.back {w : World} {K : PySem.W.Frag} {B : Base} {H H' : Hp} {σ σ' : List (Option V)} {ρ ρ' : DR} {μ μ' : Store} (R : RL w K B H σ ρ μ) (R' : RL w K (Zl.firm B μ H) H' σ' ρ' μ') : RL w K B H' σ' ρ' μ' := ⟨R'.nd, fun _ _ h => R'.base _ _ (R.base _ _ h), R'.sl, R'.st⟩
theorem Below.firm {B : Base} {H : Hp} {σ : List (Option V)} {ρ : DR} {μ : Store} {E : DEnds} {D : Ends} (R : RL X.w X.K B H σ ρ μ) (b : Below X B E D) : Below X (Zl.firm B μ H) E D :=
  ⟨fun _ _ q _ _ R' => b.nx _ _ q _ _ (R.back R'), fun _ _ q _ _ R' => b.rt _ _ q _ _ (R.back R'), fun _ _ q _ _ R' => b.bk _ _ q _ _ (R.back R'), fun _ _ q _ _ R' => b.ct _ _ q _ _ (R.back R')⟩
def rangeZ (lo : Int) (n : Nat) : List Val := (List.range n).map fun i : Nat => .dat (.int (lo + (i : Int)))
theorem rangeZ_len {lo : Int} {n : Nat} : (rangeZ lo n).length = n := by unfold rangeZ; rw [List.length_map, List.length_range]
theorem rangeZ_get {lo : Int} {n i : Nat} (h : i < n) : (rangeZ lo n)[i]? = some (.dat (.int (lo + (i : Int)))) := by
  unfold rangeZ
  rw [List.getElem?_map, List.getElem?_range h]
  rfl
theorem seq_range {B : Base} {lo : Int} {n : Nat} : SeqZ X B (Itr lo n) (rangeZ lo n) fun _ => True :=
  ⟨fun σ ρ H μ i R _ hi => by
    rw [rangeZ_len] at hi
    refine ⟨hi, fun x H' y => ?_⟩
    obtain ⟨rfl, rfl⟩ := y
    exact ⟨_, rangeZ_get hi, R.cons (.int _)⟩, fun σ ρ H μ R _ => by
    rw [rangeZ_len]
    exact Nat.le_refl n, fun _ _ _ => trivial⟩
/-- a list or tuple that is walked stays -/
def keeps (x : Val) (xs : List Val) : Store → Prop := match x with
  | .ptr a => fun μ => ∃ j : Nat, μ[j]? = some (a, Node.lst xs)
  | _ => fun _ => True
theorem its_firm {B : Base} {H : Hp} {σ : List (Option V)} {ρ : DR} {μ : Store} {v : V} {x : Val} {b : Bool} {xs : List Val} (R : RL X.w X.K B H σ ρ μ) (h : Its μ x b xs) (r : RV X.K (Fz (B.fr ++ μ) H) v x) :
    ∃ a, v = .ref a ∧ (∃ vs, if b = true then SqT X.K H a vs else SqL X.K H a vs) ∧ ∀ σ' ρ' H' μ', RL X.w X.K (firm B μ H) H' σ' ρ' μ' → keeps x xs μ' → ∃ vs, (if b = true then SqT X.K H' a vs else SqL X.K H' a vs) ∧ Paired (RV X.K (Fz (B.fr ++ μ') H')) vs xs := by
  cases h with
  | d ds =>
    cases (r : Dz _ _ (.list ds)) with
    | lst h1 h2 => exact ⟨_, rfl, ⟨_, SqL.of (fz_le _ _ h1)⟩, fun σ' ρ' H' μ' R' _ => ⟨_, SqL.of (fz_le _ _ (R'.base _ _ h1)), dz_all (DzAll.mono R'.base _ _ h2)⟩⟩
  | t ds =>
    cases (r : Dz _ _ (.tuple ds)) with
    | tup h1 h2 => exact ⟨_, rfl, ⟨_, SqT.of (fz_le _ _ h1)⟩, fun σ' ρ' H' μ' R' _ => ⟨_, SqT.of (fz_le _ _ (R'.base _ _ h1)), dz_all (DzAll.mono R'.base _ _ h2)⟩⟩
  | p j hj =>
    obtain ⟨vs, e, _⟩ := R.at hj
    refine ⟨_, r, ⟨vs, SqL.of e⟩, fun σ' ρ' H' μ' R' k => ?_⟩
    obtain ⟨j', hj'⟩ := k
    obtain ⟨vs', e', h'⟩ := R'.at hj'
    exact ⟨vs', SqL.of e', h'⟩
  | s ns =>
    obtain ⟨a, e, h⟩ := r
    exact ⟨a, e, ⟨_, sqL_mono fz_le h⟩, fun σ' ρ' H' μ' R' _ => ⟨_, sqL_mono fz_le (sqL_mono R'.base h), ints_all ns⟩⟩
theorem seq_its {B : Base} {a : Addr} {x : Val} {b : Bool} {xs : List Val} (h : ∀ σ' ρ' H' μ', RL X.w X.K B H' σ' ρ' μ' → keeps x xs μ' → ∃ vs, (if b = true then SqT X.K H' a vs else SqL X.K H' a vs) ∧ Paired (RV X.K (Fz (B.fr ++ μ') H')) vs xs) :
    SeqZ X B (if b = true then Itt X.K a else Itl X.K a) xs (keeps x xs) := by
  refine ⟨fun σ ρ H μ i R k hi => ?_, fun σ ρ H μ R k => ?_, fun μ q k => ?_⟩
  rotate_left 2
  · unfold keeps at k ⊢
    split at k
    · obtain ⟨j, hj⟩ := k
      exact ⟨j, by rw [List.getElem?_append_left (List.getElem?_eq_some_iff.mp hj).1]; exact hj⟩
    · trivial
  · obtain ⟨vs, h1, h2⟩ := h σ ρ H μ R k
    have hi' : i < vs.length := by rw [h2.length]; exact hi
    have e := List.getElem?_eq_getElem hi'
    have ey := List.getElem?_eq_getElem hi
    obtain ⟨v, ev, rv⟩ := paired_get h2 ey
    cases b with
    | true =>
      refine ⟨⟨vs, _, h1, e⟩, fun z H' y => ?_⟩
      obtain ⟨rfl, y⟩ := y
      have := y vs h1
      rw [ev] at this
      cases this
      exact ⟨_, ey, R.cons rv⟩
    | false =>
      refine ⟨⟨vs, _, h1, e⟩, fun z H' y => ?_⟩
      obtain ⟨rfl, y⟩ := y
      have := y vs h1
      rw [ev] at this
      cases this
      exact ⟨_, ey, R.cons rv⟩
  · obtain ⟨vs, h1, h2⟩ := h σ ρ H μ R k
    cases b with
    | true => exact ⟨vs, h1, Nat.le_of_eq h2.length⟩
    | false => exact ⟨vs, h1, Nat.le_of_eq h2.length⟩
/-- a list, a tuple or a text, as it comes -/
def iAny (K : PySem.W.Frag) (te : TE) : TI := fun σ H R => te σ H fun x G => (∃ a xs, x = .ref a ∧ SqL K G a xs ∧ R (Itl K a) G) ∨ (∃ a xs, x = .ref a ∧ SqT K G a xs ∧ R (Itt K a) G) ∨ ∃ z, x = .str z ∧ R (L2.Its z) G
theorem pi_any {tg e : Expr} {te : TE} (pe : PE X e te) : PI X tg e (iAny X.K te) :=
  ⟨fun pins s σ H R J h => thn (pe.run pins s σ H _ J h) fun u z ⟨x, G, JG, rx, q⟩ => by
    have here : ∀ c : Addr, c ∈ [z.heap.objs.size] → FpOk X pins G c := fun c hc => by
      rw [List.mem_singleton.mp hc]
      exact JG.fpOk (Nat.le_refl _) (JG.hok.fresh (Nat.le_refl _))
    rcases q with ⟨a, xs, rfl, sq, q⟩ | ⟨a, xs, rfl, sq, q⟩ | ⟨w, rfl, q⟩
    · obtain rfl : u = .ref a := rx
      obtain ⟨its, _, lay, _⟩ := JG.list sq
      exact wpAny_pyIter_list lay.isList ⟨_, [z.heap.objs.size], _, _, G, rfl, JG.kept (t' := z.toks) (fun _ _ m => Heap.get?_push_of_some _ m), turn_list a _, ⟨_, Heap.get?_push_size _ rfl, rfl, rfl⟩, here, q⟩
    · obtain rfl : u = .ref a := rx
      obtain ⟨its, _, lay, _⟩ := JG.tuple sq
      exact wpAny_pyIter_tuple (items := its.toArray) lay ⟨_, [z.heap.objs.size], _, _, G, rfl, JG.kept (t' := z.toks) (fun _ _ m => Heap.get?_push_of_some _ m), turn_tuple a _, ⟨_, Heap.get?_push_size _ rfl, rfl, rfl⟩, here, q⟩
    · obtain ⟨t, rfl⟩ := rx
      cases asc : w.cps.all (· < 128)
      · exact wpAny_pyIter_wide asc (pi_one (tk := z.toks) JG _ (turn_str _ w t "str_iterator" (.inr rfl)) ⟨_, Heap.get?_push_size _ rfl, rfl, rfl⟩ q)
      · exact wpAny_pyIter_ascii asc (pi_one (tk := z.toks) JG _ (turn_str _ w t "str_ascii_iterator" (.inl rfl)) ⟨_, Heap.get?_push_size _ rfl, rfl, rfl⟩ q)⟩
def signsZ (z : Str) : List Val := z.cps.toList.map fun c => .dat (.str ⟨#[c]⟩)
theorem seq_str {B : Base} {z : Str} : SeqZ X B (L2.Its z) (signsZ z) fun _ => True :=
  ⟨fun σ ρ H μ i R _ hi => by
    unfold signsZ at hi ⊢
    rw [List.length_map] at hi
    refine ⟨(show i < z.cps.size by simpa using hi), fun x H' y => ?_⟩
    obtain ⟨rfl, c, ec, rfl⟩ := y
    refine ⟨.dat (.str ⟨#[c]⟩), ?_, R.cons (x := .dat (.str ⟨#[c]⟩)) (Dz.str _)⟩
    rw [List.getElem?_map, Array.getElem?_toList, ec]
    rfl, fun σ ρ H μ R _ => by
    unfold signsZ
    rw [List.length_map]
    show z.cps.size ≤ z.cps.toList.length
    simp, fun _ _ _ => trivial⟩
/-- over data, over the script, over a list of one's own that stays -/
abbrev dSeqI (f : DTE) : DTI := fun ρ μ Q => f ρ μ fun x μ1 => match x with
  | .dat (.list ds) => Q (ds.map .dat) (fun _ => True) μ1
  | .dat (.tuple ds) => Q (ds.map .dat) (fun _ => True) μ1
  | .dat (.str z) => Q (signsZ z) (fun _ => True) μ1
  | .scr ns => Q (ns.map fun n => .dat (.int n)) (fun _ => True) μ1
  | .ptr a => ∃ (j : Nat) (xs : List Val), μ1[j]? = some (a, Node.lst xs) ∧ Q xs (fun μ => ∃ j : Nat, μ[j]? = some (a, Node.lst xs)) μ1
  | _ => False
theorem di_seq {tg e : Expr} {f : DTE} (h : DE X e f) : DI X tg e (dSeqI f) :=
  ⟨fun B => PI.weak (pi_any (h.run B)) fun σ H R q => by
    obtain ⟨hv, hx, ρ, μ, Q0, hl, R0, q, low⟩ := q
    refine ⟨hv, hx, ρ, μ, _, hl, R0, q, fun x μ1 q v H1 R1 => ?_⟩
    have key : ∀ (b : Bool) (xs : List Val), Its μ1 x b xs → Q0 xs (keeps x xs) μ1 → (∃ a vs, v = .ref a ∧ SqL X.K H1 a vs ∧ R (Itl X.K a) H1) ∨ (∃ a vs, v = .ref a ∧ SqT X.K H1 a vs ∧ R (Itt X.K a) H1) ∨ ∃ z, v = .str z ∧ R (L2.Its z) H1 := fun b xs h q => by
      obtain ⟨a, e, ⟨vs, ex⟩, st⟩ := its_firm R1 h R1.head
      have sq := seq_its st
      cases b with
      | true => exact .inr (.inl ⟨a, vs, e, ex, low _ _ _ q _ _ R1.tail sq⟩)
      | false => exact .inl ⟨a, vs, e, ex, low _ _ _ q _ _ R1.tail sq⟩
    split at q
    · exact key _ _ (.d _) q
    · exact key _ _ (.t _) q
    · have hd := R1.head
      cases (hd : Dz _ v (.str _))
      exact .inr (.inr ⟨_, rfl, low _ _ _ q _ _ R1.tail seq_str⟩)
    · exact key _ _ (.s _) q
    · obtain ⟨j, xs, hj, q⟩ := q
      exact key _ _ (.p j hj) q
    · exact q.elim⟩
/-- range(n), range(a, b) -/
abbrev dRange1 (g : DTA) : DTI := fun ρ μ Q => g ρ μ fun xs μ1 => match xs with
  | [.dat (.int j)] => -(2 ^ 62) ≤ j ∧ j < 2 ^ 62 ∧ Q (rangeZ 0 j.toNat) (fun _ => True) μ1
  | _ => False
abbrev dRange2 (g : DTA) : DTI := fun ρ μ Q => g ρ μ fun xs μ1 => match xs with
  | [.dat (.int i), .dat (.int j)] => (-(2 ^ 62) ≤ i ∧ i < 2 ^ 62 ∧ -(2 ^ 62) ≤ j ∧ j < 2 ^ 62) ∧ Q (rangeZ i (j - i).toNat) (fun _ => True) μ1
  | _ => False
theorem di_range1 {tg a : Expr} {g : DTA} {p pos : Pos} (hg : Gl X "range") (hm : X.mg "range" = none) (h : DA X [a] g) (hs : starEach [a] X.env = [(false, eval a X.env)] := by rfl) : DI X tg (.Call (.Name "range" p) [a] [] pos) (dRange1 g) :=
  ⟨fun B => PI.weak (pi_range1 hg hm (h.run B) hs) fun σ H R q => by
    obtain ⟨hv, hx, ρ, μ, Q0, hl, R0, q, low⟩ := q
    refine ⟨hv, hx, ρ, μ, _, hl, R0, q, fun xs μ1 q vs H1 l R1 => ?_⟩
    match xs, vs, l, R1, q with
    | [.dat (.int j)], [v], l, R1, q =>
      have hd := R1.head
      cases (hd : Dz _ v (.int j))
      exact ⟨j, rfl, q.1, q.2.1, low _ _ _ q.2.2 _ _ R1.tail seq_range⟩⟩
theorem di_range2 {tg a b : Expr} {g : DTA} {p pos : Pos} (hg : Gl X "range") (hm : X.mg "range" = none) (h : DA X [a, b] g) (hs : starEach [a, b] X.env = [(false, eval a X.env), (false, eval b X.env)] := by rfl)
    (hs2 : starEach [b] X.env = [(false, eval b X.env)] := by rfl) : DI X tg (.Call (.Name "range" p) [a, b] [] pos) (dRange2 g) :=
  ⟨fun B => PI.weak (pi_range2 hg hm (h.run B) hs hs2) fun σ H R q => by
    obtain ⟨hv, hx, ρ, μ, Q0, hl, R0, q, low⟩ := q
    refine ⟨hv, hx, ρ, μ, _, hl, R0, q, fun xs μ1 q vs H1 l R1 => ?_⟩
    match xs, vs, l, R1, q with
    | [.dat (.int i), .dat (.int j)], [v, u], l, R1, q =>
      have hd := R1.head
      have he := R1.tail.head
      cases (hd : Dz _ v (.int i))
      cases (he : Dz _ u (.int j))
      exact ⟨i, j, rfl, q.1, low _ _ _ q.2 _ _ R1.tail.tail seq_range⟩⟩
/-! ### for -/
/-- what nobody wants any more is forgotten -/
def less (P : DR → Store → Prop) : DR → Store → Prop := fun ρ μ => ∃ μ', List.Sublist μ' μ ∧ P ρ μ'
abbrev dFor (fi : DTI) (g : DTG) (tb : DTS) : DTS := fun E ρ μ => fi ρ μ fun ys ok μ1 => ∃ I : Nat → DR → Store → Prop, I 0 ρ μ1 ∧ (∀ i ρ μ, i ≤ ys.length → I i ρ μ → ok μ) ∧
  (∀ i y ρ μ, ys[i]? = some y → I i ρ μ → g y ρ μ fun ρ' μ' => tb { nx := less (I (i + 1)), rt := E.rt, bk := E.nx, ct := less (I (i + 1)) } ρ' μ') ∧ ∀ ρ μ, I ys.length ρ μ → E.nx ρ μ
theorem ds_for {tg e : Expr} {body : List Stmt} {fi : DTI} {g : DTG} {tb : DTS} {pos : Pos} (hp : PassesOwn (model X.prog X.w) X.A X.env X.xe) (hc : X.calm = true) (hi : DI X tg e fi) (hg : DG X tg g) (hb : DSs X body tb)
    (hs : ∀ x, foldedSetIterable e X.env x = pure x := by intro _; rfl) : DS X (.For tg e body [] pos) (dFor fi g tb) :=
  ⟨fun B => PS.weak (ps_for hp hc (hi.run B) (PG.ex fun B' => hg.run B') (PSs.ex fun B' => hb.run B') hs) fun D σ H q => by
    obtain ⟨ρ, μ, E, R0, q, b⟩ := q
    refine ⟨[], [], ρ, μ, _, rfl, R0, q, fun ys ok μ1 q J H1 R1 sz => ?_⟩
    obtain ⟨I, i0, iok, turn, fin⟩ := q
    have R1 : RL X.w X.K B H1 σ ρ μ1 := R1
    have bf := b.firm R1
    refine ⟨fun i m σ' H' => m = ys.length - i ∧ i ≤ ys.length ∧ ∃ ρ' μ', RL X.w X.K (firm B μ1 H1) H' σ' ρ' μ' ∧ I i ρ' μ', ⟨ys.length, by simp, Nat.zero_le _, ρ, μ1, R1.firm, i0⟩, ?_⟩
    rintro i m σ' H' ⟨rfl, hi, ρ', μ', R', i'⟩
    have k := iok i ρ' μ' hi i'
    by_cases c : i < ys.length
    · obtain ⟨go, step⟩ := sz.go _ _ _ _ _ R' k c
      refine .inr ⟨go, fun σ2 H2 => ∃ ρ2 μ2, RL X.w X.K (firm B μ1 H1) H2 σ2 ρ2 μ2 ∧ I (i + 1) ρ2 μ2, fun σ2 H2 h => ⟨ys.length - (i + 1), by omega, rfl, c, h⟩, fun x H2 y => ?_⟩
      obtain ⟨z, ez, R2⟩ := step x H2 y
      refine ⟨firm B μ1 H1, [], [], z, ρ', μ', _, rfl, R2, turn i z ρ' μ' ez i', fun ρ3 μ3 q3 σ3 H3 R3 => ?_⟩
      exact ⟨firm B μ1 H1, ρ3, μ3, _, R3, q3, ⟨fun ρ4 μ4 ⟨μ5, s5, q4⟩ σ4 H4 R4 => ⟨ρ4, μ5, R4.less s5, q4⟩, bf.rt, fun ρ4 μ4 q4 σ4 H4 R4 => bf.nx _ _ q4 _ _ R4, fun ρ4 μ4 ⟨μ5, s5, q4⟩ σ4 H4 R4 => ⟨ρ4, μ5, R4.less s5, q4⟩⟩⟩
    · have e : i = ys.length := by omega
      subst e
      exact .inl ⟨sz.stop _ _ _ _ R' k, bf.nx _ _ (fin _ _ i') _ _ R'⟩⟩
/-! ### while -/
abbrev dWhile (c : DTT) (tb : DTS) : DTS := fun E ρ μ => ∃ (I : DR → Store → Prop) (m : DR → Store → Nat), I ρ μ ∧ ∀ ρ μ, I ρ μ → c ρ μ fun b μ1 => if b = true then
  tb { nx := less fun ρ' μ' => I ρ' μ' ∧ m ρ' μ' < m ρ μ, rt := E.rt, bk := E.nx, ct := less fun ρ' μ' => I ρ' μ' ∧ m ρ' μ' < m ρ μ } ρ μ1 else E.nx ρ μ1
theorem ds_while {c : Expr} {body : List Stmt} {fc : DTT} {tb : DTS} {pos : Pos} (hp : PassesOwn (model X.prog X.w) X.A X.env X.xe) (hc : DT X c fc) (hb : DSs X body tb) : DS X (.While c body [] pos) (dWhile fc tb) :=
  ⟨fun B => PS.weak (ps_while hp (hc.run B) (hb.run B)) fun D σ H q => by
    obtain ⟨ρ, μ, E, R0, ⟨I, ms, i0, turn⟩, b⟩ := q
    refine ⟨fun m σ' H' => ∃ ρ' μ', m = ms ρ' μ' ∧ RL X.w X.K B H' σ' ρ' μ' ∧ I ρ' μ', ⟨_, ρ, μ, rfl, R0, i0⟩, ?_⟩
    rintro m σ' H' ⟨ρ', μ', rfl, R', i'⟩
    refine ⟨[], [], ρ', μ', _, rfl, R', turn ρ' μ' i', fun c μ1 q H1 R1 => ?_⟩
    cases c with
    | true =>
      refine ⟨fun σ2 H2 => ∃ ρ2 μ2, RL X.w X.K B H2 σ2 ρ2 μ2 ∧ I ρ2 μ2 ∧ ms ρ2 μ2 < ms ρ' μ', fun σ2 H2 ⟨ρ2, μ2, r, i, l⟩ => ⟨_, l, ρ2, μ2, rfl, r, i⟩, ρ', μ1, _, R1, q, ⟨fun ρ4 μ4 ⟨μ5, s5, q4⟩ σ4 H4 R4 => ⟨ρ4, μ5, R4.less s5, q4⟩, b.rt, fun ρ4 μ4 q4 σ4 H4 R4 => b.nx _ _ q4 _ _ R4, fun ρ4 μ4 ⟨μ5, s5, q4⟩ σ4 H4 R4 => ⟨ρ4, μ5, R4.less s5, q4⟩⟩⟩
    | false => exact b.nx _ _ q _ _ R1⟩
end
end Zl
namespace Zl
open PySem PySem.Spec PyProof.Rows L2 Lf
section
variable {X : Cx}
/-! ### list comprehensions -/
def wipeZ (ρ : DR) : List Nat → DR
  | [] => ρ
  | v :: vs => (wipeZ ρ vs).set v none
theorem wipe_pair {K : PySem.W.Frag} {Z : Hp} {σ : L2.St} {ρ : DR} (h : Paired (RVo K Z) σ ρ) : ∀ vs : List Nat, Paired (RVo K Z) (wipe σ vs) (wipeZ ρ vs)
  | [] => h
  | v :: vs => paired_set v (wipe_pair h vs) trivial
/-- tests of a comprehension -/
structure DTs (X : Cx) (es : List Expr) (f : DTT) : Prop where
  run : ∀ B : Base, PTs X es (upT X B f)
abbrev dYes : DTT := fun _ μ Q => Q true μ
theorem PTs.weak {e : List Expr} {t t' : TT} (h : PTs X e t) (w : ∀ σ H Q, t' σ H Q → t σ H Q) : PTs X e t' := ⟨fun pins s σ H Q I q => h.run pins s σ H Q I (w _ _ _ q)⟩
theorem dts_nil : DTs X [] dYes := ⟨fun B => PTs.weak pts_nil fun σ H Q ⟨hv, hx, ρ, μ, Q0, hl, R0, q, low⟩ => low _ _ q _ R0⟩
theorem dts_one {c : Expr} {f : DTT} (h : DT X c f) : DTs X [c] f := ⟨fun B => pts_one (h.run B)⟩
/-- the target of a comprehension: a name, or a tuple of names -/
def PutOk (X : Cx) (g : TG) (vs : List Nat) (put : Val → DR → Option DR) : Prop :=
  ∀ (B : Base) (σ : L2.St) (ρ ρ2 : DR) (H : Hp) (μ : Store) (v : V) (x : Val) (hv : List (Option V)) (hx : DR) (Q : L2.St → Hp → Prop), hv.length = hx.length → RL X.w X.K B H (some v :: (hv ++ wipe σ vs)) (some x :: (hx ++ wipeZ ρ vs)) μ → put x (wipeZ ρ vs) = some ρ2 →
    (∀ σ2, wipe σ2 vs = wipe σ vs → RL X.w X.K B H (hv ++ σ2) (hx ++ ρ2) μ → Q σ2 H) → g v (wipe σ vs) H Q
theorem wipe_set {σ : L2.St} {i : Nat} {x : Option V} : ∀ {vs : List Nat}, i ∈ vs → wipe (σ.set i x) vs = wipe σ vs
  | v :: vs, h => by
    unfold wipe
    by_cases e : i ∈ vs
    · rw [wipe_set e]
    · have e2 : i = v := by
        rcases List.mem_cons.mp h with z | z
        · exact z
        · exact absurd z e
      subst e2
      have : ∀ vs : List Nat, (wipe (σ.set i x) vs).set i none = (wipe σ vs).set i none := fun vs => by
        induction vs with
        | nil =>
          unfold wipe
          rw [List.set_set]
        | cons w ws ih =>
          unfold wipe
          by_cases ew : w = i
          · subst ew
            rw [List.set_set, List.set_set, ih]
          · rw [List.set_comm _ _ ew, List.set_comm _ _ ew, ih]
      exact this vs
theorem wipe_idem {σ : L2.St} {vs : List Nat} : wipe (wipe σ vs) vs = wipe σ vs := by
  have : ∀ us : List Nat, (∀ u ∈ us, u ∈ vs) → wipe (wipe σ us) vs = wipe σ vs := fun us => by
    induction us with
    | nil => intro _; rfl
    | cons u us ih =>
      intro h
      show wipe ((wipe σ us).set u none) vs = _
      rw [wipe_set (h u (List.mem_cons_self ..)), ih fun w hw => h w (List.mem_cons_of_mem _ hw)]
  exact this vs fun _ h => h
def putN (i : Nat) : Val → DR → Option DR := fun x ρ => some (ρ.set i (some x))
theorem put_name {i : Nat} {vs : List Nat} (hi : i ∈ vs) : PutOk X (gName i) vs (putN i) :=
  fun B σ ρ ρ2 H μ v x hv hx Q l R e q => by
    cases e
    exact q _ (by rw [wipe_set hi, wipe_idem]) (R.into l i)
def setsZ : List Nat → List PyData → DR → DR
  | i :: is, d :: ds, ρ => setsZ is ds (ρ.set i (some (.dat d)))
  | _, _, ρ => ρ
def gNames : List Nat → TGs
  | [] => gNil
  | i :: is => gCons (gName i) (gNames is)
def putT (is : List Nat) : Val → DR → Option DR := fun x ρ => match x with | .dat (.tuple ds) => if ds.length = is.length then some (setsZ is ds ρ) else none | _ => none
theorem put_tup {is vs : List Nat} {n : Nat} (hn : is.length = n) (hi : ∀ i ∈ is, i ∈ vs) : PutOk X (gTup X.K n (gNames is)) vs (putT is) :=
  fun B σ ρ ρ2 H μ v x hv hx Q l R e q => by
    have hd := R.head
    match x, e, hd with
    | .dat (.tuple ds), e, hd =>
      unfold putT at e
      dsimp only at e
      split at e
      · rename_i el
        cases e
        cases (hd : Dz _ v (.tuple ds)) with
        | tup h1 h2 =>
          refine ⟨_, _, rfl, SqT.of (fz_le _ _ h1), ((dzAll_len h2).trans el).trans hn, ?_⟩
          have : ∀ (is : List Nat) (ds : List PyData) (us : List V) (σ' : L2.St) (ρ' : DR), is.length = ds.length → (∀ i ∈ is, i ∈ vs) → DzAll (Fz (B.fr ++ μ) H) us ds → wipe σ' vs = wipe σ vs → RL X.w X.K B H (hv ++ σ') (hx ++ ρ') μ →
              (∀ σ2, wipe σ2 vs = wipe σ vs → RL X.w X.K B H (hv ++ σ2) (hx ++ setsZ is ds ρ') μ → Q σ2 H) → gNames is us σ' H Q := by
            intro is
            induction is with
            | nil =>
              intro ds us σ' ρ' l1 _ h2 hw R' q
              have e1 : ds = [] := List.eq_nil_of_length_eq_zero (by simpa using l1.symm)
              subst e1
              cases h2
              exact ⟨rfl, q _ hw R'⟩
            | cons i is ih =>
              intro ds us σ' ρ' l1 hm h2 hw R' q
              match ds, l1, h2, q with
              | d :: ds, l1, h2, q =>
                cases h2 with
                | cons h3 h4 =>
                  refine ⟨_, _, rfl, ih ds _ _ _ (by simpa using l1) (fun j hj => hm j (List.mem_cons_of_mem _ hj)) h4 ?_ ?_ q⟩
                  · rw [wipe_set (hm i (List.mem_cons_self ..)), hw]
                  · obtain ⟨p1, p2⟩ := paired_split l R'.sl
                    exact R'.slots (paired_app p1 (paired_set i p2 h3))
          exact this is ds _ _ _ el.symm hi h2 wipe_idem R.tail q
      · cases e
abbrev dLc (fi : DTI) (put : Val → DR → Option DR) (ft : DTT) (fe : DTE) (vs : List Nat) : DTE := fun ρ μ Q => fi ρ μ fun ys ok μ1 => ∃ I : Nat → List Val → Store → Prop, I 0 [] μ1 ∧ (∀ k acc μ, k ≤ ys.length → I k acc μ → ok μ) ∧
  (∀ k y acc μ, ys[k]? = some y → I k acc μ → ∃ ρ2, put y (wipeZ ρ vs) = some ρ2 ∧ ft ρ2 μ fun b μ2 => if b = true then fe ρ2 μ2 fun x μ3 => acc.length < sizeLine ∧ ∃ μ4, List.Sublist μ4 μ3 ∧ I (k + 1) (acc ++ [x]) μ4 else ∃ μ4, List.Sublist μ4 μ2 ∧ I (k + 1) acc μ4) ∧
  ∀ acc μ, I ys.length acc μ → ∀ p, Q (.ptr p) (μ ++ [(p, .lst acc)])
/-- the list that is made is hidden from what is within -/
theorem RL.hide {w : World} {K : PySem.W.Frag} {B : Base} {H : Hp} {σ : List (Option V)} {ρ : DR} {μ : Store} {D : Addr} {n : Node} (R : RL w K B H σ ρ (μ ++ [(D, n)])) :
    RL w K ⟨B.hp, B.fr ++ [(D, n)]⟩ H σ ρ μ := by
  have pm : ((B.fr ++ [(D, n)]) ++ μ).Perm (B.fr ++ (μ ++ [(D, n)])) := by
    rw [List.append_assoc]
    exact List.perm_append_comm.append_left _
  refine (R.as (B' := ⟨B.hp, B.fr ++ [(D, n)]⟩) (nodup_perm pm.symm R.nd) (fun p hp => pm.mem_iff.mp hp) fun x o h => ?_).1
  obtain ⟨h1, h2⟩ := Fz.sub (R.base _ _ h)
  exact Fz.of (fun z => h1 (((pm.map (·.1)).mem_iff).mp z)) h2
theorem RL.show {w : World} {K : PySem.W.Frag} {B : Base} {H : Hp} {σ : List (Option V)} {ρ : DR} {μ : Store} {D : Addr} {n : Node} (R : RL w K ⟨B.hp, B.fr ++ [(D, n)]⟩ H σ ρ μ) : RL w K B H σ ρ (μ ++ [(D, n)]) := by
  have pm : ((B.fr ++ [(D, n)]) ++ μ).Perm (B.fr ++ (μ ++ [(D, n)])) := by
    rw [List.append_assoc]
    exact List.perm_append_comm.append_left _
  refine (R.as (B' := B) (nodup_perm pm R.nd) (fun p hp => pm.mem_iff.mpr hp) fun x o h => ?_).1
  obtain ⟨h1, h2⟩ := Fz.sub (R.base _ _ h)
  exact Fz.of (fun z => h1 (((pm.map (·.1)).mem_iff).mpr z)) h2
theorem set_last {μ : Store} {q q' : Addr × Node} : (μ ++ [q]).set μ.length q' = μ ++ [q'] := by
  rw [List.set_append_right _ _ (Nat.le_refl _), Nat.sub_self]
  rfl
theorem lc_up {B : Base} {fi : DTI} {put : Val → DR → Option DR} {ft : DTT} {fe : DTE} {vs : List Nat} {g : TG}
    (hg : PutOk X g vs put)
    {σ : L2.St} {H : Hp} {Q : VK} (q : up X B (dLc fi put ft fe vs) σ H Q) : tLc (upI X B fi) g (fun σ H Q => ∃ B', upT X B' ft σ H Q) (fun σ H Q => ∃ B', up X B' fe σ H Q) vs σ H Q := by
  obtain ⟨hv, hx, ρ, μ, Q0, hl, R0, q, low⟩ := q
  refine ⟨hv, hx, ρ, μ, _, hl, R0, q, fun ys ok μ1 q J H1 R1 sz D hD => ?_⟩
  obtain ⟨I, i0, iok, turn, fin⟩ := q
  have Rf := R1.firm
  refine ⟨fun k m H' => m = ys.length - k ∧ k ≤ ys.length ∧ ∃ acc μ', RL X.w X.K (firm B μ1 H1) H' (hv ++ σ) (hx ++ ρ) (μ' ++ [(D, .lst acc)]) ∧ I k acc μ', ⟨ys.length, by simp, Nat.zero_le _, [], μ1, Rf.new (n := .lst []) hD ⟨[], upd_same, .nil⟩, i0⟩, ?_⟩
  rintro k m H' ⟨rfl, hk, acc, μ', R', i'⟩
  have kk := iok k acc μ' hk i'
  by_cases c : k < ys.length
  · obtain ⟨go, step⟩ := sz.go _ _ _ _ _ R' (sz.more _ _ kk) c
    refine .inr ⟨go, fun H2 => ∃ acc μ2, RL X.w X.K (firm B μ1 H1) H2 (hv ++ σ) (hx ++ ρ) (μ2 ++ [(D, .lst acc)]) ∧ I (k + 1) acc μ2, fun H2 ⟨acc, μ2, h⟩ => ⟨ys.length - (k + 1), by omega, rfl, c, acc, μ2, h⟩, fun x H2 y => ?_⟩
    obtain ⟨z, ez, R2⟩ := step x H2 y
    obtain ⟨ρ2, e2, q2⟩ := turn k z acc μ' ez i'
    have Rh := R2.hide
    have pw : Paired (RVo X.K (Fz (((firm B μ1 H1).fr ++ [(D, Node.lst acc)]) ++ μ') H2)) (wipe σ vs) (wipeZ ρ vs) := wipe_pair (paired_split hl Rh.tail.sl).2 vs
    have Rw : RL X.w X.K ⟨(firm B μ1 H1).hp, (firm B μ1 H1).fr ++ [(D, .lst acc)]⟩ H2 (some x :: ((hv ++ σ) ++ wipe σ vs)) (some z :: ((hx ++ ρ) ++ wipeZ ρ vs)) μ' := Rh.slots (.cons Rh.head (paired_app Rh.tail.sl pw))
    have ll : (hv ++ σ).length = (hx ++ ρ).length := Rh.tail.sl.length
    refine hg _ σ ρ ρ2 H2 μ' x z (hv ++ σ) (hx ++ ρ) _ ll Rw e2 fun σ2 ew R3 => ⟨ew, _, hv ++ σ, hx ++ ρ, ρ2, μ', _, ll, R3, q2, fun b μ2 q3 H3 R4 => ?_⟩
    cases b with
    | false =>
      obtain ⟨μ5, s5, q3⟩ := q3
      exact ⟨acc, μ5, RL.show (B := firm B μ1 H1) ((R4.less s5).slots (paired_split ll (R4.less s5).sl).1), q3⟩
    | true =>
      refine ⟨_, hv ++ σ, hx ++ ρ, ρ2, μ2, _, ll, R4, q3, fun u μ3 q4 v H4 R5 => ?_⟩
      have R6 : RL X.w X.K (firm B μ1 H1) H4 (some v :: (hv ++ σ)) (some u :: (hx ++ ρ)) (μ3 ++ [(D, .lst acc)]) := RL.show (R5.slots (.cons R5.head (paired_split ll R5.tail.sl).1))
      have hj : (μ3 ++ [(D, Node.lst acc)])[μ3.length]? = some (D, .lst acc) := by simp
      obtain ⟨us, eD, pr⟩ := R6.at hj
      obtain ⟨q4, μ5, s5, q6⟩ := q4
      refine ⟨us, eD, by rw [pr.length]; exact q4, acc ++ [u], μ5, ?_, q6⟩
      have := R6.put (n' := .lst (acc ++ [u])) hj ⟨us ++ [v], upd_same, paired_app pr (.cons R6.head .nil)⟩
      rw [set_last] at this
      exact this.tail.less (s5.append (.refl _))
  · have e : k = ys.length := by omega
    subst e
    exact .inl ⟨sz.stop _ _ _ _ R' (sz.more _ _ kk), low _ _ (fin acc μ' i' D) _ _ ((R1.back R').cons rfl)⟩
theorem d_lc {elt tg iter : Expr} {ifs : List Expr} {scope : Scope} {own : List (Str × Nat)} {pos : Pos} {fi : DTI} {put : Val → DR → Option DR} {ft : DTT} {fe : DTE} (hc : X.calm = true) (hN : X.N.Nodup) (hi : DI X tg iter fi) (ok : BlkOk X.N X.env.scope scope own)
    {g : TG} (hp : PutOk X g (own.map (·.2)) put)
    (hg : ∀ (s : Shared) (H : Hp) (C : Addr) (cl : List (Str × Addr)) (fp : List Addr), PG (X.blk s H scope (compEnvC scope cl C X.env) fp) tg g) (ht : ∀ (s : Shared) (H : Hp) (C : Addr) (cl : List (Str × Addr)) (fp : List Addr), DTs (X.blk s H scope (compEnvC scope cl C X.env) fp) ifs ft)
    (he : ∀ (s : Shared) (H : Hp) (C : Addr) (cl : List (Str × Addr)) (fp : List Addr), DE (X.blk s H scope (compEnvC scope cl C X.env) fp) elt fe) (hs : ∀ x, foldedSetIterable iter X.env x = pure x := by intro _; rfl) :
    DE X (.ListComp elt [⟨tg, iter, ifs, 0⟩] scope pos) (dLc fi put ft fe (own.map (·.2))) :=
  ⟨fun B => PE.weak (pe_lc (tt := fun σ H Q => ∃ B', upT X B' ft σ H Q) (te := fun σ H Q => ∃ B', up X B' fe σ H Q) hc hN (hi.run B) ok hg (fun s H C cl fp => PTs.ex fun B' => (ht s H C cl fp).run B') (fun s H C cl fp => PE.ex fun B' => (he s H C cl fp).run B') hs) fun σ H Q q => lc_up hp q⟩
theorem ds_setLc {i : Nat} {y : Str} {py : Pos} {elt tg iter : Expr} {ifs : List Expr} {scope : Scope} {own : List (Str × Nat)} {pos spos : Pos} {fi : DTI} {put : Val → DR → Option DR} {ft : DTT} {fe : DTE} (hc : X.calm = true) (hN : X.N.Nodup) (hy : X.N[i]? = some y) (hyl : X.env.scope.names.lookup y = some .local)
    (hsw : swapsWith (.ListComp elt [⟨tg, iter, ifs, 0⟩] scope pos) (some (.Name y py)) spos.line X.env = pure true) (hi : DI X tg iter fi) (ok : BlkOk X.N X.env.scope scope own)
    {g : TG} (hp : PutOk X g (own.map (·.2)) put)
    (hg : ∀ (s : Shared) (H : Hp) (C : Addr) (cl : List (Str × Addr)) (fp : List Addr), PG (X.blk s H scope (compEnvC scope cl C X.env) fp) tg g) (ht : ∀ (s : Shared) (H : Hp) (C : Addr) (cl : List (Str × Addr)) (fp : List Addr), DTs (X.blk s H scope (compEnvC scope cl C X.env) fp) ifs ft)
    (he : ∀ (s : Shared) (H : Hp) (C : Addr) (cl : List (Str × Addr)) (fp : List Addr), DE (X.blk s H scope (compEnvC scope cl C X.env) fp) elt fe) (hs : ∀ x, foldedSetIterable iter X.env x = pure x := by intro _; rfl) :
    DS X (.Assign [.Name y py] (.ListComp elt [⟨tg, iter, ifs, 0⟩] scope pos) spos) (dSet i (dLc fi put ft fe (own.map (·.2)))) :=
  ⟨fun B => PS.weak (ps_setLc (tt := fun σ H Q => ∃ B', upT X B' ft σ H Q) (te := fun σ H Q => ∃ B', up X B' fe σ H Q) hc hN hy hyl hsw (hi.run B) ok hg (fun s H C cl fp => PTs.ex fun B' => (ht s H C cl fp).run B') (fun s H C cl fp => PE.ex fun B' => (he s H C cl fp).run B') hs) fun D σ H ⟨ρ, μ, E, R, q, b⟩ =>
    lc_up hp ⟨[], [], ρ, μ, _, rfl, R, q, fun x μ1 q1 v H1 R1 => b.nx _ _ q1 _ _ (RL.into (hv := []) (hx := []) rfl R1 i)⟩⟩
end
end Zl
namespace Zl
open PySem PySem.Spec PyProof.Rows L2 Lf
section
variable {X : Cx}
/-! ### methods of lists -/
structure MeZ (X : Cx) (id : String) (R : Val → List Val → Store → DK → Prop) : Prop where
  ex : ∃ r : V → List V → Hp → VK → Prop, MtR X id r ∧ ∀ (B : Base) (σ : List (Option V)) (ρ : DR) (H : Hp) (μ : Store) (v : V) (x : Val) (vs : List V) (xs : List Val) (Q0 : DK) (Q : VK), vs.length = xs.length →
    RL X.w X.K B H (vs.map some ++ (some v :: σ)) (xs.map some ++ (some x :: ρ)) μ → R x xs μ Q0 → Low X B σ ρ Q0 Q → r v vs H Q
def isL (x : Val) (μ : Store) : Prop := match x with
  | .ptr a => ∃ (j : Nat) (xs : List Val), μ[j]? = some (a, Node.lst xs)
  | .dat (.list _) => True
  | _ => False
abbrev dLM (R : Val → List Val → Store → DK → Prop) (fo : DTE) (g : DTA) : DTE := fun ρ μ Q => fo ρ μ fun x μ1 => isL x μ1 ∧ g ρ μ1 fun xs μ2 => R x xs μ2 Q
abbrev dLM0 (R : Val → List Val → Store → DK → Prop) (fo : DTE) : DTE := fun ρ μ Q => fo ρ μ fun x μ1 => isL x μ1 ∧ R x [] μ1 Q
theorem isL_ty {B : Base} {σ : List (Option V)} {ρ : DR} {H : Hp} {μ : Store} {v : V} {x : Val} (R : RL X.w X.K B H (some v :: σ) (some x :: ρ) μ) (h : isL x μ) : tyV X.K "list" v H := by
  have hd := R.head
  unfold isL at h
  split at h
  · obtain ⟨j, xs, hj⟩ := h
    obtain ⟨vs, e, _⟩ := R.at hj
    cases (hd : v = .ref _)
    exact .inl ⟨rfl, vs, SqL.of e⟩
  · cases (hd : Dz _ v (.list _)) with
    | lst h1 h2 => exact .inl ⟨rfl, _, SqL.of (fz_le _ _ h1)⟩
  · exact h.elim
theorem d_lm {o e : Expr} {es : List Expr} {fo : DTE} {g : DTA} {name : Str} {id : String} {apos cpos : Pos} {R : Val → List Val → Store → DK → Prop} (slot : Slot "list" name id) (hty : typeOf (.builtin id) = pure (.type "method_descriptor")) (m : MeZ X id R) (ho : DE X o fo) (ha : DA X (e :: es) g)
    (hbase : attributeBase o name X.env (eval o X.env) = eval o X.env := by rfl)
    (hfew : ((backTo cpos (starEach (e :: es) X.env)).all (fun x => !x.1) && (backToKw cpos (keywordEach [] X.env)).all (fun x => x.1.isSome) && decide ((e :: es).length + ([] : List Keyword).length + (if ([] : List Keyword).isEmpty then 0 else 1) < 30)) = true := by rfl)
    (hline : (apos.endLine == cpos.line) = true := by rfl) (hs : starEach (e :: es) X.env = (false, eval e X.env) :: starEach es X.env := by rfl) (hplain : (backTo cpos (starEach es X.env)).any (·.1) = false := by rfl) :
    DE X (.Call (.Attribute o name apos) (e :: es) [] cpos) (dLM R fo g) := by
  obtain ⟨r, h1, h2⟩ := m.ex
  exact ⟨fun B => PE.weak (pe_bm PySem.F.plainAttrs_list slot hty h1 (ho.run B) (ha.run B) hbase hfew hline hs hplain) fun σ H Q q => by
    obtain ⟨hv, hx, ρ, μ, Q0, hl, R0, q, low⟩ := q
    refine ⟨hv, hx, ρ, μ, _, hl, R0, q, fun x μ1 q1 v H1 R1 => ⟨isL_ty R1 q1.1, ?_⟩⟩
    refine ⟨some v :: hv, some x :: hx, ρ, μ1, _, by simp [hl], R1, q1.2, fun xs μ2 q2 vs H2 l R2 => ?_⟩
    exact h2 B _ _ _ _ _ _ _ _ _ _ l R2 q2 low⟩
theorem d_lm0 {o : Expr} {fo : DTE} {name : Str} {id : String} {apos cpos : Pos} {R : Val → List Val → Store → DK → Prop} (slot : Slot "list" name id) (hty : typeOf (.builtin id) = pure (.type "method_descriptor")) (m : MeZ X id R) (ho : DE X o fo)
    (hbase : attributeBase o name X.env (eval o X.env) = eval o X.env := by rfl) (hline : (apos.endLine == cpos.line) = true := by rfl) : DE X (.Call (.Attribute o name apos) [] [] cpos) (dLM0 R fo) := by
  obtain ⟨r, h1, h2⟩ := m.ex
  exact ⟨fun B => PE.weak (pe_bm0 PySem.F.plainAttrs_list slot hty h1 (ho.run B) hbase hline) fun σ H Q q => by
    obtain ⟨hv, hx, ρ, μ, Q0, hl, R0, q, low⟩ := q
    exact ⟨hv, hx, ρ, μ, _, hl, R0, q, fun x μ1 q1 v H1 R1 => ⟨isL_ty R1 q1.1, h2 B _ _ _ _ _ _ [] [] _ _ rfl R1 q1.2 low⟩⟩⟩
theorem one_arg' {B : Base} {σ : List (Option V)} {ρ : DR} {H : Hp} {μ : Store} {vs : List V} {x : Val} (l : vs.length = [x].length) (R : RL X.w X.K B H (vs.map some ++ σ) ([x].map some ++ ρ) μ) : ∃ v, vs = [v] ∧ RL X.w X.K B H (some v :: σ) (some x :: ρ) μ := by
  match vs, l, R with
  | [v], _, R => exact ⟨v, rfl, R⟩
def zAppend : Val → List Val → Store → DK → Prop := fun x xs μ Q => match x, xs with
  | .ptr a, [y] => ∃ (j : Nat) (ys : List Val), μ[j]? = some (a, Node.lst ys) ∧ ys.length < sizeLine ∧ Q (.dat .none) (μ.set j (a, .lst (ys ++ [y])))
  | _, _ => False
theorem me_append : MeZ X "list.append" zAppend := ⟨_, mt_append, fun B σ ρ H μ v x vs xs Q0 Q l R q low => by
  match x, xs, l, R, q with
  | .ptr a, [y], l, R, q =>
    obtain ⟨j, ys, hj, hl, q⟩ := q
    obtain ⟨u, rfl, R⟩ := one_arg' l R
    obtain ⟨us, e, pr⟩ := R.at hj
    cases (R.tail.head : v = .ref a)
    exact ⟨a, us, u, rfl, rfl, e, by rw [pr.length]; exact hl, low _ _ q _ _ ((R.put (n' := .lst (ys ++ [y])) hj ⟨_, upd_same, paired_app pr (.cons R.head .nil)⟩).tail.tail.cons .non)⟩⟩
def zExtend : Val → List Val → Store → DK → Prop := fun x xs μ Q => match x, xs with
  | .ptr a, [y] => ∃ (j : Nat) (ys zs : List Val), μ[j]? = some (a, Node.lst ys) ∧ ItL μ y zs ∧ ys.length + zs.length ≤ sizeLine ∧ Q (.dat .none) (μ.set j (a, .lst (ys ++ zs)))
  | _, _ => False
theorem me_extend : MeZ X "list.extend" zExtend := ⟨_, mt_extend, fun B σ ρ H μ v x vs xs Q0 Q l R q low => by
  match x, xs, l, R, q with
  | .ptr a, [y], l, R, q =>
    obtain ⟨j, ys, zs, hj, hi, hl, q⟩ := q
    obtain ⟨u, rfl, R⟩ := one_arg' l R
    obtain ⟨us, e, pr⟩ := R.at hj
    obtain ⟨b, ws, rfl, e2, pr2⟩ := hi.at R R.head
    cases (R.tail.head : v = .ref a)
    exact ⟨a, b, us, ws, rfl, rfl, e, e2, by rw [pr.length, pr2.length]; exact hl, low _ _ q _ _ ((R.put (n' := .lst (ys ++ zs)) hj ⟨_, upd_same, paired_app pr pr2⟩).tail.tail.cons .non)⟩⟩
def zPop : Val → List Val → Store → DK → Prop := fun x xs μ Q => match x, xs with
  | .ptr a, [] => ∃ (j : Nat) (ys : List Val) (y : Val), μ[j]? = some (a, Node.lst ys) ∧ ys[ys.length - 1]? = some y ∧ Q y (μ.set j (a, .lst ys.dropLast))
  | .ptr a, [.dat (.int i)] => ∃ (j : Nat) (ys : List Val) (k : Nat) (y : Val), μ[j]? = some (a, Node.lst ys) ∧ (-(2 ^ 63) ≤ i ∧ i < 2 ^ 63) ∧ ixN ys.length i = some k ∧ ys[k]? = some y ∧ Q y (μ.set j (a, .lst (ys.eraseIdx k)))
  | _, _ => False
theorem paired_dropLast {α β : Type} {F : α → β → Prop} : ∀ {a : List α} {b : List β}, Paired F a b → Paired F a.dropLast b.dropLast
  | _, _, .nil => .nil
  | [_], [_], .cons _ .nil => .nil
  | _ :: _ :: _, _ :: _ :: _, .cons h (.cons h2 t) => .cons h (paired_dropLast (.cons h2 t))
theorem paired_erase {α β : Type} {F : α → β → Prop} : ∀ {a : List α} {b : List β} (k : Nat), Paired F a b → Paired F (a.eraseIdx k) (b.eraseIdx k)
  | _, _, _, .nil => .nil
  | _, _, 0, .cons _ t => t
  | _, _, k + 1, .cons h t => .cons h (paired_erase k t)
theorem me_pop : MeZ X "list.pop" zPop := ⟨_, MtR.or (show MtR X "list.pop" rPop from mt_pop) (show MtR X "list.pop" rPopAt from mt_popAt), fun B σ ρ H μ v x vs xs Q0 Q l R q low => by
  match x, xs, vs, l, R, q with
  | .ptr a, [], [], l, R, q =>
    obtain ⟨j, ys, y, hj, hy, q⟩ := q
    have R : RL X.w X.K B H (some v :: σ) (some (.ptr a) :: ρ) μ := R
    obtain ⟨us, e, pr⟩ := R.at hj
    obtain ⟨u, eu, ru⟩ := paired_get pr hy
    cases (R.head : v = .ref a)
    exact .inl ⟨a, us, u, rfl, rfl, e, by rw [pr.length]; exact eu, low _ _ q _ _ (((R.tail.cons ru).put (n' := .lst ys.dropLast) hj ⟨_, upd_same, paired_dropLast pr⟩))⟩
  | .ptr a, [.dat (.int i)], vs, l, R, q =>
    obtain ⟨j, ys, k, y, hj, hi, hk, hy, q⟩ := q
    obtain ⟨w, rfl, R⟩ := one_arg' l R
    have hd := R.head
    cases (hd : Dz _ w (.int i))
    obtain ⟨us, e, pr⟩ := R.at hj
    obtain ⟨u, eu, ru⟩ := paired_get pr hy
    cases (R.tail.head : v = .ref a)
    exact .inr ⟨a, us, i, k, u, rfl, rfl, e, hi.1, hi.2, by rw [pr.length]; exact (ixN_seq hk).1, eu, low _ _ q _ _ (((R.tail.tail.cons ru).put (n' := .lst (ys.eraseIdx k)) hj ⟨_, upd_same, paired_erase k pr⟩))⟩⟩
def zReverse : Val → List Val → Store → DK → Prop := fun x xs μ Q => match x, xs with
  | .ptr a, [] => ∃ (j : Nat) (ys : List Val), μ[j]? = some (a, Node.lst ys) ∧ Q (.dat .none) (μ.set j (a, .lst ys.reverse))
  | _, _ => False
theorem paired_reverse {α β : Type} {F : α → β → Prop} : ∀ {a : List α} {b : List β}, Paired F a b → Paired F a.reverse b.reverse
  | _, _, .nil => .nil
  | _ :: _, _ :: _, .cons h t => by
    rw [List.reverse_cons, List.reverse_cons]
    exact paired_app (paired_reverse t) (.cons h .nil)
theorem me_reverse : MeZ X "list.reverse" zReverse := ⟨_, mt_reverse, fun B σ ρ H μ v x vs xs Q0 Q l R q low => by
  match x, xs, vs, l, R, q with
  | .ptr a, [], [], l, R, q =>
    obtain ⟨j, ys, hj, q⟩ := q
    have R : RL X.w X.K B H (some v :: σ) (some (.ptr a) :: ρ) μ := R
    obtain ⟨us, e, pr⟩ := R.at hj
    cases (R.head : v = .ref a)
    exact ⟨a, us, rfl, rfl, e, low _ _ q _ _ ((R.put (n' := .lst ys.reverse) hj ⟨_, upd_same, paired_reverse pr⟩).tail.cons .non)⟩⟩
theorem paired_take {α β : Type} {F : α → β → Prop} : ∀ {a : List α} {b : List β} (n : Nat), Paired F a b → Paired F (a.take n) (b.take n)
  | _, _, 0, _ => .nil
  | _, _, _ + 1, .nil => .nil
  | _, _, n + 1, .cons r t => .cons r (paired_take n t)
theorem paired_drop {α β : Type} {F : α → β → Prop} : ∀ {a : List α} {b : List β} (n : Nat), Paired F a b → Paired F (a.drop n) (b.drop n)
  | _, _, 0, r => r
  | _, _, _ + 1, .nil => .nil
  | _, _, n + 1, .cons _ t => paired_drop n t
def zInsert : Val → List Val → Store → DK → Prop := fun x xs μ Q => match x, xs with
  | .ptr a, [.dat (.int i), y] => ∃ (j : Nat) (ys : List Val), μ[j]? = some (a, Node.lst ys) ∧ ys.length < sizeLine ∧ (0 ≤ i ∧ i < 2 ^ 63) ∧ Q (.dat .none) (μ.set j (a, .lst (ys.take i.toNat ++ [y] ++ ys.drop i.toNat)))
  | _, _ => False
theorem me_insert : MeZ X "list.insert" zInsert := ⟨_, mt_insert, fun B σ ρ H μ v x vs xs Q0 Q l R q low => by
  match x, xs, vs, l, R, q with
  | .ptr a, [.dat (.int i), y], [w, u], l, R, q =>
    obtain ⟨j, ys, hj, hl, hi, q⟩ := q
    have R : RL X.w X.K B H (some w :: some u :: some v :: σ) (some (.dat (.int i)) :: some y :: some (.ptr a) :: ρ) μ := R
    have hd := R.head
    cases (hd : Dz _ w (.int i))
    obtain ⟨us, e, pr⟩ := R.at hj
    cases (R.tail.tail.head : v = .ref a)
    exact ⟨a, us, i, u, rfl, rfl, e, by rw [pr.length]; exact hl, hi.1, hi.2, low _ _ q _ _ ((R.put (n' := .lst (ys.take i.toNat ++ [y] ++ ys.drop i.toNat)) hj ⟨_, upd_same, paired_app (paired_app (paired_take _ pr) (.cons R.tail.head .nil)) (paired_drop _ pr)⟩).tail.tail.tail.cons .non)⟩⟩
/-! ### list(x), tuple(x), sorted(x), min, max -/
def itemsOf (μ : Store) (x : Val) (P : List Val → Prop) : Prop := match x with
  | .dat (.list ds) => P (ds.map .dat)
  | .dat (.tuple ds) => P (ds.map .dat)
  | .scr ns => P (ns.map fun n => .dat (.int n))
  | .ptr a => ∃ (j : Nat) (xs : List Val), μ[j]? = some (a, Node.lst xs) ∧ P xs
  | _ => False
theorem itemsOf_its {μ : Store} {x : Val} {P : List Val → Prop} (h : itemsOf μ x P) : ∃ b xs, Its μ x b xs ∧ P xs := by
  unfold itemsOf at h
  split at h
  · exact ⟨_, _, .d _, h⟩
  · exact ⟨_, _, .t _, h⟩
  · exact ⟨_, _, .s _, h⟩
  · obtain ⟨j, xs, hj, h⟩ := h
    exact ⟨_, _, .p j hj, h⟩
  · exact h.elim
theorem d_callTy {x : Str} {T : String} {R : List Val → Store → DK → Prop} {e : Expr} {es : List Expr} {g : DTA} {p pos : Pos} (c : CaZ X (.type T) R) (hg : Gl X x) (hm : X.mg x = none) (hv : bootBuiltins x = some (.type T)) (ha : DA X (e :: es) g)
    (hn : x ≠ "__name__" := by decide) (hdb : (x == ("__debug__" : Str)) = false := by decide) (he : starEach (e :: es) X.env = (false, eval e X.env) :: starEach es X.env := by rfl) (hpl : (backTo pos (starEach es X.env)).any (·.1) = false := by rfl) :
    DE X (.Call (.Name x p) (e :: es) [] pos) (dCB R g) := by
  obtain ⟨r, h1, h2⟩ := c.ex
  exact ⟨fun B => PE.weak (pe_callTy h1 hg hm hv (ha.run B) hn hdb he hpl) fun _ _ _ h => up_CB (h2 B) h⟩
def zList : List Val → Store → DK → Prop := fun xs μ Q => match xs with | [x] => itemsOf μ x fun ys => ∀ p, Q (.ptr p) (μ ++ [(p, .lst ys)]) | _ => False
theorem ca_list : CaZ X (.type "list") zList := ⟨_, call_list_of, fun B σ ρ H μ vs xs Q0 Q l R q low => by
  match xs, l, R, q with
  | [x], l, R, q =>
    obtain ⟨v, rfl, R⟩ := one_arg' l R
    obtain ⟨b, ys, hi, q⟩ := itemsOf_its (P := fun ys => ∀ p, Q0 (.ptr p) (μ ++ [(p, Node.lst ys)])) q
    obtain ⟨a, us, rfl, hs, pr⟩ := hi.at R R.head
    refine ⟨a, us, rfl, ?_, fun p hp => low _ _ (q p) _ _ ((R.tail.new (n := .lst ys) hp ⟨us, upd_same, pr⟩).cons rfl)⟩
    cases b with
    | true => exact .inr hs
    | false => exact .inl hs⟩
def zTuple : List Val → Store → DK → Prop := fun xs μ Q => match xs with | [x] => itemsOf μ x fun ys => ∃ ds, datOf ys = some ds ∧ Q (.dat (.tuple ds)) μ | _ => False
theorem datOf_map : ∀ ds : List PyData, datOf (ds.map Val.dat) = some ds
  | [] => rfl
  | d :: ds => by
    show (datOf (ds.map Val.dat)).map (d :: ·) = _
    rw [datOf_map ds]
    rfl
theorem ca_tuple : CaZ X (.type "tuple") zTuple := ⟨_, call_tuple_of, fun B σ ρ H μ vs xs Q0 Q l R q low => by
  match xs, l, R, q with
  | [x], l, R, q =>
    obtain ⟨v, rfl, R⟩ := one_arg' l R
    obtain ⟨b, ys, hi, ds, ed, q⟩ := itemsOf_its (P := fun ys => ∃ ds, datOf ys = some ds ∧ Q0 (.dat (.tuple ds)) μ) q
    have hd := R.head
    obtain ⟨a, us, rfl, hs, pr⟩ := hi.at R hd
    refine ⟨a, us, rfl, ?_⟩
    cases b with
    | true =>
      refine .inr ⟨hs, low _ _ q _ _ (R.tail.cons ?_)⟩
      cases hi with
      | t ds' =>
        rw [datOf_map] at ed
        cases ed
        exact hd
    | false =>
      refine .inl ⟨hs, fun p hp => ?_⟩
      obtain ⟨R2, g, ep⟩ := R.tail.newZ (o := .tup us) hp
      exact low _ _ q _ _ (R2.cons (.tup ep (DzAll.mono g _ _ (datOf_all pr ed))))⟩
def zSorted : List Val → Store → DK → Prop := fun xs μ Q => match xs with
  | [x] => itemsOf μ x fun ys => isL x μ ∧ ∃ ds, datOf ys = some ds ∧ PySem.W.AllAlike ds ∧ PySem.W.Sortable ds ∧ (∀ d ∈ ds, d.depth ≤ 50) ∧ ∀ p, Q (.ptr p) (μ ++ [(p, .lst ((ds.mergeSort (PySem.W.dataLe false id)).map .dat))])
  | _ => False
theorem zip_fst {K : PySem.W.Frag} {Z : Hp} : ∀ {vs : List V} {ds : List PyData}, DzAll Z vs ds → (vs.zip ds).map (·.1) = vs ∧ (vs.zip ds).map (·.2) = ds ∧ ∀ b ∈ vs.zip ds, Dz Z b.1 b.2
  | _, [], h => by cases h; exact ⟨rfl, rfl, by simp⟩
  | _, d :: ds, h => by
    cases h with
    | cons h1 h2 =>
      obtain ⟨e1, e2, e3⟩ := zip_fst (K := K) h2
      refine ⟨by simp [e1], by simp [e2], fun b hb => ?_⟩
      rcases List.mem_cons.mp hb with rfl | hb
      · exact h1
      · exact e3 b hb
theorem pair_list {K : PySem.W.Frag} {Z : Hp} : ∀ bs : List (V × PyData), (∀ b ∈ bs, Dz Z b.1 b.2) → Paired (RV K Z) (bs.map (·.1)) ((bs.map (·.2)).map Val.dat)
  | [], _ => .nil
  | b :: bs, h => .cons (h b (List.mem_cons_self ..)) (pair_list bs fun c hc => h c (List.mem_cons_of_mem _ hc))
theorem ca_sorted (hu : X.A.units + 64 < cLine) : CaZ X (.builtin "sorted") zSorted := ⟨_, Dt.cr_sortedD hu, fun B σ ρ H μ vs xs Q0 Q l R q low => by
  match xs, l, R, q with
  | [x], l, R, q =>
    obtain ⟨v, rfl, R⟩ := one_arg' l R
    obtain ⟨b, ys, hi, il, ds, ed, al, so, dep, q⟩ := itemsOf_its (P := fun ys => isL x μ ∧ ∃ ds, datOf ys = some ds ∧ PySem.W.AllAlike ds ∧ PySem.W.Sortable ds ∧ (∀ d ∈ ds, d.depth ≤ 50) ∧ ∀ p, Q0 (.ptr p) (μ ++ [(p, Node.lst ((ds.mergeSort (PySem.W.dataLe false id)).map .dat))])) q
    obtain ⟨a, us, rfl, hs, pr⟩ := hi.at R R.head
    have hb : b = false := by
      cases hi with
      | t ds => exact il.elim
      | _ => rfl
    subst hb
    obtain ⟨e1, e2, e3⟩ := zip_fst (K := X.K) (datOf_all pr ed)
    refine ⟨a, us.zip ds, rfl, by rw [e1]; exact hs, fun c hc => Dz.dp _ _ (Dz.mono fz_le _ _ (e3 c hc)), by rw [e2]; exact al, by rw [e2]; exact so, fun c hc => dep c.2 ?_, fun p hp => low _ _ (q p) _ _ ((R.tail.new (n := .lst ((ds.mergeSort (PySem.W.dataLe false id)).map .dat)) hp ⟨_, upd_same, ?_⟩).cons rfl)⟩
    · rw [← e2]
      exact List.mem_map_of_mem hc
    · have e4 : ((us.zip ds).mergeSort (PySem.W.dataLe false (·.2))).map (·.2) = ds.mergeSort (PySem.W.dataLe false id) := by
        have := List.map_mergeSort (r := PySem.W.dataLe false (fun x : V × PyData => x.2)) (s := PySem.W.dataLe false id) (f := fun x : V × PyData => x.2) (l := us.zip ds) (fun _ _ _ _ => rfl)
        rw [this, e2]
      rw [← e4]
      exact pair_list _ fun c hc => e3 c (List.mem_mergeSort.mp hc)⟩
def zMin2 : List Val → Store → DK → Prop := fun xs μ Q => match xs with | [.dat (.int i), .dat (.int j)] => Q (.dat (.int (if j < i then j else i))) μ | _ => False
def zMax2 : List Val → Store → DK → Prop := fun xs μ Q => match xs with | [.dat (.int i), .dat (.int j)] => Q (.dat (.int (if j > i then j else i))) μ | _ => False
theorem two_ints {r : List V → Hp → VK → Prop} {g : Int → Int → Int} {f : Value} (h : CallR X f (fun xs H Q => ∃ i j, xs = [.int i, .int j] ∧ Q (.int (g i j)) H)) :
    CaZ X f fun xs μ Q => match xs with | [.dat (.int i), .dat (.int j)] => Q (.dat (.int (g i j))) μ | _ => False := ⟨_, h, fun B σ ρ H μ vs xs Q0 Q l R q low => by
  match xs, vs, l, R, q with
  | [.dat (.int i), .dat (.int j)], [v, u], l, R, q =>
    have R : RL X.w X.K B H (some v :: some u :: σ) (some (.dat (.int i)) :: some (.dat (.int j)) :: ρ) μ := R
    have h1 := R.head
    have h2 := R.tail.head
    cases (h1 : Dz _ v (.int i))
    cases (h2 : Dz _ u (.int j))
    exact ⟨i, j, rfl, low _ _ q _ _ (R.tail.tail.cons (.int _))⟩⟩
theorem ca_min2 (hc : X.calm = true) : CaZ X (.builtin "min") zMin2 := two_ints (r := fun _ _ _ => True) (call_min2 hc)
theorem ca_max2 (hc : X.calm = true) : CaZ X (.builtin "max") zMax2 := two_ints (r := fun _ _ _ => True) (call_max2 hc)
def zAbs : List Val → Store → DK → Prop := fun xs μ Q => match xs with | [.dat (.int i)] => Q (.dat (.int (if i < 0 then -i else i))) μ | _ => False
theorem ca_abs : CaZ X (.builtin "abs") zAbs := ⟨_, call_abs, fun B σ ρ H μ vs xs Q0 Q l R q low => by
  match xs, l, R, q with
  | [.dat (.int i)], l, R, q =>
    obtain ⟨v, rfl, R⟩ := one_arg' l R
    have h1 := R.head
    cases (h1 : Dz _ v (.int i))
    exact ⟨i, rfl, low _ _ q _ _ (R.tail.cons (.int _))⟩⟩
def zInt : List Val → Store → DK → Prop := fun xs μ Q => match xs with | [.dat (.int i)] => Q (.dat (.int i)) μ | [.dat (.bool k)] => Q (.dat (.int (if k then 1 else 0))) μ | _ => False
theorem ca_int : CaZ X (.type "int") zInt := ⟨_, call_int1, fun B σ ρ H μ vs xs Q0 Q l R q low => by
  match xs, l, R, q with
  | [.dat (.int i)], l, R, q =>
    obtain ⟨v, rfl, R⟩ := one_arg' l R
    have h1 := R.head
    cases (h1 : Dz _ v (.int i))
    exact .inl ⟨i, rfl, low _ _ q _ _ (R.tail.cons (.int _))⟩
  | [.dat (.bool k)], l, R, q =>
    obtain ⟨v, rfl, R⟩ := one_arg' l R
    have h1 := R.head
    cases (h1 : Dz _ v (.bool k))
    exact .inr ⟨k, rfl, low _ _ q _ _ (R.tail.cons (.int _))⟩⟩
/-- repr of lists and tuples, where no guard stands around -/
def zRepr : List Val → Store → DK → Prop := fun xs μ Q => match xs with
  | [x] => ∃ d, View μ x d ∧ (match d with | .list _ => True | .tuple _ => True | _ => False) ∧ d.showable = true ∧ d.hasDict = false ∧ d.depth ≤ 60 ∧ d.shown.length ≤ sizeLine ∧ Q (.dat (.str d.shown)) μ
  | _ => False
theorem ca_repr (hg : X.A.guards = some []) (hu : X.A.units + 64 < cLine) : CaZ X (.builtin "repr") zRepr := ⟨_, Gd.call_repr hg hu, fun B σ ρ H μ vs xs Q0 Q l R q low => by
  match xs, l, R, q with
  | [x], l, R, q =>
    obtain ⟨v, rfl, R⟩ := one_arg' l R
    obtain ⟨d, h1, h2, h3, h4, h5, h6, q⟩ := q
    have dp := h1.at R R.head
    have fin := low _ _ q _ _ (R.tail.cons (.str _))
    match d, h2, dp, h3, h4, h5, h6, fin with
    | .list ds, _, dp, h3, h4, h5, h6, fin =>
      cases dp with
      | lst e1 e2 => exact ⟨_, .list ds, rfl, .lst e1 e2, h3, h4, h5, h6, fin⟩
    | .tuple ds, _, dp, h3, h4, h5, h6, fin =>
      cases dp with
      | tup e1 e2 => exact ⟨_, .tuple ds, rfl, .tup e1 e2, h3, h4, h5, h6, fin⟩⟩
/-! ### x[a:b] -/
def cutG {α : Type} (xs : List α) (lo hi : Option Int) : List α := (xs.drop (HT.sIx xs.length 0 lo)).take (HT.sIx xs.length xs.length hi - HT.sIx xs.length 0 lo)
abbrev DTO := DR → Store → (Option Int → Store → Prop) → Prop
structure DO (X : Cx) (e : Option Expr) (f : DTO) : Prop where
  run : ∀ B : Base, PO X e fun σ H Q => ∃ (hv : List (Option V)) (hx ρ : DR) (μ : Store) (Q0 : Option Int → Store → Prop), hv.length = hx.length ∧ RL X.w X.K B H (hv ++ σ) (hx ++ ρ) μ ∧ f ρ μ Q0 ∧ ∀ o μ', Q0 o μ' → ∀ H', RL X.w X.K B H' (hv ++ σ) (hx ++ ρ) μ' → Q o H'
theorem PO.weak {e : Option Expr} {t t' : TO} (h : PO X e t) (w : ∀ σ H Q, t' σ H Q → t σ H Q) : PO X e t' := ⟨fun pins s σ H Q I q => h.run pins s σ H Q I (w _ _ _ q)⟩
abbrev dNoPart : DTO := fun _ μ Q => Q none μ
abbrev dPart (f : DTE) : DTO := fun ρ μ Q => f ρ μ fun x μ1 => match x with | .dat (.int i) => Q (some i) μ1 | _ => False
theorem do_none : DO X none dNoPart := ⟨fun B => PO.weak po_none fun σ H Q ⟨hv, hx, ρ, μ, Q0, hl, R, q, low⟩ => low _ _ q _ R⟩
theorem do_some {e : Expr} {f : DTE} (h : DE X e f) : DO X (some e) (dPart f) := ⟨fun B => PO.weak (po_some (h.run B)) fun σ H Q ⟨hv, hx, ρ, μ, Q0, hl, R, q, low⟩ => by
  refine ⟨hv, hx, ρ, μ, _, hl, R, q, fun x μ1 q1 v H1 R1 => ?_⟩
  have hd := R1.head
  match x, q1, hd with
  | .dat (.int i), q1, hd =>
    cases (hd : Dz _ v (.int i))
    exact ⟨i, rfl, low _ _ q1 _ R1.tail⟩⟩
def zCut (x : Val) (lo hi : Option Int) (μ : Store) (Q : DK) : Prop := match x with
  | .dat (.tuple ds) => Q (.dat (.tuple (cutG ds lo hi))) μ
  | .dat (.list ds) => ∀ p, Q (.ptr p) (μ ++ [(p, .lst ((cutG ds lo hi).map .dat))])
  | .scr ns => ∀ p, Q (.ptr p) (μ ++ [(p, .lst ((cutG ns lo hi).map fun n => .dat (.int n)))])
  | .ptr a => ∃ (j : Nat) (xs : List Val), μ[j]? = some (a, Node.lst xs) ∧ ∀ p, Q (.ptr p) (μ ++ [(p, .lst (cutG xs lo hi))])
  | .dat (.str z) => z.length ≤ sizeLine ∧ Q (.dat (.str (cutS z lo hi))) μ
  | _ => False
abbrev dSlice (f : DTE) (fl fh : DTO) : DTE := fun ρ μ Q => f ρ μ fun x μ1 => fl ρ μ1 fun lo μ2 => fh ρ μ2 fun hi μ3 => zCut x lo hi μ3 Q
theorem cutG_map {α β : Type} {f : α → β} {xs : List α} {lo hi : Option Int} : cutG (xs.map f) lo hi = (cutG xs lo hi).map f := by
  unfold cutG
  rw [List.length_map, List.map_take, List.map_drop]
theorem paired_cut {α β : Type} {F : α → β → Prop} {a : List α} {b : List β} (h : Paired F a b) (lo hi : Option Int) : Paired F (cutG a lo hi) (cutG b lo hi) := by
  unfold cutG
  rw [h.length]
  exact paired_take _ (paired_drop _ h)
theorem all_dz {K : PySem.W.Frag} {Z : Hp} : ∀ {vs : List V} {ds : List PyData}, Paired (RV K Z) vs (ds.map Val.dat) → DzAll Z vs ds
  | [], [], _ => .nil
  | _ :: _, _ :: _, .cons h t => .cons h (all_dz t)
  | [], _ :: _, h => by cases h
  | _ :: _, [], h => by cases h
theorem cutG_whole {α : Type} {xs : List α} {lo hi : Option Int} (h1 : HT.sIx xs.length 0 lo = 0) (h2 : HT.sIx xs.length xs.length hi = xs.length) : cutG xs lo hi = xs := by
  unfold cutG
  rw [h1, h2, List.drop_zero, Nat.sub_zero, List.take_length]
theorem d_slice {e : Expr} {lo hi : Option Expr} {f : DTE} {fl fh : DTO} {p2 pos : Pos} (he : DE X e f) (hl : DO X lo fl) (hh : DO X hi fh) : DE X (.Subscript e (.Slice lo hi none p2) pos) (dSlice f fl fh) :=
  ⟨fun B => PE.weak (pe_slice (SlR.or sl_tupA (SlR.or sl_list sl_str)) (he.run B) (hl.run B) (hh.run B)) fun σ H Q ⟨hv, hx, ρ, μ, Q0, l0, R, q, low⟩ => by
    refine ⟨hv, hx, ρ, μ, _, l0, R, q, fun x μ1 q1 v H1 R1 => ⟨some v :: hv, some x :: hx, ρ, μ1, _, by simp [l0], R1, q1, fun o μ2 q2 H2 R2 => ⟨some v :: hv, some x :: hx, ρ, μ2, _, by simp [l0], R2, q2, fun o2 μ3 q3 H3 R3 => ?_⟩⟩⟩
    have hd := R3.head
    have lst : ∀ (xs : List Val) (P : Its μ3 x false xs), (∀ p, Q0 (.ptr p) (μ3 ++ [(p, .lst (cutG xs o o2))])) → rSlL X.K v o o2 H3 Q := fun xs P q => by
      obtain ⟨a, us, rfl, hs, pr⟩ := P.at R3 hd
      exact ⟨a, us, rfl, hs, fun p hp => low _ _ (q p) _ _ ((R3.tail.new (n := .lst (cutG xs o o2)) hp ⟨_, upd_same, paired_cut pr o o2⟩).cons rfl)⟩
    unfold zCut at q3
    split at q3
    · rename_i ds
      cases (hd : Dz _ v (.tuple ds)) with
      | tup e1 e2 =>
        have len := dzAll_len e2
        refine .inl ⟨_, _, rfl, SqT.of (fz_le _ _ e1), fun ⟨w1, w2⟩ => ?_, fun _ p hp => ?_⟩
        · rw [len] at w1 w2
          rw [cutG_whole w1 w2] at q3
          exact low _ _ q3 _ _ R3
        · obtain ⟨R4, g, ep⟩ := R3.tail.newZ (o := .tup (cutV _ o o2)) hp
          refine low _ _ q3 _ _ (R4.cons (.tup ep (DzAll.mono g _ _ (all_dz (K := X.K) ?_))))
          rw [← cutG_map]
          exact paired_cut (dz_all e2) o o2
    · refine .inr (.inl (lst _ (.d _) fun p => ?_))
      rw [cutG_map]
      exact q3 p
    · refine .inr (.inl (lst _ (.s _) fun p => ?_))
      rw [cutG_map]
      exact q3 p
    · obtain ⟨j, xs, hj, q3⟩ := q3
      exact .inr (.inl (lst _ (.p j hj) q3))
    · cases (hd : Dz _ v (.str _))
      exact .inr (.inr ⟨_, rfl, q3.1, low _ _ q3.2 _ _ (R3.tail.cons (.str _))⟩)
    · exact q3.elim⟩
end
end Zl
namespace Zl
open PySem PySem.Spec PyProof.Rows L2 Lf
section
variable {X : Cx}
theorem ds_set {i : Nat} {x : Str} {e : Expr} {f : DTE} {pos' pos : Pos} (hN : X.N.Nodup) (hi : X.N[i]? = some x) (hx : Loc X.env.scope x) (he : DE X e f) (hs : swapsWith e (some (.Name x pos')) pos.line X.env = pure false := by rfl)
    (hf : X.fn x = true ∨ X.env.scope.names.lookup x = some .local := by first | exact .inl rfl | exact .inr rfl | assumption) : DS X (.Assign [.Name x pos'] e pos) (dSet i f) := ds_of_set fun B => ps_set hN hi hx (he.run B) hs hf
theorem dg_sub {a b : Expr} {fo fi : DTE} {pos : Pos} (ho : DE X a fo) (hi : DE X b fi) (st : ∀ u, assign (.Subscript a b pos) X.env u = (do
      let x ← holding [u] (eval a X.env)
      let y ← holding [u, x] (eval b X.env)
      standAt pos
      holding [u, x, y] (setItem x y u)
      release [u, x, y] []) := by intro _; rfl) : DG X (.Subscript a b pos) (zSetL fo fi) := dg_setL fun B => pg_sub (ho.run B) (hi.run B) set_list st
theorem dg_name {i : Nat} {x : Str} {pos : Pos} (hN : X.N.Nodup) (hi : X.N[i]? = some x) (hx : Loc X.env.scope x) (hf : X.fn x = true ∨ X.env.scope.names.lookup x = some .local := by first | exact .inl rfl | exact .inr rfl | assumption) : DG X (.Name x pos) (zName i) := dg_of_name (pg_name hN hi hx hf)
/-! ### truth -/
def truOf (μ : Store) (x : Val) (P : Bool → Prop) : Prop := match x with
  | .dat .none => P false
  | .dat (.bool b) => P b
  | .dat (.int i) => P (i != 0)
  | .dat (.str z) => z.length ≤ sizeLine ∧ P ((z.length : Int) != 0)
  | .dat (.list ds) => P !ds.isEmpty
  | .dat (.tuple ds) => P !ds.isEmpty
  | .ptr a => ∃ (j : Nat) (xs : List Val), μ[j]? = some (a, Node.lst xs) ∧ P !xs.isEmpty
  | _ => False
abbrev dTru (f : DTE) : DTT := fun ρ μ Q => f ρ μ fun x μ1 => truOf μ1 x fun k => Q k μ1
theorem paired_empty {α β : Type} {F : α → β → Prop} {a : List α} {b : List β} (h : Paired F a b) : a.isEmpty = b.isEmpty := by cases h <;> rfl
theorem dzAll_empty {Z : Hp} {vs : List V} {ds : List PyData} (h : DzAll Z vs ds) : vs.isEmpty = ds.isEmpty := by cases h <;> rfl
theorem dt_truth {e : Expr} {f : DTE} (h : DE X e f) (he : ∀ whole, isTrue e X.env whole = (do let v ← whole; standAt e.pos; holding [v] (truthy v)) := by intro _; rfl) : DT X e (dTru f) :=
  ⟨fun B => PT.weak (pt_truth (h.run B) he) fun σ H Q ⟨hv, hx, ρ, μ, Q0, hl, R, q, low⟩ => by
    refine ⟨hv, hx, ρ, μ, _, hl, R, q, fun x μ1 q1 v H1 R1 => ?_⟩
    have hd := R1.head
    have fin : ∀ k, Q0 k μ1 → TruV X.K v H1 k → ∃ k, TruV X.K v H1 k ∧ Q k H1 := fun k q t => ⟨k, t, low _ _ q _ R1.tail⟩
    unfold truOf at q1
    split at q1
    · cases (hd : Dz _ v .none)
      exact fin _ q1 rfl
    · cases (hd : Dz _ v (.bool _))
      exact fin _ q1 rfl
    · cases (hd : Dz _ v (.int _))
      exact fin _ q1 rfl
    · cases (hd : Dz _ v (.str _))
      exact fin _ q1.2 ⟨q1.1, rfl⟩
    · cases (hd : Dz _ v (.list _)) with
      | lst e1 e2 => exact fin _ q1 (.inl ⟨_, SqL.of (fz_le _ _ e1), by rw [dzAll_empty e2]⟩)
    · cases (hd : Dz _ v (.tuple _)) with
      | tup e1 e2 => exact fin _ q1 (.inr (.inl ⟨_, SqT.of (fz_le _ _ e1), by rw [dzAll_empty e2]⟩))
    · obtain ⟨j, xs, hj, q1⟩ := q1
      obtain ⟨us, e, pr⟩ := R1.at hj
      cases (hd : v = .ref _)
      exact fin _ q1 (.inl ⟨us, SqL.of e, by rw [paired_empty pr]⟩)
    · exact q1.elim⟩
/-- not x as a value -/
abbrev dNotV (f : DTE) : DTE := fun ρ μ Q => f ρ μ fun x μ1 => match x with | .dat (.bool b) => Q (.dat (.bool !b)) μ1 | _ => False
/-! ### i, j = a, b; x += e -/
abbrev dPar (i j : Nat) (g : DTA) : DTS := fun E ρ μ => g ρ μ fun xs μ1 => match xs with | [x, y] => E.nx ((ρ.set i (some x)).set j (some y)) μ1 | _ => False
theorem ds_of_par {i j : Nat} {s : Stmt} {g : DTA} (h : ∀ B : Base, PS X s (tPar i j (upA X B g))) : DS X s (dPar i j g) :=
  ⟨fun B => PS.weak (h B) fun D σ H ⟨ρ, μ, E, R, q, b⟩ => ⟨[], [], ρ, μ, _, rfl, R, q, fun xs μ1 q1 vs H1 l R1 => by
    match xs, vs, l, R1, q1 with
    | [x, y], [v, u], l, R1, q1 =>
      have R1 : RL X.w X.K B H1 (some v :: some u :: σ) (some x :: some y :: ρ) μ1 := R1
      exact ⟨v, u, rfl, b.nx _ _ q1 _ _ (R1.slots (paired_set j (paired_set i R1.tail.tail.sl R1.head) R1.tail.head))⟩⟩⟩
abbrev dAug (i : Nat) (g : Int → Int → Int) (f : DTE) : DTS := fun E ρ μ => match ρ[i]? with
  | some (some x) => f ρ μ fun y μ1 => match x, y with | .dat (.int a), .dat (.int b) => E.nx (ρ.set i (some (.dat (.int (g a b))))) μ1 | _, _ => False
  | _ => False
theorem ds_of_aug {i : Nat} {s : Stmt} {f : DTE} {g : Int → Int → Int} (h : ∀ B : Base, PS X s (tAug i (up X B f) (ipI g))) : DS X s (dAug i g f) :=
  ⟨fun B => PS.weak (h B) fun D σ H ⟨ρ, μ, E, R, q, b⟩ => by
    unfold dAug at q
    split at q
    · rename_i x ex
      obtain ⟨v, ev, rv⟩ := R.get ex
      refine ⟨v, ev, [some v], [some x], ρ, μ, _, rfl, R.cons rv, q, fun y μ1 q1 u H1 R1 => ?_⟩
      have h1 := R1.head
      have h2 := R1.tail.head
      match x, y, q1, h1, h2 with
      | .dat (.int a), .dat (.int c), q1, h1, h2 =>
        cases (h1 : Dz _ u (.int c))
        cases (h2 : Dz _ v (.int a))
        exact ⟨a, c, rfl, rfl, b.nx _ _ q1 _ _ (R1.tail.tail.slots (paired_set (x := some (V.int (g a c))) i R1.tail.tail.sl (Dz.int _)))⟩
    · exact q.elim⟩
end
end Zl
/-! Dicts whose keys are None, numbers and tuples. -/
namespace Zl
open PySem PySem.Spec PyProof.Rows L2 Lf
mutual
def keyD : PyData → Option NestedKey
  | .none => some .none
  | .int i => some (.num i)
  | .str x => some (.text x)
  | .tuple ds => (keyDs ds).map .tup
  | _ => none
def keyDs : List PyData → Option (List NestedKey)
  | [] => some []
  | d :: ds => match keyD d, keyDs ds with | some k, some ks => some (k :: ks) | _, _ => none
end
mutual
def datK : NestedKey → PyData
  | .none => .none
  | .num i => .int i
  | .text x => .str x
  | .tup ks => .tuple (datKs ks)
def datKs : List NestedKey → List PyData
  | [] => []
  | k :: ks => datK k :: datKs ks
end
mutual
theorem keyD_datK : ∀ k : NestedKey, keyD (datK k) = some k
  | .none => rfl
  | .num _ => rfl
  | .text _ => rfl
  | .tup ks => by
    show (keyDs (datKs ks)).map NestedKey.tup = _
    rw [keyDs_datKs ks]
    rfl
theorem keyDs_datKs : ∀ ks : List NestedKey, keyDs (datKs ks) = some ks
  | [] => rfl
  | k :: ks => by
    show (match keyD (datK k), keyDs (datKs ks) with | some k, some ks => some (k :: ks) | _, _ => none) = _
    rw [keyD_datK k, keyDs_datKs ks]
end
mutual
theorem keyAt_of {Z : Hp} : ∀ (d : PyData) (v : V) (k : NestedKey), Dz Z v d → keyD d = some k → Vd.KeyAt Z k v
  | .none, _, _, h, e => by cases h; cases e; exact rfl
  | .int i, _, _, h, e => by cases h; cases e; exact rfl
  | .str x, _, _, h, e => by cases h; cases e; exact rfl
  | .tuple ds, _, k, h, e => by
    cases h with
    | tup h1 h2 =>
      rw [show keyD (.tuple ds) = (keyDs ds).map .tup from rfl] at e
      cases ek : keyDs ds with
      | none => rw [ek] at e; cases e
      | some ks =>
        rw [ek] at e
        cases e
        exact ⟨_, _, rfl, h1, keysAt_of ds _ ks h2 ek⟩
  | .bool _, _, _, _, e => by cases e
  | .list _, _, _, _, e => by cases e
  | .dict _, _, _, _, e => by cases e
theorem keysAt_of {Z : Hp} : ∀ (ds : List PyData) (vs : List V) (ks : List NestedKey), DzAll Z vs ds → keyDs ds = some ks → Vd.KeysAt Z ks vs
  | [], _, _, h, e => by cases h; cases e; exact rfl
  | d :: ds, _, ks, h, e => by
    cases h with
    | cons h1 h2 =>
      rw [show keyDs (d :: ds) = (match keyD d, keyDs ds with | some k, some ks => some (k :: ks) | _, _ => none) from rfl] at e
      cases e1 : keyD d with
      | none => rw [e1] at e; cases e
      | some k =>
        cases e2 : keyDs ds with
        | none => rw [e1, e2] at e; cases e
        | some ks' =>
          rw [e1, e2] at e
          cases e
          exact ⟨_, _, rfl, keyAt_of d _ k h1 e1, keysAt_of ds _ ks' h2 e2⟩
end
mutual
theorem dz_key {Z : Hp} : ∀ (k : NestedKey) (v : V), Vd.KeyAt Z k v → Dz Z v (datK k)
  | .none, _, h => by cases (h : _ = V.non); exact .non
  | .num i, _, h => by cases (h : _ = V.int i); exact .int i
  | .text x, _, h => by cases (h : _ = V.str x); exact .str x
  | .tup ks, _, h => by
    obtain ⟨a, ys, rfl, e, h⟩ := h
    exact .tup e (dz_keys ks ys h)
theorem dz_keys {Z : Hp} : ∀ (ks : List NestedKey) (vs : List V), Vd.KeysAt Z ks vs → DzAll Z vs (datKs ks)
  | [], _, h => by cases (h : _ = []); exact .nil
  | k :: ks, _, h => by
    obtain ⟨y, r, rfl, h1, h2⟩ := h
    exact .cons (dz_key k y h1) (dz_keys ks r h2)
end
def lookZ : List (NestedKey × Val) → NestedKey → Option Val
  | [], _ => none
  | x :: r, k => if x.1 = k then some x.2 else lookZ r k
def putZ : List (NestedKey × Val) → NestedKey → Val → List (NestedKey × Val)
  | [], k, v => [(k, v)]
  | x :: r, k, v => if x.1 = k then (x.1, v) :: r else x :: putZ r k v
theorem putZ_len : ∀ (kvs : List (NestedKey × Val)) (k : NestedKey) (v : Val), (putZ kvs k v).length ≤ kvs.length + 1
  | [], _, _ => Nat.le_refl _
  | x :: r, k, v => by
    unfold putZ
    split
    · exact Nat.le_succ _
    · exact Nat.succ_le_succ (putZ_len r k v)
theorem lookZ_put : ∀ (kvs : List (NestedKey × Val)) (k j : NestedKey) (v : Val), lookZ (putZ kvs k v) j = if k = j then some v else lookZ kvs j
  | [], k, j, v => rfl
  | x :: r, k, j, v => by
    unfold putZ
    by_cases e : x.1 = k
    · rw [if_pos e]
      unfold lookZ
      rw [e]
      by_cases e2 : k = j
      · rw [if_pos e2, if_pos e2]
      · rw [if_neg e2, if_neg e2, if_neg e2]
    · rw [if_neg e]
      unfold lookZ
      rw [lookZ_put r k j v]
      by_cases e2 : x.1 = j
      · rw [if_pos e2, if_pos e2, if_neg (fun z => e (e2.trans z.symm))]
      · rw [if_neg e2, if_neg e2]
section
variable {X : Cx} {B : Base} {σ : List (Option V)} {ρ : DR} {H : Hp} {μ : Store}
/-- a dict that is read -/
inductive DvAt (μ : Store) (a : Addr) (kvs : List (NestedKey × Val)) : Prop
  | own (j : Nat) : μ[j]? = some (a, .dv kvs) → DvAt μ a kvs
  | lck (j : Nat) {ob : Obj} {ks : List Vd.KVR} : μ[j]? = some (a, .dvl ob ks kvs) → DvAt μ a kvs
theorem look_rel {K : PySem.W.Frag} {Z : Hp} {ks : List Vd.KVR} {kvs : List (NestedKey × Val)} (h : Paired (RK K Z) ks kvs) (k : NestedKey) : (Vd.lookV ks k = none ∧ lookZ kvs k = none) ∨ ∃ v x, Vd.lookV ks k = some v ∧ lookZ kvs k = some x ∧ RV K Z v x := by
  induction h with
  | nil => exact .inl ⟨rfl, rfl⟩
  | cons r _ ih =>
    unfold Vd.lookV lookZ
    rw [← r.1]
    split
    · exact .inr ⟨_, _, rfl, rfl, r.2.2.2⟩
    · exact ih
theorem put_rel {K : PySem.W.Frag} {Z : Hp} {ks : List Vd.KVR} {kvs : List (NestedKey × Val)} (h : Paired (RK K Z) ks kvs) {k : NestedKey} {y v : V} {x : Val} (ok : Vd.KeyOk k) (hk : Vd.KeyAt Z k y) (r : RV K Z v x) : Paired (RK K Z) (Vd.putV ks k y v) (putZ kvs k x) := by
  induction h with
  | nil => exact .cons ⟨rfl, ok, hk, r⟩ .nil
  | cons q t ih =>
    unfold Vd.putV putZ
    rw [← q.1]
    split
    · exact .cons ⟨rfl, q.2.1, q.2.2.1, r⟩ t
    · exact .cons q ih
theorem DvAt.at {a : Addr} {kvs : List (NestedKey × Val)} (R : RL X.w X.K B H σ ρ μ) (h : DvAt μ a kvs) : ∃ ks : List Vd.KVR, Vd.DAt X.w H a ks ∧ Paired (RK X.K (Fz (B.fr ++ μ) H)) ks kvs := by
  have mk : ∀ ks : List Vd.KVR, Rd H a (Vd.dV X.w a ks) → (ks.map (·.1)).Nodup → Paired (RK X.K (Fz (B.fr ++ μ) H)) ks kvs → Vd.DAt X.w H a ks := fun ks e nd pr =>
    ⟨e, fun p hp => by
      obtain ⟨i, hi, rfl⟩ := List.mem_iff_getElem.mp hp
      have hi2 : i < kvs.length := by rw [← pr.length]; exact hi
      obtain ⟨q, eq, r⟩ := paired_get pr (List.getElem?_eq_getElem hi2)
      rw [List.getElem?_eq_getElem hi] at eq
      cases eq
      exact ⟨r.2.1, r.2.2.1.keep fun a xs e => fz_le _ _ e⟩, nd⟩
  cases h with
  | own j hj =>
    obtain ⟨ks, e, nd, pr⟩ := R.at hj
    exact ⟨ks, mk ks (.inl e) nd pr, pr⟩
  | lck j hj =>
    obtain ⟨e, nd, pr⟩ := R.at hj
    exact ⟨_, mk _ (.inr ⟨_, e⟩) nd pr, pr⟩
end
section
variable {X : Cx} {o i e f value : Expr} {pos pos' apos cpos : Pos} {fd fk fx : DTE}
/-- {} -/
abbrev dDNew : DTE := fun _ μ Q => ∀ p, Q (.ptr p) (μ ++ [(p, .dv [])])
theorem d_dnew : DE X (.Dict [] [] pos) dDNew := ⟨fun B => PE.weak Vd.pe_new fun σ H Q ⟨hv, hx, ρ, μ, Q0, hl, R, q, low⟩ p hp => low _ _ (q p) _ _ ((R.new (n := .dv []) hp ⟨[], upd_same, .nil, .nil⟩).cons rfl)⟩
abbrev dGet (fd fk fx : DTE) : DTE := fun ρ μ Q => fd ρ μ fun d μ1 => match d with
  | .ptr a => (∃ kvs, DvAt μ1 a kvs) ∧ fk ρ μ1 fun y μ2 => fx ρ μ2 fun z μ3 => match y with
    | .dat dk => ∃ kvs k, DvAt μ3 a kvs ∧ keyD dk = some k ∧ Vd.KeyOk k ∧ Q ((lookZ kvs k).getD z) μ3
    | _ => False
  | _ => False
theorem d_dget (hu : X.A.units + 64 < cLine) (ho : DE X o fd) (he : DE X e fk) (hf : DE X f fx) (m : M2 X o "get" apos e f cpos) : DE X (.Call (.Attribute o "get" apos) [e, f] [] cpos) (dGet fd fk fx) :=
  ⟨fun B => PE.weak (Vd.pe_get2 hu (ho.run B) (he.run B) (hf.run B) m) fun σ H Q ⟨hv, hx, ρ, μ, Q0, hl, R, q, low⟩ => by
    refine ⟨hv, hx, ρ, μ, _, hl, R, q, fun d μ1 q1 v H1 R1 => ?_⟩
    match d, q1, R1 with
    | .ptr a, q1, R1 =>
      obtain ⟨⟨kvs, h1⟩, q1⟩ := q1
      obtain ⟨ks, D, _⟩ := h1.at R1
      cases (R1.head : v = .ref a)
      refine ⟨a, rfl, ⟨ks, D.at⟩, _ :: hv, _ :: hx, ρ, μ1, _, by simp [hl], R1, q1, fun y μ2 q2 u H2 R2 => ⟨_ :: _ :: hv, _ :: _ :: hx, ρ, μ2, _, by simp [hl], R2, q2, fun z μ3 q3 t H3 R3 => ?_⟩⟩
      match y, q3, R3 with
      | .dat dk, q3, R3 =>
        obtain ⟨kvs, k, h3, ek, ok, q3⟩ := q3
        obtain ⟨ks3, D3, pr⟩ := h3.at R3
        refine ⟨ks3, k, D3, ok, (keyAt_of dk u k R3.tail.head ek).keep fun a xs e => fz_le _ _ e, ?_⟩
        rcases look_rel pr k with ⟨e1, e2⟩ | ⟨v, x, e1, e2, rv⟩
        · rw [e2] at q3
          rw [e1]
          exact low _ _ q3 _ _ (R3.tail.tail.tail.cons R3.head)
        · rw [e2] at q3
          rw [e1]
          exact low _ _ q3 _ _ (R3.tail.tail.tail.cons rv)⟩
abbrev dSetd (fd fk fx : DTE) : DTE := fun ρ μ Q => fd ρ μ fun d μ1 => match d with
  | .ptr a => (∃ kvs, DvAt μ1 a kvs) ∧ fk ρ μ1 fun y μ2 => fx ρ μ2 fun z μ3 => match y with
    | .dat dk => ∃ (j : Nat) (kvs : List (NestedKey × Val)) (k : NestedKey), μ3[j]? = some (a, Node.dv kvs) ∧ keyD dk = some k ∧ Vd.KeyOk k ∧ kvs.length < sizeLine ∧ (∀ x, lookZ kvs k = some x → Q x μ3) ∧ (lookZ kvs k = none → Q z (μ3.set j (a, .dv (putZ kvs k z))))
    | _ => False
  | _ => False
theorem putV_nd {ks : List Vd.KVR} {k : NestedKey} {y v : V} (nd : (ks.map (·.1)).Nodup) : ((Vd.putV ks k y v).map (·.1)).Nodup := by
  rw [Vd.putV_keys]
  split
  · exact nd
  · rename_i m
    exact List.nodup_append.mpr ⟨nd, by simp, fun x hx z hz => by
      rw [List.mem_singleton.mp hz]
      exact fun e => m (by rw [← e]; exact hx)⟩
theorem RL.putD {B : Base} {H : Hp} {σ : List (Option V)} {ρ : DR} {μ : Store} {a : Addr} {j : Nat} {kvs : List (NestedKey × Val)} {ks : List Vd.KVR} {k : NestedKey} {y v : V} {x : Val} (R : RL X.w X.K B H σ ρ μ) (hj : μ[j]? = some (a, .dv kvs)) (nd : (ks.map (·.1)).Nodup) (pr : Paired (RK X.K (Fz (B.fr ++ μ) H)) ks kvs)
    (ok : Vd.KeyOk k) (hk : Vd.KeyAt (Fz (B.fr ++ μ) H) k y) (r : RV X.K (Fz (B.fr ++ μ) H) v x) : RL X.w X.K B (upd H a (Vd.dV X.w a (Vd.putV ks k y v))) σ ρ (μ.set j (a, .dv (putZ kvs k x))) :=
  R.put (n' := .dv (putZ kvs k x)) hj ⟨_, upd_same, putV_nd nd, put_rel pr ok hk r⟩
theorem d_dsetd (hu : X.A.units + 64 < cLine) (ho : DE X o fd) (he : DE X e fk) (hf : DE X f fx) (m : M2 X o "setdefault" apos e f cpos) : DE X (.Call (.Attribute o "setdefault" apos) [e, f] [] cpos) (dSetd fd fk fx) :=
  ⟨fun B => PE.weak (Vd.pe_setd hu (ho.run B) (he.run B) (hf.run B) m) fun σ H Q ⟨hv, hx, ρ, μ, Q0, hl, R, q, low⟩ => by
    refine ⟨hv, hx, ρ, μ, _, hl, R, q, fun d μ1 q1 v H1 R1 => ?_⟩
    match d, q1, R1 with
    | .ptr a, q1, R1 =>
      obtain ⟨⟨kvs, h1⟩, q1⟩ := q1
      obtain ⟨ks, D, _⟩ := h1.at R1
      cases (R1.head : v = .ref a)
      refine ⟨a, rfl, ⟨ks, D.at⟩, _ :: hv, _ :: hx, ρ, μ1, _, by simp [hl], R1, q1, fun y μ2 q2 u H2 R2 => ⟨_ :: _ :: hv, _ :: _ :: hx, ρ, μ2, _, by simp [hl], R2, q2, fun z μ3 q3 t H3 R3 => ?_⟩⟩
      match y, q3, R3 with
      | .dat dk, q3, R3 =>
        obtain ⟨j, kvs, k, hj, ek, ok, hlen, q3, q4⟩ := q3
        obtain ⟨ks3, e3, nd, pr⟩ := R3.at hj
        obtain ⟨_, D3, _⟩ := (DvAt.own j hj).at R3
        have hk := keyAt_of dk u k R3.tail.head ek
        have D3 : Vd.DAt X.w H3 a ks3 := ⟨.inl e3, fun p hp => by
          obtain ⟨i, hi, rfl⟩ := List.mem_iff_getElem.mp hp
          have hi2 : i < kvs.length := by rw [← pr.length]; exact hi
          obtain ⟨q, eq, r⟩ := paired_get pr (List.getElem?_eq_getElem hi2)
          rw [List.getElem?_eq_getElem hi] at eq
          cases eq
          exact ⟨r.2.1, r.2.2.1.keep fun a xs e => fz_le _ _ e⟩, nd⟩
        refine ⟨ks3, k, e3, D3, ok, hk.keep fun a xs e => fz_le _ _ e, by rw [pr.length]; exact hlen, fun v hv => ?_, fun hn => ?_⟩
        · rcases look_rel pr k with ⟨e1, _⟩ | ⟨v', x, e1, e2, rv⟩
          · rw [e1] at hv; cases hv
          · rw [e1] at hv
            cases hv
            exact low _ _ (q3 x e2) _ _ (R3.tail.tail.tail.cons rv)
        · rcases look_rel pr k with ⟨_, e2⟩ | ⟨v', x, e1, _, _⟩
          · have R4 := (R3.tail.tail.tail.cons R3.head).putD hj nd pr ok hk R3.head
            exact low _ _ (q4 e2) _ _ R4
          · rw [e1] at hn; cases hn⟩
abbrev dDix (fd fk : DTE) : DTE := fun ρ μ Q => fd ρ μ fun d μ1 => fk ρ μ1 fun y μ2 => match d, y with
  | .ptr a, .dat dk => ∃ kvs k x, DvAt μ2 a kvs ∧ keyD dk = some k ∧ Vd.KeyOk k ∧ lookZ kvs k = some x ∧ Q x μ2
  | _, _ => False
theorem d_dix (hu : X.A.units + 64 < cLine) (ho : DE X o fd) (hi : DE X i fk) (hs : NoSl i) : DE X (.Subscript o i pos) (dDix fd fk) :=
  ⟨fun B => PE.weak (Vd.pe_ix hu (ho.run B) (hi.run B) hs) fun σ H Q ⟨hv, hx, ρ, μ, Q0, hl, R, q, low⟩ => by
    refine ⟨hv, hx, ρ, μ, _, hl, R, q, fun d μ1 q1 v H1 R1 => ⟨_ :: hv, _ :: hx, ρ, μ1, _, by simp [hl], R1, q1, fun y μ2 q2 u H2 R2 => ?_⟩⟩
    match d, y, q2, R2 with
    | .ptr a, .dat dk, q2, R2 =>
      obtain ⟨kvs, k, x, h, ek, ok, hx, q2⟩ := q2
      obtain ⟨ks, D, pr⟩ := h.at R2
      cases (R2.tail.head : v = .ref a)
      rcases look_rel pr k with ⟨_, e2⟩ | ⟨w, x', e1, e2, rv⟩
      · rw [e2] at hx; cases hx
      · rw [e2] at hx
        cases hx
        exact ⟨a, ks, k, w, rfl, D, ok, (keyAt_of dk u k R2.head ek).keep fun a xs e => fz_le _ _ e, e1, low _ _ q2 _ _ (R2.tail.tail.cons rv)⟩⟩
abbrev dDin (g : Bool → Bool) (fk fd : DTE) : DTE := fun ρ μ Q => fk ρ μ fun y μ1 => fd ρ μ1 fun d μ2 => match d, y with
  | .ptr a, .dat dk => ∃ kvs k, DvAt μ2 a kvs ∧ keyD dk = some k ∧ Vd.KeyOk k ∧ Q (.dat (.bool (g (lookZ kvs k).isSome))) μ2
  | _, _ => False
theorem look_some {K : PySem.W.Frag} {Z : Hp} {ks : List Vd.KVR} {kvs : List (NestedKey × Val)} (h : Paired (RK K Z) ks kvs) (k : NestedKey) : (Vd.lookV ks k).isSome = (lookZ kvs k).isSome := by
  rcases look_rel h k with ⟨e1, e2⟩ | ⟨v, x, e1, e2, _⟩ <;> rw [e1, e2] <;> rfl
theorem dt_din (hu : X.A.units + 64 < cLine) (hi : DE X i fk) (ho : DE X o fd) (hm : behindInMarks .In o = false := by rfl) : DT X (.Compare i [.In] [o] pos) (dB (dDin id fk fd)) :=
  ⟨fun B => PT.weak (pt_cmp (Vd.pc_in hu (hi.run B) (ho.run B)) hm) fun σ H Q ⟨hv, hx, ρ, μ, Q0, hl, R, q, low⟩ => by
    refine ⟨hv, hx, ρ, μ, _, hl, R, q, fun y μ1 q1 v H1 R1 => ⟨_ :: hv, _ :: hx, ρ, μ1, _, by simp [hl], R1, q1, fun d μ2 q2 u H2 R2 => ?_⟩⟩
    match d, y, q2, R2 with
    | .ptr a, .dat dk, q2, R2 =>
      obtain ⟨kvs, k, h, ek, ok, q2⟩ := q2
      obtain ⟨ks, D, pr⟩ := h.at R2
      cases (R2.head : u = .ref a)
      exact ⟨a, ks, k, rfl, D, ok, (keyAt_of dk v k R2.tail.head ek).keep fun a xs e => fz_le _ _ e, _, rfl, by rw [look_some pr]; exact low _ _ q2 _ R2.tail.tail⟩⟩
theorem dt_dnotin (hu : X.A.units + 64 < cLine) (hi : DE X i fk) (ho : DE X o fd) (hm : behindInMarks .NotIn o = false := by rfl) : DT X (.Compare i [.NotIn] [o] pos) (dB (dDin not fk fd)) :=
  ⟨fun B => PT.weak (pt_cmp (Vd.pc_notin hu (hi.run B) (ho.run B)) hm) fun σ H Q ⟨hv, hx, ρ, μ, Q0, hl, R, q, low⟩ => by
    refine ⟨hv, hx, ρ, μ, _, hl, R, q, fun y μ1 q1 v H1 R1 => ⟨_ :: hv, _ :: hx, ρ, μ1, _, by simp [hl], R1, q1, fun d μ2 q2 u H2 R2 => ?_⟩⟩
    match d, y, q2, R2 with
    | .ptr a, .dat dk, q2, R2 =>
      obtain ⟨kvs, k, h, ek, ok, q2⟩ := q2
      obtain ⟨ks, D, pr⟩ := h.at R2
      cases (R2.head : u = .ref a)
      exact ⟨a, ks, k, rfl, D, ok, (keyAt_of dk v k R2.tail.head ek).keep fun a xs e => fz_le _ _ e, _, rfl, by rw [look_some pr]; exact low _ _ q2 _ R2.tail.tail⟩⟩
abbrev dDput (fd fk fv : DTE) : DTS := fun E ρ μ => fv ρ μ fun x μ1 => fd ρ μ1 fun d μ2 => fk ρ μ2 fun y μ3 => match d, y with
  | .ptr a, .dat dk => ∃ (j : Nat) (kvs : List (NestedKey × Val)) (k : NestedKey), μ3[j]? = some (a, Node.dv kvs) ∧ keyD dk = some k ∧ Vd.KeyOk k ∧ kvs.length < sizeLine ∧ E.nx ρ (μ3.set j (a, .dv (putZ kvs k x)))
  | _, _ => False
theorem ds_dput (hu : X.A.units + 64 < cLine) (ho : DE X o fd) (hi : DE X i fk) (hv : DE X value fx) (hs : swapsWith value (some (.Subscript o i pos')) pos.line X.env = pure false) : DS X (.Assign [.Subscript o i pos'] value pos) (dDput fd fk fx) :=
  ⟨fun B => PS.weak (Vd.ps_put hu (ho.run B) (hi.run B) (hv.run B) hs) fun D σ H ⟨ρ, μ, E, R, q, b⟩ => by
    refine ⟨[], [], ρ, μ, _, rfl, R, q, fun x μ1 q1 t H1 R1 => ⟨[_], [_], ρ, μ1, _, rfl, R1, q1, fun d μ2 q2 v H2 R2 => ⟨[_, _], [_, _], ρ, μ2, _, rfl, R2, q2, fun y μ3 q3 u H3 R3 => ?_⟩⟩⟩
    match d, y, q3, R3 with
    | .ptr a, .dat dk, q3, R3 =>
      obtain ⟨j, kvs, k, hj, ek, ok, hlen, q3⟩ := q3
      have R3 : RL X.w X.K B H3 (some u :: some v :: some t :: σ) (some (.dat dk) :: some (.ptr a) :: some x :: ρ) μ3 := R3
      cases (R3.tail.head : v = .ref a)
      obtain ⟨ks3, e3, nd, pr⟩ := R3.at hj
      have hk := keyAt_of dk u k R3.head ek
      have D3 : Vd.DAt X.w H3 a ks3 := ⟨.inl e3, fun p hp => by
        obtain ⟨i, hi, rfl⟩ := List.mem_iff_getElem.mp hp
        have hi2 : i < kvs.length := by rw [← pr.length]; exact hi
        obtain ⟨q, eq, r⟩ := paired_get pr (List.getElem?_eq_getElem hi2)
        rw [List.getElem?_eq_getElem hi] at eq
        cases eq
        exact ⟨r.2.1, r.2.2.1.keep fun a xs e => fz_le _ _ e⟩, nd⟩
      exact ⟨a, ks3, k, rfl, e3, D3, ok, hk.keep fun a xs e => fz_le _ _ e, by rw [pr.length]; exact hlen, b.nx _ _ q3 _ _ (R3.putD hj nd pr ok hk R3.tail.tail.head).tail.tail.tail⟩⟩
/-- a list that nobody changes any more -/
abbrev dFz (f : DTE) : DTE := fun ρ μ Q => f ρ μ fun x μ1 => match x with
  | .ptr a => ∃ (j : Nat) (xs : List Val) (ds : List PyData), μ1[j]? = some (a, Node.lst xs) ∧ datOf xs = some ds ∧ Q (.dat (.list ds)) (μ1.eraseIdx j)
  | _ => False
theorem RL.fz {B : Base} {H : Hp} {σ : List (Option V)} {ρ : DR} {μ : Store} {a : Addr} {v : V} {j : Nat} {xs : List Val} {ds : List PyData} (R : RL X.w X.K B H (some v :: σ) (some (.ptr a) :: ρ) μ) (hj : μ[j]? = some (a, .lst xs)) (hd : datOf xs = some ds) :
    RL X.w X.K B H (some v :: σ) (some (.dat (.list ds)) :: ρ) (μ.eraseIdx j) := by
  have nd := R.nd
  rw [List.map_append, List.nodup_append] at nd
  have pm := perm_get hj
  have nd2 : (((a, Node.lst xs) :: μ.eraseIdx j).map (·.1)).Nodup := nodup_perm pm nd.2.1
  rw [List.map_cons, List.nodup_cons] at nd2
  obtain ⟨R1, g⟩ := R.sub (μ' := μ.eraseIdx j) nd2.2 fun p hp => pm.mem_iff.mpr (List.mem_cons_of_mem _ hp)
  obtain ⟨vs, e, pr⟩ := R.at hj
  cases (R.head : v = .ref a)
  refine R1.tail.cons (.lst (Fz.of (fun z => ?_) e) (DzAll.mono g _ _ (datOf_all pr hd)))
  rw [List.map_append] at z
  rcases List.mem_append.mp z with z | z
  · exact nd.2.2 _ z _ (List.mem_map_of_mem (List.mem_of_getElem? hj)) rfl
  · exact nd2.1 z
theorem d_fz {e : Expr} {f : DTE} (h : DE X e f) : DE X e (dFz f) :=
  ⟨fun B => PE.weak (h.run B) fun σ H Q ⟨hv, hx, ρ, μ, Q0, hl, R, q, low⟩ => by
    refine ⟨hv, hx, ρ, μ, _, hl, R, q, fun x μ1 q1 v H1 R1 => ?_⟩
    match x, q1, R1 with
    | .ptr a, q1, R1 =>
      obtain ⟨j, xs, ds, hj, hd, q1⟩ := q1
      exact low _ _ q1 _ _ (R1.fz hj hd)⟩
end
end Zl
namespace Zl
open PySem PySem.Spec PyProof.Rows L2 Lf
section
variable {X : Cx}
/-! ### a dict is locked while its keys are walked -/
theorem dv_lock {B : Base} {H : Hp} {σ : List (Option V)} {ρ : DR} {μ : Store} {a : Addr} {j : Nat} {kvs : List (NestedKey × Val)} (R : RL X.w X.K B H σ ρ μ) (hj : μ[j]? = some (a, .dv kvs)) :
    ∃ ks : List Vd.KVR, H a = some (Vd.dV X.w a ks) ∧ ∀ od, RL X.w X.K B (upd H a (.frz od (Vd.dV X.w a ks))) σ ρ (μ.set j (a, .dvl od ks kvs)) := by
  obtain ⟨ks, e, nd, pr⟩ := R.at hj
  exact ⟨ks, e, fun od => R.put (n' := .dvl od ks kvs) hj ⟨upd_same, nd, pr⟩⟩
theorem dv_unlock {B : Base} {H : Hp} {σ : List (Option V)} {ρ : DR} {μ : Store} {a : Addr} {j : Nat} {od : Obj} {ks : List Vd.KVR} {kvs : List (NestedKey × Val)} (R : RL X.w X.K B H σ ρ μ) (hj : μ[j]? = some (a, .dvl od ks kvs)) :
    H a = some (.frz od (Vd.dV X.w a ks)) ∧ RL X.w X.K B (upd H a (Vd.dV X.w a ks)) σ ρ (μ.set j (a, .dv kvs)) := by
  obtain ⟨e, nd, pr⟩ := R.at hj
  exact ⟨e, R.put (n' := .dv kvs) hj ⟨ks, upd_same, nd, pr⟩⟩
/-- what is wanted behind the lock -/
def unlk (a : Addr) (od : Obj) (ks : List Vd.KVR) (kvs : List (NestedKey × Val)) (μ : Store) (P : Store → Prop) : Prop := ∃ j : Nat, μ[j]? = some (a, Node.dvl od ks kvs) ∧ P (μ.set j (a, .dv kvs))
abbrev dLock (t : DTS) : DTS := fun E ρ μ => ∃ (a : Addr) (j : Nat) (kvs : List (NestedKey × Val)), μ[j]? = some (a, Node.dv kvs) ∧ ∀ od ks, t { nx := fun ρ' μ' => unlk a od ks kvs μ' (E.nx ρ'), rt := fun x μ' => unlk a od ks kvs μ' (E.rt x), bk := fun ρ' μ' => unlk a od ks kvs μ' (E.bk ρ'), ct := fun ρ' μ' => unlk a od ks kvs μ' (E.ct ρ') } ρ (μ.set j (a, .dvl od ks kvs))
theorem ds_lock {s : Stmt} {t : DTS} (h : DS X s t) : DS X s (dLock t) :=
  ⟨fun B => PS.weak (ps_lock (h.run B)) fun D σ H ⟨ρ, μ, E, R, ⟨a, j, kvs, hj, q⟩, b⟩ => by
    obtain ⟨ks, e, lk⟩ := dv_lock R hj
    refine ⟨a, _, e, trivial, fun od => ⟨ρ, _, _, lk od, q od ks, ⟨fun ρ' μ' ⟨j', h', q'⟩ σ' H' R' => ?_, fun x μ' ⟨j', h', q'⟩ v H' R' => ?_, fun ρ' μ' ⟨j', h', q'⟩ σ' H' R' => ?_, fun ρ' μ' ⟨j', h', q'⟩ σ' H' R' => ?_⟩⟩⟩
    · obtain ⟨e', R2⟩ := dv_unlock R' h'
      exact ⟨e', b.nx _ _ q' _ _ R2⟩
    · obtain ⟨e', R2⟩ := dv_unlock R' h'
      exact ⟨e', b.rt _ _ q' _ _ R2⟩
    · obtain ⟨e', R2⟩ := dv_unlock R' h'
      exact ⟨e', b.bk _ _ q' _ _ R2⟩
    · obtain ⟨e', R2⟩ := dv_unlock R' h'
      exact ⟨e', b.ct _ _ q' _ _ R2⟩⟩
abbrev dLockE (f : DTE) : DTE := fun ρ μ Q => ∃ (a : Addr) (j : Nat) (kvs : List (NestedKey × Val)), μ[j]? = some (a, Node.dv kvs) ∧ ∀ od ks, f ρ (μ.set j (a, .dvl od ks kvs)) fun x μ' => unlk a od ks kvs μ' (Q x)
theorem d_lock {e : Expr} {f : DTE} (h : DE X e f) : DE X e (dLockE f) :=
  ⟨fun B => PE.weak (pe_lock (h.run B)) fun σ H Q ⟨hv, hx, ρ, μ, Q0, hl, R, ⟨a, j, kvs, hj, q⟩, low⟩ => by
    obtain ⟨ks, e, lk⟩ := dv_lock R hj
    refine ⟨a, _, e, trivial, fun od => ⟨hv, hx, ρ, _, _, hl, lk od, q od ks, fun x μ' ⟨j', h', q'⟩ v H' R' => ?_⟩⟩
    obtain ⟨e', R2⟩ := dv_unlock R' h'
    exact ⟨e', low _ _ q' _ _ R2⟩⟩
def keysZ (kvs : List (NestedKey × Val)) : List Val := kvs.map fun p => .dat (datK p.1)
theorem seq_keys {B : Base} {a : Addr} {od : Obj} {ks : List Vd.KVR} {kvs : List (NestedKey × Val)} (len : ks.length = kvs.length) : SeqZ X B (Vd.Itk X.w a od ks) (keysZ kvs) fun μ => ∃ j : Nat, μ[j]? = some (a, Node.dvl od ks kvs) :=
  ⟨fun σ ρ H μ i R ⟨j, hj⟩ hi => by
    unfold keysZ at hi ⊢
    rw [List.length_map] at hi
    obtain ⟨e, nd, pr⟩ := R.at hj
    refine ⟨⟨e, by rw [len]; exact hi⟩, fun x H' y => ?_⟩
    obtain ⟨rfl, p, ep, rfl⟩ := y
    obtain ⟨q, eq, r⟩ := paired_get pr (List.getElem?_eq_getElem hi)
    rw [ep] at eq
    cases eq
    refine ⟨.dat (datK kvs[i].1), by rw [List.getElem?_map, List.getElem?_eq_getElem hi]; rfl, R.cons (x := .dat (datK kvs[i].1)) ?_⟩
    have := dz_key _ _ r.2.2.1
    rw [r.1] at this
    exact this, fun σ ρ H μ R ⟨j, hj⟩ => by
    unfold keysZ
    rw [List.length_map]
    obtain ⟨e, nd, pr⟩ := R.at hj
    exact ⟨e, Nat.le_of_eq len⟩, fun μ q ⟨j, hj⟩ => ⟨j, by rw [List.getElem?_append_left (List.getElem?_eq_some_iff.mp hj).1]; exact hj⟩⟩
/-- over the keys of a locked dict -/
abbrev dKeys (f : DTE) : DTI := fun ρ μ Q => f ρ μ fun x μ1 => match x with
  | .ptr a => ∃ (j : Nat) (od : Obj) (ks : List Vd.KVR) (kvs : List (NestedKey × Val)), μ1[j]? = some (a, Node.dvl od ks kvs) ∧ Q (keysZ kvs) (fun μ => ∃ j : Nat, μ[j]? = some (a, Node.dvl od ks kvs)) μ1
  | _ => False
theorem di_keys {tg e : Expr} {f : DTE} (h : DE X e f) : DI X tg e (dKeys f) :=
  ⟨fun B => PI.weak (Vd.pi_keys (h.run B)) fun σ H R ⟨hv, hx, ρ, μ, Q0, hl, R0, q, low⟩ => by
    refine ⟨hv, hx, ρ, μ, _, hl, R0, q, fun x μ1 q1 v H1 R1 => ?_⟩
    match x, q1, R1 with
    | .ptr a, q1, R1 =>
      obtain ⟨j, od, ks, kvs, hj, q1⟩ := q1
      obtain ⟨e, nd, pr⟩ := R1.at hj
      cases (R1.head : v = .ref a)
      exact ⟨a, od, ks, rfl, e, low _ _ _ q1 _ _ R1.tail (seq_keys pr.length)⟩⟩
/-! ### {k: v for .. in ..} -/
abbrev dDc (fi : DTI) (put : Val → DR → Option DR) (ft : DTT) (fk fe : DTE) (vs : List Nat) : DTE := fun ρ μ Q => fi ρ μ fun ys ok μ1 => ∃ I : Nat → List (NestedKey × Val) → Store → Prop, I 0 [] μ1 ∧ (∀ n acc μ, n ≤ ys.length → I n acc μ → ok μ) ∧
  (∀ n y acc μ, ys[n]? = some y → I n acc μ → ∃ ρ2, put y (wipeZ ρ vs) = some ρ2 ∧ ft ρ2 μ fun b μ2 => if b = true then fk ρ2 μ2 fun kx μ3 => fe ρ2 μ3 fun x μ4 => match kx with
      | .dat dk => ∃ k, keyD dk = some k ∧ Vd.KeyOk k ∧ acc.length < sizeLine ∧ ∃ μ5, List.Sublist μ5 μ4 ∧ I (n + 1) (putZ acc k x) μ5
      | _ => False
    else ∃ μ5, List.Sublist μ5 μ2 ∧ I (n + 1) acc μ5) ∧
  ∀ acc μ, I ys.length acc μ → ∀ p, Q (.ptr p) (μ ++ [(p, .dv acc)])
theorem dc_up {B : Base} {fi : DTI} {put : Val → DR → Option DR} {ft : DTT} {fk fe : DTE} {vs : List Nat} {g : TG} (hg : PutOk X g vs put) {σ : L2.St} {H : Hp} {Q : VK} (q : up X B (dDc fi put ft fk fe vs) σ H Q) :
    Vd.tDc X.w (upI X B fi) g (fun σ H Q => ∃ B', upT X B' ft σ H Q) (fun σ H Q => ∃ B', up X B' fk σ H Q) (fun σ H Q => ∃ B', up X B' fe σ H Q) vs σ H Q := by
  obtain ⟨hv, hx, ρ, μ, Q0, hl, R0, q, low⟩ := q
  refine ⟨hv, hx, ρ, μ, _, hl, R0, q, fun ys ok μ1 q J H1 R1 sz D hD => ?_⟩
  obtain ⟨I, i0, iok, turn, fin⟩ := q
  have Rf := R1.firm
  refine ⟨fun k m H' => m = ys.length - k ∧ k ≤ ys.length ∧ ∃ acc μ', RL X.w X.K (firm B μ1 H1) H' (hv ++ σ) (hx ++ ρ) (μ' ++ [(D, .dv acc)]) ∧ I k acc μ', ⟨ys.length, by simp, Nat.zero_le _, [], μ1, Rf.new (n := .dv []) hD ⟨[], upd_same, .nil, .nil⟩, i0⟩, ?_⟩
  rintro k m H' ⟨rfl, hk, acc, μ', R', i'⟩
  have kk := iok k acc μ' hk i'
  by_cases c : k < ys.length
  · obtain ⟨go, step⟩ := sz.go _ _ _ _ _ R' (sz.more _ _ kk) c
    refine .inr ⟨go, fun H2 => ∃ acc μ2, RL X.w X.K (firm B μ1 H1) H2 (hv ++ σ) (hx ++ ρ) (μ2 ++ [(D, .dv acc)]) ∧ I (k + 1) acc μ2, fun H2 ⟨acc, μ2, h⟩ => ⟨ys.length - (k + 1), by omega, rfl, c, acc, μ2, h⟩, fun x H2 y => ?_⟩
    obtain ⟨z, ez, R2⟩ := step x H2 y
    obtain ⟨ρ2, e2, q2⟩ := turn k z acc μ' ez i'
    have Rh := R2.hide
    have pw : Paired (RVo X.K (Fz (((firm B μ1 H1).fr ++ [(D, Node.dv acc)]) ++ μ') H2)) (wipe σ vs) (wipeZ ρ vs) := wipe_pair (paired_split hl Rh.tail.sl).2 vs
    have Rw : RL X.w X.K ⟨(firm B μ1 H1).hp, (firm B μ1 H1).fr ++ [(D, .dv acc)]⟩ H2 (some x :: ((hv ++ σ) ++ wipe σ vs)) (some z :: ((hx ++ ρ) ++ wipeZ ρ vs)) μ' := Rh.slots (.cons Rh.head (paired_app Rh.tail.sl pw))
    have ll : (hv ++ σ).length = (hx ++ ρ).length := Rh.tail.sl.length
    refine hg _ σ ρ ρ2 H2 μ' x z (hv ++ σ) (hx ++ ρ) _ ll Rw e2 fun σ2 ew R3 => ⟨ew, _, hv ++ σ, hx ++ ρ, ρ2, μ', _, ll, R3, q2, fun b μ2 q3 H3 R4 => ?_⟩
    cases b with
    | false =>
      obtain ⟨μ5, s5, q3⟩ := q3
      exact ⟨acc, μ5, RL.show (B := firm B μ1 H1) ((R4.less s5).slots (paired_split ll (R4.less s5).sl).1), q3⟩
    | true =>
      refine ⟨_, hv ++ σ, hx ++ ρ, ρ2, μ2, _, ll, R4, q3, fun kx μ3 q4 vk H4 R5 => ⟨_, some vk :: (hv ++ σ), some kx :: (hx ++ ρ), ρ2, μ3, _, by rw [List.length_cons, List.length_cons, ll], R5, q4, fun u μ4 q5 v H5 R6 => ?_⟩⟩
      match kx, q5, R6 with
      | .dat dk, q5, R6 =>
        obtain ⟨kk, ek, okk, hlen, μ6, s6, q5⟩ := q5
        have R7 : RL X.w X.K (firm B μ1 H1) H5 (some v :: some vk :: (hv ++ σ)) (some u :: some (.dat dk) :: (hx ++ ρ)) (μ4 ++ [(D, .dv acc)]) := RL.show (R6.slots (.cons R6.head (.cons R6.tail.head (paired_split ll R6.tail.tail.sl).1)))
        have hj : (μ4 ++ [(D, Node.dv acc)])[μ4.length]? = some (D, .dv acc) := by simp
        obtain ⟨ks, eD, nd, pr⟩ := R7.at hj
        obtain ⟨_, D3, _⟩ := (DvAt.own _ hj).at R7
        have hkey := keyAt_of dk vk kk R7.tail.head ek
        have D3 : Vd.DAt X.w H5 D ks := ⟨.inl eD, fun p hp => by
          obtain ⟨i, hi, rfl⟩ := List.mem_iff_getElem.mp hp
          have hi2 : i < acc.length := by rw [← pr.length]; exact hi
          obtain ⟨q, eq, r⟩ := paired_get pr (List.getElem?_eq_getElem hi2)
          rw [List.getElem?_eq_getElem hi] at eq
          cases eq
          exact ⟨r.2.1, r.2.2.1.keep fun a xs e => fz_le _ _ e⟩, nd⟩
        refine ⟨ks, kk, eD, D3, okk, hkey.keep fun a xs e => fz_le _ _ e, by rw [pr.length]; exact hlen, putZ acc kk u, μ6, ?_, q5⟩
        have := R7.putD hj nd pr okk hkey R7.head
        rw [set_last] at this
        exact this.tail.tail.less (s6.append (.refl _))
  · have e : k = ys.length := by omega
    subst e
    exact .inl ⟨sz.stop _ _ _ _ R' (sz.more _ _ kk), low _ _ (fin acc μ' i' D) _ _ ((R1.back R').cons rfl)⟩
theorem d_dc {kx vx tg iter : Expr} {ifs : List Expr} {scope : Scope} {own : List (Str × Nat)} {pos : Pos} {fi : DTI} {put : Val → DR → Option DR} {ft : DTT} {fk fe : DTE} (hu : X.A.units + 64 < cLine) (hc : X.calm = true) (hN : X.N.Nodup) (hi : DI X tg iter fi) (ok : BlkOk X.N X.env.scope scope own)
    {g : TG} (hp : PutOk X g (own.map (·.2)) put)
    (hg : ∀ (s : Shared) (H : Hp) (C : Addr) (cl : List (Str × Addr)) (fp : List Addr), PG (X.blk s H scope (compEnvC scope cl C X.env) fp) tg g) (ht : ∀ (s : Shared) (H : Hp) (C : Addr) (cl : List (Str × Addr)) (fp : List Addr), DTs (X.blk s H scope (compEnvC scope cl C X.env) fp) ifs ft)
    (hk : ∀ (s : Shared) (H : Hp) (C : Addr) (cl : List (Str × Addr)) (fp : List Addr), DE (X.blk s H scope (compEnvC scope cl C X.env) fp) kx fk)
    (he : ∀ (s : Shared) (H : Hp) (C : Addr) (cl : List (Str × Addr)) (fp : List Addr), DE (X.blk s H scope (compEnvC scope cl C X.env) fp) vx fe) (hs : ∀ x, foldedSetIterable iter X.env x = pure x := by intro _; rfl) :
    DE X (.DictComp kx vx [⟨tg, iter, ifs, 0⟩] scope pos) (dDc fi put ft fk fe (own.map (·.2))) :=
  ⟨fun B => PE.weak (Vd.pe_dc (tt := fun σ H Q => ∃ B', upT X B' ft σ H Q) (tk := fun σ H Q => ∃ B', up X B' fk σ H Q) (tv := fun σ H Q => ∃ B', up X B' fe σ H Q) hu hc hN (hi.run B) ok hg (fun s H C cl fp => PTs.ex fun B' => (ht s H C cl fp).run B') (fun s H C cl fp => PE.ex fun B' => (hk s H C cl fp).run B') (fun s H C cl fp => PE.ex fun B' => (he s H C cl fp).run B') hs) fun σ H Q q => dc_up hp q⟩
end
end Zl
/-! list.extend of a tuple. -/
namespace Zl
open PySem PySem.Spec PyProof.Rows L2 Lf
set_option maxRecDepth 100000 in
theorem ext_tup (p q : Addr) (xs ys : Array Value) (c c2 : Nat) (dd : Option Addr) (sl : Array (Option Value)) (h0 : ¬(!xs.isEmpty && Builtin.List.listTooLong (xs.size + ys.size)) = true) (h1 : xs.size ≤ sizeLine) (h2 : xs.size + ys.size ≤ sizeLine + 1) :
    Meets (Builtin.«list.extend» ⟨[.ref p, .ref q], []⟩) fun _ T z => z.heap.get? p = some { cls := .type "list", dict := none, data := .seq xs c, slots := #[] } ∧ z.heap.get? q = some { cls := .type "tuple", dict := dd, data := .seq ys c2, slots := sl } ∧
      T (.ok (.ret Value.none)) { z with heap := z.heap.update p (Obj.mapSeq fun m => m ++ ys), toks := z.toks } :=
  .of_wp fun pr wo Ar T z h => by
    obtain ⟨h3, h4, h5, h6, h7⟩ := z
    obtain ⟨e1, e2, fin⟩ := h
    have i1 := PySem.AutoSeq1.idx_int
    have i2 := PySem.AutoSeq1.sub_tuple_tuple
    have i3 := PySem.AutoSeq1.sub_list_list
    have i4 := PySem.AutoSeq1.sub_tuple_list
    have i5 := PySem.AutoSeq1.sub_list_tuple
    have big : (xs ++ ys).size ≤ sizeLine + 1 := by rw [Array.size_append]; exact h2
    wp_walk using (wpAny_updateSeq e1 rfl (hz := h1) (_hz' := big)), wpAny_loadPart' e1, wpAny_loadPart' e2
    exact ⟨_, rfl, fin⟩
section
variable {X : Cx}
def rExtT (K : PySem.W.Frag) : V → List V → Hp → VK → Prop := fun x vs H Q => ∃ l b xs ys, x = .ref l ∧ vs = [.ref b] ∧ H l = some (.lst xs) ∧ SqT K H b ys ∧ xs.length + ys.length ≤ sizeLine ∧ Q .non (upd H l (.lst (xs ++ ys)))
theorem mt_extT : MtR X "list.extend" (rExtT X.K) := by
  intro pins z σ H x vs v us Q J rx rv h
  obtain ⟨l, b, xs, ys, rfl, rfl, hl, hb, big, q⟩ := h
  obtain rfl : v = .ref l := rx
  obtain ⟨u, rfl, ru⟩ := rv.one
  obtain rfl : u = .ref b := ru
  obtain ⟨_, its, n, r1, len, e1⟩ := J.lstM hl
  obtain ⟨jts, r2, ⟨⟨cl, dd, da, sl⟩, e2, ec, m, ed⟩, _⟩ := J.tuple hb
  simp only at ec ed
  subst ec ed
  have l2 := r2.length
  have small : its.toArray.size + jts.toArray.size ≤ sizeLine := by
    rw [List.size_toArray, List.size_toArray, ← len, ← l2]
    exact big
  have no : ¬ (!its.toArray.isEmpty && Builtin.List.listTooLong (its.toArray.size + jts.toArray.size)) = true := by
    rw [notLongL small, Bool.and_false]
    exact Bool.false_ne_true
  refine call_meets F.slot_list_extend ⟨_, e1, rfl⟩ F.entry_list_extend (F.args_list_extend_2 _ _) (ext_tup l b its.toArray jts.toArray n m dd sl no (by omega) (by omega)) ⟨e1, e2, ?_⟩
  refine ⟨.non, _, J.lset (its' := its ++ jts) hl e1 (by simp) (r1.append r2) ?_, rfl, q⟩
  rw [List.length_append]
  omega
/-- a list is extended by a list or a tuple -/
def zExtend2 : Val → List Val → Store → DK → Prop := fun x xs μ Q => match x, xs with
  | .ptr a, [.dat (.tuple ds)] => ∃ (j : Nat) (ys : List Val), μ[j]? = some (a, Node.lst ys) ∧ ys.length + ds.length ≤ sizeLine ∧ Q (.dat .none) (μ.set j (a, .lst (ys ++ ds.map .dat)))
  | x, xs => zExtend x xs μ Q
theorem me_extend2 : MeZ X "list.extend" zExtend2 := ⟨_, MtR.or (show MtR X "list.extend" rExtend from mt_extend) mt_extT, fun B σ ρ H μ v x vs xs Q0 Q l R q low => by
  unfold zExtend2 at q
  split at q
  · obtain ⟨j, ys, hj, hl, q⟩ := q
    obtain ⟨u, rfl, R⟩ := one_arg' l R
    obtain ⟨us, e, pr⟩ := R.at hj
    cases (R.tail.head : v = .ref _)
    have hd := R.head
    cases (hd : Dz _ u (.tuple _)) with
    | tup e1 e2 =>
      exact .inr ⟨_, _, us, _, rfl, rfl, e, SqT.of (fz_le _ _ e1), by rw [pr.length, dzAll_len e2]; exact hl, low _ _ q _ _ ((R.put (n' := .lst (ys ++ _)) hj ⟨_, upd_same, paired_app pr (dz_all e2)⟩).tail.tail.cons .non)⟩
  · refine .inl ?_
    match x, xs, l, R, q with
    | .ptr a, [y], l, R, q =>
      obtain ⟨j, ys, zs, hj, hi, hl, q⟩ := q
      obtain ⟨u, rfl, R⟩ := one_arg' l R
      obtain ⟨us, e, pr⟩ := R.at hj
      obtain ⟨b, ws, rfl, e2, pr2⟩ := hi.at R R.head
      cases (R.tail.head : v = .ref a)
      exact ⟨a, b, us, ws, rfl, rfl, e, e2, by rw [pr.length, pr2.length]; exact hl, low _ _ q _ _ ((R.put (n' := .lst (ys ++ zs)) hj ⟨_, upd_same, paired_app pr pr2⟩).tail.tail.cons .non)⟩⟩
end
end Zl
/-! sorted of tuples told apart by their first items. -/
namespace Zl
open PySem PySem.Spec PyProof.Rows L2 Lf SrtO
mutual
theorem dz_one {Z : Hp} : ∀ (d e : PyData) (v : V), Dz Z v d → Dz Z v e → d = e
  | .none, _, _, h, h' => by cases h; cases h'; rfl
  | .bool b, _, _, h, h' => by cases h; cases h'; rfl
  | .int i, _, _, h, h' => by cases h; cases h'; rfl
  | .str x, _, _, h, h' => by cases h; cases h'; rfl
  | .list ds, e, _, h, h' => by
    cases h with
    | lst h1 h2 =>
      cases h' with
      | lst h3 h4 =>
        rw [h1] at h3
        cases h3
        rw [dzs_one ds _ _ h2 h4]
      | tup h3 h4 =>
        rw [h1] at h3
        cases h3
  | .tuple ds, e, _, h, h' => by
    cases h with
    | tup h1 h2 =>
      cases h' with
      | lst h3 h4 =>
        rw [h1] at h3
        cases h3
      | tup h3 h4 =>
        rw [h1] at h3
        cases h3
        rw [dzs_one ds _ _ h2 h4]
  | .dict _, _, _, h, _ => by cases h
theorem dzs_one {Z : Hp} : ∀ (ds es : List PyData) (vs : List V), DzAll Z vs ds → DzAll Z vs es → ds = es
  | [], _, _, h, h' => by cases h; cases h'; rfl
  | d :: ds, _, _, h, h' => by
    cases h with
    | cons h1 h2 =>
      cases h' with
      | cons h3 h4 => rw [dz_one d _ _ h1 h3, dzs_one ds _ _ h2 h4]
end
section
open Classical
variable {X : Cx}
noncomputable def kOf (Z : Hp) (v : V) : PyData := if h : ∃ d, Dz Z v d then choose h else .none
theorem kOf_eq {Z : Hp} {v : V} {d : PyData} (h : Dz Z v d) : kOf Z v = d := by
  have e : ∃ d, Dz Z v d := ⟨d, h⟩
  unfold kOf
  rw [dif_pos e]
  exact dz_one _ _ _ (choose_spec e) h
theorem map_kOf {Z : Hp} : ∀ {vs : List V} {ds : List PyData}, DzAll Z vs ds → vs.map (kOf Z) = ds
  | _, [], h => by cases h; rfl
  | _, d :: ds, h => by
    cases h with
    | cons h1 h2 => rw [List.map_cons, kOf_eq h1, map_kOf h2]
theorem dzs_mem {Z : Hp} : ∀ {vs : List V} {ds : List PyData}, DzAll Z vs ds → ∀ v ∈ vs, Dz Z v (kOf Z v) ∧ kOf Z v ∈ ds
  | _, [], h, v, hv => by cases h; cases hv
  | _, d :: ds, h, v, hv => by
    cases h with
    | cons h1 h2 =>
      rcases List.mem_cons.mp hv with rfl | hv
      · rw [kOf_eq h1]
        exact ⟨h1, List.mem_cons_self ..⟩
      · exact (dzs_mem h2 v hv).imp id (List.mem_cons_of_mem _)
theorem dzs_of {Z : Hp} : ∀ {vs : List V}, (∀ v ∈ vs, Dz Z v (kOf Z v)) → DzAll Z vs (vs.map (kOf Z))
  | [], _ => .nil
  | v :: vs, h => .cons (h v (List.mem_cons_self ..)) (dzs_of fun u hu => h u (List.mem_cons_of_mem _ hu))
/-- sorted(xs): tuples of an item at least; first items of one kind; what differs is told -/
def zSortedA : List Val → Store → DK → Prop := fun xs μ Q => match xs with
  | [x] => itemsOf μ x fun ys => isL x μ ∧ ∃ (ds : List PyData) (T : Value), datOf ys = some ds ∧ (∀ d ∈ ds, ∃ y r, d = .tuple (y :: r) ∧ PySem.W.dataType y = T) ∧ (∀ d ∈ ds, ∀ e ∈ ds, Sa.Akin d e) ∧ (∀ d ∈ ds, d.depth ≤ 50) ∧
      ∀ p (es : List PyData), es.Perm ds → es.Pairwise (fun x y => PySem.W.dataLt y x = false) → Q (.ptr p) (μ ++ [(p, .lst (es.map .dat))])
  | _ => False
theorem ca_sortedA (hu : X.A.units + 64 < cLine) : CaZ X (.builtin "sorted") zSortedA := ⟨_, Sa.cr_sortedA hu, fun B σ ρ H μ vs xs Q0 Q l R q low => by
  match xs, l, R, q with
  | [x], l, R, q =>
    obtain ⟨v, rfl, R⟩ := one_arg' l R
    obtain ⟨b, ys, hi, il, ds, T, ed, ty, ak, dep, q⟩ := itemsOf_its (P := fun ys => isL x μ ∧ ∃ (ds : List PyData) (T : Value), datOf ys = some ds ∧ (∀ d ∈ ds, ∃ y r, d = .tuple (y :: r) ∧ PySem.W.dataType y = T) ∧ (∀ d ∈ ds, ∀ e ∈ ds, Sa.Akin d e) ∧ (∀ d ∈ ds, d.depth ≤ 50) ∧
      ∀ p (es : List PyData), es.Perm ds → es.Pairwise (fun x y => PySem.W.dataLt y x = false) → Q0 (.ptr p) (μ ++ [(p, Node.lst (es.map .dat))])) q
    obtain ⟨a, us, rfl, hs, pr⟩ := hi.at R R.head
    have hb : b = false := by
      cases hi with
      | t ds => exact il.elim
      | _ => rfl
    subst hb
    have dz := datOf_all pr ed
    have mem := dzs_mem dz
    refine ⟨a, us, kOf (Fz (B.fr ++ μ) H), T, rfl, hs, fun u hu => ?_, fun u hu w hw => ak _ (mem u hu).2 _ (mem w hw).2, fun u hu => dep _ (mem u hu).2, fun ys2 p sr st hp => ?_⟩
    · obtain ⟨m1, m2⟩ := mem u hu
      obtain ⟨y, r, e, t⟩ := ty _ m2
      rw [e] at m1
      cases m1 with
      | tup e1 e2 => exact ⟨_, y, r, rfl, (by rw [e]; exact Dz.dp _ _ (Dz.mono fz_le _ _ (.tup e1 e2))), e, t⟩
    · have dz2 := dzs_of (vs := ys2) fun u hu => (mem u (st.perm.mem_iff.mp hu)).1
      refine low _ _ (q p (ys2.map (kOf (Fz (B.fr ++ μ) H))) ?_ ?_) _ _ ((R.tail.new (n := .lst ((ys2.map (kOf (Fz (B.fr ++ μ) H))).map .dat)) hp ⟨_, upd_same, dz_all dz2⟩).cons rfl)
      · rw [← map_kOf dz]
        exact st.perm.map _
      · rw [List.pairwise_map]
        exact sr⟩
/-- sorted(xs): tuples of an item at least; first items of one kind; what differs is told -/
def zSortedB : List Val → Store → DK → Prop := fun xs μ Q => match xs with
  | [x] => itemsOf μ x fun ys => isL x μ ∧ ∃ (ds : List PyData) (T : Value), datOf ys = some ds ∧ (∀ d ∈ ds, ∃ y r, d = .tuple (y :: r) ∧ PySem.W.dataType y = T) ∧ (∀ d ∈ ds, ∀ e ∈ ds, Sa.Akin3 d e) ∧ (∀ d ∈ ds, d.depth ≤ 50) ∧
      ∀ p (es : List PyData), es.Perm ds → es.Pairwise (fun x y => PySem.W.dataLt y x = false) → Q (.ptr p) (μ ++ [(p, .lst (es.map .dat))])
  | _ => False
theorem ca_sortedB (hu : X.A.units + 64 < cLine) : CaZ X (.builtin "sorted") zSortedB := ⟨_, Sa.cr_sortedB hu, fun B σ ρ H μ vs xs Q0 Q l R q low => by
  match xs, l, R, q with
  | [x], l, R, q =>
    obtain ⟨v, rfl, R⟩ := one_arg' l R
    obtain ⟨b, ys, hi, il, ds, T, ed, ty, ak, dep, q⟩ := itemsOf_its (P := fun ys => isL x μ ∧ ∃ (ds : List PyData) (T : Value), datOf ys = some ds ∧ (∀ d ∈ ds, ∃ y r, d = .tuple (y :: r) ∧ PySem.W.dataType y = T) ∧ (∀ d ∈ ds, ∀ e ∈ ds, Sa.Akin3 d e) ∧ (∀ d ∈ ds, d.depth ≤ 50) ∧
      ∀ p (es : List PyData), es.Perm ds → es.Pairwise (fun x y => PySem.W.dataLt y x = false) → Q0 (.ptr p) (μ ++ [(p, Node.lst (es.map .dat))])) q
    obtain ⟨a, us, rfl, hs, pr⟩ := hi.at R R.head
    have hb : b = false := by
      cases hi with
      | t ds => exact il.elim
      | _ => rfl
    subst hb
    have dz := datOf_all pr ed
    have mem := dzs_mem dz
    refine ⟨a, us, kOf (Fz (B.fr ++ μ) H), T, rfl, hs, fun u hu => ?_, fun u hu w hw => ak _ (mem u hu).2 _ (mem w hw).2, fun u hu => dep _ (mem u hu).2, fun ys2 p sr st hp => ?_⟩
    · obtain ⟨m1, m2⟩ := mem u hu
      obtain ⟨y, r, e, t⟩ := ty _ m2
      rw [e] at m1
      cases m1 with
      | tup e1 e2 => exact ⟨_, y, r, rfl, (by rw [e]; exact Dz.dp _ _ (Dz.mono fz_le _ _ (.tup e1 e2))), e, t⟩
    · have dz2 := dzs_of (vs := ys2) fun u hu => (mem u (st.perm.mem_iff.mp hu)).1
      refine low _ _ (q p (ys2.map (kOf (Fz (B.fr ++ μ) H))) ?_ ?_) _ _ ((R.tail.new (n := .lst ((ys2.map (kOf (Fz (B.fr ++ μ) H))).map .dat)) hp ⟨_, upd_same, dz_all dz2⟩).cons rfl)
      · rw [← map_kOf dz]
        exact st.perm.map _
      · rw [List.pairwise_map]
        exact sr⟩
end
end Zl
/-! x[::-1]; a law's own def where it is entered. -/
namespace Zl
open PySem PySem.Spec PyProof.Rows L2 Lf
section
variable {X : Cx}
abbrev dRev (f : DTE) : DTE := fun ρ μ Q => f ρ μ fun x μ1 => isL x μ1 ∧ itemsOf μ1 x fun ys => ∀ p, Q (.ptr p) (μ1 ++ [(p, .lst ys.reverse)])
theorem itemsOf_and {μ : Store} {x : Val} {P : List Val → Prop} (h1 : isL x μ) (h : itemsOf μ x P) : ∃ xs, Its μ x false xs ∧ P xs := by
  obtain ⟨b, xs, hi, p⟩ := itemsOf_its h
  cases b with
  | false => exact ⟨xs, hi, p⟩
  | true =>
    cases hi with
    | t ds => exact h1.elim
theorem d_rev {e : Expr} {f : DTE} {k : Nat} {p1 p2 p3 pos : Pos} (h : DE X e f) : DE X (.Subscript e (.Slice none none (some (.UnaryOp .USub (.Constant (.int 1) k p1) p2)) p3) pos) (dRev f) :=
  ⟨fun B => PE.weak (pe_revL (h.run B)) fun σ H Q ⟨hv, hx, ρ, μ, Q0, l0, R, q, low⟩ => by
    refine ⟨hv, hx, ρ, μ, _, l0, R, q, fun x μ1 q1 v H1 R1 => ?_⟩
    obtain ⟨xs, hi, q2⟩ := itemsOf_and q1.1 q1.2
    obtain ⟨a, us, rfl, hs, pr⟩ := hi.at R1 R1.head
    exact ⟨a, us, rfl, hs, fun p hp => low _ _ (q2 p) _ _ ((R1.tail.new (n := .lst xs.reverse) hp ⟨_, upd_same, paired_reverse pr⟩).cons rfl)⟩⟩
end
theorem str_same {g : Bool → Bool} {a : Str} {μ : Store} {Q : DK} (h : Q (.dat (.bool (g true))) μ) : zEqq g (.dat (.str a)) (.dat (.str a)) μ Q := by
  have e : decide (a = a) = true := decide_eq_true rfl
  show Q (.dat (.bool (g (decide (a = a))))) μ
  rw [e]
  exact h
theorem runZ {A : Around} {P : Program} {w : World} {K : PySem.W.Frag} {mg : Str → Option Value} {base : Heap} {x qual : Str} {st : Stmt} {f : Addr} {fd : FuncData} {N ps : List Str} {k : Nat} {F : DSp} (FF : Fun K x qual st f fd) (S : FnScope N ps (defScope st))
    (rm : Room (k + 1) A) (len : ∀ xs μ Q, F xs μ Q → xs.length = ps.length)
    (body : ∀ (cdv : Value) (outer : List Env) (s : Shared) (H : Hp) (E : XK), Room k (A.deeper (envOfC qual (defScope st) s.heap.objs.size f cdv)) →
      ∃ t : DTS, DSs (cxOf CX0 P w K mg base N qual (defScope st) f cdv A outer s H E).nox (defBody st) t ∧ ∀ xs μ Q, F xs μ Q → t (dEnd Q) (startZ N xs) μ) : Gd.RunAt A P w K mg base f fd ps (spZ w K F) := by
  refine Gd.runAt FF S rm (fun vs H Q E h => ?_) fun cdv outer s H vs Q E h => ?_
  · obtain ⟨B, xs, μ, Q0, l, _, h, _⟩ := h
    rw [l]
    exact len _ _ _ h
  · obtain ⟨B, xs, μ, Q0, l, R, h, low⟩ := h
    obtain ⟨t, d, q⟩ := body cdv outer s H E (rm.deeper _)
    refine ⟨_, (d.run B), startZ N xs, μ, dEnd Q0, ?_, q xs μ Q0 h, ?_⟩
    · refine R.slots ?_
      unfold L2.start startZ
      rw [l]
      exact paired_app R.sl (paired_none _)
    · exact ⟨fun ρ μ ⟨μ', h, q⟩ σ H R => low _ _ q _ _ ((R.less h).slots (.cons .non .nil)), fun x μ ⟨μ', h, q⟩ v H R => low _ _ q _ _ (R.less h), fun _ _ q => q.elim, fun _ _ q => q.elim⟩
theorem law_sp {w : World} {K : PySem.W.Frag} {F : DSp} {H : Hp} {a : Addr} {ns : List Int} {E : XK} (h : F [.scr ns] [] fun x _ => x = .dat (.bool true)) (hS : SqL K H a (ns.map V.int)) : spZ w K F [.ref a] H (fun v _ => v = .bl true) E := by
  have g : ∀ x o, H x = some o → Fz ([] ++ []) H x = some o := fun x o e => Fz.of (by simp) e
  refine ⟨⟨fun _ => none, []⟩, _, _, _, rfl, ⟨by simp, fun x o e => (by cases e), .cons ⟨a, rfl, sqL_mono g hS⟩ .nil, fun p hp => (by cases hp)⟩, h, fun x μ' e v H' R => ?_⟩
  subst e
  cases (R.head : Dz _ v (.bool true))
  rfl
end Zl
/-! repr(None); x = {..} on one line. -/
namespace Zl
open PySem PySem.Spec PyProof.Rows L2 Lf
section
variable {X : Cx}
theorem call_repr_none : CallR X (.builtin "repr") (fun xs H Q => xs = [.non] ∧ Q (.str "None") H) := by
  intro pins s σ H xs us Q I r h
  obtain ⟨rfl, q⟩ := h
  obtain ⟨u, rfl, t⟩ := vals1 r
  cases (t : u = .none)
  exact PySem.P.repr_of_none ⟨.str _, H, I.tok _, ⟨_, rfl⟩, q⟩
/-- repr of lists, tuples and None -/
def zRepr2 : List Val → Store → DK → Prop := fun xs μ Q => match xs with
  | [.dat .none] => Q (.dat (.str "None")) μ
  | xs => zRepr xs μ Q
theorem ca_repr2 (hg : X.A.guards = some []) (hu : X.A.units + 64 < cLine) : CaZ X (.builtin "repr") zRepr2 := by
  obtain ⟨r, h1, h2⟩ := (ca_repr hg hu).ex
  refine ⟨_, CallR.or call_repr_none h1, fun B σ ρ H μ vs xs Q0 Q l R q low => ?_⟩
  unfold zRepr2 at q
  split at q
  · obtain ⟨v, rfl, R⟩ := one_arg' l R
    have hd := R.head
    cases (hd : Dz _ v .none)
    exact .inl ⟨rfl, low _ _ q _ _ (R.tail.cons (.str _))⟩
  · exact .inr (h2 B _ _ _ _ _ _ _ _ l R q low)
theorem ds_setDc {i : Nat} {y : Str} {py : Pos} {kx vx tg iter : Expr} {ifs : List Expr} {scope : Scope} {own : List (Str × Nat)} {pos spos : Pos} {fi : DTI} {put : Val → DR → Option DR} {ft : DTT} {fk fe : DTE} (hu : X.A.units + 64 < cLine) (hc : X.calm = true) (hN : X.N.Nodup) (hy : X.N[i]? = some y) (hyl : X.env.scope.names.lookup y = some .local)
    (hsw : swapsWith (.DictComp kx vx [⟨tg, iter, ifs, 0⟩] scope pos) (some (.Name y py)) spos.line X.env = pure true) (hi : DI X tg iter fi) (ok : BlkOk X.N X.env.scope scope own)
    {g : TG} (hp : PutOk X g (own.map (·.2)) put)
    (hg : ∀ (s : Shared) (H : Hp) (C : Addr) (cl : List (Str × Addr)) (fp : List Addr), PG (X.blk s H scope (compEnvC scope cl C X.env) fp) tg g) (ht : ∀ (s : Shared) (H : Hp) (C : Addr) (cl : List (Str × Addr)) (fp : List Addr), DTs (X.blk s H scope (compEnvC scope cl C X.env) fp) ifs ft)
    (hk : ∀ (s : Shared) (H : Hp) (C : Addr) (cl : List (Str × Addr)) (fp : List Addr), DE (X.blk s H scope (compEnvC scope cl C X.env) fp) kx fk)
    (he : ∀ (s : Shared) (H : Hp) (C : Addr) (cl : List (Str × Addr)) (fp : List Addr), DE (X.blk s H scope (compEnvC scope cl C X.env) fp) vx fe) (hs : ∀ x, foldedSetIterable iter X.env x = pure x := by intro _; rfl) :
    DS X (.Assign [.Name y py] (.DictComp kx vx [⟨tg, iter, ifs, 0⟩] scope pos) spos) (dSet i (dDc fi put ft fk fe (own.map (·.2)))) :=
  ⟨fun B => PS.weak (Vd.ps_setDc (tt := fun σ H Q => ∃ B', upT X B' ft σ H Q) (tk := fun σ H Q => ∃ B', up X B' fk σ H Q) (tv := fun σ H Q => ∃ B', up X B' fe σ H Q) hu hc hN hy hyl hsw (hi.run B) ok hg (fun s H C cl fp => PTs.ex fun B' => (ht s H C cl fp).run B') (fun s H C cl fp => PE.ex fun B' => (hk s H C cl fp).run B') (fun s H C cl fp => PE.ex fun B' => (he s H C cl fp).run B') hs) fun D σ H ⟨ρ, μ, E, R, q, b⟩ =>
    dc_up hp ⟨[], [], ρ, μ, _, rfl, R, q, fun x μ1 q1 v H1 R1 => b.nx _ _ q1 _ _ (RL.into (hv := []) (hx := []) rfl R1 i)⟩⟩
end
end Zl
/-! {k: v, ..}; len(d). -/
namespace Vd
open PySem PySem.Spec PyProof.Rows L2
section
variable {X : Cx}
/-- the pairs put one by one -/
def SPuts (w : World) (p : Addr) : List (V × V) → Hp → VK → Prop
  | [], H, Q => Q (.ref p) H
  | (y, z) :: r, H, Q => ∃ kvs k, H p = some (dV w p kvs) ∧ DAt w H p kvs ∧ KeyOk k ∧ KeyAt H k y ∧ kvs.length < sizeLine ∧ SPuts w p r (upd H p (dV w p (putV kvs k y z))) Q
theorem storeAll_ok {pins : List (Addr × Obj)} {σ : L2.St} {p : Addr} {Q : VK} (hu : X.A.units + 64 < cLine) : ∀ (ps : List (V × V)) (vs : List (Value × Value)) (H : Hp) (s : Shared), Inv X pins σ H s → VV ps vs → SPuts X.w p ps H Q →
    wpAny (model X.prog X.w) X.A (storeAll p vs) (fun _ s' => EP X pins σ Q (.ref p) s') X.xe s
  | [], vs, H, s, I, rel, q => by
    cases rel
    unfold storeAll
    rw [List.forIn_nil]
    exact wpAny_pure ⟨.ref p, H, I, rfl, q⟩
  | yz :: ps, vs, H, s, I, rel, q => by
    obtain ⟨y, z⟩ := yz
    cases rel with
    | @cons _ b _ bs rel t =>
      obtain ⟨kvs, k, hD, D, ok, ky, hl, q⟩ := q
      unfold storeAll
      rw [List.forIn_cons]
      refine wpAny_bind (wpAny_bind (c_put hu I hD D ok ky rel.1 rel.2 hl fun s1 I1 => wpAny_pure ?_))
      exact storeAll_ok hu ps bs _ s1 I1 t q
/-- {k: v, ..}; the new dict stands empty while the pairs are made -/
def tDispV (w : World) (trs : List (TE × TE)) : TE := fun σ H Q => ∀ p, H p = none → tPairs trs σ (upd H p (dV w p [])) fun ps H2 => SPuts w p ps H2 Q
theorem pe_dispV {pos : Pos} {keys : List (Option Expr)} {values : List Expr} {trs : List (TE × TE)} (hu : X.A.units + 64 < cLine) (h : PPs X pos keys values trs) (hall : keys.all (·.isSome) = true) (hl : keys.length = values.length) (h0 : keys ≠ [])
    (h15 : keys.length ≤ 15) : PE X (.Dict keys values pos) (tDispV X.w trs) := by
  refine ⟨fun pins s σ H Q I q => ?_⟩
  have hn := I.hok.fresh (Nat.le_refl s.heap.objs.size)
  have I1 := I.laid (a := s.heap.objs.size) (o := dV X.w s.heap.objs.size []) (h' := s.heap.push { cls := .type "dict", data := .dict #[] }) (t' := s.toks) (fun _ _ q => Heap.get?_push_of_some _ q) (Nat.le_refl _)
    (dV_ok (beq_eq_false_iff_ne.mpr (Ne.symm (Nat.ne_of_lt I.big))) (Nat.zero_le _) .nil (Holds.new s.heap))
  exact wpAny_Dict_any hall hl h0 h15 (thn (h.run pins _ σ _ _ I1 (q _ hn)) fun ws s2 ⟨ps, H2, I2, rel, q2⟩ => storeAll_ok hu ps ws H2 s2 I2 rel q2)
end
end Vd
/-! len(d). -/
namespace Vd
open PySem PySem.Spec PyProof.Rows L2
section
variable {prog : Program} {w : World} {A : Around} {E : Value → Shared → Prop} {s : Shared}
theorem meets_len (d : Addr) (hd : (d == sysModules) = false) :
    MeetsIn prog w (Builtin.«dict.__len__» ⟨[.ref d], []⟩) (fun _ R s => ∃ xs, Holds w s.heap d xs ∧ R (.ok (.ret (.int xs.length s.toks))) { s with toks := s.toks + 1 }) :=
  .of_wp fun A R s ⟨xs, hm, h⟩ => by
    obtain ⟨o, es, ep, ho, hc, hdat, he⟩ := hm
    show wpAny _ _ (dictSize d >>= _) _ _ s
    unfold dictSize
    refine wpAny_bind (wpAny_bind (wpAny_dictEntries ho hdat (wpAny_pure ?_)))
    show wpAny _ _ (Builtin.Dict.pendingCount d >>= _) _ _ s
    refine wpAny_bind (wpAny_pendingCount_other hd ?_)
    refine wpAny_ret_mkInt ?_
    rw [Nat.add_zero, ent_size he]; exact h
theorem len_body {d : Addr} {xs : List Row} {Q : Value → Shared → Prop} (hd : (d == sysModules) = false) (hm : Holds w s.heap d xs) (hfit : (xs.length : Int) < 2 ^ 63)
    (h : Q (.int xs.length (s.toks + 1)) { s with toks := s.toks + 1 + 1 }) : wpAny (model prog w) A (Builtin.«len» ⟨[.ref d], []⟩) (fun fin s' => ∃ r, fin = .done (.ret r) ∧ Q r s') E s := by
  unfold Builtin.«len»
  refine wpAny_bind (m := oneArg "len" _) (wpAny_pure ?_)
  refine wpAny_bind (m := callSpecial? (.ref d) (Str.ofString "__len__")) (wpAny_callSpecial?_slot (name := Str.ofString "__len__") hm.ty F.slot_dict_len
    (call_meetsIn F.slot_dict_len hm.ty F.entry_dict_len (F.args_dict_len_1 _) (meets_len d hd) ⟨xs, hm, ?_⟩))
  show wpAny _ _ _ _ _ { s with toks := s.toks + 1 }
  refine wpAny_bind (wpAny_holding (wpAny_pure ?_))
  refine wpAny_bind (wpAny_letGo ?_)
  show wpAny _ _ (if ((xs.length : Nat) : Int) < 0 then _ else _) _ _ _
  rw [if_neg (by omega)]
  show wpAny _ _ (if ((xs.length : Nat) : Int) ≥ 2 ^ 63 then _ else _) _ _ _
  rw [if_neg (by omega)]
  exact wpAny_bind (wpAny_mkInt (wpAny_pure ⟨_, rfl, h⟩))
end
def rLenV (w : World) : List V → Hp → VK → Prop := fun xs H Q => ∃ (p : Addr) (kvs : List KVR), xs = [.ref p] ∧ DAt w H p kvs ∧ Q (.int ((kvs.length : Nat) : Int)) H
theorem call_lenV {X : Cx} : CallR X (.builtin "len") (rLenV X.w) := by
  intro pins s σ H xs us Q I r h
  obtain ⟨p, kvs, rfl, D, q⟩ := h
  obtain ⟨u, rfl, rx⟩ := vals1 r
  obtain rfl : u = .ref p := rx
  obtain ⟨hd, hz, ys, rel, m, R⟩ := D.out I.hok
  have hl : kvs.length = ys.length := Paired.length rel
  have ez : sizeLine = 16777216 := by decide +kernel
  refine Calls.call_function_entry kind_len plain_len entry_len (args_len1 _) (len_body hd m (by rw [← hl]; omega) ?_)
  exact ⟨.int _, H, I.tok _, ⟨_, by rw [hl]⟩, q⟩
end Vd
/-! Classes: fields, methods, new instances; a stretch of one's own objects is handed over. -/
namespace Zl
open PySem PySem.Spec PyProof.Rows L2 Lf
/-- an own method: its promise, where it stands, how it is called -/
def MCal (P : Program) (w : World) (K : PySem.W.Frag) (mg : Str → Option Value) (base : Heap) (k : Nat) (C : Addr) (m : Str) (ps : List Str) (sp : Sp) : Prop :=
  ∃ (f : Addr) (fd : FuncData), FnOk P w K mg base CX0 k f fd ps sp ∧ Meth K C m f ∧ Binds K fd ps []
/-- an own class: its __init__ -/
def KCal (P : Program) (w : World) (K : PySem.W.Frag) (mg : Str → Option Value) (base : Heap) (k : Nat) (C : Addr) (ps : List Str) (sp : Sp) : Prop :=
  ∃ (f : Addr) (fd : FuncData), FnOk P w K mg base CX0 k f fd ps sp ∧ Mk K C f ∧ Binds K fd ps []
abbrev MCalZ (P : Program) (w : World) (K : PySem.W.Frag) (mg : Str → Option Value) (base : Heap) (k : Nat) (C : Addr) (m : Str) (ps : List Str) (F : DSp) : Prop := MCal P w K mg base k C m ps (spZ w K F)
abbrev KCalZ (P : Program) (w : World) (K : PySem.W.Frag) (mg : Str → Option Value) (base : Heap) (k : Nat) (C : Addr) (ps : List Str) (F : DSp) : Prop := KCal P w K mg base k C ps (spZ w K F)
/-- a stretch of the objects is handed over, and comes back in its place; new ones stand at the end -/
def own (F : DSp) (xs : List Val) (μ : Store) (Q : DK) : Prop := ∃ pre mid post, μ = pre ++ mid ++ post ∧ F xs mid fun x ν => ∃ mid' ext, ν = mid' ++ ext ∧ Q x (pre ++ mid' ++ post ++ ext)
theorem perm_own {pre mid post : Store} : (pre ++ mid ++ post).Perm (mid ++ (pre ++ post)) := by
  rw [← List.append_assoc]
  exact List.perm_append_comm.append_right _
theorem perm_own2 {pre mid post ext : Store} : (pre ++ mid ++ post ++ ext).Perm ((mid ++ ext) ++ (pre ++ post)) := by
  refine (perm_own.append_right ext).trans ?_
  rw [List.append_assoc mid, List.append_assoc mid]
  exact List.perm_append_comm.append_left _
section
variable {X : Cx} {B : Base}
theorem own_call {H : Hp} {σ : List (Option V)} {ρ : DR} {μ1 : Store} {vs : List V} {xs : List Val} {F : DSp} {Q0 : DK} {Q : VK} (l : vs.length = xs.length) (R : RL X.w X.K B H (vs.map some ++ σ) (xs.map some ++ ρ) μ1) (h : own F xs μ1 Q0) (low : Low X B σ ρ Q0 Q) : spZ X.w X.K (Cl F) vs H Q E0 := by
  obtain ⟨pre, mid, post, rfl, f⟩ := h
  refine call_z (F := Cl F) l R (μ0 := mid) (μr := pre ++ post) perm_own ⟨_, f, fun x ν ⟨mid', ext, e, q⟩ => ⟨_, ?_, q⟩⟩ low
  subst e
  exact perm_own2
theorem fld_rel {K : PySem.W.Frag} {Z : Hp} {gs : List (Str × V)} {fs : List (Str × Val)} (h : Paired (RF K Z) gs fs) {f : Str} : (gs.lookup f = none ∧ fs.lookup f = none) ∨ ∃ v y, gs.lookup f = some v ∧ fs.lookup f = some y ∧ RV K Z v y := by
  induction h with
  | nil => exact .inl ⟨rfl, rfl⟩
  | @cons p q _ _ r _ ih =>
    obtain ⟨a, b⟩ := p
    obtain ⟨c, d⟩ := q
    obtain ⟨e1, e2⟩ := r
    dsimp only at e1 e2
    subst e1
    show (List.lookup f ((a, b) :: _) = none ∧ List.lookup f ((a, d) :: _) = none) ∨ _
    by_cases e : f = a
    · subst e
      refine .inr ⟨b, d, ?_, ?_, e2⟩ <;> simp
    · have hb : (f == a) = false := beq_eq_false_iff_ne.mpr e
      simp only [List.lookup, hb]
      exact ih
def putFZ (f : Str) (v : Val) : List (Str × Val) → List (Str × Val)
  | [] => [(f, v)]
  | (g, x) :: r => if g = f then (g, v) :: r else (g, x) :: putFZ f v r
theorem putF_rel {K : PySem.W.Frag} {Z : Hp} {gs : List (Str × V)} {fs : List (Str × Val)} {f : Str} {v : V} {y : Val} (h : Paired (RF K Z) gs fs) (r : RV K Z v y) : Paired (RF K Z) (putF f v gs) (putFZ f y fs) := by
  induction h with
  | nil => exact .cons ⟨rfl, r⟩ .nil
  | @cons p q _ _ r1 t ih =>
    obtain ⟨a, b⟩ := p
    obtain ⟨c, d⟩ := q
    obtain ⟨e1, e2⟩ := r1
    dsimp only at e1 e2
    subst e1
    show Paired _ (if a = f then _ else _) (if a = f then _ else _)
    by_cases e : a = f
    · rw [if_pos e, if_pos e]
      exact .cons ⟨rfl, r⟩ t
    · rw [if_neg e, if_neg e]
      exact .cons ⟨rfl, e2⟩ ih
/-- o.f -/
abbrev dFld (C : Addr) (f : Str) (fo : DTE) : DTE := fun ρ μ Q => fo ρ μ fun x μ1 => match x with
  | .ptr a => ∃ (j : Nat) (dx : Addr) (fs : List (Str × Val)) (y : Val), μ1[j]? = some (a, Node.ins C dx fs) ∧ fs.lookup f = some y ∧ Q y μ1
  | _ => False
variable {C : Addr} {f m x : Str} {o e : Expr} {es : List Expr} {fo fx : DTE} {g : DTA} {p pos apos : Pos} {k : Nat} {ps : List Str} {F : DSp}
theorem d_fld (c : Cls X.K C) (n : NoAttr X.K C f) (ho : DE X o fo) (hb : attributeBase o f X.env (eval o X.env) = eval o X.env := by rfl) : DE X (.Attribute o f pos) (dFld C f fo) :=
  ⟨fun B => PE.weak (pe_fld (ho.run B) hb) fun σ H Q ⟨hv, hx, ρ, μ, Q0, hl, R, q, low⟩ => by
    refine ⟨hv, hx, ρ, μ, _, hl, R, q, fun x μ1 q1 v H1 R1 => ?_⟩
    match x, q1, R1 with
    | .ptr a, q1, R1 =>
      obtain ⟨j, dx, fs, y, hj, hy, q1⟩ := q1
      obtain ⟨gs, e, pr⟩ := R1.at hj
      cases (R1.head : v = .ref a)
      rcases fld_rel pr (f := f) with ⟨_, e2⟩ | ⟨u, y', e1, e2, r⟩
      · rw [e2] at hy; cases hy
      · rw [e2] at hy
        cases hy
        exact ⟨a, C, dx, gs, u, rfl, e, c, n, e1, low _ _ q1 _ _ (R1.tail.cons r)⟩⟩
/-- o.f as a target -/
def gFld (K : PySem.W.Frag) (ta : TE) (f : Str) : TG := fun y σ H Q => ta σ H fun x H2 => ∃ a C dx fs, x = .ref a ∧ H2 a = some (.ins C dx fs) ∧ Cls K C ∧ NoAttr K C f ∧ fs.length < 1000 ∧ Q σ (upd H2 a (.ins C dx (putF f y fs)))
theorem pg_fld {ta : TE} (ho : PE X o ta) (hA : ∀ v, assign (.Attribute o f apos) X.env v = (do
      let ov ← holding [v] (eval o X.env)
      standAt apos.atName
      holding [v, ov] (setAttr ov f v)
      release [v, ov] []) := by intro _; rfl) : PG X (.Attribute o f apos) (gFld X.K ta f) := by
  refine ⟨fun pins s σ H v u Q I r h => ?_⟩
  rw [hA]
  refine wpAny_bind (wpAny_holding (thn (ho.run pins s σ H _ I h) fun ov s1 ⟨x, H1, I1, r1, a, C, dx, fs, ex, ea, c, n, l, q⟩ => ?_))
  subst ex
  obtain rfl : ov = Value.ref a := r1
  refine wpAny_bind (wpAny_standAt (wpAny_bind (wpAny_holding (setattr_ok I1 ea c n l r fun s3 I3 => ?_))))
  exact wpAny_release ⟨σ, _, I3, q⟩
def zgFld (C : Addr) (f : Str) (fo : DTE) : DTG := fun x ρ μ Q => fo ρ μ fun o μ1 => match o with
  | .ptr a => ∃ (j : Nat) (dx : Addr) (fs : List (Str × Val)), μ1[j]? = some (a, Node.ins C dx fs) ∧ fs.length < 1000 ∧ Q ρ (μ1.set j (a, .ins C dx (putFZ f x fs)))
  | _ => False
theorem dg_fld (c : Cls X.K C) (n : NoAttr X.K C f) (ho : DE X o fo) (hA : ∀ v, assign (.Attribute o f apos) X.env v = (do
      let ov ← holding [v] (eval o X.env)
      standAt apos.atName
      holding [v, ov] (setAttr ov f v)
      release [v, ov] []) := by intro _; rfl) : DG X (.Attribute o f apos) (zgFld C f fo) :=
  ⟨fun B => PG.weak (pg_fld (ho.run B) hA) fun v σ H Q ⟨hv, hx, x, ρ, μ, Q0, l, R, q, low⟩ => by
    refine ⟨some v :: hv, some x :: hx, ρ, μ, _, by simp [l], R, q, fun o μ1 q1 vo H1 R1 => ?_⟩
    match o, q1, R1 with
    | .ptr a, q1, R1 =>
      obtain ⟨j, dx, fs, hj, hl, q1⟩ := q1
      obtain ⟨gs, e, pr⟩ := R1.at hj
      cases (R1.head : vo = .ref a)
      exact ⟨a, C, dx, gs, rfl, e, c, n, by rw [pr.length]; exact hl, low _ _ q1 _ _ (R1.put (n' := .ins C dx (putFZ f x fs)) hj ⟨_, upd_same, putF_rel pr R1.tail.head⟩).tail.tail⟩⟩
/-- o.m(..) -/
abbrev dMeth (C : Addr) (m : Str) (F : DSp) (fo : DTE) (g : DTA) : DTE := fun ρ μ Q => fo ρ μ fun x μ1 => match x with
  | .ptr a => (∃ (j : Nat) (dx : Addr) (fs : List (Str × Val)), μ1[j]? = some (a, Node.ins C dx fs) ∧ fs.lookup m = none) ∧ g ρ μ1 fun xs μ2 => own F (.ptr a :: xs) μ2 Q
  | _ => False
theorem cal_clM {P : Program} {w : World} {K : PySem.W.Frag} {mg : Str → Option Value} {base : Heap} (M : MCalZ P w K mg base k C m ps F) : MCalZ P w K mg base k C m ps (Cl F) := by
  obtain ⟨f, fd, h1, h2⟩ := M
  refine ⟨f, fd, h1.imp fun vs H Q E h => ?_, h2⟩
  obtain ⟨B, xs, μ, Q0, l, R, ⟨Q', f', m⟩, low⟩ := h
  exact ⟨B, xs, μ, Q', l, R, f', fun x ν q => low x ν (m _ _ q)⟩
theorem cal_clK {P : Program} {w : World} {K : PySem.W.Frag} {mg : Str → Option Value} {base : Heap} (M : KCalZ P w K mg base k C ps F) : KCalZ P w K mg base k C ps (Cl F) := by
  obtain ⟨f, fd, h1, h2⟩ := M
  refine ⟨f, fd, h1.imp fun vs H Q E h => ?_, h2⟩
  obtain ⟨B, xs, μ, Q0, l, R, ⟨Q', f', m⟩, low⟩ := h
  exact ⟨B, xs, μ, Q', l, R, f', fun x ν q => low x ν (m _ _ q)⟩
theorem meth_up {sp : Sp} {σ : List (Option V)} {H : Hp} {Q : VK} (q : up X B (dMeth C m F fo g) σ H Q) (hsp : sp = spZ X.w X.K (Cl F)) : tMeth C m sp [] E0 (up X B fo) (upA X B g) σ H Q := by
  subst hsp
  obtain ⟨hv, hx, ρ, μ, Q0, hl, R, q, low⟩ := q
  refine ⟨hv, hx, ρ, μ, _, hl, R, q, fun x μ1 q1 v H1 R1 => ?_⟩
  match x, q1, R1 with
  | .ptr a, q1, R1 =>
    obtain ⟨⟨j, dx, fs, hj, hn⟩, q1⟩ := q1
    obtain ⟨gs, e, pr⟩ := R1.at hj
    cases (R1.head : v = .ref a)
    have hn' : gs.lookup m = none := by
      rcases fld_rel pr (f := m) with ⟨e1, _⟩ | ⟨_, _, _, e2, _⟩
      · exact e1
      · rw [e2] at hn; cases hn
    refine ⟨a, dx, gs, rfl, e, hn', some (.ref a) :: hv, some (.ptr a) :: hx, ρ, μ1, _, by simp [hl], R1, q1, fun xs μ2 q2 vs H2 l R2 => ?_⟩
    show spZ X.w X.K (Cl F) (V.ref a :: (vs ++ [])) H2 Q E0
    rw [List.append_nil]
    exact own_call (vs := .ref a :: vs) (xs := .ptr a :: xs) (by simp [l]) (RL.turn (by simp [l]) R2) q2 low
theorem d_meth {pl : Sem Bool} (M : MCalZ X.prog X.w X.K X.mg X.base k C m ps F) (c : Cls X.K C) (hr : Room k X.A) (ho : DE X o fo) (ha : DA X (e :: es) g)
    (hst : starEach (e :: es) X.env = (false, eval e X.env) :: starEach es X.env := by rfl) (hpl : (backTo pos (starEach es X.env)).any (·.1) = false := by rfl)
    (ht : eval (.Call (.Attribute o m apos) (e :: es) [] pos) X.env = (do
      let ov ← eval o X.env
      standAt apos.atName
      let (f, first) ← holding [ov] (getMethod ov m pl)
      callWith pos f first (backTo pos (starEach (e :: es) X.env)) (backToKw pos (keywordEach [] X.env))) := by rfl) :
    DE X (.Call (.Attribute o m apos) (e :: es) [] pos) (dMeth C m F fo g) := by
  obtain ⟨f, fd, Fn, hm, hb⟩ := cal_clM M
  exact ⟨fun B => PE.weak (pe_meth (ho.run B) c hm Fn hr hb .nil pass0 (ha.run B) hst hpl ht) fun _ _ _ q => meth_up q rfl⟩
theorem d_meth0 {pl : Sem Bool} (M : MCalZ X.prog X.w X.K X.mg X.base k C m ps F) (c : Cls X.K C) (hr : Room k X.A) (ho : DE X o fo)
    (ht : eval (.Call (.Attribute o m apos) [] [] pos) X.env = (do
      let ov ← eval o X.env
      standAt apos.atName
      let (f, first) ← holding [ov] (getMethod ov m pl)
      callWith pos f first (backTo pos (starEach [] X.env)) (backToKw pos (keywordEach [] X.env))) := by rfl) :
    DE X (.Call (.Attribute o m apos) [] [] pos) (dMeth C m F fo dNil) := by
  obtain ⟨f, fd, Fn, hm, hb⟩ := cal_clM M
  exact ⟨fun B => PE.weak (pe_meth0 (ho.run B) c hm Fn hr hb .nil pass0 ht) fun σ H Q q => by
    have := meth_up q rfl
    obtain ⟨hv, hx, ρ, μ, Q0, hl, R, q, low⟩ := this
    refine ⟨hv, hx, ρ, μ, Q0, hl, R, q, fun x μ1 q1 v H1 R1 => ?_⟩
    obtain ⟨a, dx, fs, e1, e2, e3, hv2, hx2, ρ2, μ2, Q2, hl2, R2, q2, low2⟩ := low x μ1 q1 v H1 R1
    exact ⟨a, dx, fs, e1, e2, e3, low2 [] _ q2 [] _ rfl R2⟩⟩
/-- C(..) -/
abbrev dMake (C : Addr) (F : DSp) (g : DTA) : DTE := fun ρ μ Q => g ρ μ fun xs μ1 => ∀ p dx, own F (.ptr p :: xs) (μ1 ++ [(p, .ins C dx [])]) fun x μ2 => x = .dat .none ∧ Q (.ptr p) μ2
theorem make_up {sp : Sp} {σ : List (Option V)} {H : Hp} {Q : VK} {xs : List Val} {vs : List V} {Q0 : DK} {hv : List (Option V)} {hx ρ : DR} {μ : Store} (hsp : sp = spZ X.w X.K (Cl F)) (l : vs.length = xs.length) (R : RL X.w X.K B H (vs.map some ++ (hv ++ σ)) (xs.map some ++ (hx ++ ρ)) μ)
    (q : ∀ p dx, own F (.ptr p :: xs) (μ ++ [(p, .ins C dx [])]) fun x μ2 => x = .dat .none ∧ Q0 (.ptr p) μ2) (low : Low X B (hv ++ σ) (hx ++ ρ) Q0 Q) :
    ∀ x dx, H x = none → H dx = none → dx ≠ x → sp (.ref x :: (vs ++ [])) (upd (upd H dx (.own x)) x (.ins C dx [])) (fun v H2 => v = .non ∧ Q (.ref x) H2) E0 := by
  subst hsp
  intro x dx hx1 hdx ne
  rw [List.append_nil]
  obtain ⟨R1, _, _⟩ := R.newZ (o := .own x) hdx
  have hx2 : (upd H dx (.own x)) x = none := by rw [upd_ne ne.symm]; exact hx1
  have R2 := R1.new (n := .ins C dx []) (o := .ins C dx []) hx2 ⟨[], upd_same, .nil⟩
  have R3 : RL X.w X.K B (upd (upd H dx (.own x)) x (.ins C dx [])) ((V.ref x :: vs).map some ++ (some (.ref x) :: (hv ++ σ))) ((Val.ptr x :: xs).map some ++ (some (.ptr x) :: (hx ++ ρ))) (μ ++ [(x, .ins C dx [])]) := by
    refine R2.slots (.cons rfl ?_)
    obtain ⟨h1, h2⟩ := paired_split (by simp [l]) R2.sl
    exact paired_app h1 (.cons rfl h2)
  refine own_call (vs := .ref x :: vs) (xs := .ptr x :: xs) (by simp [l]) R3 (q x dx) ?_
  rintro y μ2 ⟨rfl, q2⟩ v H2 R4
  cases (R4.head : Dz _ v .none)
  exact ⟨rfl, low _ _ q2 _ _ R4.tail⟩
theorem d_make (M : KCalZ X.prog X.w X.K X.mg X.base k C ps F) (hr : Room (k + 1) X.A) (hg : Gl X x) (hm : X.mg x = some (.ref C)) (ha : DA X (e :: es) g)
    (hdb : (x == ("__debug__" : Str)) = false := by decide) (he : starEach (e :: es) X.env = (false, eval e X.env) :: starEach es X.env := by rfl) (hpl : (backTo pos (starEach es X.env)).any (·.1) = false := by rfl) :
    DE X (.Call (.Name x p) (e :: es) [] pos) (dMake C F g) := by
  obtain ⟨f, fd, Fn, M, hb⟩ := cal_clK M
  exact ⟨fun B => PE.weak (pe_make M Fn hr hg hm hb .nil pass0 (ha.run B) hdb he hpl) fun σ H Q ⟨hv, hx, ρ, μ, Q0, hl, R, q, low⟩ =>
    ⟨hv, hx, ρ, μ, _, hl, R, q, fun xs μ1 q1 vs H1 l R1 => make_up rfl l R1 q1 low⟩⟩
theorem d_make0 (M : KCalZ X.prog X.w X.K X.mg X.base k C ps F) (hr : Room (k + 1) X.A) (hg : Gl X x) (hm : X.mg x = some (.ref C))
    (hdb : (x == ("__debug__" : Str)) = false := by decide) : DE X (.Call (.Name x p) [] [] pos) (dMake C F dNil) := by
  obtain ⟨f, fd, Fn, M, hb⟩ := cal_clK M
  exact ⟨fun B => PE.weak (pe_make0 M Fn hr hg hm hb .nil pass0 hdb) fun σ H Q ⟨hv, hx, ρ, μ, Q0, hl, R, q, low⟩ => make_up (vs := []) (xs := []) rfl rfl R q low⟩
/-- a def: a stretch is handed over -/
abbrev dOwnS (F : DSp) (g : DTA) : DTE := fun ρ μ Q => g ρ μ fun xs μ1 => own F xs μ1 Q
theorem d_ownS (M : CalZ X.prog X.w X.K X.mg X.base k x ps F) (hr : Room k X.A) (hg : Gl X x) (ha : DA X (e :: es) g)
    (hdb : (x == ("__debug__" : Str)) = false := by decide) (he : starEach (e :: es) X.env = (false, eval e X.env) :: starEach es X.env := by rfl) (hpl : (backTo pos (starEach es X.env)).any (·.1) = false := by rfl) :
    DE X (.Call (.Name x p) (e :: es) [] pos) (dOwnS F g) :=
  ⟨fun B => PE.weak (pe_own (cal_cl M) hr hg (ha.run B) hdb he hpl) fun σ H Q ⟨hv, hx, ρ, μ, Q0, hl, R0, h, low⟩ => by
    refine ⟨hv, hx, ρ, μ, _, hl, R0, h, fun xs μ1 h1 vs H1 l R1 => ?_⟩
    show spZ _ _ _ (vs ++ []) _ _ _
    rw [List.append_nil]
    exact own_call l R1 h1 low⟩
end
end Zl
/-! {k: v, ..}; len(d). -/
namespace Zl
open PySem PySem.Spec PyProof.Rows L2 Lf
def dPairs : List (DTE × DTE) → DR → Store → (List (Val × Val) → Store → Prop) → Prop
  | [], _, μ, Q => Q [] μ
  | (fk, fv) :: r, ρ, μ, Q => fk ρ μ fun x μ1 => fv ρ μ1 fun y μ2 => dPairs r ρ μ2 fun ps μ3 => Q ((x, y) :: ps) μ3
def flatP {α : Type} (qs : List (α × α)) : List (Option α) := qs.flatMap fun q => [some q.1, some q.2]
section
variable {X : Cx}
structure DPs (X : Cx) (pos : Pos) (keys : List (Option Expr)) (values : List Expr) (fs : List (DTE × DTE)) : Prop where
  run : ∃ trs, PPs X pos keys values trs ∧ ∀ (B : Base) (hv : List (Option V)) (hx ρ : DR) (σ : L2.St) (H : Hp) (μ : Store) (Q0 : List (Val × Val) → Store → Prop) (Q : List (V × V) → Hp → Prop), hv.length = hx.length → RL X.w X.K B H (hv ++ σ) (hx ++ ρ) μ → dPairs fs ρ μ Q0 →
    (∀ ps μ', Q0 ps μ' → ∀ (qs : List (V × V)) H', qs.length = ps.length → RL X.w X.K B H' (flatP qs ++ (hv ++ σ)) (flatP ps ++ (hx ++ ρ)) μ' → Q qs H') → tPairs trs σ H Q
theorem dps_nil {pos : Pos} : DPs X pos [] [] [] := ⟨[], pps_nil, fun B hv hx ρ σ H μ Q0 Q hl R q low => low [] μ q [] H rfl R⟩
theorem dps_cons {pos : Pos} {k v : Expr} {ks : List (Option Expr)} {vs : List Expr} {fk fv : DTE} {fs : List (DTE × DTE)} (hk : DE X k fk) (hv : DE X v fv) (hr : DPs X pos ks vs fs) : DPs X pos (some k :: ks) (v :: vs) ((fk, fv) :: fs) := by
  obtain ⟨trs, h1, h2⟩ := hr.run
  refine ⟨_, pps_cons (PE.ex fun B => hk.run B) (PE.ex fun B => hv.run B) h1, fun B hv hx ρ σ H μ Q0 Q hl R q low => ?_⟩
  refine ⟨B, hv, hx, ρ, μ, _, hl, R, q, fun x μ1 q1 u H1 R1 => ⟨B, some u :: hv, some x :: hx, ρ, μ1, _, by simp [hl], R1, q1, fun y μ2 q2 t H2 R2 => ?_⟩⟩
  refine h2 B (some t :: some u :: hv) (some y :: some x :: hx) ρ σ H2 μ2 _ _ (by simp [hl]) R2 q2 fun ps μ3 q3 qs H3 l R3 => low _ _ q3 ((u, t) :: qs) H3 (by simp [l]) ?_
  have fl : ∀ {α : Type} (l : List (α × α)), (flatP l).length = 2 * l.length := fun l => by
    induction l with
    | nil => rfl
    | cons q l ih =>
      show (some q.1 :: some q.2 :: flatP l).length = _
      rw [List.length_cons, List.length_cons, List.length_cons, ih]
      omega
  have ll : (flatP qs).length = (flatP ps).length := by rw [fl, fl, l]
  obtain ⟨p1, p2⟩ := paired_split ll R3.sl
  cases p2 with
  | cons e1 p2 =>
    cases p2 with
    | cons e2 p3 => exact R3.slots (.cons e2 (.cons e1 (paired_app p1 p3)))
def pairsKV : List (Val × Val) → Option (List (NestedKey × Val))
  | [] => some []
  | (.dat d, x) :: r => match keyD d, pairsKV r with | some k, some l => some ((k, x) :: l) | _, _ => none
  | _ :: _ => none
abbrev putAllZ (kvs : List (NestedKey × Val)) (acc : List (NestedKey × Val)) : List (NestedKey × Val) := kvs.foldl (fun a q => putZ a q.1 q.2) acc
theorem puts_up {B : Base} {p : Addr} {Q0 : DK} {Q : VK} {σ : L2.St} {ρ : DR} {μ : Store} : ∀ (ps : List (Val × Val)) (qs : List (V × V)) (kvs acc : List (NestedKey × Val)) (H : Hp), qs.length = ps.length → pairsKV ps = some kvs → (∀ q ∈ kvs, Vd.KeyOk q.1) → acc.length + kvs.length ≤ sizeLine →
    RL X.w X.K B H (flatP qs ++ σ) (flatP ps ++ ρ) (μ ++ [(p, .dv acc)]) → Q0 (.ptr p) (μ ++ [(p, .dv (putAllZ kvs acc))]) → Low X B σ ρ Q0 Q → Vd.SPuts X.w p qs H Q
  | [], [], kvs, acc, H, _, e, _, _, R, q, low => by
    cases e
    exact low _ _ q _ _ (R.cons rfl)
  | (x, y) :: ps, (u, t) :: qs, kvs, acc, H, l, e, ok, hz, R, q, low => by
    match x, e, R with
    | .dat d, e, R =>
      unfold pairsKV at e
      split at e
      · rename_i k kvs' ek er
        cases e
        have R : RL X.w X.K B H (some u :: some t :: (flatP qs ++ σ)) (some (.dat d) :: some y :: (flatP ps ++ ρ)) (μ ++ [(p, .dv acc)]) := R
        have hj : (μ ++ [(p, Node.dv acc)])[μ.length]? = some (p, .dv acc) := by simp
        obtain ⟨ks, eD, nd, pr⟩ := R.at hj
        have hkey := keyAt_of d u k R.head ek
        have okk := ok (k, y) (List.mem_cons_self ..)
        have D3 : Vd.DAt X.w H p ks := ⟨.inl eD, fun q hq => by
          obtain ⟨i, hi, rfl⟩ := List.mem_iff_getElem.mp hq
          have hi2 : i < acc.length := by rw [← pr.length]; exact hi
          obtain ⟨q, eq, r⟩ := paired_get pr (List.getElem?_eq_getElem hi2)
          rw [List.getElem?_eq_getElem hi] at eq
          cases eq
          exact ⟨r.2.1, r.2.2.1.keep fun a xs e => fz_le _ _ e⟩, nd⟩
        rw [List.length_cons] at hz
        refine ⟨ks, k, eD, D3, okk, hkey.keep fun a xs e => fz_le _ _ e, by rw [pr.length]; omega, ?_⟩
        have R2 := R.putD hj nd pr okk hkey R.tail.head
        rw [set_last] at R2
        refine puts_up ps qs kvs' (putZ acc k y) _ (by simpa using l) er (fun q hq => ok q (List.mem_cons_of_mem _ hq)) ?_ R2.tail.tail q low
        have := putZ_len acc k y
        omega
      · cases e
  | [], _ :: _, _, _, _, l, _, _, _, _, _, _ => by simp at l
  | _ :: _, [], _, _, _, l, _, _, _, _, _, _ => by simp at l
/-- {k: v, ..} -/
abbrev dDict (fs : List (DTE × DTE)) : DTE := fun ρ μ Q => dPairs fs ρ μ fun ps μ1 => ∃ kvs, pairsKV ps = some kvs ∧ (∀ q ∈ kvs, Vd.KeyOk q.1) ∧ kvs.length ≤ sizeLine ∧ ∀ p, Q (.ptr p) (μ1 ++ [(p, .dv (putAllZ kvs []))])
theorem d_dict {pos : Pos} {keys : List (Option Expr)} {values : List Expr} {fs : List (DTE × DTE)} (hu : X.A.units + 64 < cLine) (h : DPs X pos keys values fs) (hall : keys.all (·.isSome) = true := by rfl) (hl : keys.length = values.length := by rfl) (h0 : keys ≠ [] := by exact fun z => nomatch z)
    (h15 : keys.length ≤ 15 := by decide) : DE X (.Dict keys values pos) (dDict fs) := by
  obtain ⟨trs, h1, h2⟩ := h.run
  refine ⟨fun B => PE.weak (Vd.pe_dispV hu h1 hall hl h0 h15) fun σ H Q ⟨hv, hx, ρ, μ, Q0, hl, R, q, low⟩ p hp => ?_⟩
  have R1 := R.new (n := .dv []) (o := Vd.dV X.w p []) hp ⟨[], upd_same, .nil, .nil⟩
  refine h2 _ hv hx ρ σ _ μ _ _ hl R1.hide q fun ps μ' ⟨kvs, e, ok, hz, q⟩ qs H' l R2 => ?_
  exact puts_up ps qs kvs [] H' l e ok (by simpa using hz) R2.show (q p) low
def zLenD : List Val → Store → DK → Prop := fun xs μ Q => match xs with
  | [.ptr a] => ∃ kvs, DvAt μ a kvs ∧ Q (.dat (.int (kvs.length : Nat))) μ
  | _ => False
theorem ca_dlen : CaZ X (.builtin "len") zLenD := ⟨_, Vd.call_lenV, fun B σ ρ H μ vs xs Q0 Q l R q low => by
  unfold zLenD at q
  split at q
  · obtain ⟨kvs, h, q⟩ := q
    obtain ⟨v, rfl, R⟩ := one_arg' l R
    obtain ⟨ks, D, pr⟩ := h.at R
    cases (R.head : v = .ref _)
    refine ⟨_, ks, rfl, D, ?_⟩
    rw [pr.length]
    exact low _ _ q _ _ (R.tail.cons (x := .dat (.int _)) (Dz.int _))
  · exact q.elim⟩
end
end Zl
/-! x in l, l.index(x): items are data of any depth; x in a tuple of texts, ints. -/
namespace Zl
open PySem PySem.Spec PyProof.Rows L2 Lf
theorem room65 {k : Nat} {A : Around} (r : Room k A) : A.units + 65 < cLine := by have := r.un; omega
def flatD : PyData → Bool
  | .none => true
  | .bool _ => true
  | .int _ => true
  | .str _ => true
  | _ => false
theorem flat_dz {Z : Hp} {v : V} {d : PyData} (h : Dz Z v d) (f : flatD d = true) : flatV v = true := by
  cases h <;> first | exact absurd f Bool.false_ne_true | rfl
theorem eqV_dz {Z : Hp} {v u : V} {d e : PyData} (h : Dz Z v d) (h' : Dz Z u e) (f : flatD d = true) (f' : flatD e = true) : eqV v u = PyData.eqv d e := by
  cases h <;> cases h' <;> first | exact absurd f Bool.false_ne_true | exact absurd f' Bool.false_ne_true | simp [eqV, PyData.eqv]
section
variable {X : Cx}
/-- x in a list; in a tuple of flat items -/
def zIn (g : Bool → Bool) : DR2 := fun x y μ Q => match y with
  | .dat (.tuple ds) => ∃ d, View μ x d ∧ flatD d = true ∧ ds.all flatD = true ∧ Q (.dat (.bool (g (ds.any fun z => PyData.eqv z d)))) μ
  | y => ∃ d ds, View μ x d ∧ View μ y (.list ds) ∧ SeqAt.shaped d = true ∧ SeqAt.shaped (.list ds) = true ∧ Q (.dat (.bool (g (ds.any fun z => PyData.eqv z d)))) μ
theorem dzs_flat {Z : Hp} : ∀ {vs : List V} {ds : List PyData}, DzAll Z vs ds → ds.all flatD = true → vs.all flatV = true
  | _, [], h, _ => by cases h; rfl
  | _, d :: ds, h, f => by
    cases h with
    | cons h1 h2 =>
      rw [List.all_cons, Bool.and_eq_true] at f ⊢
      exact ⟨flat_dz h1 f.1, dzs_flat h2 f.2⟩
theorem inV_dz {Z : Hp} {u : V} {e : PyData} (h' : Dz Z u e) (f' : flatD e = true) : ∀ {vs : List V} {ds : List PyData}, DzAll Z vs ds → ds.all flatD = true → inV u vs = ds.any fun z => PyData.eqv z e
  | _, [], h, _ => by cases h; rfl
  | _, d :: ds, h, f => by
    cases h with
    | cons h1 h2 =>
      rw [List.all_cons, Bool.and_eq_true] at f
      show (eqV _ _ || inV u _) = _
      rw [List.any_cons, eqV_dz h1 h' f.1 f', inV_dz h' f' h2 f.2]
theorem in_up {neg : Bool} {g : Bool → Bool} (hg : ∀ b, g b = if neg then !b else b) {f : Value → Value → Sem Value} {r : R2} (h1 : OpR X f (rIn X.K neg)) (h2 : OpR X f r) (hr : ∀ x y H Q, (∃ d ds, Dp X.K H x d ∧ Dp X.K H y (.list ds) ∧ SeqAt.shaped d = true ∧ SeqAt.shaped (.list ds) = true ∧ Q (.bl (g (ds.any fun z => PyData.eqv z d))) H) → r x y H Q) : OpZ X f (zIn g) :=
  ⟨_, OpR.or h1 h2, fun B σ ρ H μ u v x y Q0 Q R q low => by
    have hy := R.head
    have hx := R.tail.head
    have fin : ∀ b, Q0 (.dat (.bool b)) μ → Q (.bl b) H := fun b q => low _ _ q _ _ (R.tail.tail.cons (.bl b))
    unfold zIn at q
    split at q
    · obtain ⟨d, h3, fd, fs, q⟩ := q
      cases (hy : Dz _ v (.tuple _)) with
      | tup e1 e2 =>
        match x, h3, hx with
        | _, .d d, hx =>
          refine .inl ⟨_, _, rfl, .inr (SqT.of (fz_le _ _ e1)), flat_dz hx fd, dzs_flat e2 fs, ?_⟩
          rw [inV_dz hx fd e2 fs]
          have := fin _ q
          rw [hg] at this
          exact this
        | _, .p j hj hd, hx => cases fd
    · obtain ⟨d, ds, h3, h4, h5, h6, q⟩ := q
      exact .inr (hr _ _ _ _ ⟨d, ds, h3.at R.tail hx, h4.at R hy, h5, h6, fin _ q⟩)⟩
theorem oz_in (hu : X.A.units + 65 < cLine) : OpZ X (compareOp .In) (zIn id) := in_up (neg := false) (fun b => rfl) op_in_seq (op_inD hu) fun _ _ _ _ h => h
theorem oz_notin (hu : X.A.units + 65 < cLine) : OpZ X (compareOp .NotIn) (zIn not) := in_up (neg := true) (fun b => rfl) op_notIn_seq (op_notInD hu) fun _ _ _ _ h => h
/-- l.index(x) -/
def zIndex : Val → List Val → Store → DK → Prop := fun x xs μ Q => match xs with
  | [y] => ∃ (d : PyData) (ds : List PyData) (j : Nat) (z : PyData), View μ x (.list ds) ∧ View μ y d ∧ SeqAt.shaped (.list ds) = true ∧ SeqAt.shaped d = true ∧ ds[j]? = some z ∧ PyData.eqv z d = true ∧ (∀ (m : Nat) (z' : PyData), m < j → ds[m]? = some z' → PyData.eqv z' d = false) ∧ Q (.dat (.int (j : Nat))) μ
  | _ => False
theorem me_index (hu : X.A.units + 65 < cLine) : MeZ X "list.index" zIndex := ⟨_, mt_indexD hu, fun B σ ρ H μ v x vs xs Q0 Q l R q low => by
  match xs, l, R, q with
  | [y], l, R, q =>
    obtain ⟨d, ds, j, z, h1, h2, h3, h4, h5, h6, h7, q⟩ := q
    obtain ⟨u, rfl, R⟩ := one_arg' l R
    have dl := h1.at R.tail R.tail.head
    cases dl with
    | lst s1 s2 => exact ⟨_, u, d, ds, j, z, rfl, rfl, .lst s1 s2, h2.at R R.head, h3, h4, h5, h6, h7, low _ _ q _ _ (R.tail.tail.cons (x := .dat (.int _)) (Dz.int _))⟩⟩
/-- while, by a number that falls -/
abbrev dWhileN (c : DTT) (tb : DTS) : DTS := fun E ρ μ => ∃ I : Nat → DR → Store → Prop, (∃ n, I n ρ μ) ∧ ∀ n ρ μ, I n ρ μ → c ρ μ fun b μ1 => if b = true then
  tb { nx := less fun ρ' μ' => ∃ m, m < n ∧ I m ρ' μ', rt := E.rt, bk := E.nx, ct := less fun ρ' μ' => ∃ m, m < n ∧ I m ρ' μ' } ρ μ1 else E.nx ρ μ1
theorem ds_whileN {c : Expr} {body : List Stmt} {fc : DTT} {tb : DTS} {pos : Pos} (hp : PassesOwn (model X.prog X.w) X.A X.env X.xe) (hc : DT X c fc) (hb : DSs X body tb) : DS X (.While c body [] pos) (dWhileN fc tb) :=
  ⟨fun B => PS.weak (ps_while hp (hc.run B) (hb.run B)) fun D σ H q => by
    obtain ⟨ρ, μ, E, R0, ⟨I, ⟨n0, i0⟩, turn⟩, b⟩ := q
    refine ⟨fun m σ' H' => ∃ ρ' μ', RL X.w X.K B H' σ' ρ' μ' ∧ I m ρ' μ', ⟨n0, ρ, μ, R0, i0⟩, ?_⟩
    rintro m σ' H' ⟨ρ', μ', R', i'⟩
    refine ⟨[], [], ρ', μ', _, rfl, R', turn m ρ' μ' i', fun c μ1 q H1 R1 => ?_⟩
    cases c with
    | true =>
      refine ⟨fun σ2 H2 => ∃ ρ2 μ2, RL X.w X.K B H2 σ2 ρ2 μ2 ∧ ∃ k, k < m ∧ I k ρ2 μ2, fun σ2 H2 ⟨ρ2, μ2, r, k, l, i⟩ => ⟨k, l, ρ2, μ2, r, i⟩, ρ', μ1, _, R1, q, ⟨fun ρ4 μ4 ⟨μ5, s5, q4⟩ σ4 H4 R4 => ⟨ρ4, μ5, R4.less s5, q4⟩, b.rt, fun ρ4 μ4 q4 σ4 H4 R4 => b.nx _ _ q4 _ _ R4, fun ρ4 μ4 ⟨μ5, s5, q4⟩ σ4 H4 R4 => ⟨ρ4, μ5, R4.less s5, q4⟩⟩⟩
    | false => exact b.nx _ _ q _ _ R1⟩
theorem isN_kv (x : NestedKey) : isN (.dat (datK x)) = decide (x = .none) := by cases x <;> rfl
theorem is_kv {g : Bool → Bool} {x : NestedKey} {μ : Store} {Q : DK} (q : Q (.dat (.bool (g (decide (x = .none))))) μ) : zIs g (.dat (datK x)) (.dat .none) μ Q := by
  show Q (.dat (.bool (g (isN (.dat (datK x)))))) μ
  rw [isN_kv]
  exact q
end
end Zl
/-! list(d); tuple + tuple. -/
namespace Vd
open PySem PySem.Spec PyProof.Rows L2
theorem rel_vals {kvs : List KVR} {xs : List Row} (r : Paired RelR kvs xs) : Vals (kvs.map (·.2.1)) (xs.map (·.2.1)) := by
  induction r with
  | nil => exact .nil
  | cons h _ ih => exact .cons h.2.1 ih
theorem call_listV {X : Cx} (hc : X.calm = true) : CallR X (.type "list") (fun xs H Q => ∃ d kvs, xs = [V.ref d] ∧ DAt X.w H d kvs ∧ ∀ p, H p = none → Q (.ref p) (upd H p (.lst (kvs.map (·.2.1))))) := by
  intro pins s σ H xs us Q I r h
  obtain ⟨d, kvs, rfl, D, q⟩ := h
  obtain ⟨u, rfl, rx⟩ := r.one
  cases rx
  obtain ⟨hs, z, ks, pr, ⟨o, es, ep, ho, hx, hdt, he⟩, R⟩ := D.out I.hok
  have l1 : es.size = ks.length := ent_size he
  have l2 : kvs.length = ks.length := Paired.length pr
  refine PySem.W.kdl_call (kdl_raw hs hx hdt) (I.ok.hd hc) ho (by omega) fun h' tk acc' c' kp e it => ?_
  have ea : acc'.toList = ks.map fun x => x.2.1 := by
    have hl : acc'.toList.length = ks.length := by rw [Array.length_toList, it.1]; exact l1
    apply List.ext_getElem?
    intro j
    rw [List.getElem?_map]
    cases hj : acc'.toList[j]? with
    | none =>
      have h1 := List.getElem?_eq_none_iff.mp hj
      rw [List.getElem?_eq_none (by omega)]
      rfl
    | some v =>
      obtain ⟨en, hen, hv⟩ := it.2 j v (by rw [← Array.getElem?_toList]; exact hj)
      have qe := ent_at he j
      rw [hen] at qe
      cases hb : ks[j]? with
      | none =>
        rw [hb] at qe
        exact nomatch (show some en = none from qe)
      | some b =>
        rw [hb] at qe
        have e2 : en = ent X.w b := Option.some.inj qe
        rw [hv, e2]
        rfl
  have rv : Vals (kvs.map (·.2.1)) acc'.toList := by rw [ea]; exact rel_vals pr
  have hz : (kvs.map (·.2.1)).length ≤ sizeLine := by rw [List.length_map]; omega
  refine ⟨.ref s.heap.objs.size, _, I.laid (t' := tk) (o := .lst (kvs.map (·.2.1))) kp (Nat.le_refl _) ?_, rfl, q _ (I.hok.fresh (Nat.le_refl _))⟩
  exact ⟨hz, acc'.toList, c', rv, by rw [Array.toArray_toList]; exact e⟩
end Vd
namespace Zl
open PySem PySem.Spec PyProof.Rows L2 Lf
section
variable {X : Cx}
def zListD : List Val → Store → DK → Prop := fun xs μ Q => match xs with
  | [.ptr a] => ∃ kvs, DvAt μ a kvs ∧ ∀ p, Q (.ptr p) (μ ++ [(p, .lst (keysZ kvs))])
  | _ => False
theorem keys_rv {w : World} {K : PySem.W.Frag} {Z : Hp} {ks : List Vd.KVR} {kvs : List (NestedKey × Val)} (h : Paired (RK K Z) ks kvs) : Paired (RV K Z) (ks.map (·.2.1)) (keysZ kvs) := by
  unfold keysZ
  induction h with
  | nil => exact .nil
  | @cons p q _ _ r _ ih =>
    refine .cons (show RV K Z p.2.1 (.dat (datK q.1)) from ?_) ih
    have := dz_key _ _ r.2.2.1
    rw [r.1] at this
    exact this
theorem ca_dlist (hc : X.calm = true) : CaZ X (.type "list") zListD := ⟨_, Vd.call_listV hc, fun B σ ρ H μ vs xs Q0 Q l R q low => by
  unfold zListD at q
  split at q
  · obtain ⟨kvs, h, q⟩ := q
    obtain ⟨v, rfl, R⟩ := one_arg' l R
    obtain ⟨ks, D, pr⟩ := h.at R
    cases (R.head : v = .ref _)
    exact ⟨_, ks, rfl, D, fun p hp => low _ _ (q p) _ _ ((R.tail.new (n := .lst (keysZ kvs)) hp ⟨_, upd_same, keys_rv (w := X.w) pr⟩).cons rfl)⟩
  · exact q.elim⟩
/-- tuples too -/
def zAdd2 : DR2 := fun x y μ Q => match x, y with
  | .dat (.tuple a), .dat (.tuple b) => a.length + b.length ≤ sizeLine ∧ Q (.dat (.tuple (a ++ b))) μ
  | x, y => zAdd x y μ Q
theorem oz_add2 : OpZ X (binaryOp .Add) zAdd2 := by
  obtain ⟨r, h1, h2⟩ := (oz_add (X := X)).ex
  refine ⟨_, OpR.or op_catA h1, fun B σ ρ H μ u v x y Q0 Q R q low => ?_⟩
  have hy := R.head
  have hx := R.tail.head
  unfold zAdd2 at q
  split at q
  · rename_i a b
    cases (hx : Dz _ u (.tuple a)) with
    | tup e1 e2 =>
      cases (hy : Dz _ v (.tuple b)) with
      | tup e3 e4 =>
        refine .inl ⟨_, _, _, _, rfl, rfl, SqT.of (fz_le _ _ e1), SqT.of (fz_le _ _ e3), by rw [dzAll_len e2, dzAll_len e4]; exact q.1, fun z => ?_, fun _ z => ?_, fun _ _ p hp => ?_⟩
        · subst z
          cases a with
          | nil => exact low _ _ q.2 _ _ (R.tail.tail.cons (x := .dat (.tuple _)) (Dz.tup e3 e4))
          | cons _ _ => cases e2
        · subst z
          cases b with
          | nil =>
            have q2 := q.2
            rw [List.append_nil] at q2
            exact low _ _ q2 _ _ (R.tail.tail.cons (x := .dat (.tuple _)) (Dz.tup e1 e2))
          | cons _ _ => cases e4
        · obtain ⟨R4, g, ep⟩ := R.tail.tail.newZ (o := .tup _) hp
          refine low _ _ q.2 _ _ (R4.cons (.tup ep (DzAll.mono g _ _ (all_dz (K := X.K) ?_))))
          rw [List.map_append]
          exact paired_app (dz_all e2) (dz_all e4)
  · exact .inr (h2 B _ _ _ _ _ _ _ _ _ _ R q low)
end
end Zl
/-! and, or, not as values; slices told. -/
namespace Zl
open PySem PySem.Spec PyProof.Rows L2 Lf
section
variable {X : Cx}
theorem tru_at {B : Base} {σ : List (Option V)} {ρ : DR} {H : Hp} {μ : Store} {v : V} {x : Val} {P : Bool → Prop} (R : RL X.w X.K B H (some v :: σ) (some x :: ρ) μ) (q : truOf μ x P) : ∃ k, TruV X.K v H k ∧ P k := by
  have hd := R.head
  unfold truOf at q
  split at q
  · cases (hd : Dz _ v .none)
    exact ⟨_, rfl, q⟩
  · cases (hd : Dz _ v (.bool _))
    exact ⟨_, rfl, q⟩
  · cases (hd : Dz _ v (.int _))
    exact ⟨_, rfl, q⟩
  · cases (hd : Dz _ v (.str _))
    exact ⟨_, ⟨q.1, rfl⟩, q.2⟩
  · cases (hd : Dz _ v (.list _)) with
    | lst e1 e2 => exact ⟨_, .inl ⟨_, SqL.of (fz_le _ _ e1), by rw [dzAll_empty e2]⟩, q⟩
  · cases (hd : Dz _ v (.tuple _)) with
    | tup e1 e2 => exact ⟨_, .inr (.inl ⟨_, SqT.of (fz_le _ _ e1), by rw [dzAll_empty e2]⟩), q⟩
  · obtain ⟨j, xs, hj, q⟩ := q
    obtain ⟨us, e, pr⟩ := R.at hj
    cases (hd : v = .ref _)
    exact ⟨_, .inl ⟨us, SqL.of e, by rw [paired_empty pr]⟩, q⟩
  · exact q.elim
/-- a and b, as a value -/
abbrev dAndV (f g : DTE) : DTE := fun ρ μ Q => f ρ μ fun x μ1 => truOf μ1 x fun k => if k = true then g ρ μ1 Q else Q x μ1
abbrev dOrV (f g : DTE) : DTE := fun ρ μ Q => f ρ μ fun x μ1 => truOf μ1 x fun k => if k = true then Q x μ1 else g ρ μ1 Q
abbrev dNotT (f : DTE) : DTE := fun ρ μ Q => f ρ μ fun x μ1 => truOf μ1 x fun k => Q (.dat (.bool !k)) μ1
variable {a b : Expr} {rest : List Expr} {f g : DTE} {pos : Pos}
theorem d_and (ha : DE X a f) (hb : DE X (.BoolOp .And (b :: rest) pos) g) : DE X (.BoolOp .And (a :: b :: rest) pos) (dAndV f g) :=
  ⟨fun B => PE.weak (pe_andT (ha.run B) (hb.run B)) fun σ H Q ⟨hv, hx, ρ, μ, Q0, hl, R, q, low⟩ => by
    refine ⟨hv, hx, ρ, μ, _, hl, R, q, fun x μ1 q1 v H1 R1 => ?_⟩
    obtain ⟨k, t, q2⟩ := tru_at R1 q1
    refine ⟨k, t, ?_⟩
    cases k with
    | true => exact ⟨hv, hx, ρ, μ1, _, hl, R1.tail, q2, low⟩
    | false => exact low _ _ q2 _ _ R1⟩
theorem d_or (ha : DE X a f) (hb : DE X (.BoolOp .Or (b :: rest) pos) g) : DE X (.BoolOp .Or (a :: b :: rest) pos) (dOrV f g) :=
  ⟨fun B => PE.weak (pe_orT (ha.run B) (hb.run B)) fun σ H Q ⟨hv, hx, ρ, μ, Q0, hl, R, q, low⟩ => by
    refine ⟨hv, hx, ρ, μ, _, hl, R, q, fun x μ1 q1 v H1 R1 => ?_⟩
    obtain ⟨k, t, q2⟩ := tru_at R1 q1
    refine ⟨k, t, ?_⟩
    cases k with
    | true => exact low _ _ q2 _ _ R1
    | false => exact ⟨hv, hx, ρ, μ1, _, hl, R1.tail, q2, low⟩⟩
theorem d_not (ha : DE X a f) : DE X (.UnaryOp .Not a pos) (dNotT f) :=
  ⟨fun B => PE.weak (pe_notT (ha.run B)) fun σ H Q ⟨hv, hx, ρ, μ, Q0, hl, R, q, low⟩ => by
    refine ⟨hv, hx, ρ, μ, _, hl, R, q, fun x μ1 q1 v H1 R1 => ?_⟩
    obtain ⟨k, t, q2⟩ := tru_at R1 q1
    exact ⟨k, t, low _ _ q2 _ _ (R1.tail.cons (x := .dat (.bool _)) (Dz.bl _))⟩⟩
theorem d_one {op : BoolOp} (ha : DE X a f) (he : eval (.BoolOp op [a] pos) X.env = eval a X.env := by rfl) : DE X (.BoolOp op [a] pos) f :=
  ⟨fun B => ⟨fun pins s σ H Q I q => by rw [he]; exact (ha.run B).run pins s σ H Q I q⟩⟩
end
theorem cutG_take {α : Type} (xs : List α) (n : Nat) : cutG xs none (some (n : Int)) = xs.take n := by
  unfold cutG
  rw [HT.sIx_none, HT.sIx_nat, List.drop_zero, Nat.sub_zero]
  rcases Nat.le_total n xs.length with h | h
  · rw [Nat.min_eq_left h]
  · rw [Nat.min_eq_right h, List.take_of_length_le h, List.take_of_length_le (Nat.le_refl _)]
theorem cutG_drop {α : Type} (xs : List α) (n : Nat) : cutG xs (some (n : Int)) none = xs.drop n := by
  unfold cutG
  rw [HT.sIx_none, HT.sIx_nat]
  rcases Nat.le_total n xs.length with h | h
  · rw [Nat.min_eq_left h, List.take_of_length_le]
    rw [List.length_drop]
    omega
  · rw [Nat.min_eq_right h, List.drop_of_length_le h, List.drop_of_length_le (Nat.le_refl _), List.take_nil]
end Zl
/-! xs.remove(x): items are data of any depth. -/
namespace Zh
open PySem PySem.Spec PyProof.Rows L2 SeqAt
theorem remove_loopAt (l : Addr) (items : Array Value) (n : Nat) (x : Value) (e : Value → Bool) (j : Nat) (hj : j < items.size) (hit : e items[j] = true) (k : Nat) (hs1 : items.size ≤ sizeLine) :
    ∀ i : Nat, j - i = k → i ≤ j → (∀ m (hm : m < items.size), i ≤ m → m < j → e items[m] = false) → Meets (Builtin.«list.remove.loop» ⟨[.ref l, x, rawInt i], []⟩)
      (fun A R s => s.heap.get? l = some { cls := .type "list", dict := none, data := .seq items n, slots := #[] } ∧ (∀ y, y ∈ items → EqAt A.in1 s y x (e y)) ∧ R (.ok (.ret .none)) { s with heap := s.heap.update l (Obj.mapSeq fun xs => xs.eraseIdxIfInBounds j) }) := by
  induction k with
  | zero =>
    intro i hk hij hno prog w A R s h
    obtain ⟨hp, g, d, tk, os⟩ := s; obtain ⟨hl, he, h⟩ := h
    have hij' : i = j := by omega
    subst hij'
    wp_walk using wpAny_loadPart' hl
    have hi : items[((i : Nat) : Int).toNat]? = some items[i] := by simp [hj]
    rw [hi]
    refine wpAny_bind (he _ (Array.getElem_mem hj) prog w _ _ ?_)
    rw [hit]
    have hz' : (items.eraseIdxIfInBounds i).size ≤ sizeLine + 1 := Nat.le_trans (MeetsSeq.size_erased items _) (Nat.le_succ_of_le hs1)
    wp_walk using (wpAny_updateSeq hl rfl (hz := hs1) (_hz' := hz')), wpAny_loadPart' hl
    simpa using h
  | succ k ih =>
    intro i hk hij hno prog w A R s h
    obtain ⟨hp, g, d, tk, os⟩ := s; obtain ⟨hl, he, h⟩ := h
    have hlt : i < items.size := by omega
    wp_walk using wpAny_loadPart' hl
    have hi : items[((i : Nat) : Int).toNat]? = some items[i] := by simp [hlt]
    have hc : ((i : Int) + 1) = ((i + 1 : Nat) : Int) := by push_cast; rfl
    rw [hi]
    refine wpAny_bind (he _ (Array.getElem_mem hlt) prog w _ _ ?_)
    rw [hno i hlt (Nat.le_refl _) (by omega)]
    wp_walk
    rw [hc]
    exact ⟨plainId_quiet MeetsSeq.plain_remove_loop _, codeAny_builtin MeetsSeq.entry_remove_loop (by
      rw [Around.under_plainId MeetsSeq.plain_remove_loop _]
      exact ih (i + 1) (by omega) (by omega) (fun m hm h1 h2 => hno m hm (by omega) h2) prog w A R _ ⟨hl, he, h⟩)⟩
theorem list_removeAt (l : Addr) (items : Array Value) (n : Nat) (x : Value) (e : Value → Bool) (j : Nat) (hj : j < items.size)
    (hit : e items[j] = true) (hno : ∀ m (hm : m < items.size), m < j → e items[m] = false) (hs1 : items.size ≤ sizeLine) :
    Meets (Builtin.«list.remove» ⟨[.ref l, x], []⟩)
      (fun A R s => s.heap.get? l = some { cls := .type "list", dict := none, data := .seq items n, slots := #[] } ∧ (∀ y, y ∈ items → EqAt A.in1 s y x (e y)) ∧ R (.ok (.ret .none)) { s with heap := s.heap.update l (Obj.mapSeq fun xs => xs.eraseIdxIfInBounds j) }) := by
  intro prog w A R s h
  obtain ⟨hp, g, d, tk, os⟩ := s; obtain ⟨hl, he, h⟩ := h
  wp_walk using wpAny_loadPart' hl
  exact ⟨plainId_quiet MeetsSeq.plain_remove_loop _, codeAny_builtin MeetsSeq.entry_remove_loop (by
    rw [Around.under_plainId MeetsSeq.plain_remove_loop _]
    exact remove_loopAt l items n x e j hj hit _ hs1 0 rfl (Nat.zero_le _) (fun m hm _ h2 => hno m hm h2) prog w A R _ ⟨hl, he, h⟩)⟩
section
variable {X : Cx}
def rRemD (K : PySem.W.Frag) : V → List V → Hp → VK → Prop := fun x xs H Q => ∃ (a : Addr) (ys : List V) (y : V) (d : PyData) (ds : List PyData) (j : Nat) (z : PyData), x = V.ref a ∧ xs = [y] ∧ H a = some (.lst ys) ∧ DpAll K H ys ds ∧ Dp K H y d ∧
  SeqAt.shaped (.list ds) = true ∧ SeqAt.shaped d = true ∧ ds[j]? = some z ∧ PyData.eqv z d = true ∧ (∀ (m : Nat) (z' : PyData), m < j → ds[m]? = some z' → PyData.eqv z' d = false) ∧ Q .non (upd H a (.lst (ys.eraseIdx j)))
theorem mt_removeD (hu : X.A.units + 65 < cLine) : MtR X "list.remove" (rRemD X.K) := by
  intro pins s σ H x xs v us Q I rx rxs h
  obtain ⟨a, ys, y, d, ds, j, z, rfl, rfl, hH, ha, hy, sl, sd, hz, hzj, hno, q⟩ := h
  cases rx
  obtain ⟨uy, rfl, ry⟩ := rxs.one
  obtain ⟨bs, r1⟩ := Dp.reads I d y uy hy ry
  have hxs : PyData.canLayAll0 ds = true := SeqAt.canLay_of_shaped sl
  have hroom : X.A.units + 1 + min (PyData.depthAll ds) d.depth < cLine := room_in_shaped sd hu
  obtain ⟨zl, its, n, r, hl, e⟩ := I.lstM hH
  obtain ⟨as, h4⟩ := Dp.readsAll I ds _ its ha r
  have hn : its.length = ds.length := SeqAt.ReadsAll.length ds its as h4
  have hmap : its.map (SeqAt.readOf s.heap) = ds := SeqAt.readsAll_map ds its as hxs h4
  obtain ⟨hjd, _⟩ := List.getElem?_eq_some_iff.mp hz
  have hjl : j < its.length := by omega
  have hj : j < its.toArray.size := by simpa using hjl
  have at_ : ∀ (m : Nat) (hm : m < its.toArray.size) (z' : PyData), ds[m]? = some z' → SeqAt.readOf s.heap its.toArray[m] = z' := by
    intro m hm z' hz'
    have hml : m < its.length := by simpa using hm
    rw [← hmap, List.getElem?_map, List.getElem?_eq_getElem hml] at hz'
    have e1 : SeqAt.readOf s.heap its[m] = z' := Option.some.inj (show some (SeqAt.readOf s.heap its[m]) = some z' from hz')
    simpa using e1
  refine call_meets PySem.F.slot_list_remove ⟨_, e, rfl⟩ PySem.F.entry_list_remove (PySem.F.args_list_remove_2 _ _)
    (list_removeAt a its.toArray n uy (fun u => PyData.eqv (SeqAt.readOf s.heap u) d) j hj ?_ ?_ (by rw [List.size_toArray]; omega)) ⟨e, SeqAt.items_eqAt (vs := its.toArray) (show ReadsAll s.heap its.toArray.toList ds as from h4) r1 hxs (SeqAt.canLay_of_shaped sd) hroom, ?_⟩
  · show PyData.eqv (SeqAt.readOf s.heap its.toArray[j]) d = true
    rw [at_ j hj z hz]
    exact hzj
  · intro m hm hmj
    have hmd : m < ds.length := by omega
    have hz' : ds[m]? = some ds[m] := List.getElem?_eq_getElem hmd
    show PyData.eqv (SeqAt.readOf s.heap its.toArray[m]) d = false
    rw [at_ m hm _ hz']
    exact hno m _ hmj hz'
  · refine ⟨.non, _, I.lset (its' := its.eraseIdx j) (t' := s.toks) hH e ?_ (r.eraseIdx j) ?_, rfl, q⟩
    · show its.toArray.eraseIdxIfInBounds j = (its.eraseIdx j).toArray
      rw [List.eraseIdxIfInBounds_toArray]
    · have z2 := len_erase ys j
      omega
end
end Zh
namespace Zl
open PySem PySem.Spec PyProof.Rows L2 Lf
section
variable {X : Cx}
/-- xs.remove(x) -/
def zRemove : Val → List Val → Store → DK → Prop := fun x xs μ Q => match x, xs with
  | .ptr a, [y] => ∃ (i : Nat) (ys : List Val) (d : PyData) (ds : List PyData) (j : Nat) (z : PyData), μ[i]? = some (a, Node.lst ys) ∧ datOf ys = some ds ∧ View μ y d ∧ SeqAt.shaped (.list ds) = true ∧ SeqAt.shaped d = true ∧ ds[j]? = some z ∧ PyData.eqv z d = true ∧
      (∀ (m : Nat) (z' : PyData), m < j → ds[m]? = some z' → PyData.eqv z' d = false) ∧ Q (.dat .none) (μ.set i (a, .lst (ys.eraseIdx j)))
  | _, _ => False
theorem me_remove (hu : X.A.units + 65 < cLine) : MeZ X "list.remove" zRemove := ⟨_, Zh.mt_removeD hu, fun B σ ρ H μ v x vs xs Q0 Q l R q low => by
  match x, xs, l, R, q with
  | .ptr a, [y], l, R, q =>
    obtain ⟨i, ys, d, ds, j, z, hj, hd, hv, h3, h4, h5, h6, h7, q⟩ := q
    obtain ⟨u, rfl, R⟩ := one_arg' l R
    obtain ⟨us, e, pr⟩ := R.at hj
    cases (R.tail.head : v = .ref a)
    exact ⟨a, us, u, d, ds, j, z, rfl, rfl, e, DzAll.dp _ _ (DzAll.mono fz_le _ _ (datOf_all pr hd)), hv.at R R.head, h3, h4, h5, h6, h7, low _ _ q _ _ ((R.put (n' := .lst (ys.eraseIdx j)) hj ⟨_, upd_same, paired_erase j pr⟩).tail.tail.cons .non)⟩⟩
end
end Zl
/-! len of an own class; a list in a slot that nobody changes any more; lists that are lent to a call; list(range(n)). -/
namespace Zl
open PySem PySem.Spec PyProof.Rows L2 Lf
section
variable {X : Cx} {C f : Addr} {k : Nat} {fd : FuncData} {ps : List Str} {sp : Sp} {F : DSp}
theorem call_lenOwn (Fn : FnOk X.prog X.w X.K X.mg X.base CX0 k f fd ps sp) (hm : Meth X.K C "__len__" f) (hb : Binds X.K fd ps []) (hr : Room (k + 1) X.A) :
    CallR X (.builtin "len") (fun vs H Q => ∃ a dx fs, vs = [.ref a] ∧ H a = some (.ins C dx fs) ∧ sp [.ref a] H (fun v H' => ∃ n : Int, v = .int n ∧ 0 ≤ n ∧ n < 2 ^ 63 ∧ Q (.int n) H') E0) := by
  intro pins s σ H xs us Q I r h
  obtain ⟨a, dx, fs, rfl, ha, hsp⟩ := h
  obtain ⟨u, rfl, rx⟩ := vals1 r
  cases rx
  obtain ⟨mA, J, _⟩ := ins_get I.hok ha
  obtain ⟨od, J, _⟩ := J.look
  obtain ⟨m, hF⟩ := I.fr
  refine Calls.call_function_entry kind_len plain_len entry_len (args_len1 _) ?_
  unfold Builtin.«len»
  refine wpAny_bind (m := oneArg "len" _) (wpAny_pure ?_)
  have sb : L2.Sub X (k + 1) X.A := ⟨hr, rfl⟩
  have sb1 := sb.in1
  have e0 : Env0 X.prog X.w X.K X.mg X.base X.A.in1 X.stack s H := by
    have e := I.env0
    exact ⟨by rw [sb1.fr]; exact e.frames, e.mod, e.bs, e.bsz, e.funs, e.frf, e.hok, e.bare⟩
  have hl := Fn.len _ _ _ _ hsp
  have r2 : Vals [V.ref a] [Value.ref a] := .cons rfl .nil
  refine wpAny_bind (m := callSpecial? (.ref a) (Str.ofString "__len__")) (PySem.W.special_fn I.kIn J hm.at_ (beq_iff_eq.mp hm.fn) ?_)
  refine wpAny_call (codeAny_mono (Fn.run X.A.in1 X.stack s H ⟨[.ref a], []⟩ [.ref a] [.ref a] _ E0 sb1.room e0 (by
    have := hb s [.ref a] I.kIn (by simpa using hl)
    simpa using this) r2 hsp) fun r s' hq => ?_)
  cases r with
  | error e => exact pass0 (X := X) pins σ H s e s' I hq
  | ok fl =>
    cases fl with
    | ret w =>
      obtain ⟨z, H', I', rz, n, ez, n0, n1, q⟩ := I.after hq
      subst ez
      obtain ⟨t, rfl⟩ := rz
      refine wpAny_bind (wpAny_holding (wpAny_pure ?_))
      refine wpAny_bind (wpAny_letGo ?_)
      show wpAny _ _ (if n < 0 then _ else _) _ _ _
      rw [if_neg (by omega)]
      show wpAny _ _ (if n ≥ 2 ^ 63 then _ else _) _ _ _
      rw [if_neg (by omega)]
      exact wpAny_bind (wpAny_mkInt (wpAny_pure ⟨_, rfl, .int n, H', I'.tok _, ⟨_, rfl⟩, q⟩))
    | next => exact False.elim hq
    | brk => exact False.elim hq
    | cont => exact False.elim hq
/-- len(o), o of a class with __len__ -/
def zLenOwn (C : Addr) (F : DSp) : List Val → Store → DK → Prop := fun xs μ Q => match xs with
  | [.ptr a] => (∃ (j : Nat) (dx : Addr) (fs : List (Str × Val)), μ[j]? = some (a, Node.ins C dx fs)) ∧ own F [.ptr a] μ fun x μ2 => ∃ n : Int, x = .dat (.int n) ∧ 0 ≤ n ∧ n < 2 ^ 63 ∧ Q (.dat (.int n)) μ2
  | _ => False
theorem ca_lenOwn (M : MCalZ X.prog X.w X.K X.mg X.base k C "__len__" ps F) (hr : Room (k + 1) X.A) : CaZ X (.builtin "len") (zLenOwn C F) := by
  obtain ⟨f, fd, Fn, hm, hb⟩ := cal_clM M
  refine ⟨_, call_lenOwn Fn hm hb hr, fun B σ ρ H μ vs xs Q0 Q l R q low => ?_⟩
  match xs, l, R, q with
  | [.ptr a], l, R, q =>
    obtain ⟨v, rfl, R⟩ := one_arg l R
    obtain ⟨⟨j, dx, fs, hj⟩, q⟩ := q
    obtain ⟨gs, e, pr⟩ := R.at hj
    cases (R.head : v = .ref a)
    refine ⟨a, dx, gs, rfl, e, own_call (vs := [.ref a]) (xs := [.ptr a]) rfl R q ?_⟩
    rintro y μ2 ⟨n, rfl, n0, n1, q2⟩ v H2 R4
    cases (R4.head : Dz _ v (.int n))
    exact ⟨n, rfl, n0, n1, low _ _ q2 _ _ (R4.tail.cons (.int n))⟩
/-! ### seen otherwise -/
theorem weak_fz {ρ : DR} {μ : Store} {a : Addr} {xs : List Val} {ds : List PyData} (i j : Nat) (hi : ρ[i]? = some (some (.ptr a))) (hj : μ[j]? = some (a, .lst xs)) (hd : datOf xs = some ds) : Weak X ρ μ (ρ.set i (some (.dat (.list ds)))) (μ.eraseIdx j) := fun B H σ R => by
  obtain ⟨v, e, r⟩ := R.get hi
  have R1 := (R.cons r).fz hj hd
  refine R1.tail.slots ?_
  have := paired_set (x := some v) (y := some (Val.dat (.list ds))) i R1.tail.sl R1.head
  have es : σ.set i (some v) = σ := by
    refine List.ext_getElem? fun n => ?_
    rw [List.getElem?_set]
    split
    · rename_i h
      subst h
      rw [e, if_pos (List.getElem?_eq_some_iff.mp e).1]
    · rfl
  rw [es] at this
  exact this
theorem weak_perm {ρ : DR} {μ μ' : Store} (h : μ'.Perm μ) : Weak X ρ μ ρ μ' := fun _ _ _ R => R.perm h
theorem Weak.trans {ρ ρ' ρ'' : DR} {μ μ' μ'' : Store} (h : Weak X ρ μ ρ' μ') (g : Weak X ρ' μ' ρ'' μ'') : Weak X ρ μ ρ'' μ'' := fun B H σ R => g B H σ (h B H σ R)
theorem pick {α : Type} {l r : List α} {x : α} (j : Nat) (h : l[j]? = some x) (p : (l.eraseIdx j).Perm r) : l.Perm (x :: r) := (perm_at h).trans (p.cons x)
/-! ### lent lists -/
mutual
def noList : PyData → Bool
  | .list _ => false
  | .dict _ => false
  | .tuple ds => noLists ds
  | _ => true
def noLists : List PyData → Bool
  | [] => true
  | d :: ds => noList d && noLists ds
end
mutual
theorem Dz.keep {Z Z' : Hp} (g : Vd.Tups Z Z') : ∀ (d : PyData) (v : V), noList d = true → Dz Z v d → Dz Z' v d
  | .none, _, _, h => by cases h; exact .non
  | .bool b, _, _, h => by cases h; exact .bl b
  | .int i, _, _, h => by cases h; exact .int i
  | .str x, _, _, h => by cases h; exact .str x
  | .list ds, _, n, _ => by rw [noList] at n; cases n
  | .tuple ds, _, n, h => by
    rw [noList] at n
    cases h with
    | tup h1 h2 => exact .tup (g _ _ h1) (DzAll.keep g ds _ n h2)
  | .dict _, _, _, h => by cases h
theorem DzAll.keep {Z Z' : Hp} (g : Vd.Tups Z Z') : ∀ (ds : List PyData) (vs : List V), noLists ds = true → DzAll Z vs ds → DzAll Z' vs ds
  | [], _, _, h => by cases h; exact .nil
  | d :: ds, _, n, h => by
    rw [noLists, Bool.and_eq_true] at n
    cases h with
    | cons h1 h2 => exact .cons (Dz.keep g d _ n.1 h1) (DzAll.keep g ds _ n.2 h2)
end
def flatV : Val → Prop
  | .dat d => noList d = true
  | .ptr _ => True
  | .scr _ => False
  | .prt k _ => noList k = true
  | .tpl ps => ∀ d, Sum.inl d ∈ ps → noList d = true
def flatN : Node → Prop
  | .lst xs => ∀ x ∈ xs, flatV x
  | .dv kvs => ∀ p ∈ kvs, flatV p.2
  | .dvl _ _ kvs => ∀ p ∈ kvs, flatV p.2
  | .ins _ _ fs => ∀ p ∈ fs, flatV p.2
  | .tab _ => False
  | .rng _ _ _ => True
theorem mapM {α β : Type} {F G : α → β → Prop} {P : β → Prop} (f : ∀ a b, P b → F a b → G a b) : ∀ {l : List α} {r : List β}, (∀ b ∈ r, P b) → Paired F l r → Paired G l r
  | _, _, _, .nil => .nil
  | _, _, h, .cons r t => .cons (f _ _ (h _ (List.mem_cons_self ..)) r) (mapM f (fun b hb => h b (List.mem_cons_of_mem _ hb)) t)
theorem RV.keep {K : PySem.W.Frag} {Z Z' : Hp} (g : Vd.Tups Z Z') {v : V} {x : Val} (n : flatV x) (h : RV K Z v x) : RV K Z' v x := by
  cases x with
  | dat d => exact Dz.keep g d v n h
  | ptr a => exact h
  | scr ns => exact n.elim
  | prt k a => exact h.imp fun t z => z.imp fun u z => ⟨z.1, g _ _ z.2.1, Dz.keep g k _ n z.2.2⟩
  | tpl ps => exact h.imp fun t z => z.imp fun vs z => ⟨z.1, g _ _ z.2.1, mapM (P := fun p : PyData ⊕ Addr => ∀ d, p = .inl d → noList d = true) (fun v p f r => by
      cases p with
      | inl d => exact Dz.keep g d v (f d rfl) r
      | inr a => exact r) (fun p hp d e => n d (e ▸ hp)) z.2.2⟩
theorem RN.keep {w : World} {K : PySem.W.Frag} {Z Z' H : Hp} (g : Vd.Tups Z Z') {a : Addr} {n : Node} (f : flatN n) (h : RN w K Z H a n) : RN w K Z' H a n := by
  cases n with
  | lst xs => exact h.imp fun vs z => ⟨z.1, mapM (P := flatV) (fun _ _ p r => RV.keep g p r) f z.2⟩
  | dv kvs => exact h.imp fun ks z => ⟨z.1, z.2.1, mapM (P := fun p : NestedKey × Val => flatV p.2) (fun _ _ p k => ⟨k.1, k.2.1, k.2.2.1.keep g, RV.keep g p k.2.2.2⟩) f z.2.2⟩
  | dvl ob ks kvs => exact ⟨h.1, h.2.1, mapM (P := fun p : NestedKey × Val => flatV p.2) (fun _ _ p k => ⟨k.1, k.2.1, k.2.2.1.keep g, RV.keep g p k.2.2.2⟩) f h.2.2⟩
  | ins C dx fs => exact h.imp fun gs z => ⟨z.1, mapM (P := fun p : Str × Val => flatV p.2) (fun _ _ p k => ⟨k.1, RV.keep g p k.2⟩) f z.2⟩
  | tab _ => exact f.elim
  | rng _ _ _ => exact h
theorem RN.noTup {w : World} {K : PySem.W.Frag} {Z H : Hp} {a : Addr} {n : Node} {xs : List V} (h : RN w K Z H a n) (e : H a = some (.tup xs)) : False := by
  cases n with
  | lst _ =>
    obtain ⟨_, e2, _⟩ := h
    rw [e] at e2
    cases e2
  | dv _ =>
    obtain ⟨_, e2, _⟩ := h
    rw [e] at e2
    cases e2
  | dvl _ _ _ =>
    obtain ⟨e2, _⟩ := h
    rw [e] at e2
    cases e2
  | ins _ _ _ =>
    obtain ⟨_, e2, _⟩ := h
    rw [e] at e2
    cases e2
  | tab _ =>
    obtain ⟨_, e2, _⟩ := h
    rw [e] at e2
    cases e2
  | rng _ _ _ =>
    rw [show H a = some (rgO a _ _ _) from h] at e
    cases e
/-- an argument as the callee sees it -/
inductive Lent (μ : Store) : Val → Val → Prop
  | keep (x : Val) : Lent μ x x
  | p (j : Nat) {a : Addr} {xs : List Val} {ds : List PyData} : μ[j]? = some (a, .lst xs) → datOf xs = some ds → Lent μ (.ptr a) (.dat (.list ds))
def lend (F : DSp) (xs : List Val) (μ : Store) (Q : DK) : Prop := ∃ ys, Paired (Lent μ) xs ys ∧ F ys [] fun x ν => (flatV x ∧ ∀ p ∈ ν, flatN p.2) ∧ Q x (μ ++ ν)
theorem lent_at {B : Base} {H : Hp} {μ : Store} {σ : List (Option V)} {ρ : DR} (R : RL X.w X.K B H σ ρ μ) {v : V} {x y : Val} (r : RV X.K (Fz (B.fr ++ μ) H) v x) (l : Lent μ x y) : RV X.K H v y := by
  cases l with
  | keep x => exact RV.mono fz_le r
  | p j hj hd =>
    obtain ⟨vs, e, pr⟩ := R.at hj
    cases (r : v = .ref _)
    exact .lst e (DzAll.mono fz_le _ _ (datOf_all pr hd))
theorem lent_all {B : Base} {H : Hp} {μ : Store} {σ : List (Option V)} {ρ : DR} (R : RL X.w X.K B H σ ρ μ) : ∀ {vs : List V} {xs ys : List Val}, Paired (Lent μ) xs ys → Paired (RVo X.K (Fz (B.fr ++ μ) H)) (vs.map some) (xs.map some) → Paired (RVo X.K H) (vs.map some) (ys.map some)
  | [], [], _, .nil, _ => .nil
  | [], _ :: _, _, _, h => by cases h
  | _ :: _, [], _, _, h => by cases h
  | v :: vs, x :: xs, _, .cons l t, h => by
    cases h with
    | cons r h => exact .cons (lent_at R (v := v) (x := x) r l) (lent_all R t h)
theorem lend_call {B : Base} {H : Hp} {σ : List (Option V)} {ρ : DR} {μ : Store} {vs : List V} {xs : List Val} {Q0 : DK} {Q : VK} (l : vs.length = xs.length) (R : RL X.w X.K B H (vs.map some ++ σ) (xs.map some ++ ρ) μ) (h : lend F xs μ Q0) (low : Low X B σ ρ Q0 Q) : spZ X.w X.K (Cl F) vs H Q E0 := by
  obtain ⟨ys, le, f⟩ := h
  have fn : Fz [] H = H := by
    funext x
    unfold Fz
    simp
  have sl := (paired_split (by simp [l]) R.sl).1
  have sr := (paired_split (by simp [l]) R.sl).2
  have ly : xs.length = ys.length := le.length
  have rel := lent_all R le sl
  refine ⟨⟨H, []⟩, ys, [], _, by omega, ⟨by simp, fun x o h => by rw [show (([] : Store) ++ []) = [] from rfl, fn]; exact h, by rw [show (([] : Store) ++ []) = [] from rfl, fn]; exact rel, fun p hp => by simp at hp⟩, ⟨_, f, fun x ν q => q⟩, fun x ν ⟨⟨fx, fν⟩, q⟩ v H' R2 => low x _ q v H' ?_⟩
  have b2 : ∀ x o, H x = some o → x ∉ ν.map (·.1) ∧ H' x = some o := fun x o e => Fz.sub (R2.base x o e)
  have same : ∀ q ∈ B.fr ++ μ, H' q.1 = H q.1 := fun q hq => by
    cases e : H q.1 with
    | none => exact absurd e (R.st q hq).live
    | some o => exact (b2 _ _ e).2
  have out : ∀ q ∈ B.fr ++ μ, q.1 ∉ ν.map (·.1) := fun q hq => by
    cases e : H q.1 with
    | none => exact absurd e (R.st q hq).live
    | some o => exact (b2 _ _ e).1
  have g3 : ∀ x o, Fz (B.fr ++ μ) H x = some o → Fz (B.fr ++ (μ ++ ν)) H' x = some o := fun x o h => by
    obtain ⟨h1, h2⟩ := Fz.sub h
    obtain ⟨h3, h4⟩ := b2 _ _ h2
    refine Fz.of (fun z => ?_) h4
    rw [← List.append_assoc, List.map_append] at z
    rcases List.mem_append.mp z with z | z
    · exact h1 z
    · exact h3 z
  have tp : Vd.Tups (Fz ν H') (Fz (B.fr ++ (μ ++ ν)) H') := fun x us e => by
    obtain ⟨h1, h2⟩ := Fz.sub e
    refine Fz.of (fun z => ?_) h2
    rw [← List.append_assoc, List.map_append] at z
    rcases List.mem_append.mp z with z | z
    · obtain ⟨q, hq, rfl⟩ := List.mem_map.mp z
      rw [same q hq] at h2
      exact (R.st q hq).noTup h2
    · exact h1 z
  have nd2 : (ν.map (·.1)).Nodup := R2.nd
  refine ⟨?_, fun x o h => g3 _ _ (R.base x o h), .cons (RV.keep (v := v) tp fx R2.head) (L2.Paired.mapP sr fun _ _ => RVo.mono g3), fun q hq => ?_⟩
  · rw [← List.append_assoc, List.map_append, List.nodup_append]
    refine ⟨R.nd, nd2, fun x hx y hy e => ?_⟩
    obtain ⟨q, hq, rfl⟩ := List.mem_map.mp hx
    exact out q hq (by rw [e]; exact hy)
  · rw [← List.append_assoc] at hq
    rcases List.mem_append.mp hq with hq | hq
    · exact (R.st q hq).mono g3 (same q hq)
    · exact RN.keep tp (fν q hq) (R2.st q hq)
/-- a def: own lists are lent to it, what it gives is made of no list -/
abbrev dOwnL (F : DSp) (g : DTA) : DTE := fun ρ μ Q => g ρ μ fun xs μ1 => lend F xs μ1 Q
variable {x : Str} {e : Expr} {es : List Expr} {g : DTA} {p pos : Pos}
theorem d_ownL (M : CalZ X.prog X.w X.K X.mg X.base k x ps F) (hr : Room k X.A) (hg : Gl X x) (ha : DA X (e :: es) g)
    (hdb : (x == ("__debug__" : Str)) = false := by decide) (he : starEach (e :: es) X.env = (false, eval e X.env) :: starEach es X.env := by rfl) (hpl : (backTo pos (starEach es X.env)).any (·.1) = false := by rfl) :
    DE X (.Call (.Name x p) (e :: es) [] pos) (dOwnL F g) :=
  ⟨fun B => PE.weak (pe_own (cal_cl M) hr hg (ha.run B) hdb he hpl) fun σ H Q ⟨hv, hx, ρ, μ, Q0, hl, R0, h, low⟩ => by
    refine ⟨hv, hx, ρ, μ, _, hl, R0, h, fun xs μ1 h1 vs H1 l R1 => ?_⟩
    show spZ _ _ _ (vs ++ []) _ _ _
    rw [List.append_nil]
    exact lend_call l R1 h1 low⟩
end
end Zl
/-! list(range(n)) -/
namespace Zl
open PySem PySem.Spec PyProof.Rows L2 Lf
section
variable {X : Cx} {e : Expr} {f : DTE}
def intsV (n : Int) : List Val := (List.range n.toNat).map fun i => .dat (.int (i : Nat))
abbrev dListRg (f : DTE) : DTE := fun ρ μ Q => f ρ μ fun x μ1 => match x with
  | .dat (.int n) => 0 ≤ n ∧ n ≤ 16777216 ∧ ∀ p, Q (.ptr p) (μ1 ++ [(p, .lst (intsV n))])
  | _ => False
theorem d_listRg {p pos rp rpos : Pos} (hc : X.calm = true) (hl : Gl X "list") (hlm : X.mg "list" = none) (hg : Gl X "range") (hm : X.mg "range" = none) (he : DE X e f)
    (na : starEach [e] X.env = (false, eval e X.env) :: starEach [] X.env := by rfl) (nb : starEach [.Call (.Name "range" rp) [e] [] rpos] X.env = (false, eval (.Call (.Name "range" rp) [e] [] rpos) X.env) :: starEach [] X.env := by rfl) :
    DE X (.Call (.Name "list" p) [.Call (.Name "range" rp) [e] [] rpos] [] pos) (dListRg f) :=
  ⟨fun B => PE.weak (pe_listRg hc hl hlm (prg_1 (p := rp) (pos := rpos) hg hm (he.run B) na) nb) fun σ H Q ⟨hv, hx, ρ, μ, Q0, hl, R0, h, low⟩ => by
    refine ⟨hv, hx, ρ, μ, _, hl, R0, h, fun x μ1 q v H1 R1 => ?_⟩
    match x, q, R1 with
    | .dat (.int n), q, R1 =>
      obtain ⟨n0, n1, q⟩ := q
      cases (R1.head : Dz _ v (.int n))
      refine ⟨n, rfl, RgOk.of_le (Int.le_refl _) n1 (by decide) n0, fun p hp => low _ _ (q p) _ _ ?_⟩
      have R2 := R1.tail.new (n := .lst (intsV n)) (o := .lst (rgV 0 n)) hp ⟨_, upd_same, ?_⟩
      · exact R2.cons rfl
      · unfold rgV intsV
        rw [Int.sub_zero]
        generalize List.range n.toNat = l
        induction l with
        | nil => exact .nil
        | cons a l ih =>
          refine .cons ?_ ih
          show RV _ _ (V.int (0 + (a : Nat))) (Val.dat (.int (a : Nat)))
          rw [Int.zero_add]
          exact .int _⟩
end
end Zl
/-! A def that is run only where no guard stands around it (repr of lists may be told in it). -/
namespace Zl
open PySem PySem.Spec PyProof.Rows L2 Lf
def CalG (P : Program) (w : World) (K : PySem.W.Frag) (mg : Str → Option Value) (base : Heap) (k : Nat) (x : Str) (ps : List Str) (F : DSp) : Prop :=
  ∃ (f : Addr) (fd : FuncData), ((∀ vs H Q E, spZ w K F vs H Q E → vs.length = ps.length) ∧ ∀ A, Room k A → A.guards = some [] → Gd.RunAt A P w K mg base f fd ps (spZ w K F)) ∧ mg x = some (.ref f) ∧ PySem.W.keepIn K (.ref f) = true ∧ Binds K fd ps []
theorem len_z {w : World} {K : PySem.W.Frag} {F : DSp} {ps : List Str} (len : ∀ xs μ Q, F xs μ Q → xs.length = ps.length) : ∀ vs H Q E, spZ w K F vs H Q E → vs.length = ps.length := fun vs H Q E h => by
  obtain ⟨B, xs, μ, Q0, l, _, h, _⟩ := h
  rw [l]
  exact len _ _ _ h
theorem okG {P : Program} {w : World} {K : PySem.W.Frag} {mg : Str → Option Value} {base : Heap} {x qual : Str} {st : Stmt} {f : Addr} {fd : FuncData} {N ps : List Str} {k : Nat} {F : DSp} (FF : Fun K x qual st f fd) (S : FnScope N ps (defScope st))
    (len : ∀ xs μ Q, F xs μ Q → xs.length = ps.length)
    (body : ∀ (A : Around) (cdv : Value) (outer : List Env) (s : Shared) (H : Hp) (E : XK), Room k (A.deeper (envOfC qual (defScope st) s.heap.objs.size f cdv)) → (A.deeper (envOfC qual (defScope st) s.heap.objs.size f cdv)).guards = some [] →
      ∃ t : DTS, DSs (cxOf CX0 P w K mg base N qual (defScope st) f cdv A outer s H E).nox (defBody st) t ∧ ∀ xs μ Q, F xs μ Q → t (dEnd Q) (startZ N xs) μ) :
    (∀ vs H Q E, spZ w K F vs H Q E → vs.length = ps.length) ∧ ∀ A, Room (k + 1) A → A.guards = some [] → Gd.RunAt A P w K mg base f fd ps (spZ w K F) :=
  ⟨len_z len, fun A rm hG => runZ FF S rm len fun cdv outer s H E hr => body A cdv outer s H E hr hG⟩
section
variable {X : Cx} {k : Nat} {ps : List Str} {F : DSp} {x : Str} {e : Expr} {es : List Expr} {g : DTA} {t : TA} {p pos : Pos}
theorem pe_ownG (C : CalG X.prog X.w X.K X.mg X.base k x ps F) (hr : Room k X.A) (hG : X.A.guards = some []) (hg : Gl X x) (ha : PA X (e :: es) t)
    (hdb : (x == ("__debug__" : Str)) = false := by decide) (he : starEach (e :: es) X.env = (false, eval e X.env) :: starEach es X.env := by rfl) (hpl : (backTo pos (starEach es X.env)).any (·.1) = false := by rfl) :
    PE X (.Call (.Name x p) (e :: es) [] pos) (tCall (spZ X.w X.K F) [] E0 t) := by
  obtain ⟨f, fd, ⟨hlen, F⟩, hm, hk, hb⟩ := C
  refine ⟨fun pins s σ H Q I h => ?_⟩
  refine wpAny_Call_Name_kw (ld_glob I hg hm ?_ hdb)
  refine PySem.W.callWith_K (h₀ := X.base) I.ok.mod.kin hk (thn (ha.run pos pins s σ H _ I h) fun us s1 ⟨vs, H1, I1, r, q⟩ => ⟨I1.kIn, ?_⟩) he hpl
  have q : spZ X.w X.K _ (vs ++ []) H1 Q E0 := q
  rw [List.append_nil] at q
  have hl : us.length = ps.length := by rw [← r.length]; exact hlen _ _ _ _ q
  refine wpAny_call (codeAny_mono (F X.A hr hG X.stack s1 H1 ⟨us, []⟩ us vs Q E0 I1.env0 (by
    have := hb s1 us I1.kIn (by simpa using hl)
    simpa using this) r q) fun r s' hq => ?_)
  cases r with
  | error e => exact pass0 (X := X) pins σ H1 s1 e s' I1 hq
  | ok fl =>
    cases fl with
    | ret u => exact I1.after hq
    | next => exact False.elim hq
    | brk => exact False.elim hq
    | cont => exact False.elim hq
theorem spZ_cl {w : World} {K : PySem.W.Frag} {F : DSp} {vs : List V} {H : Hp} {Q : VK} {E : XK} (h : spZ w K (Cl F) vs H Q E) : spZ w K F vs H Q E := by
  obtain ⟨B, xs, μ, Q0, l, R, ⟨Q', f', m⟩, low⟩ := h
  exact ⟨B, xs, μ, Q', l, R, f', fun x ν q => low x ν (m _ _ q)⟩
theorem d_ownSG (M : CalG X.prog X.w X.K X.mg X.base k x ps F) (hr : Room k X.A) (hG : X.A.guards = some []) (hg : Gl X x) (ha : DA X (e :: es) g)
    (hdb : (x == ("__debug__" : Str)) = false := by decide) (he : starEach (e :: es) X.env = (false, eval e X.env) :: starEach es X.env := by rfl) (hpl : (backTo pos (starEach es X.env)).any (·.1) = false := by rfl) :
    DE X (.Call (.Name x p) (e :: es) [] pos) (dOwnS F g) :=
  ⟨fun B => PE.weak (pe_ownG M hr hG hg (ha.run B) hdb he hpl) fun σ H Q ⟨hv, hx, ρ, μ, Q0, hl, R0, h, low⟩ => by
    refine ⟨hv, hx, ρ, μ, _, hl, R0, h, fun xs μ1 h1 vs H1 l R1 => ?_⟩
    show spZ _ _ _ (vs ++ []) _ _ _
    rw [List.append_nil]
    exact spZ_cl (own_call l R1 h1 low)⟩
end
end Zl
/-! Dicts all of whose keys are texts: dict(pairs), dict(d), sorted(d), by the library's own kind. -/
namespace Vd
open PySem PySem.Spec PySem.Calls PyProof.Rows L2
def textOf : NestedKey → Str
  | .text x => x
  | _ => Str.empty
def rowK (r : Row) : Key × Value := (Sum.inr (textOf r.1), r.2.2)
theorem hash_text (w : World) (x : Str) : keyH w (Sum.inr x) = (NestedKey.text x).hash w := rfl
theorem text_is (P : Program) (w : World) {x : Str} {v : Value} {h : Heap} (n : NestedIs h (.text x) v) : (mixKind P w).is (Sum.inr x) v = true := by
  cases n
  exact mixKind_str P w x _
theorem pairs_rows {P : Program} {w : World} {h : Heap} : ∀ {xs : List Row}, (∀ x ∈ xs, NestedIs h x.1 x.2.1) → (∀ r ∈ xs, ∃ x, r.1 = .text x) → Pairs (mixKind P w) (xs.map (ent w)) (xs.map rowK)
  | [], _, _ => .nil
  | r :: xs, i, t => by
    refine .cons ?_ rfl (pairs_rows (fun x hx => i x (List.mem_cons_of_mem _ hx)) fun x hx => t x (List.mem_cons_of_mem _ hx))
    obtain ⟨x, e⟩ := t r (List.mem_cons_self ..)
    have n := i r (List.mem_cons_self ..)
    show (mixKind P w).is (Sum.inr (textOf r.1)) r.2.1 = true
    rw [e] at n ⊢
    exact text_is P w n
theorem keys_rows {xs : List Row} (t : ∀ r ∈ xs, ∃ x, r.1 = .text x) (nd : (xs.map (·.1)).Nodup) : ((xs.map rowK).map (·.1)).Nodup := by
  induction xs with
  | nil => exact .nil
  | cons r xs ih =>
    rw [List.map_cons, List.nodup_cons] at nd
    rw [List.map_cons, List.map_cons, List.nodup_cons]
    refine ⟨fun z => nd.1 ?_, ih (fun x hx => t x (List.mem_cons_of_mem _ hx)) nd.2⟩
    rw [List.map_map] at z
    obtain ⟨q, hq, e⟩ := List.mem_map.mp z
    obtain ⟨x, ex⟩ := t r (List.mem_cons_self ..)
    obtain ⟨y, ey⟩ := t q (List.mem_cons_of_mem _ hq)
    have e2 : Sum.inr (textOf q.1) = (Sum.inr (textOf r.1) : Key) := e
    injection e2 with e2
    rw [ex, ey] at e2
    refine List.mem_map.mpr ⟨q, hq, ?_⟩
    rw [ex, ey]
    exact congrArg _ e2
theorem dictOf_of (P : Program) {w : World} {h : Heap} {d : Addr} {xs : List Row} (m : Holds w h d xs) (R : Rows h xs) (t : ∀ r ∈ xs, ∃ x, r.1 = .text x) : h.DictOf (mixKind P w) d (xs.map rowK) := by
  obtain ⟨o, es, ep, e1, e2, e3, e4⟩ := m
  refine ⟨o, es, ep, e1, e2, e3, fun e he => ?_, by rw [e4]; exact pairs_rows R.is t, keys_rows t R.nd⟩
  have he' : e ∈ es.toList := by simpa using he
  rw [e4] at he'
  obtain ⟨r, hr, rfl⟩ := List.mem_map.mp he'
  obtain ⟨x, ex⟩ := t r hr
  have n := R.is r hr
  rw [ex] at n
  refine ⟨Sum.inr x, text_is P w n, ?_⟩
  show r.1.hash w = _
  rw [ex]
  exact (hash_text w x).symm
theorem rows_of {P : Program} {w : World} : ∀ {es : List DictEntry} {kvs : List (Str × Value)}, Pairs (mixKind P w) es (kvs.map fun kv => (Sum.inr kv.1, kv.2)) → (∀ e ∈ es, ∃ k, (mixKind P w).is k e.key = true ∧ e.hash = (mixKind P w).hash k) →
    ∃ xs : List Row, es = xs.map (ent w) ∧ Paired (fun (r : Row) (kv : Str × Value) => r.1 = .text kv.1 ∧ (∃ t, r.2.1 = .str kv.1 t) ∧ r.2.2 = kv.2) xs kvs
  | [], [], _, _ => ⟨[], rfl, .nil⟩
  | _ :: _, [], h, _ => by cases h
  | [], _ :: _, h, _ => by cases h
  | e :: es, kv :: kvs, h, k => by
    cases h with
    | cons h1 h2 h3 =>
      obtain ⟨xs, e1, pr⟩ := rows_of h3 fun e he => k e (List.mem_cons_of_mem _ he)
      obtain ⟨k', i', hh⟩ := k e (List.mem_cons_self ..)
      have ek : Sum.inr kv.1 = k' := (mixKind P w).inj e.key _ _ h1 i'
      subst ek
      refine ⟨(.text kv.1, e.key, e.val) :: xs, ?_, .cons ⟨rfl, ?_, h2⟩ pr⟩
      · rw [List.map_cons, e1]
        have : e = ent w (.text kv.1, e.key, e.val) := by
          obtain ⟨a, b, c⟩ := e
          have hh' : a = _ := hh
          rw [hh']
          rfl
        rw [← this]
      · obtain ⟨t, ev⟩ := Value.isStrOf_shape (x := kv.1) (v := e.key) h1
        exact ⟨t, ev⟩
theorem holds_of {P : Program} {w : World} {h : Heap} {d : Addr} {kvs : List (Str × Value)} (m : h.DictOf (mixKind P w) d (kvs.map fun kv => (Sum.inr kv.1, kv.2))) :
    ∃ xs : List Row, Holds w h d xs ∧ Paired (fun (r : Row) (kv : Str × Value) => r.1 = .text kv.1 ∧ (∃ t, r.2.1 = .str kv.1 t) ∧ r.2.2 = kv.2) xs kvs := by
  obtain ⟨o, es, ep, e1, e2, e3, e4, e5, e6⟩ := m
  obtain ⟨xs, ex, pr⟩ := rows_of e5 fun e he => e4 e (by simpa using he)
  exact ⟨xs, ⟨o, es, ep, e1, e2, e3, ex⟩, pr⟩
/-- the entries of a dict whose keys are texts -/
def txt (kvs : List (Str × V)) : List KVR := kvs.map fun kv => (.text kv.1, .str kv.1, kv.2)
section
variable {X : Cx}
theorem rel_txt {kvs : List (Str × V)} {prs : List (Str × Value)} {xs : List Row} (r : Paired (fun (p : Str × V) (q : Str × Value) => p.1 = q.1 ∧ RelV p.2 q.2) kvs prs) (pr : Paired (fun (r : Row) (kv : Str × Value) => r.1 = .text kv.1 ∧ (∃ t, r.2.1 = .str kv.1 t) ∧ r.2.2 = kv.2) xs prs) : Paired RelR (txt kvs) xs := by
  induction r generalizing xs with
  | nil =>
    cases pr
    exact .nil
  | cons h t ih =>
    cases pr with
    | cons h2 t2 =>
      obtain ⟨h2a, ⟨tk, h2b⟩, h2c⟩ := h2
      refine .cons ⟨?_, ?_, ?_⟩ (ih t2)
      · show NestedKey.text _ = _
        rw [h2a, h.1]
      · rw [h2b, ← h.1]
        exact ⟨tk, rfl⟩
      · rw [h2c]
        exact h.2
/-- dict(xs), xs a list of pairs whose first are unlike texts -/
theorem call_dictPV (hcalm : X.calm = true) : CallR X (.type "dict") (fun xs H Q => ∃ (a : Addr) (ps : List Addr) (kvs : List (Str × V)), xs = [.ref a] ∧ SqL X.K H a (ps.map V.ref) ∧ Paired (fun p (kv : Str × V) => SqT X.K H p [.str kv.1, kv.2]) ps kvs ∧ (kvs.map (·.1)).Nodup ∧
    ∀ p, H p = none → Q (.ref p) (upd H p (dV X.w p (txt kvs)))) := by
  intro pins s σ H xs us Q I r q
  obtain ⟨a, ps, kvs, ex, hq, hp, nd, q⟩ := q
  subst ex
  obtain ⟨u, eu, rx⟩ := vals1 r
  subst eu
  cases rx
  obtain ⟨its, rv, pl, hz⟩ := I.list hq
  have ei := refs_at rv
  subst ei
  rw [List.length_map] at hz
  let kk : List (Key × V) := kvs.map fun kv => (Sum.inr kv.1, kv.2)
  have hp2 : Paired (fun p (kv : Key × V) => SqT X.K H p [kV kv.1, kv.2]) ps kk := by
    show Paired _ ps (kvs.map _)
    clear q nd hq rv pl hz
    induction hp with
    | nil => exact .nil
    | cons h t ih => exact .cons h ih
  obtain ⟨prs, rel, hl, hpr⟩ := pairs_of I hp2
  obtain ⟨prt, ep, rel2⟩ : ∃ prt : List (Str × Value), prs = prt.map (fun kv => (Sum.inr kv.1, kv.2)) ∧ Paired (fun (p : Str × V) (q : Str × Value) => p.1 = q.1 ∧ RelV p.2 q.2) kvs prt := by
    have rel : KV (kvs.map fun kv => ((Sum.inr kv.1, kv.2) : Key × V)) prs := rel
    clear hpr hl hp2 hp q nd hq rv pl hz
    induction kvs generalizing prs with
    | nil =>
      cases rel
      exact ⟨[], rfl, .nil⟩
    | cons kv kvs ih =>
      cases rel with
      | cons h t =>
        obtain ⟨prt, e, r⟩ := ih _ t t
        rename_i b bs
        obtain ⟨b1, b2⟩ := b
        obtain ⟨h1, h2⟩ := h
        dsimp only at h1 h2
        subst h1
        exact ⟨(kv.1, b2) :: prt, by rw [e]; rfl, .cons ⟨rfl, h2⟩ r⟩
  have ndt : (prs.map (·.1)).Nodup := by
    have e1 : prs.map (·.1) = (kvs.map (·.1)).map Sum.inr := by
      rw [ep, List.map_map, List.map_map]
      clear hpr hl hp2 hp q nd hq rv pl hz rel ep
      induction rel2 with
      | nil => rfl
      | cons h t ih =>
        rw [List.map_cons, List.map_cons, ih]
        exact congrArg (· :: _) (congrArg Sum.inr h.1.symm)
    rw [e1]
    exact nd.map _ (fun a b h e => h (Sum.inr.inj e))
  obtain ⟨o, n, ho, hc, hd, hdat⟩ := pl
  refine call_dict_pairs (prs := prs) (I.ok.hd hcalm) ho hc hd hdat (by simp [hl]) (by rw [hl]; exact hz) (fun j q' e => ?_) fun h' tk hd' k => ?_
  · obtain ⟨b, u, e1, e2, e3⟩ := hpr j q' e
    exact ⟨b, u, by simp [e1], e2, e3⟩
  · have hm : (s.heap.objs.size == sysModules) = false := beq_eq_false_iff_ne.mpr (Nat.ne_of_gt I.big)
    rw [merged_nil_of_nodup _ ndt, ep] at hd'
    obtain ⟨xs, hx, pr⟩ := holds_of hd'
    have hlen : (txt kvs).length ≤ sizeLine := by
      unfold txt
      rw [List.length_map, ← hp.length]
      exact hz
    exact ⟨.ref s.heap.objs.size, upd H s.heap.objs.size (dV X.w s.heap.objs.size (txt kvs)), I.laid (t' := tk) k (Nat.le_refl _) (dV_ok hm hlen (rel_txt rel2 pr) hx), rfl, q _ (I.hok.fresh (Nat.le_refl _))⟩
theorem DAt.txts {P : Program} {w : World} {H : Hp} {h : Heap} {d : Addr} {kvs : List (Str × V)} (D : DAt w H d (txt kvs)) (ok : HOk P w H h) :
    (d == sysModules) = false ∧ kvs.length ≤ sizeLine ∧ ∃ prs : List (Str × Value), Paired (fun (p : Str × V) (q : Str × Value) => p.1 = q.1 ∧ RelV p.2 q.2) kvs prs ∧ h.DictOf (mixKind P w) d (prs.map fun kv => (Sum.inr kv.1, kv.2)) := by
  obtain ⟨hd, hz, xs, rel, m, R⟩ := D.out ok
  have t : ∀ r ∈ xs, ∃ x, r.1 = .text x := fun r hr => by
    obtain ⟨p, hp, q⟩ := paired_mem rel hr
    obtain ⟨kv, hkv, rfl⟩ := List.mem_map.mp hp
    exact ⟨kv.1, q.1.symm⟩
  have dd := dictOf_of P m R t
  have e : xs.map rowK = (xs.map fun r => (textOf r.1, r.2.2)).map fun kv => ((Sum.inr kv.1, kv.2) : Key × Value) := by
    rw [List.map_map]
    rfl
  rw [e] at dd
  refine ⟨hd, by rw [txt, List.length_map] at hz; exact hz, _, ?_, dd⟩
  clear dd e m R D t hz
  unfold Vd.txt at rel
  induction kvs generalizing xs with
  | nil =>
    cases rel
    exact .nil
  | cons kv kvs ih =>
    cases rel with
    | cons h t =>
      obtain ⟨h1, h2, h3⟩ := h
      refine .cons ⟨?_, h3⟩ (ih _ t)
      show kv.1 = textOf _
      rw [← h1]
      rfl
/-- dict(d): a copy -/
theorem call_dictCV : CallR X (.type "dict") (fun xs H Q => ∃ (a : Addr) (kvs : List (Str × V)), xs = [.ref a] ∧ DAt X.w H a (txt kvs) ∧ ∀ p, H p = none → Q (.ref p) (upd H p (dV X.w p (txt kvs)))) := by
  intro pins s σ H xs us Q I r q
  obtain ⟨a, kvs, ex, D, q⟩ := q
  subst ex
  obtain ⟨u, eu, rx⟩ := vals1 r
  subst eu
  cases rx
  obtain ⟨lo, z, prs, rel, dd⟩ := D.txts I.hok
  refine kt_call_dict lo dd (by rw [List.length_map, ← rel.length]; exact z) fun h' d' hs => ?_
  have hm : (s.heap.objs.size == sysModules) = false := beq_eq_false_iff_ne.mpr (Nat.ne_of_gt I.big)
  obtain ⟨xs, hx, pr⟩ := holds_of d'
  exact ⟨.ref s.heap.objs.size, upd H s.heap.objs.size (dV X.w s.heap.objs.size (txt kvs)), I.laid (t' := s.toks) (fun b u e => (hs.2 b (Nat.ne_of_lt (Heap.lt_size e))).trans (Heap.get?_push_of_some _ e)) (Nat.le_refl _)
    (dV_ok hm (by unfold Vd.txt; rw [List.length_map]; exact z) (rel_txt rel pr) hx), rfl, q _ (I.hok.fresh (Nat.le_refl _))⟩
/-- sorted(d), fewer than 64 keys, all texts -/
theorem call_sortedV (hcalm : X.calm = true) : CallR X (.builtin "sorted") (fun xs H Q => ∃ (a : Addr) (kvs : List (Str × V)), xs = [.ref a] ∧ DAt X.w H a (txt kvs) ∧ kvs.length < 64 ∧
    ∀ ys p, ys.Perm (kvs.map (·.1)) → sortedS ys = true → H p = none → Q (.ref p) (upd H p (.lst (ys.map V.str)))) := by
  intro pins s σ H xs us Q I r q
  obtain ⟨a, kvs, ex, D, h64, q⟩ := q
  subst ex
  obtain ⟨u, eu, rx⟩ := vals1 r
  subst eu
  cases rx
  obtain ⟨lo, z, prs, rel, dd⟩ := D.txts I.hok
  obtain ⟨ep, hat⟩ := dd.dictAt
  have hk : prs.map (·.1) = kvs.map (·.1) := by
    clear dd hat D h64 q z
    induction rel with
    | nil => rfl
    | cons h t ih => rw [List.map_cons, List.map_cons, ih, h.1]
  have hl : prs.length = kvs.length := by
    have e := congrArg List.length hk
    rw [List.length_map, List.length_map] at e
    exact e
  have h16 : (prs.map fun kv => ((Sum.inr kv.1, kv.2) : Key × Value)).length ≤ sizeLine := by rw [List.length_map, hl, sizeLine_eq]; omega
  refine Calls.call_function_entry PyProof.Rows.kind_sorted PyProof.Rows.plain_sorted PyProof.Rows.entry_sorted (PyProof.Rows.args_sorted1 _) ?_
  unfold Builtin.«sorted»
  refine wpAny_bind (m := checkCount "sorted" 1 1 _) (wpAny_pure ?_)
  refine wpAny_bind (PySem.W.kdu_collect (A := X.A.in1) (PySem.W.kdl_dict (knd := mixKind X.prog X.w) (kvs := prs.map fun kv => ((Sum.inr kv.1, kv.2) : Key × Value)) (ep := ep) lo) (I.ok.hd hcalm) hat h16 fun h' tk acc hk' hacc => ?_)
  have hal : acc.toList.length = (kvs.map (·.1)).length := by rw [Array.length_toList, hacc.1, List.length_map, List.length_map, hl]
  have hS : StrsAre acc.toList (kvs.map (·.1)) := strs_at hal fun j v e => by
    obtain ⟨k, x, e1, e2⟩ := hacc.2 j v (by rw [← Array.getElem?_toList]; exact e)
    rw [List.getElem?_map] at e1
    obtain ⟨kv, e3, e4⟩ := Option.map_eq_some_iff.mp e1
    cases e4
    obtain ⟨t, ev⟩ := Value.isStrOf_shape (x := kv.1) (v := v) e2
    refine ⟨kv.1, t, ?_, ev⟩
    rw [← hk, List.getElem?_map, e3]
    rfl
  have I1 : Inv X pins σ H { s with heap := h', toks := tk } := I.kept hk'
  refine wpAny_bind (wpAny_newList ?_ (by rw [hal, List.length_map, sizeLine_eq]; omega))
  have hoL : (h'.push (seqObj "list" acc.toList.toArray 0)).get? h'.objs.size = some (seqObj "list" acc.toList.toArray 0) := Heap.get?_push_size _ rfl
  show wpAny _ _ _ _ _ { s with heap := h'.push (seqObj "list" acc.toList.toArray 0), toks := tk }
  refine wpAny_bind (wpAny_holding (wpAny_call_entry PyProof.Rows.slot_list_sort ⟨_, hoL, rfl⟩ PyProof.Rows.entry_list_sort
    (list_sort_treeK strKind_oneLt (s := { s with heap := h'.push (seqObj "list" acc.toList.toArray 0), toks := tk }) hoL hS.keysOf (fun v₁ v₂ rest e => keyKind_strs (by rw [← e]; exact hS)) (by rw [hal, List.length_map]; exact h64) fun st' hp hs => ⟨_, rfl, ?_⟩)
    (PyProof.Rows.args_list_sort _)))
  obtain ⟨ys, g1, g2, g3⟩ := sorted_out_str hS hp hs
  obtain ⟨e', he'⟩ := PyProof.Rows.sortedHeap_at (vs := acc.toList) (out := (arrOf st').map (·.2)) hoL
  have hlen : (ys.map V.str).length ≤ sizeLine := by
    rw [List.length_map, g2.length_eq, List.length_map]
    exact Nat.le_trans (Nat.le_of_lt h64) (by decide)
  refine wpAny_pure ⟨_, rfl, .ref h'.objs.size, upd H h'.objs.size (.lst (ys.map V.str)), I1.laid (t' := tk) (fun b u e => ?_) (Nat.le_refl _)
    (show ObjOk X.prog X.w _ _ _ (.lst (ys.map V.str)) from ⟨hlen, ((arrOf st').map (·.2)).toList, e', vals_of_strs g1, by rw [Array.toArray_toList]; exact he'⟩), rfl, q ys _ g2 g3 (I1.hok.fresh (Nat.le_refl _))⟩
  have hb : b < h'.objs.size := Heap.lt_size e
  rw [PyProof.Rows.sortedHeap_old (Nat.ne_of_lt hb) (by rw [size_push']; exact Nat.lt_succ_of_lt hb)]
  exact Heap.get?_push_of_some _ e
end
end Vd
/-! A pair of data and an object of one's own; dicts of texts made of such pairs, copied, sorted. -/
namespace Zl
open PySem PySem.Spec PyProof.Rows L2 Lf
section
variable {X : Cx}
abbrev dTupP (g : DTA) : DTE := fun ρ μ Q => g ρ μ fun xs μ1 => match xs with
  | [.dat k, .ptr a] => Q (.prt k a) μ1
  | _ => False
theorem d_tupP {es : List Expr} {g : DTA} {x1} {pos : Pos} (h : DA X es g) : DE X (.Tuple es x1 pos) (dTupP g) :=
  ⟨fun B => PE.weak (pe_tup (h.run B)) fun _ _ _ h => by
    obtain ⟨hv, hx, ρ, μ, Q0, hl, R0, h, low⟩ := h
    refine ⟨hv, hx, ρ, μ, _, hl, R0, h, fun xs μ1 h1 vs H1 l R1 => ?_⟩
    match xs, h1, l, R1 with
    | [.dat k, .ptr a], h1, l, R1 =>
      have ez : sizeLine = 16777216 := by decide +kernel
      match vs, l, R1 with
      | [u, v], l, R1 =>
        refine ⟨by rw [ez]; show 2 ≤ _; decide, fun p hp => ?_⟩
        obtain ⟨R2, g, ep⟩ := R1.newZ (o := .tup [u, v]) hp
        have hu : Dz _ u k := R1.head
        cases (R1.tail.head : v = .ref a)
        exact low _ _ h1 _ _ (R2.tail.tail.cons (x := .prt k a) ⟨p, u, rfl, ep, Dz.mono g _ _ hu⟩)⟩
/-- keys that are texts -/
def txtZ (kvs : List (Str × Val)) : List (NestedKey × Val) := kvs.map fun kv => (.text kv.1, kv.2)
theorem key_text (x : Str) : Vd.KeyOk (.text x) := ⟨by show 0 ≤ 8; decide, fun _ _ => trivial⟩
theorem txt_rk {K : PySem.W.Frag} {Z : Hp} {ks : List Vd.KVR} {kvs : List (Str × Val)} (h : Paired (RK K Z) ks (txtZ kvs)) : ∃ vs : List (Str × V), ks = Vd.txt vs ∧ Paired (fun (p : Str × V) (q : Str × Val) => p.1 = q.1 ∧ RV K Z p.2 q.2) vs kvs := by
  induction kvs generalizing ks with
  | nil =>
    cases h
    exact ⟨[], rfl, .nil⟩
  | cons kv kvs ih =>
    cases h with
    | @cons p _ _ _ h t =>
      obtain ⟨vs, e, r⟩ := ih t
      obtain ⟨p1, p2, p3⟩ := p
      obtain ⟨h1, h2, h3, h4⟩ := h
      dsimp only at h1 h2 h3 h4
      subst h1
      cases (h3 : p2 = V.str kv.1)
      exact ⟨(kv.1, p3) :: vs, by rw [e]; rfl, .cons ⟨rfl, h4⟩ r⟩
theorem rk_txt {K : PySem.W.Frag} {Z : Hp} {vs : List (Str × V)} {kvs : List (Str × Val)} (h : Paired (fun (p : Str × V) (q : Str × Val) => p.1 = q.1 ∧ RV K Z p.2 q.2) vs kvs) : Paired (RK K Z) (Vd.txt vs) (txtZ kvs) := by
  induction h with
  | nil => exact .nil
  | cons h t ih => exact .cons ⟨congrArg _ h.1, key_text _, rfl, h.2⟩ ih
theorem txt_keys {vs : List (Str × V)} {K : PySem.W.Frag} {Z : Hp} {kvs : List (Str × Val)} (h : Paired (fun (p : Str × V) (q : Str × Val) => p.1 = q.1 ∧ RV K Z p.2 q.2) vs kvs) : vs.map (·.1) = kvs.map (·.1) := by
  induction h with
  | nil => rfl
  | cons h t ih => rw [List.map_cons, List.map_cons, ih, h.1]
theorem txt_nd {vs : List (Str × V)} (h : (vs.map (·.1)).Nodup) : ((Vd.txt vs).map (·.1)).Nodup := by
  unfold Vd.txt
  rw [List.map_map]
  have : (vs.map ((fun x => x.1) ∘ fun kv => ((NestedKey.text kv.1, V.str kv.1, kv.2) : Vd.KVR))) = (vs.map (·.1)).map NestedKey.text := by
    rw [List.map_map]
    rfl
  rw [this]
  exact h.map _ (fun a b h e => h (by injection e))
/-- dict(xs), xs pairs of unlike texts and own objects -/
def zDictP : List Val → Store → DK → Prop := fun xs μ Q => match xs with
  | [.ptr l] => ∃ (j : Nat) (hs : List (Str × Addr)), μ[j]? = some (l, Node.lst (hs.map fun h => Val.prt (.str h.1) h.2)) ∧ (hs.map (·.1)).Nodup ∧ ∀ p, Q (.ptr p) (μ ++ [(p, .dv (txtZ (hs.map fun h => (h.1, .ptr h.2))))])
  | _ => False
theorem prt_pairs {K : PySem.W.Frag} {Z H : Hp} (hz : ∀ x o, Z x = some o → H x = some o) : ∀ {vs : List V} {hs : List (Str × Addr)}, RVs K Z vs (hs.map fun h => Val.prt (.str h.1) h.2) →
    ∃ ps : List Addr, vs = ps.map V.ref ∧ Paired (fun p (kv : Str × V) => SqT K H p [.str kv.1, kv.2]) ps (hs.map fun h => (h.1, V.ref h.2))
  | [], [], _ => ⟨[], rfl, .nil⟩
  | _ :: _, [], h => by cases h
  | [], _ :: _, h => by cases h
  | v :: vs, h :: hs, hp => by
    cases hp with
    | cons h1 t =>
      obtain ⟨ps, e, r⟩ := prt_pairs hz t
      obtain ⟨p, u, rfl, ez, hu⟩ := h1
      cases (hu : Dz Z u (.str h.1))
      exact ⟨p :: ps, by rw [e]; rfl, .cons (SqT.of (hz _ _ ez)) r⟩
theorem ca_dictP (hc : X.calm = true) : CaZ X (.type "dict") zDictP := ⟨_, Vd.call_dictPV hc, fun B σ ρ H μ vs xs Q0 Q l R q low => by
  unfold zDictP at q
  split at q
  · obtain ⟨j, hs, hj, nd, q⟩ := q
    obtain ⟨v, rfl, R⟩ := one_arg' l R
    obtain ⟨us, e, pr⟩ := R.at hj
    cases (R.head : v = .ref _)
    obtain ⟨ps, rfl, r⟩ := prt_pairs fz_le pr
    refine ⟨_, ps, hs.map fun h => (h.1, V.ref h.2), rfl, SqL.of e, r, by rw [List.map_map]; exact nd, fun p hp => low _ _ (q p) _ _ ?_⟩
    have r2 : Paired (fun (p : Str × V) (q : Str × Val) => p.1 = q.1 ∧ RV X.K (Fz (B.fr ++ μ) H) p.2 q.2) (hs.map fun h => (h.1, V.ref h.2)) (hs.map fun h => (h.1, Val.ptr h.2)) := by
      clear q nd r hj e pr
      induction hs with
      | nil => exact .nil
      | cons h hs ih => exact .cons ⟨rfl, rfl⟩ ih
    have R9 := R.tail.new (n := .dv (txtZ (hs.map fun h => (h.1, Val.ptr h.2)))) (o := Vd.dV X.w p (Vd.txt (hs.map fun h => (h.1, V.ref h.2)))) hp ⟨Vd.txt (hs.map fun h => (h.1, V.ref h.2)), upd_same, txt_nd (by rw [List.map_map]; exact nd), rk_txt r2⟩
    exact R9.cons (x := .ptr p) rfl
  · exact q.elim⟩
/-- dict(d): a copy of an own dict of texts -/
def zDictC : List Val → Store → DK → Prop := fun xs μ Q => match xs with
  | [.ptr d] => ∃ kvs : List (Str × Val), DvAt μ d (txtZ kvs) ∧ ∀ p, Q (.ptr p) (μ ++ [(p, .dv (txtZ kvs))])
  | _ => False
theorem ca_dictC : CaZ X (.type "dict") zDictC := ⟨_, Vd.call_dictCV, fun B σ ρ H μ vs xs Q0 Q l R q low => by
  unfold zDictC at q
  split at q
  · obtain ⟨kvs, h, q⟩ := q
    obtain ⟨v, rfl, R⟩ := one_arg' l R
    obtain ⟨ks, D, pr⟩ := h.at R
    cases (R.head : v = .ref _)
    obtain ⟨us, rfl, r⟩ := txt_rk pr
    exact ⟨_, us, rfl, D, fun p hp => low _ _ (q p) _ _ ((R.tail.new (n := .dv (txtZ kvs)) hp ⟨_, upd_same, D.nd, rk_txt r⟩).cons rfl)⟩
  · exact q.elim⟩
/-- sorted(d) of an own dict of texts -/
def zSortT : List Val → Store → DK → Prop := fun xs μ Q => match xs with
  | [.ptr d] => ∃ kvs : List (Str × Val), DvAt μ d (txtZ kvs) ∧ kvs.length < 64 ∧ ∀ ys p, ys.Perm (kvs.map (·.1)) → sortedS ys = true → Q (.ptr p) (μ ++ [(p, .lst (ys.map fun y => Val.dat (.str y)))])
  | _ => False
theorem ca_sortT (hc : X.calm = true) : CaZ X (.builtin "sorted") zSortT := ⟨_, Vd.call_sortedV hc, fun B σ ρ H μ vs xs Q0 Q l R q low => by
  unfold zSortT at q
  split at q
  · obtain ⟨kvs, h, h64, q⟩ := q
    obtain ⟨v, rfl, R⟩ := one_arg' l R
    obtain ⟨ks, D, pr⟩ := h.at R
    cases (R.head : v = .ref _)
    obtain ⟨us, rfl, r⟩ := txt_rk pr
    refine ⟨_, us, rfl, D, by rw [r.length]; exact h64, fun ys p hy hs hp => low _ _ (q ys p (by rw [← txt_keys r]; exact hy) hs) _ _ ?_⟩
    refine (R.tail.new (n := .lst (ys.map fun y => Val.dat (.str y))) hp ⟨_, upd_same, ?_⟩).cons rfl
    clear hy hs
    induction ys with
    | nil => exact .nil
    | cons y ys ih => exact .cons (.str y) ih
  · exact q.elim⟩
end
end Zl
/-! One own object is handed over, other lists are lent: what comes back is made of no list. -/
namespace Zl
open PySem PySem.Spec PyProof.Rows L2 Lf
section
variable {X : Cx}
inductive LentX (μ : Store) (j0 : Nat) : Val → Val → Prop
  | keep (x : Val) : LentX μ j0 x x
  | p (j : Nat) {a : Addr} {xs : List Val} {ds : List PyData} : j ≠ j0 → μ[j]? = some (a, .lst xs) → datOf xs = some ds → LentX μ j0 (.ptr a) (.dat (.list ds))
def lend1 (F : DSp) (xs : List Val) (μ : Store) (Q : DK) : Prop := ∃ (j : Nat) (a : Addr) (n : Node) (ys : List Val), μ[j]? = some (a, n) ∧ Paired (LentX μ j) xs ys ∧ F ys [(a, n)] fun x ν => ∃ n' ext, ν = (a, n') :: ext ∧ (flatV x ∧ flatN n' ∧ ∀ p ∈ ext, flatN p.2) ∧ Q x (μ.set j (a, n') ++ ext)
theorem addr_one {μ : Store} (nd : (μ.map (·.1)).Nodup) {i j : Nat} {a : Addr} {n m : Node} (hi : μ[i]? = some (a, n)) (hj : μ[j]? = some (a, m)) : i = j := by
  have h1 : (μ.map (·.1))[i]? = some a := by rw [List.getElem?_map, hi]; rfl
  have h2 : (μ.map (·.1))[j]? = some a := by rw [List.getElem?_map, hj]; rfl
  exact (List.getElem?_inj (List.getElem?_eq_some_iff.mp h1).1 nd).mp (h1.trans h2.symm)
theorem lentX_all {B : Base} {H : Hp} {μ : Store} {σ : List (Option V)} {ρ : DR} {j0 : Nat} {a : Addr} {n : Node} (R : RL X.w X.K B H σ ρ μ) (hj0 : μ[j0]? = some (a, n)) :
    ∀ {vs : List V} {xs ys : List Val}, Paired (LentX μ j0) xs ys → Paired (RVo X.K (Fz (B.fr ++ μ) H)) (vs.map some) (xs.map some) → Paired (RVo X.K (Fz [(a, n)] H)) (vs.map some) (ys.map some)
  | [], [], _, .nil, _ => .nil
  | [], _ :: _, _, _, h => by cases h
  | _ :: _, [], _, _, h => by cases h
  | v :: vs, x :: xs, _, .cons l t, h => by
    have ha : a ∈ (B.fr ++ μ).map (·.1) := List.mem_map.mpr ⟨_, List.mem_append_right _ (List.mem_of_getElem? hj0), rfl⟩
    have g : ∀ x o, Fz (B.fr ++ μ) H x = some o → Fz [(a, n)] H x = some o := fun x o h => by
      obtain ⟨h1, h2⟩ := Fz.sub h
      refine Fz.of (fun z => h1 ?_) h2
      rw [List.map_singleton, List.mem_singleton] at z
      rw [z]
      exact ha
    have nd := R.nd
    rw [List.map_append, List.nodup_append] at nd
    cases h with
    | cons r h =>
      refine .cons ?_ (lentX_all R hj0 t h)
      have r : RV X.K (Fz (B.fr ++ μ) H) v x := r
      show RV X.K _ v _
      cases l with
      | keep x => exact RV.mono g r
      | p j ne hj hd =>
        obtain ⟨vs, e, pr⟩ := R.at hj
        cases (r : v = .ref _)
        refine .lst (Fz.of (fun z => ?_) e) (DzAll.mono g _ _ (datOf_all pr hd))
        rw [List.map_singleton, List.mem_singleton] at z
        have z : _ = a := z
        subst z
        exact ne (addr_one nd.2.1 hj hj0)
theorem lend1_call {B : Base} {H : Hp} {σ : List (Option V)} {ρ : DR} {μ : Store} {vs : List V} {xs : List Val} {F : DSp} {Q0 : DK} {Q : VK} (l : vs.length = xs.length) (R : RL X.w X.K B H (vs.map some ++ σ) (xs.map some ++ ρ) μ) (h : lend1 F xs μ Q0) (low : Low X B σ ρ Q0 Q) : spZ X.w X.K (Cl F) vs H Q E0 := by
  obtain ⟨j, a, n, ys, hj, le, f⟩ := h
  have sl := (paired_split (by simp [l]) R.sl).1
  have sr := (paired_split (by simp [l]) R.sl).2
  have ly : xs.length = ys.length := le.length
  have rel := lentX_all R hj le sl
  have ha : a ∈ (B.fr ++ μ).map (·.1) := List.mem_map.mpr ⟨_, List.mem_append_right _ (List.mem_of_getElem? hj), rfl⟩
  have g : ∀ x o, Fz (B.fr ++ μ) H x = some o → Fz [(a, n)] H x = some o := fun x o h => by
    obtain ⟨h1, h2⟩ := Fz.sub h
    refine Fz.of (fun z => h1 ?_) h2
    rw [List.map_singleton, List.mem_singleton] at z
    rw [z]
    exact ha
  refine ⟨⟨Fz [(a, n)] H, []⟩, ys, [(a, n)], _, by omega, ⟨by simp, fun x o h => h, rel, fun p hp => ?_⟩, ⟨_, f, fun x ν q => q⟩, fun x ν ⟨n', ext, eν, ⟨fx, fn', fe⟩, q⟩ v H' R2 => low x _ q v H' ?_⟩
  · rw [List.mem_singleton.mp (show p ∈ [(a, n)] from hp)]
    exact (R.at hj).mono g rfl
  subst eν
  have ndm := R.nd
  rw [List.map_append, List.nodup_append] at ndm
  have nd2 : (((a, n') :: ext).map (·.1)).Nodup := R2.nd
  rw [List.map_cons, List.nodup_cons] at nd2
  have b2 : ∀ x o, x ≠ a → H x = some o → x ∉ ((a, n') :: ext).map (·.1) ∧ H' x = some o := fun x o ne e => Fz.sub (R2.base x o (Fz.of (fun z => ne (by rw [List.map_singleton, List.mem_singleton] at z; exact z)) e))
  have same : ∀ q ∈ B.fr ++ μ, q.1 ≠ a → q.1 ∉ ((a, n') :: ext).map (·.1) ∧ H' q.1 = H q.1 := fun q hq ne => by
    cases e : H q.1 with
    | none => exact absurd e (R.st q hq).live
    | some o => exact b2 _ _ ne e
  have em : (B.fr ++ μ.set j (a, n')).map (·.1) = (B.fr ++ μ).map (·.1) := by rw [List.map_append, List.map_append, map_set_fst hj]
  have nin : ∀ x, x ∉ (B.fr ++ μ).map (·.1) → x ∉ ext.map (·.1) → x ∉ (B.fr ++ (μ.set j (a, n') ++ ext)).map (·.1) := fun x h1 h2 z => by
    rw [← List.append_assoc, List.map_append, em] at z
    exact (List.mem_append.mp z).elim h1 h2
  have g3 : ∀ x o, Fz (B.fr ++ μ) H x = some o → Fz (B.fr ++ (μ.set j (a, n') ++ ext)) H' x = some o := fun x o h => by
    obtain ⟨h1, h2⟩ := Fz.sub h
    obtain ⟨h3, h4⟩ := b2 x o (fun e => h1 (by rw [e]; exact ha)) h2
    exact Fz.of (nin x h1 fun z => h3 (List.mem_cons_of_mem _ z)) h4
  have tp : Vd.Tups (Fz ((a, n') :: ext) H') (Fz (B.fr ++ (μ.set j (a, n') ++ ext)) H') := fun x us e => by
    obtain ⟨h1, h2⟩ := Fz.sub e
    have hne : x ≠ a := fun z => h1 (by rw [z]; exact List.mem_cons_self ..)
    refine Fz.of (nin x (fun z => ?_) fun z => h1 (List.mem_cons_of_mem _ z)) h2
    obtain ⟨q, hq, rfl⟩ := List.mem_map.mp z
    rw [(same q hq hne).2] at h2
    exact (R.st q hq).noTup h2
  refine ⟨?_, fun x o h => g3 _ _ (R.base x o h), .cons (RV.keep (v := v) tp fx R2.head) (L2.Paired.mapP sr fun _ _ => RVo.mono g3), fun q hq => ?_⟩
  · rw [← List.append_assoc, List.map_append, em, List.nodup_append]
    refine ⟨R.nd, nd2.2, fun x hx y hy e => ?_⟩
    obtain ⟨q, hq, rfl⟩ := List.mem_map.mp hx
    by_cases c : q.1 = a
    · exact nd2.1 (by rw [← c, e]; exact hy)
    · exact (same q hq c).1 (by rw [e]; exact List.mem_cons_of_mem _ hy)
  · rw [← List.append_assoc] at hq
    rcases List.mem_append.mp hq with hq | hq
    · rcases List.mem_append.mp hq with hq | hq
      · have ne : q.1 ≠ a := fun e => ndm.2.2 _ (List.mem_map_of_mem hq) a (List.mem_map_of_mem (List.mem_of_getElem? hj)) e
        exact (R.st q (List.mem_append_left _ hq)).mono g3 (same q (List.mem_append_left _ hq) ne).2
      · obtain ⟨i, hi, rfl⟩ := List.mem_iff_getElem.mp hq
        rw [List.length_set] at hi
        by_cases e : j = i
        · subst e
          rw [List.getElem_set_self]
          exact RN.keep tp fn' (R2.st (a, n') (List.mem_cons_self ..))
        · rw [List.getElem_set_ne e]
          have hm : μ[i] ∈ B.fr ++ μ := List.mem_append_right _ (List.getElem_mem hi)
          have ne : μ[i].1 ≠ a := fun z => e ((addr_one ndm.2.1 (n := n) (m := μ[i].2) hj (by rw [List.getElem?_eq_getElem hi, ← z])))
          exact (R.st _ hm).mono g3 (same _ hm ne).2
    · exact RN.keep tp (fe q hq) (R2.st q (List.mem_cons_of_mem _ hq))
abbrev dOwnM (F : DSp) (g : DTA) : DTE := fun ρ μ Q => g ρ μ fun xs μ1 => lend1 F xs μ1 Q
variable {k : Nat} {ps : List Str} {F : DSp} {x : Str} {e : Expr} {es : List Expr} {g : DTA} {p pos : Pos}
theorem d_ownM (M : CalZ X.prog X.w X.K X.mg X.base k x ps F) (hr : Room k X.A) (hg : Gl X x) (ha : DA X (e :: es) g)
    (hdb : (x == ("__debug__" : Str)) = false := by decide) (he : starEach (e :: es) X.env = (false, eval e X.env) :: starEach es X.env := by rfl) (hpl : (backTo pos (starEach es X.env)).any (·.1) = false := by rfl) :
    DE X (.Call (.Name x p) (e :: es) [] pos) (dOwnM F g) :=
  ⟨fun B => PE.weak (pe_own (cal_cl M) hr hg (ha.run B) hdb he hpl) fun σ H Q ⟨hv, hx, ρ, μ, Q0, hl, R0, h, low⟩ => by
    refine ⟨hv, hx, ρ, μ, _, hl, R0, h, fun xs μ1 h1 vs H1 l R1 => ?_⟩
    show spZ _ _ _ (vs ++ []) _ _ _
    rw [List.append_nil]
    exact lend1_call l R1 h1 low⟩
end
end Zl
/-! max(x, y) of data. -/
namespace Zo
open PySem PySem.W PySem.SeqAt PyProof.Rows PySem.Calls
section
variable {prog : Program} {w : World} {A : Around} {E : Value → Shared → Prop} {s : Shared}
theorem call_max_twoH {a b : Value} {Q : Value → Shared → Prop}
    (h : wpAny (model prog w) A.in1 (pyIter (.ref s.heap.objs.size)) (fun it s₂ => ∃ I fp wr G n P St H bt, it = .ref I ∧ WalksS prog w A.in1 I fp wr G n P St ∧ St 0 s₂ ∧ (∀ b ∈ fp, b < s₂.heap.objs.size) ∧ 0 < n ∧
      (∀ b o, H.get? b = some o → b ∉ wr) ∧ (∀ b o, H.get? b = some o → s₂.heap.get? b = some o) ∧ CmpIn prog w A.in1 .Gt H P bt ∧ ∀ v s', P (argBest bt (n - 1)) v → Moved wr G s₂ s' → Q v s') E
      { s with heap := s.heap.push { cls := .type "tuple", data := .seq #[a, b] } }) :
    wpAny (model prog w) A (call (.builtin "max") [a, b]) Q E s := by
  have hname : (toString "max" ++ toString ".loop" : String) = "max.loop" := by decide
  refine call_function_tree F.kind_max F.plain_max F.entry_max (F.args_max2 _ _) ?_
  show wpAny _ A.in1 (Builtin.Builtins.bindParams "max" ["key", "default"] 0 ⟨[], []⟩ >>= _) _ _ s
  refine wpAny_bind (wpAny_of_eq (show Builtin.Builtins.bindParams "max" ["key", "default"] 0 ⟨[], []⟩ = pure [none, none] from rfl) ?_)
  show wpAny _ A.in1 (newTuple [a, b] >>= _) _ _ s
  refine wpAny_bind (wpAny_newObj_type ?_)
  refine wpAny_bind (wpAny_mono h (fun it s₂ h₂ => ?_) fun _ _ e => e)
  obtain ⟨I, fp, wr, G, n, P, St, H, bt, rfl, W, hst, hfp, hn, hw, hkeep, hcmp, hQ⟩ := h₂
  refine wpAny_bind (wpAny_newObj_type ?_)
  have hSf : s₂.heap.objs.size ∉ fp := fun hm => Nat.lt_irrefl _ (hfp _ hm)
  rw [hname]
  refine wpAny_pure ⟨plainId_quiet F.plain_max_loop _, codeAny_max_loop_firstH W H hw bt hcmp s₂.heap.objs.size hSf (fresh_in hkeep) _ hn (fun b o e => Heap.get?_push_of_some _ (hkeep b o e)) (W.frame 0 s₂ _ s₂.toks hst (Nat.le_refl _) fun b _ o e => Heap.get?_push_of_some _ e) (Heap.get?_push_size _ rfl) fun v s' hP hm => ?_⟩
  exact hQ v s' hP (Moved.drop_new (tk := s₂.toks) hm (Nat.le_refl _))
theorem max_two_data {u v : Value} {d e : PyData} {as bs : List Addr} {Q : Value → Shared → Prop} (hh : A.handled = none) (r1 : Reads s.heap u d as) (r2 : Reads s.heap v e bs) (ha : AlikeAll [d, e]) (hu : A.units + 1 + PyData.depthAll [d, e] < cLine)
    (h : ∀ h' tk, (∀ b o, s.heap.get? b = some o → h'.get? b = some o) → Q (if dataLt d e = true then v else u) { s with heap := h', toks := tk }) : wpAny (model prog w) A (call (.builtin "max") [u, v]) Q E s := by
  have k0 : ∀ b o, s.heap.get? b = some o → (s.heap.push { cls := .type "tuple", data := .seq #[u, v] }).get? b = some o := fun b o e => Heap.get?_push_of_some _ e
  have hl : (s.heap.push { cls := .type "tuple", data := .seq #[u, v] }).IsTuple s.heap.objs.size #[u, v] := ⟨_, Heap.get?_push_size _ rfl, rfl, 0, rfl⟩
  have hr : ∃ cs, ReadsAll (s.heap.push { cls := .type "tuple", data := .seq #[u, v] }) (#[u, v] : Array Value).toList [d, e] cs := ⟨_, .cons (reads_keeps k0 r1) (.cons (reads_keeps k0 r2) .nil)⟩
  obtain ⟨cs, hr⟩ := hr
  refine call_max_twoH (iter_tupleW (A := A.in1) hh hl fun s₂ es2 W st hfp hw hk => ?_)
  refine ⟨_, _, _, _, _, _, _, s.heap.push { cls := .type "tuple", data := .seq #[u, v] }, _, rfl, W, st, hfp, by show 0 < 2; decide, hw, hk, cmpIn_gt (A := A.in1) (s := { s with heap := s.heap.push { cls := .type "tuple", data := .seq #[u, v] } }) hr ha (by show A.units + 1 + _ < _; exact hu), fun z s' hP m => ?_⟩
  obtain ⟨h', tk, rfl, hk'⟩ := moved_old es2 rfl m
  have hz : z = if dataLt d e = true then v else u := by
    have hP' : (#[u, v] : Array Value)[if dataLt d e = true then 1 else 0]? = some z := hP
    by_cases c : dataLt d e = true
    · rw [if_pos c] at hP' ⊢
      exact (Option.some.inj hP').symm
    · rw [if_neg c] at hP' ⊢
      exact (Option.some.inj hP').symm
  rw [hz]
  exact h h' tk fun b o eb => hk' b o (k0 b o eb)
end
end Zo
namespace Zl
open PySem PySem.Spec PyProof.Rows L2 Lf
section
variable {X : Cx}
/-- max(x, y), x and y data of one kind -/
def rMaxD (K : PySem.W.Frag) : List V → Hp → VK → Prop := fun vs H Q => ∃ (x y : V) (d e : PyData), vs = [x, y] ∧ Dp K H x d ∧ Dp K H y e ∧ PySem.W.AlikeAll [d, e] ∧ d.depth ≤ 50 ∧ e.depth ≤ 50 ∧ Q (if PySem.W.dataLt d e = true then y else x) H
theorem call_maxD (hc : X.calm = true) (hu : X.A.units + 64 < cLine) : CallR X (.builtin "max") (rMaxD X.K) := by
  intro pins s σ H xs us Q I r h
  obtain ⟨x, y, d, e, rfl, hd, he, al, dd, de, q⟩ := h
  obtain ⟨u, v, rfl, r1, r2⟩ := vals2 r
  obtain ⟨as, rd⟩ := Dp.reads I d _ u hd r1
  obtain ⟨bs, re⟩ := Dp.reads I e _ v he r2
  refine Zo.max_two_data (I.ok.hd hc) rd re al ?_ fun h' tk k => ⟨_, H, I.kept k, ?_, q⟩
  · have : PyData.depthAll [d, e] ≤ 50 := by
      rw [PyData.depthAll.eq_2, PyData.depthAll.eq_2, PyData.depthAll.eq_1]
      omega
    omega
  · by_cases c : PySem.W.dataLt d e = true
    · rw [if_pos c, if_pos c]
      exact r2
    · rw [if_neg c, if_neg c]
      exact r1
def zMaxD : List Val → Store → DK → Prop := fun xs μ Q => match xs with
  | [.dat d, .dat e] => PySem.W.AlikeAll [d, e] ∧ d.depth ≤ 50 ∧ e.depth ≤ 50 ∧ Q (.dat (if PySem.W.dataLt d e = true then e else d)) μ
  | _ => False
theorem ca_maxD (hc : X.calm = true) (hu : X.A.units + 64 < cLine) : CaZ X (.builtin "max") zMaxD := ⟨_, call_maxD hc hu, fun B σ ρ H μ vs xs Q0 Q l R q low => by
  match xs, vs, l, R, q with
  | [.dat d, .dat e], [v, u], l, R, q =>
    obtain ⟨al, dd, de, q⟩ := q
    have R : RL X.w X.K B H (some v :: some u :: σ) (some (.dat d) :: some (.dat e) :: ρ) μ := R
    have h1 : Dz _ v d := R.head
    have h2 : Dz _ u e := R.tail.head
    refine ⟨v, u, d, e, rfl, Dz.dp _ _ (Dz.mono fz_le _ _ h1), Dz.dp _ _ (Dz.mono fz_le _ _ h2), al, dd, de, low _ _ q _ _ (R.tail.tail.cons ?_)⟩
    by_cases c : PySem.W.dataLt d e = true
    · rw [if_pos c, if_pos c]
      exact h2
    · rw [if_neg c, if_neg c]
      exact h1⟩
end
end Zl
/-! sorted(d), d a dict whose keys are data of one kind. -/
namespace Vd
open PySem PySem.Spec PyProof.Rows L2
/-- a key with its data -/
def keyB (kvs : List KVR) : List (V × PyData) := kvs.map fun p => (p.2.1, Zl.datK p.1)
theorem keys_acc {w : World} {es : Array DictEntry} {ks : List Row} (he : es.toList = ks.map (ent w)) {acc : Array Value} (it : ItemsOf (fun i v => ∃ en : DictEntry, es[i]? = some en ∧ v = en.key) acc es.size) : acc.toList = ks.map fun x => x.2.1 := by
  have l1 : es.size = ks.length := ent_size he
  have hl : acc.toList.length = ks.length := by rw [Array.length_toList, it.1]; exact l1
  apply List.ext_getElem?
  intro j
  rw [List.getElem?_map]
  cases hj : acc.toList[j]? with
  | none =>
    have h1 := List.getElem?_eq_none_iff.mp hj
    rw [List.getElem?_eq_none (by omega)]
    rfl
  | some v =>
    obtain ⟨en, hen, hv⟩ := it.2 j v (by rw [← Array.getElem?_toList]; exact hj)
    have qe := ent_at he j
    rw [hen] at qe
    cases hb : ks[j]? with
    | none =>
      rw [hb] at qe
      exact nomatch (show some en = none from qe)
    | some b =>
      rw [hb] at qe
      have e2 : en = ent w b := Option.some.inj qe
      rw [hv, e2]
      rfl
theorem call_sortedVD {X : Cx} (hc : X.calm = true) (hu : X.A.units + 64 < cLine) : CallR X (.builtin "sorted") (fun xs H Q => ∃ d kvs, xs = [V.ref d] ∧ DAt X.w H d kvs ∧ PySem.W.AllAlike (kvs.map fun p => Zl.datK p.1) ∧ PySem.W.Sortable (kvs.map fun p => Zl.datK p.1) ∧ (∀ p ∈ kvs, (Zl.datK p.1).depth ≤ 50) ∧
    ∀ p, H p = none → Q (.ref p) (upd H p (.lst (((keyB kvs).mergeSort (PySem.W.dataLe false (·.2))).map (·.1))))) := by
  intro pins s σ H xs us Q I r h
  obtain ⟨d, kvs, rfl, D, al, so, dep, q⟩ := h
  obtain ⟨u, rfl, rx⟩ := r.one
  cases rx
  obtain ⟨hs, z, ks, pr, ⟨o, es, ep, ho, hx, hdt, he⟩, R⟩ := D.out I.hok
  have l1 : es.size = ks.length := ent_size he
  have l2 : kvs.length = ks.length := Paired.length pr
  refine Calls.call_function_entry PyProof.Rows.kind_sorted PyProof.Rows.plain_sorted PyProof.Rows.entry_sorted (PyProof.Rows.args_sorted1 _) ?_
  unfold Builtin.«sorted»
  refine wpAny_bind (m := checkCount "sorted" 1 1 _) (wpAny_pure ?_)
  refine wpAny_bind (PySem.W.kdu_collect (A := X.A.in1) (kdl_raw hs hx hdt) (I.ok.hd hc) ho (by omega) fun h' tk acc hk it => ?_)
  have ea := keys_acc he it
  have rv : Vals ((keyB kvs).map (·.1)) acc.toList := by
    rw [ea]
    unfold keyB
    rw [List.map_map]
    exact rel_vals pr
  have e := Dt.each_in rv
  have kat : ∀ b ∈ keyB kvs, Dp X.K H b.1 b.2 := fun b hb => by
    obtain ⟨p, hp, rfl⟩ := List.mem_map.mp hb
    have k := (D.ok p hp).2
    exact Zl.Dz.dp _ _ (Zl.dz_key p.1 p.2.1 k)
  have hal : acc.toList.length = kvs.length := by
    rw [ea, List.length_map]
    exact l2.symm
  have zl : kvs.length ≤ sizeLine := z
  refine wpAny_bind (wpAny_newList ?_ (by rw [hal]; exact zl))
  have hoL : (h'.push (seqObj "list" acc.toList.toArray 0)).get? h'.objs.size = some (seqObj "list" acc.toList.toArray 0) := Heap.get?_push_size _ rfl
  show wpAny _ _ _ _ _ { s with heap := h'.push (seqObj "list" acc.toList.toArray 0), toks := tk }
  have keep : ∀ b o, s.heap.get? b = some o → (PySem.W.sortingHeap (h'.push (seqObj "list" acc.toList.toArray 0)) h'.objs.size acc.toList).get? b = some o := fun b o eb => by
    have h1 := hk b o eb
    have h2 : b ≠ h'.objs.size := Nat.ne_of_lt (Heap.lt_size h1)
    exact PySem.W.sortingHeap_old h2 (Heap.get?_push_of_some _ h1)
  have er' : PySem.W.EachIs (fun v (b : V × PyData) => ∃ as, Reads (PySem.W.sortingHeap (h'.push (seqObj "list" acc.toList.toArray 0)) h'.objs.size acc.toList) v b.2 as) acc.toList (keyB kvs) := Dt.each_both e fun v b m rb => by
    obtain ⟨as, r⟩ := Dp.reads I b.2 b.1 v (kat b m) rb
    exact ⟨as, PyProof.Rows.Reads.keeps keep r⟩
  have al' : PySem.W.AllAlike ((keyB kvs).map (·.2)) := by
    unfold keyB
    rw [List.map_map]
    exact al
  have so' : PySem.W.Sortable ((keyB kvs).map (·.2)) := by
    unfold keyB
    rw [List.map_map]
    exact so
  have dep' : ∀ b, b ∈ keyB kvs → X.A.in1.in1.units + b.2.depth < cLine := fun b hb => by
    obtain ⟨p, hp, rfl⟩ := List.mem_map.mp hb
    have := dep p hp
    show X.A.units + 1 + 1 + (Zl.datK p.1).depth < cLine
    omega
  refine wpAny_bind (wpAny_holding (wpAny_call_entry PyProof.Rows.slot_list_sort ⟨_, hoL, rfl⟩ PyProof.Rows.entry_list_sort (PySem.W.list_sort_vals (κ := PySem.W.dataKind (PySem.W.sortingHeap (h'.push (seqObj "list" acc.toList.toArray 0)) h'.objs.size acc.toList) ((keyB kvs).map (·.2))) hoL
    (PySem.W.SortsAt.data (s := { s with heap := PySem.W.sortingHeap (h'.push (seqObj "list" acc.toList.toArray 0)) h'.objs.size acc.toList, toks := tk }) (PySem.W.each_map (R := fun v d => ∃ as, Reads (PySem.W.sortingHeap (h'.push (seqObj "list" acc.toList.toArray 0)) h'.objs.size acc.toList) v d as) (fun b : V × PyData => b.2) er') al' so' (PySem.W.bound_map dep')) (by rw [hal]; exact zl) ⟨.none, rfl, ?_⟩) (PyProof.Rows.args_list_sort _)))
  have eo := PySem.W.sortVals_data (enc := fun b : V × PyData => b.2) false e er' al'
  have I1 : Inv X pins σ H { s with heap := h', toks := tk } := I.kept hk
  obtain ⟨e', he'⟩ := PyProof.Rows.sortedHeap_at (vs := acc.toList) (out := (PySem.W.sortVals (PySem.W.dataKind (PySem.W.sortingHeap (h'.push (seqObj "list" acc.toList.toArray 0)) h'.objs.size acc.toList) ((keyB kvs).map (·.2))) false acc.toList acc.toList).toArray) hoL
  have hlen : (((keyB kvs).mergeSort (PySem.W.dataLe false (·.2))).map (·.1)).length ≤ sizeLine := by
    rw [List.length_map, List.length_mergeSort]
    unfold keyB
    rw [List.length_map]
    exact zl
  refine wpAny_pure ⟨_, rfl, .ref h'.objs.size, upd H h'.objs.size (.lst (((keyB kvs).mergeSort (PySem.W.dataLe false (·.2))).map (·.1))), I1.laid (t' := tk) (fun b u eb => ?_) (Nat.le_refl _) ⟨hlen, _, e', Dt.each_out eo, he'⟩, rfl, q _ (I1.hok.fresh (Nat.le_refl _))⟩
  have hb : b < h'.objs.size := Heap.lt_size eb
  rw [PyProof.Rows.sortedHeap_old (Nat.ne_of_lt hb) (by rw [size_push']; exact Nat.lt_succ_of_lt hb)]
  exact Heap.get?_push_of_some _ eb
end Vd
namespace Zl
open PySem PySem.Spec PyProof.Rows L2 Lf
section
variable {X : Cx}
def zSortVD : List Val → Store → DK → Prop := fun xs μ Q => match xs with
  | [.ptr a] => ∃ kvs : List (NestedKey × Val), DvAt μ a kvs ∧ PySem.W.AllAlike (kvs.map fun p => datK p.1) ∧ PySem.W.Sortable (kvs.map fun p => datK p.1) ∧ (∀ p ∈ kvs, (datK p.1).depth ≤ 50) ∧
    ∀ p, Q (.ptr p) (μ ++ [(p, .lst (((kvs.map fun p => datK p.1).mergeSort (PySem.W.dataLe false id)).map .dat))])
  | _ => False
theorem ca_sortVD (hc : X.calm = true) (hu : X.A.units + 64 < cLine) : CaZ X (.builtin "sorted") zSortVD := ⟨_, Vd.call_sortedVD hc hu, fun B σ ρ H μ vs xs Q0 Q l R q low => by
  unfold zSortVD at q
  split at q
  · obtain ⟨kvs, h, al, so, dep, q⟩ := q
    obtain ⟨v, rfl, R⟩ := one_arg' l R
    obtain ⟨ks, D, pr⟩ := h.at R
    cases (R.head : v = .ref _)
    have ek : ks.map (fun p => datK p.1) = kvs.map fun p => datK p.1 := by
      clear D al so dep q h
      induction pr with
      | nil => rfl
      | cons h0 t ih => rw [List.map_cons, List.map_cons, ih, h0.1]
    refine ⟨_, ks, rfl, D, by rw [ek]; exact al, by rw [ek]; exact so, fun p hp => ?_, fun p hp => low _ _ (q p) _ _ ?_⟩
    · have : datK p.1 ∈ kvs.map fun p => datK p.1 := by rw [← ek]; exact List.mem_map_of_mem hp
      obtain ⟨q2, hq2, e2⟩ := List.mem_map.mp this
      rw [← e2]
      exact dep q2 hq2
    · have R9 := R.tail.new (n := .lst (((kvs.map fun p => datK p.1).mergeSort (PySem.W.dataLe false id)).map .dat)) (o := .lst (((Vd.keyB ks).mergeSort (PySem.W.dataLe false (·.2))).map (·.1))) hp ⟨_, upd_same, ?_⟩
      · exact R9.cons (x := .ptr p) rfl
      have e2 : (Vd.keyB ks).map (·.2) = kvs.map fun p => datK p.1 := by
        rw [← ek]
        unfold Vd.keyB
        rw [List.map_map]
        rfl
      have e4 : ((Vd.keyB ks).mergeSort (PySem.W.dataLe false (·.2))).map (·.2) = (kvs.map fun p => datK p.1).mergeSort (PySem.W.dataLe false id) := by
        have := List.map_mergeSort (r := PySem.W.dataLe false (fun x : V × PyData => x.2)) (s := PySem.W.dataLe false id) (f := fun x : V × PyData => x.2) (l := Vd.keyB ks) (fun _ _ _ _ => rfl)
        rw [this, e2]
      rw [← e4]
      have e3 : ∀ c ∈ Vd.keyB ks, Dz (Fz (B.fr ++ μ) H) c.1 c.2 := fun c hc => by
        obtain ⟨p, hp, rfl⟩ := List.mem_map.mp hc
        obtain ⟨n, hn, rfl⟩ := List.mem_iff_getElem.mp hp
        have hn2 : n < kvs.length := by rw [← pr.length]; exact hn
        obtain ⟨q3, eq3, r3⟩ := paired_get pr (List.getElem?_eq_getElem hn2)
        rw [List.getElem?_eq_getElem hn] at eq3
        cases eq3
        exact dz_key _ _ r3.2.2.1
      exact pair_list _ fun c hc => e3 c (List.mem_mergeSort.mp hc)
  · exact q.elim⟩
end
end Zl
/-! sorted(xs, key=f): the key's call changes nothing; keys told here by the model's own rules, without the frame of the layer. -/
namespace Zq
open PySem PySem.Spec PySem.W PySem.Calls PyProof.Rows L2
/-- what was there stays -/
def Keep (s s' : Shared) : Prop := ∃ h tk, s' = { s with heap := h, toks := tk } ∧ ∀ b o, s.heap.get? b = some o → h.get? b = some o
theorem Keep.refl (s : Shared) : Keep s s := ⟨s.heap, s.toks, rfl, fun _ _ e => e⟩
theorem Keep.trans {s1 s2 s3 : Shared} (h1 : Keep s1 s2) (h2 : Keep s2 s3) : Keep s1 s3 := by
  obtain ⟨g1, t1, rfl, k1⟩ := h1
  obtain ⟨g2, t2, rfl, k2⟩ := h2
  exact ⟨g2, t2, rfl, fun b o e => k2 b o (k1 b o e)⟩
theorem Keep.mem {s1 s2 : Shared} (h : Keep s1 s2) : ∀ b o, s1.heap.get? b = some o → s2.heap.get? b = some o := by
  obtain ⟨g, t, rfl, k⟩ := h
  exact k
theorem pure_of {d : PyData} {s s' : Shared} {v : Value} (h : Keep s s') (r : Reads s'.heap v d []) : KeyPure d s v s' := by
  obtain ⟨g, t, rfl, k⟩ := h
  exact ⟨g, t, rfl, k, r⟩
theorem of_pure {d : PyData} {s s' : Shared} {v : Value} (h : KeyPure d s v s') : Keep s s' ∧ Reads s'.heap v d [] := by
  obtain ⟨g, t, rfl, k, r⟩ := h
  exact ⟨⟨g, t, rfl, k⟩, r⟩
theorem all_nil {h : Heap} : ∀ {ds : List PyData} {vs : List Value}, ReadsAll h vs ds [] → ∀ (n : Nat) (d : PyData), ds[n]? = some d → ∃ v, vs[n]? = some v ∧ Reads h v d []
  | [], _, _, n, d, hd => by cases hd
  | d0 :: ds, vs, r, n, d, hd => by
    generalize e : ([] : List Addr) = as at r
    cases r with
    | @cons v vs _ _ as bs h1 h2 =>
      have e' := e.symm
      rw [List.append_eq_nil_iff] at e'
      obtain ⟨rfl, rfl⟩ := e'
      cases n with
      | zero =>
        cases hd
        exact ⟨v, rfl, h1⟩
      | succ n => exact all_nil h2 n d hd
/-- an expression that changes nothing and tells data -/
structure PuE (P : Program) (w : World) (A : Around) (env : Env) (s0 : Shared) (e : Expr) (d : PyData) : Prop where
  run : ∀ s, Keep s0 s → wpAny (model P w) A (eval e env) (KeyPure d s) (fun _ _ => False) s
structure PuA (P : Program) (w : World) (A : Around) (env : Env) (s0 : Shared) (es : List Expr) (ds : List PyData) : Prop where
  run : ∀ pos s, Keep s0 s → wpAny (model P w) A (spliced (backTo pos (starEach es env))) (fun vs s' => Keep s s' ∧ ReadsAll s'.heap vs ds []) (fun _ _ => False) s
section
variable {P : Program} {w : World} {A : Around} {env : Env} {s0 : Shared}
theorem pu_int {i : Int} {k : Nat} {pos : Pos} : PuE P w A env s0 (.Constant (.int i) k pos) (.int i) :=
  ⟨fun s _ => wpAny_Constant_int ⟨s.heap, s.toks + 1, rfl, fun _ _ e => e, .int i _⟩⟩
theorem pu_name {x : Str} {pos : Pos} {m : Str → Option Value} {v : Value} {d : PyData} (kind : env.scope.kind = .function) (kn : env.kindOf x = some .local) (ns : s0.heap.Ns env.locals m) (hm : m x = some v) (r : Reads s0.heap v d [])
    (nodb : (x == ("__debug__" : Str)) = false := by decide) : PuE P w A env s0 (.Name x pos) d :=
  ⟨fun s k => wpAny_Name (wpAny_loadName_local kind kn (ns.keeps k.mem) hm (pure_of (Keep.refl s) (Reads.keeps k.mem r))) nodb⟩
theorem pu_ix {a b : Expr} {pos : Pos} {ds : List PyData} {j : Int} {d : PyData} (ha : PuE P w A env s0 a (.tuple ds)) (hb : PuE P w A env s0 b (.int j)) (hd : atI ds j = some d) (hl : ds.length ≤ sizeLine)
    (ht : ∀ o i : Value, subscripted b false o i = operate [o, i] (getItem o i)) : PuE P w A env s0 (.Subscript a b pos) d :=
  ⟨fun s k => by
    refine Subscript_ (wpAny_mono (ha.run s k) (fun o s1 h1 => ?_) fun _ _ e => e)
    obtain ⟨k1, r1⟩ := of_pure h1
    refine wpAny_mono (hb.run s1 (k.trans k1)) (fun i s2 h2 => ?_) fun _ _ e => e
    obtain ⟨k2, r2⟩ := of_pure h2
    have r1 := Reads.keeps k2.mem r1
    generalize e0 : ([] : List Addr) = as at r1
    generalize e1 : PyData.int j = z at r2
    cases r2 with
    | int j t =>
      cases e1
      cases r1 with
      | @tuple a o vs n _ _ ho hc hdt hr =>
        subst e0
        obtain ⟨n', q1, q2, q3, q4, q5⟩ := atI_get hd
        obtain ⟨v, hv, rv⟩ := all_nil hr n' d q2
        have sz : vs.size = ds.length := by rw [← Array.length_toList]; exact SeqAt.ReadsAll.length _ _ _ hr
        have it : IsTup s2.heap a vs := ⟨o, ho, hc, n, hdt⟩
        have l63 := line63
        refine subscriptTail_builtinR (T := "tuple") (id := "tuple.__getitem__") (x := v) (IsTup.typeIs it) (Slot.lookup slot_tuple_getitem) (getItem_tuple it (by omega) (by omega) (by rw [sz]; exact q1) (by rw [← Array.getElem?_toList]; exact hv) ⟨rfl, pure_of (k1.trans k2) rv⟩) (ht _ _)
    | _ => cases e1⟩
theorem pu_nil : PuA P w A env s0 [] [] := ⟨fun pos s _ => spliced_nil ⟨Keep.refl s, .nil⟩⟩
theorem pu_cons {e : Expr} {es : List Expr} {d : PyData} {ds : List PyData} (he : PuE P w A env s0 e d) (hs : PuA P w A env s0 es ds) (hst : starEach (e :: es) env = (false, eval e env) :: starEach es env := by rfl) : PuA P w A env s0 (e :: es) (d :: ds) :=
  ⟨fun pos s k => by
    rw [hst]
    refine spliced_cons (wpAny_mono (he.run s k) (fun v s1 h1 => ?_) fun _ _ e => e)
    obtain ⟨k1, r1⟩ := of_pure h1
    refine wpAny_mono (hs.run pos s1 (k.trans k1)) (fun vs s2 h2 => ?_) fun _ _ e => e
    exact ⟨k1.trans h2.1, .cons (Reads.keeps h2.1.mem r1) h2.2⟩⟩
theorem pu_tup {es : List Expr} {n : Nat} {pos : Pos} {ds : List PyData} (hs : PuA P w A env s0 es ds) (hl : ds.length ≤ sizeLine) : PuE P w A env s0 (.Tuple es n pos) (.tuple ds) :=
  ⟨fun s k => wpAny_Tuple_spliced (wpAny_mono (hs.run _ s k) (fun vs s1 h1 => ⟨by rw [SeqAt.ReadsAll.length _ _ _ h1.2]; exact hl, by
    obtain ⟨k1, r1⟩ := h1
    have k2 : Keep s1 { s1 with heap := s1.heap.push { cls := .type "tuple", data := .seq vs.toArray } } := ⟨_, _, rfl, fun b o e => Heap.get?_push_of_some _ e⟩
    refine pure_of (k1.trans k2) (.tuple (Heap.get?_push_size _ rfl) rfl rfl ?_)
    rw [List.toList_toArray]
    exact ReadsAll.keeps k2.mem r1⟩) fun _ _ e => e)⟩
end
end Zq
namespace Zq
open PySem PySem.Spec PySem.W PySem.Calls PyProof.Rows L2
theorem bind_one {k : Str → Option NameKind} {p : Str} {v : Value} (h : k p = some .local) : bindL k [(p, v)] (fun _ => none) p = some v := by
  simp [bindL, h]
/-- a def of one return as a key -/
theorem key_def {P : Program} {w : World} {K : Frag} {A : Around} {x qual p : Str} {st : Stmt} {f : Addr} {fd : FuncData} {N : List Str} {e : Expr} {pos : Pos} {da d : PyData} {s : Shared} {v : Value}
    (F : Fun K x qual st f fd) (S : FnScope N [p] (defScope st)) (hb : L2.Binds K fd [p] []) (hbody : defBody st = [.Return (some e) pos]) (hloc : List.lookup p (defScope st).names = some .local)
    (he : ∀ (A : Around) (env : Env) (s0 : Shared), (∀ q, PuE P w A env s0 (.Name p q) da) → PuE P w A env s0 e d) (nodb : (p == ("__debug__" : Str)) = false)
    (kin : K.In s.heap) (lim : s.heap.NoLimit) (dep : A.depth < recursionLimit) (r : Reads s.heap v da []) : wpAny (model P w) A (call (.ref f) [v]) (KeyPure d s) (fun _ _ => False) s := by
  obtain ⟨oc, od, kV, doc, pm, an, cdv, ct, osl, rfl, lk, hcd⟩ := F.ex
  refine wpAny_call (codeAny_call_function dep (kin _ _ lk) rfl S.co S.gen rfl (codeRec_of kin hcd) (hb s [v] kin rfl _ _ _ _ ?_))
  refine wpAny_newFunctionEnv_cells S.kind (fun ⟨n, u⟩ hm => (S.par n (List.of_mem_zip hm).1).imp id fun c => ⟨c, cellsFrom_some _ _ _ (.inl c)⟩) fun env hen s1 ic => ?_
  subst hen
  refine ⟨lim.keeps ic.toInCall.keep, codeAny_func ?_⟩
  show wpAny _ _ (execs (defBody st) _) _ _ _
  rw [hbody]
  obtain ⟨h1, tk1, e1⟩ := ic.toInCall.same
  have k1 : Keep s s1 := ⟨h1, tk1, e1, by have := ic.toInCall.keep; rw [e1] at this; exact this⟩
  have nm : ∀ q, PuE P w (A.deeper (newEnv (defScope st) s.heap.objs.size mainGlobals (cellsFrom (s.heap.objs.size + 1) (defScope st).names []) (qual ++ Str.ofString ".<locals>.") (some f) cdv none builtinsNs)) (newEnv (defScope st) s.heap.objs.size mainGlobals (cellsFrom (s.heap.objs.size + 1) (defScope st).names []) (qual ++ Str.ofString ".<locals>.") (some f) cdv none builtinsNs) s1 (.Name p q) da := fun q =>
    pu_name S.kind hloc ic.toInCall.ns (bind_one hloc) (Reads.keeps ic.toInCall.keep r) nodb
  refine wpAny_execs_cons (wpAny_Return_some (wpAny_mono ((he _ _ s1 nm).run s1 (Keep.refl s1)) (fun u s2 h2 => ?_) fun _ _ z => z.elim))
  obtain ⟨k2, r2⟩ := of_pure h2
  exact pure_of (k1.trans k2) r2
end Zq
namespace Zl
open PySem PySem.Spec PySem.W PyProof.Rows L2 Lf
mutual
theorem reads_nil {h : Heap} : ∀ (d : PyData) {v : Value} {as : List Addr}, noList d = true → Reads h v d as → as = []
  | .none, _, _, _, r => by cases r; rfl
  | .bool _, _, _, _, r => by cases r; rfl
  | .int _, _, _, _, r => by cases r; rfl
  | .str _, _, _, _, r => by cases r; rfl
  | .list _, _, _, n, _ => by rw [noList] at n; cases n
  | .dict _, _, _, n, _ => by rw [noList] at n; cases n
  | .tuple ds, _, _, n, r => by
    rw [noList] at n
    cases r with
    | tuple _ _ _ hr => exact readsAll_nil ds n hr
theorem readsAll_nil {h : Heap} : ∀ (ds : List PyData) {vs : List Value} {as : List Addr}, noLists ds = true → ReadsAll h vs ds as → as = []
  | [], _, _, _, r => by cases r; rfl
  | d :: ds, _, _, n, r => by
    rw [noLists, Bool.and_eq_true] at n
    cases r with
    | cons h1 h2 => rw [reads_nil d n.1 h1, readsAll_nil ds n.2 h2]; rfl
end
section
variable {X : Cx}
def rSortK (K : PySem.W.Frag) (kf : PyData → PyData) (Pd : PyData → Prop) : List V → Hp → VK → Prop := fun vs H Q => ∃ (a : Addr) (bs : List (V × PyData)), vs = [.ref a] ∧ SqL K H a (bs.map (·.1)) ∧ (∀ b ∈ bs, Dp K H b.1 b.2) ∧ AllAlike ((bs.map (·.2)).map kf) ∧ Sortable ((bs.map (·.2)).map kf) ∧
  (∀ b ∈ bs, (kf b.2).depth ≤ 50 ∧ noList b.2 = true ∧ Pd b.2) ∧ ∀ p, H p = none → Q (.ref p) (upd H p (.lst ((bs.mergeSort (dataLe false fun b => kf b.2)).map (·.1))))
/-- what a key tells, at each of the states behind s -/
def KeyTells (X : Cx) (f : Addr) (kf : PyData → PyData) (Pd : PyData → Prop) (s : Shared) : Prop := ∀ s', Zq.Keep s s' → ∀ v d, Pd d → Reads s'.heap v d [] → wpAny (model X.prog X.w) X.A.in1.in1 (call (.ref f) [v]) (KeyPure (kf d) s') (fun _ _ => False) s'
theorem sorted_at {kf : PyData → PyData} {Pd : PyData → Prop} {f : Addr} {pins : List (Addr × Obj)} {σ : L2.St} {H : Hp} {s : Shared} {vs : List V} {us : List Value} {Q : VK} (hu : X.A.units + 64 < cLine) (I : L2.Inv X pins σ H s) (rv : Vals vs us) (q : rSortK X.K kf Pd vs H Q) (key : KeyTells X f kf Pd s) :
    wpAny (model X.prog X.w) X.A (call (.builtin "sorted") us [("key", .ref f)]) (EP X pins σ Q) X.xe s := by
  obtain ⟨a, bs, rfl, hs, hd, al, so, dep, q⟩ := q
  obtain ⟨its, rv', hl, hz⟩ := I.list hs
  obtain rfl := Vals.ref1 rv
  have e := Dt.each_in rv'
  have er : EachIs (fun u (b : V × PyData) => RelV b.1 u ∧ Reads s.heap u b.2 []) its bs := Dt.each_both e fun u b m rb => by
    obtain ⟨as, r⟩ := Dp.reads I b.2 b.1 u (hd b m) rb
    rw [reads_nil b.2 (dep b m).2.1 r] at r
    exact ⟨rb, r⟩
  have hbl : bs.length ≤ sizeLine := by
    rw [List.length_map] at hz
    exact hz
  have mm : bs.map (fun b => kf b.2) = (bs.map (·.2)).map kf := by rw [List.map_map]; rfl
  refine sorted_key_data (fun b : V × PyData => kf b.2) hl.isList er (by rw [mm]; exact al) (by rw [mm]; exact so) hbl (fun b m => by have := (dep b m).1; omega) (b := false) (f := .ref f) rfl (fun _ => rfl) (fun x => ksk_t1 f x) (fun v b rb m h tk k => ?_) (fun out c h' tk k _ hn hlen ho => ?_)
  · exact key _ ⟨h, tk, rfl, k⟩ v b.2 (dep b m).2.2 (Reads.keeps k rb.2)
  have hlen2 : ((bs.mergeSort (dataLe false fun b => kf b.2)).map (·.1)).length ≤ sizeLine := by
    rw [List.length_map, List.length_mergeSort]
    exact hbl
  exact ⟨.ref _, upd H (s.heap.objs.size + 1) (.lst ((bs.mergeSort (dataLe false fun b => kf b.2)).map (·.1))), I.laid (t' := tk) k (Nat.le_succ _) ⟨hlen2, out, c, Dt.each_out (Dt.each_both ho fun _ _ _ r => r.1), hn⟩, rfl, q _ (I.hok.fresh (Nat.le_succ _))⟩
def zSortK (kf : PyData → PyData) (Pd : PyData → Prop) : List Val → Store → DK → Prop := fun xs μ Q => match xs with
  | [x] => itemsOf μ x fun ys => isL x μ ∧ ∃ ds, datOf ys = some ds ∧ AllAlike (ds.map kf) ∧ Sortable (ds.map kf) ∧ (∀ d ∈ ds, (kf d).depth ≤ 50 ∧ noList d = true ∧ Pd d) ∧ ∀ p, Q (.ptr p) (μ ++ [(p, .lst ((ds.mergeSort (dataLe false kf)).map .dat))])
  | _ => False
theorem sortK_up {kf : PyData → PyData} {Pd : PyData → Prop} (B : Base) (σ : List (Option V)) (ρ : DR) (H : Hp) (μ : Store) (vs : List V) (xs : List Val) (Q0 : DK) (Q : VK) (l : vs.length = xs.length) (R : RL X.w X.K B H (vs.map some ++ σ) (xs.map some ++ ρ) μ) (q : zSortK kf Pd xs μ Q0) (low : Low X B σ ρ Q0 Q) : rSortK X.K kf Pd vs H Q := by
  match xs, l, R, q with
  | [x], l, R, q =>
    obtain ⟨v, rfl, R⟩ := one_arg' l R
    obtain ⟨b, ys, hi, il, ds, ed, al, so, dep, q⟩ := itemsOf_its (P := fun ys => isL x μ ∧ ∃ ds, datOf ys = some ds ∧ AllAlike (ds.map kf) ∧ Sortable (ds.map kf) ∧ (∀ d ∈ ds, (kf d).depth ≤ 50 ∧ noList d = true ∧ Pd d) ∧ ∀ p, Q0 (.ptr p) (μ ++ [(p, Node.lst ((ds.mergeSort (dataLe false kf)).map .dat))])) q
    obtain ⟨a, us, rfl, hs, pr⟩ := hi.at R R.head
    have hb : b = false := by
      cases hi with
      | t ds => exact il.elim
      | _ => rfl
    subst hb
    obtain ⟨e1, e2, e3⟩ := zip_fst (K := X.K) (datOf_all pr ed)
    refine ⟨a, us.zip ds, rfl, by rw [e1]; exact hs, fun c hc => Dz.dp _ _ (Dz.mono fz_le _ _ (e3 c hc)), by rw [e2]; exact al, by rw [e2]; exact so, fun c hc => dep c.2 ?_, fun p hp => low _ _ (q p) _ _ ((R.tail.new (n := .lst ((ds.mergeSort (dataLe false kf)).map .dat)) hp ⟨_, upd_same, ?_⟩).cons rfl)⟩
    · rw [← e2]
      exact List.mem_map_of_mem hc
    · have e4 : ((us.zip ds).mergeSort (dataLe false fun b => kf b.2)).map (·.2) = ds.mergeSort (dataLe false kf) := by
        have := List.map_mergeSort (r := dataLe false (fun x : V × PyData => kf x.2)) (s := dataLe false kf) (f := fun x : V × PyData => x.2) (l := us.zip ds) (fun _ _ _ _ => rfl)
        rw [this, e2]
      rw [← e4]
      exact pair_list _ fun c hc => e3 c (List.mem_mergeSort.mp hc)
/-- a def as a key, its name -/
theorem d_sortK {kf : PyData → PyData} {Pd : PyData → Prop} {f : Addr} {x : Str} {e : Expr} {g : DTA} {p p2 kp pos : Pos} (hu : X.A.units + 64 < cLine) (hgs : Gl X "sorted") (hms : X.mg "sorted" = none) (hg : Gl X x) (hm : X.mg x = some (.ref f)) (hdb : (x == ("__debug__" : Str)) = false)
    (key : ∀ s : Shared, X.K.In s.heap → s.heap.NoLimit → KeyTells X f kf Pd s) (ha : DA X [e] g)
    (h3 : backTo pos (starEach [e] X.env) = [(false, eval e X.env)] := by rfl) (h4 : ((backTo pos (starEach [e] X.env)).any fun x => x.1) = false := by rfl)
    (h5 : ((backToKw pos (keywordEach [⟨some "key", .Name x p2, kp⟩] X.env)).all fun x => x.1.isSome) = true := by rfl) (h6 : ((backToKw pos (keywordEach [⟨some "key", .Name x p2, kp⟩] X.env)).any fun x => x.1.isNone) = false := by rfl) (h7 : (backToKw pos (keywordEach [⟨some "key", .Name x p2, kp⟩] X.env)).filterMap (fun x => x.1) = [("key" : Str)] := by rfl) :
    DE X (.Call (.Name "sorted" p) [e] [⟨some "key", .Name x p2, kp⟩] pos) (dCB (zSortK kf Pd) g) := by
  have c : CallRK X (.builtin "sorted") ["key"] fun vs zs H Q => zs = [.ref f] ∧ rSortK X.K kf Pd vs H Q := by
    intro pins s σ H vs zs us ws Q I rv rw_ h
    obtain ⟨rfl, q⟩ := h
    obtain rfl := Vals.ref1 rw_
    exact sorted_at hu I rv q (key s I.kIn (I.env0.mod.nolimit.keeps fun b o e => (I.env0.bs b o e).1))
  refine ⟨fun B => PE.weak (pe_callBK c hgs hms rfl (ha.run B) (pk_cons (pe_glob (v := .ref f) hg hm rfl hdb) pk_nil) (by decide) (by decide) h3 h4 h5 h6 h7) fun σ H Q h => ?_⟩
  exact up_CB (r := fun vs H Q => [V.ref f] = [V.ref f] ∧ rSortK X.K kf Pd vs H Q) (fun σ ρ H μ vs xs Q0 Q l R q low => ⟨rfl, sortK_up B σ ρ H μ vs xs Q0 Q l R q low⟩) h
end
end Zl
/-! A lambda as a key: its code stands in the table of the def around it, which is an own object here (Node.tab). -/
namespace Zq
open PySem PySem.Spec PySem.W PySem.Calls PyProof.Rows L2
theorem lam_mk {X : Cx} {pins : List (Addr × Obj)} {σ : L2.St} {H : Hp} {s : Shared} {c Pt : Addr} {ps : Array Value} {params : Arguments} {body : Expr} {scope : Scope} {pos : Pos} {E Q : Value → Shared → Prop}
    (I : L2.Inv X pins σ H s) (TB : LamX.TabB X.base X.mg c Pt) (hcode : X.env.code = .ref c) (hP : H Pt = some (.tbl ps)) (ht : TriplesOk ps.toList)
    (ha : ∀ pos cv, codeAmong pos ps.toList = some cv → ∃ c, cv = .ref c ∧ H c = some (LamX.CodeO c (X.env.qual ++ Str.ofString "<lambda>"))) (hdef : defaultsOf params X.env = ([], []))
    (hfree : ∀ y ∈ scope.names, y.2 = NameKind.free → ∃ c, List.lookup y.1 X.env.cells = some c)
    (h : ∀ (f c' : Addr) (pm ctv : Value) (H1 : Hp) (s' : Shared), L2.Inv X pins σ H1 s' → (∀ b o, b ≠ Pt → s.heap.get? b = some o → s'.heap.get? b = some o) →
      (H1 = H ∨ ∃ more : Array Value, H c' = none ∧ H1 = upd (upd H Pt (.tbl (ps ++ more))) c' (LamX.CodeO c' (X.env.qual ++ Str.ofString "<lambda>")) ∧ TriplesOk (ps ++ more).toList ∧ ∀ pos cv, codeAmong pos (ps ++ more).toList = some cv → codeAmong pos ps.toList = some cv ∨ cv = .ref c') →
      s'.heap.get? f = some (kla_obj (Str.ofString "<lambda>") (X.env.qual ++ Str.ofString "<lambda>") params body scope (cloFrom X.env.cells scope.names []) pm c' ctv) → s'.heap.CodeRec (.ref c') (X.env.qual ++ Str.ofString "<lambda>") → Q (.ref f) s') :
    wpAny (model X.prog X.w) X.A (eval (.Lambda params body scope pos) X.env) Q E s := by
  refine kla_eval hdef ?_
  have bP := Heap.BuiltinsAt.keeps TB.bm (Inv.bk I)
  have hP' := I.hok Pt (.tbl ps) hP
  cases hc : codeAmong pos ps.toList with
  | none =>
    refine kla_makeFunction (closure_ok hfree) I.ok.glob (Heap.Ns.keeps (Inv.mod I).glob (Inv.bk I)) hcode (CodeHd.keeps TB.code (Inv.bk I)) hP' ht hc TB.gP bP fun c' ctv h' tk hx hge hlt hrec htb => ?_
    have rec' := hrec
    obtain ⟨c2, oc, vs, t, e2, hoc, hd, hv⟩ := hrec
    cases e2
    have nC := HOk.fresh I.hok hge
    let o := kla_obj (Str.ofString "<lambda>") (X.env.qual ++ Str.ofString "<lambda>") params body scope (cloFrom X.env.cells scope.names []) ((X.mg (Str.ofString "__name__")).getD Value.none) c' ctv
    have I1 := LamX.inv_table (t' := tk) I hP (fun b u hb e => Heap.get?_push_of_some o (hx b u hb e)) (Heap.get?_push_of_some o htb) hge ⟨oc, vs, t, Heap.get?_push_of_some o hoc, hd, hv⟩
    have eL : (ps ++ #[rawInt pos.line, rawInt pos.col, Value.ref c']).toList = ps.toList ++ [rawInt pos.line, rawInt pos.col, .ref c'] := by simp
    refine h _ c' _ ctv _ _ I1 (fun b u hb e => Heap.get?_push_of_some o (hx b u hb e)) (.inr ⟨_, nC, rfl, by rw [eL]; exact TriplesOk_snoc _ _ _ _ ht, fun p cv q => ?_⟩) (Heap.get?_push_size _ rfl) ⟨c', oc, vs, t, rfl, Heap.get?_push_of_some o hoc, hd, hv⟩
    rw [eL] at q
    exact LamX.among_app _ ht q
  | some cv =>
    obtain ⟨c', rfl, hc'⟩ := ha _ _ hc
    refine kla_makeFunctionHit (closure_ok hfree) I.ok.glob (Heap.Ns.keeps (Inv.mod I).glob (Inv.bk I)) hcode (CodeHd.keeps TB.code (Inv.bk I)) hP' ht hc bP fun ctv h' tk hx hge => ?_
    let o := kla_obj (Str.ofString "<lambda>") (X.env.qual ++ Str.ofString "<lambda>") params body scope (cloFrom X.env.cells scope.names []) ((X.mg (Str.ofString "__name__")).getD Value.none) c' ctv
    have k : ∀ b u, s.heap.get? b = some u → (h'.push o).get? b = some u := fun b u e => Heap.get?_push_of_some o (hx b u e)
    obtain ⟨oc, vs, t, hoc, hd, hv⟩ := (I.hok c' _ hc').1
    exact h _ c' _ ctv H _ (I.kept (t' := tk) k) (fun b u _ e => k b u e) (.inl rfl) (Heap.get?_push_size _ rfl) ⟨c', oc, vs, t, rfl, k _ _ hoc, hd, hv⟩
/-- a lambda of one parameter, called -/
theorem key_lam {P : Program} {w : World} {A : Around} {q p : Str} {params : Arguments} {body : Expr} {scope : Scope} {cl : List (Str × Addr)} {pm ctv v : Value} {c' f : Addr} {da d : PyData} {s : Shared}
    (hf : s.heap.get? f = some (kla_obj (Str.ofString "<lambda>") q params body scope cl pm c' ctv)) (kind : scope.kind = .function) (co : scope.isCoroutine = false) (gen : scope.isGenerator = false) (hcl : ∀ y ∈ scope.names, y.2 ≠ NameKind.cell) (hloc : List.lookup p scope.names = some .local)
    (hrec : s.heap.CodeRec (.ref c') q) (hbind : bindArgs (kla_fn (Str.ofString "<lambda>") q params body scope cl pm (.ref c') ctv) ⟨[v], []⟩ = pure [(p, v)]) (lim : s.heap.NoLimit) (dep : A.depth < recursionLimit) (nodb : (p == ("__debug__" : Str)) = false)
    (he : ∀ (env : Env) (s0 : Shared), Keep s s0 → env.scope = scope → env.globals = mainGlobals → env.builtins = builtinsNs → (∀ q, PuE P w (A.deeper env) env s0 (.Name p q) da) → PuE P w (A.deeper env) env s0 body d)
    (r : Reads s.heap v da []) : wpAny (model P w) A (call (.ref f) [v]) (KeyPure d s) (fun _ _ => False) s := by
  refine wpAny_call (kla_callFunE dep hf rfl co gen rfl hrec ?_)
  rw [hbind]
  refine wpAny_pure ?_
  refine wpAny_newFunctionEnv hcl (fun x hx => by rw [List.mem_singleton.mp hx]; exact hloc) (fun h' ns sb => ?_) kind
  have k1 : ∀ b u, s.heap.get? b = some u → h'.get? b = some u := fun b u e => by
    rw [sb.2 b (Nat.ne_of_lt (Heap.lt_size e))]
    exact Heap.get?_push_of_some _ e
  have K1 : Keep s { s with heap := h', toks := s.toks + 1 } := ⟨h', s.toks + 1, rfl, k1⟩
  refine ⟨lim.keeps k1, kla_codeExpr ?_⟩
  refine wpAny_mono (PuE.run (s0 := { s with heap := h', toks := s.toks + 1 }) (he _ { s with heap := h', toks := s.toks + 1 } K1 ?_ ?_ ?_ ?_) _ (Keep.refl _)) (fun u s2 h2 => ?_) fun _ _ z => z.elim
  rotate_left 4
  · obtain ⟨k2, r2⟩ := of_pure h2
    exact pure_of (K1.trans k2) r2
  · rfl
  · rfl
  · rfl
  · exact fun q => pu_name kind hloc ns (by simp) (Reads.keeps k1 r) nodb
/-- repr of data made of no list, in a key -/
theorem pu_repr {P : Program} {w : World} {A : Around} {env : Env} {s0 : Shared} {e : Expr} {p pos : Pos} {ds : List PyData} {mg mb : Str → Option Value} (he : PuE P w A env s0 e (.tuple ds)) (kind : env.scope.kind = .function) (kn : env.kindOf "repr" = some .globalImplicit)
    (ng : s0.heap.Ns env.globals mg) (hm : mg "repr" = none) (nb : s0.heap.Ns env.builtins mb) (hb : mb "repr" = some (.builtin "repr")) (hg : A.guards = some []) (hu : A.units + ((PyData.tuple ds).depth + 1) < cLine) (hs : (PyData.tuple ds).showable = true) (hd : (PyData.tuple ds).hasDict = false) (hl : (PyData.tuple ds).shown.length ≤ sizeLine)
    (h1 : starEach [e] env = (false, eval e env) :: starEach [] env := by rfl) (h2 : ((backTo pos (starEach [] env)).any fun x => x.1) = false := by rfl) :
    PuE P w A env s0 (.Call (.Name "repr" p) [e] [] pos) (.str (PyData.tuple ds).shown) :=
  ⟨fun s k => by
    refine wpAny_Call_Name_kw (Name_function_global kind kn (loadGlobal_builtin (ng.keeps k.mem) hm (nb.keeps k.mem) hb ?_) (by decide))
    refine callWith_builtin1 ?_ h1 h2
    rw [h1]
    refine spliced_cons (wpAny_mono (he.run s k) (fun v s1 hv => ?_) fun _ _ z => z.elim)
    obtain ⟨k1, r1⟩ := of_pure hv
    refine spliced_nil ?_
    generalize e0 : ([] : List Addr) = as at r1
    cases r1 with
    | @tuple a o vs n _ _ ho hc hdt hr =>
      subst e0
      refine repr_of_reads' (.tuple ho hc hdt hr) hs (fun z => by rw [hd] at z; cases z) hg hu (fun _ _ e => e) (fun h' u tk kk => ?_) hl
      exact pure_of (k1.trans ⟨h', tk, rfl, kk⟩) (.str _ _)⟩
end Zq
namespace Zl
open PySem PySem.Spec PySem.W PySem.Calls PyProof.Rows L2 Lf
section
variable {X : Cx}
theorem RL.tabs {w : World} {K : PySem.W.Frag} {B : Base} {H : Hp} {σ : List (Option V)} {ρ : DR} {μ : Store} {j : Nat} {Pt c' : Addr} {q : Str} {ps more : Array Value} (R : RL w K B H σ ρ μ) (hj : μ[j]? = some (Pt, .tab q)) (hP : H Pt = some (.tbl ps)) (hc : H c' = none) (ht : TriplesOk (ps ++ more).toList)
    (ha : ∀ pos cv, codeAmong pos (ps ++ more).toList = some cv → codeAmong pos ps.toList = some cv ∨ cv = .ref c') : RL w K B (upd (upd H Pt (.tbl (ps ++ more))) c' (LamX.CodeO c' q)) σ ρ μ := by
  have inP : (Pt, Node.tab q) ∈ B.fr ++ μ := List.mem_append_right _ (List.mem_of_getElem? hj)
  have nP : Pt ≠ c' := fun e => by rw [e, hc] at hP; cases hP
  have other : ∀ x, x ≠ Pt → x ≠ c' → (upd (upd H Pt (.tbl (ps ++ more))) c' (LamX.CodeO c' q)) x = H x := fun x h1 h2 => by rw [upd_ne h2, upd_ne h1]
  have out : c' ∉ (B.fr ++ μ).map (·.1) := fun z => by
    obtain ⟨p, hp, e⟩ := List.mem_map.mp z
    exact (R.st p hp).live (by rw [e]; exact hc)
  have g : ∀ x o, Fz (B.fr ++ μ) H x = some o → Fz (B.fr ++ μ) (upd (upd H Pt (.tbl (ps ++ more))) c' (LamX.CodeO c' q)) x = some o := fun x o h => by
    obtain ⟨h1, h2⟩ := Fz.sub h
    refine Fz.of h1 ?_
    rw [other x (fun e => h1 (by rw [e]; exact List.mem_map_of_mem inP)) (fun e => by rw [e, hc] at h2; cases h2)]
    exact h2
  refine ⟨R.nd, fun x o h => g _ _ (R.base x o h), L2.Paired.mapP R.sl fun _ _ => RVo.mono g, fun p hp => ?_⟩
  by_cases e : p.1 = Pt
  · have ep : p = (Pt, .tab q) := by
      obtain ⟨i, hi, rfl⟩ := List.mem_iff_getElem.mp hp
      obtain ⟨k, hk, ek⟩ := List.mem_iff_getElem.mp inP
      have h1 : ((B.fr ++ μ).map (·.1))[i]? = some Pt := by rw [List.getElem?_map, List.getElem?_eq_getElem hi]; exact congrArg some e
      have h2 : ((B.fr ++ μ).map (·.1))[k]? = some Pt := by rw [List.getElem?_map, List.getElem?_eq_getElem hk, ek]; rfl
      have := (List.getElem?_inj (by rw [List.length_map]; exact hi) R.nd).mp (h1.trans h2.symm)
      subst this
      exact ek
    subst ep
    obtain ⟨ps', e1, _, e3⟩ := R.st _ inP
    rw [hP] at e1
    cases e1
    refine ⟨_, by rw [upd_ne nP, upd_same], ht, fun pos cv h => ?_⟩
    rcases ha pos cv h with h | rfl
    · exact (e3 pos cv h).imp fun c k => ⟨k.1, g _ _ k.2⟩
    · exact ⟨c', rfl, Fz.of out upd_same⟩
  · exact (R.st p hp).mono g (other p.1 e fun z => (R.st p hp).live (by rw [z]; exact hc))
abbrev dSortL (Pt : Addr) (q : Str) (kf : PyData → PyData) (Pd : PyData → Prop) (g : DTA) : DTE := fun ρ μ Q => g ρ μ fun xs μ1 => (∃ j : Nat, μ1[j]? = some (Pt, Node.tab q)) ∧ zSortK kf Pd xs μ1 Q
/-- a lambda as a key -/
theorem d_sortL {kf : PyData → PyData} {Pd : PyData → Prop} {c Pt : Addr} {params : Arguments} {body : Expr} {scope : Scope} {e : Expr} {g : DTA} {p lpos kp pos : Pos} (hu : X.A.units + 64 < cLine) (hgs : Gl X "sorted") (hms : X.mg "sorted" = none)
    (TB : LamX.TabB X.base X.mg c Pt) (hcode : X.env.code = .ref c) (hdef : defaultsOf params X.env = ([], [])) (hfree : ∀ y ∈ scope.names, y.2 ≠ NameKind.free)
    (key : ∀ (s : Shared) (f c' : Addr) (pm ctv : Value), L2.Mod X.K X.mg X.base → (∀ b o, X.base.get? b = some o → s.heap.get? b = some o) → s.heap.get? f = some (kla_obj (Str.ofString "<lambda>") (X.env.qual ++ Str.ofString "<lambda>") params body scope (cloFrom X.env.cells scope.names []) pm c' ctv) → s.heap.CodeRec (.ref c') (X.env.qual ++ Str.ofString "<lambda>") → KeyTells X f kf Pd s) (ha : DA X [e] g)
    (h3 : backTo pos (starEach [e] X.env) = [(false, eval e X.env)] := by rfl) (h4 : ((backTo pos (starEach [e] X.env)).any fun x => x.1) = false := by rfl)
    (h5 : ((backToKw pos (keywordEach [⟨some "key", .Lambda params body scope lpos, kp⟩] X.env)).all fun x => x.1.isSome) = true := by rfl) (h6 : ((backToKw pos (keywordEach [⟨some "key", .Lambda params body scope lpos, kp⟩] X.env)).any fun x => x.1.isNone) = false := by rfl) (h7 : (backToKw pos (keywordEach [⟨some "key", .Lambda params body scope lpos, kp⟩] X.env)).filterMap (fun x => x.1) = [("key" : Str)] := by rfl) :
    DE X (.Call (.Name "sorted" p) [e] [⟨some "key", .Lambda params body scope lpos, kp⟩] pos) (dSortL Pt (X.env.qual ++ Str.ofString "<lambda>") kf Pd g) := by
  refine ⟨fun B => ⟨fun pins s σ H Q I h => ?_⟩⟩
  obtain ⟨hv, hx, ρ, μ, Q0, hl, R0, h, low⟩ := h
  refine wpAny_Call_Name_kw (ld_blt I hgs hms rfl (callWith_kw (thn ((ha.run B).run pos pins s σ H (fun vs H1 => ∃ xs μ1, ((∃ j : Nat, μ1[j]? = some (Pt, Node.tab (X.env.qual ++ Str.ofString "<lambda>"))) ∧ zSortK kf Pd xs μ1 Q0) ∧ vs.length = xs.length ∧ RL X.w X.K B H1 (vs.map some ++ (hv ++ σ)) (xs.map some ++ (hx ++ ρ)) μ1) I ⟨hv, hx, ρ, μ, _, hl, R0, h, fun xs μ1 q vs H1 l R1 => ⟨xs, μ1, q, l, R1⟩⟩) fun us s1 h1 => ?_) h3 h4 h5 h6) (by decide) (by decide))
  obtain ⟨vs, H1, I1, rv, xs, μ1, ⟨⟨j, hj⟩, q⟩, l, R1⟩ := h1
  rw [h7]
  obtain ⟨ps, hP, ht, hcs⟩ := R1.st _ (List.mem_append_right _ (List.mem_of_getElem? hj))
  refine wpAny_evalAll_cons (wpAny_bind (Zq.lam_mk I1 TB hcode hP ht (fun pos cv h => (hcs pos cv h).imp fun c k => ⟨k.1, (Fz.sub k.2).2⟩) hdef (fun y hy z => absurd z (hfree y hy)) fun f c' pm ctv H2 s2 I2 _ al hf hrec => ?_))
  have R2 : RL X.w X.K B H2 (vs.map some ++ (hv ++ σ)) (xs.map some ++ (hx ++ ρ)) μ1 := by
    rcases al with rfl | ⟨more, hc, rfl, t1, t2⟩
    · exact R1
    · exact R1.tabs hj hP hc t1 t2
  refine wpAny_bind (wpAny_standAt (wpAny_pure (wpAny_evalAll_nil ?_)))
  exact sorted_at hu I2 rv (sortK_up B _ _ H2 μ1 vs xs Q0 Q l R2 q low) (key s2 f c' pm ctv I2.mod I2.bk hf hrec)
end
end Zl
/-! Where the law is entered, the (empty) table of a def's codes is told as an own object: Gd.law_at, walk_at with it. -/
namespace Gt
open PySem PySem.Spec PyProof.Rows L2 Gd
def entryT (Pt a : Addr) (t : Bool) (o : Obj) (xs : List V) : Hp := fun b => if b = Pt then some (.tbl #[]) else entry a t o xs b
theorem law_tab {P : Program} {w : World} {K : PySem.W.Frag} {mg mb : Str → Option Value} {fa a c Pt : Addr} {fd : FuncData} {x : Str} {sp : Sp} {s : Shared} {vs : List Value} {ns : List Int}
    (inK : K.In s.heap) (glob : s.heap.Ns mainGlobals mg) (hb : s.heap.Ns builtinsNs mb) (boot : ∀ x : Str, x ≠ "__name__" → mb x = bootBuiltins x) (lim : s.heap.NoLimit) (hg : s.gens = #[])
    (bmain : ∃ bm ob, mg (Str.ofString "__builtins__") = some (Value.ref bm) ∧ bm ≠ builtinsNs ∧ s.heap.get? bm = some ob ∧ ob.cls = Value.type "module" ∧ ob.dict = some builtinsNs ∧ ob.data = Data.plain)
    (hT : s.heap.get? Pt = some (PySem.W.tabObj #[])) (hK : K.lookup Pt = none) (hc : PySem.W.codeHdIn K c Pt = true)
    (at_ : s.heap.get? a = some { cls := .type "list", data := .seq vs.toArray }) (hi : IntsAre vs ns) (hl : ns.length ≤ sizeLine)
    (run : ∀ base : Heap, K.In base → base.Ns mainGlobals mg → LamX.TabB base mg c Pt → RunAt callerA P w K mg base fa fd [x] sp) (binds : ∀ (s : Shared) (u : Value), BindsTo s fd ⟨[u], []⟩ [(x, u)])
    (hsp : ∀ H : Hp, H Pt = some (.tbl #[]) → a ≠ Pt → SqL K H a (ns.map V.int) → sp [.ref a] H (fun v _ => v = .bl true) fun _ _ _ => False) :
    codeAny (model P w) callerA (.call (.ref fa) ⟨[.ref a], []⟩) (fun r s' => r = .ok (.ret (.bool true)) ∧ OldK s.heap s'.heap ∧ s'.os = s.os ∧ AllBare s'.gens) s := by
  have rv := vals_ints hi
  obtain ⟨t, ht⟩ : ∃ t : Bool, t = true ↔ K.lookup a = none := ⟨(K.lookup a).isNone, Option.isNone_iff_eq_none⟩
  let o : Obj := { cls := .type "list", data := .seq vs.toArray }
  have naP : a ≠ Pt := fun e => by rw [e, hT] at at_; cases at_
  let H : Hp := entryT Pt a t o (ns.map V.int)
  have HP : H Pt = some (.tbl #[]) := if_pos rfl
  have Hb : ∀ {b : Addr}, b ≠ Pt → H b = entry a t o (ns.map V.int) b := fun {b} n => if_neg n
  have none_of : ∀ {b : Addr} {u : Obj}, b ≠ Pt → s.heap.get? b = some u → (b = a → t = true → u ≠ o) → H b = none := fun {b u} nb e n => by
    rw [Hb nb]
    cases q : entry a t o (ns.map V.int) b with
    | none => rfl
    | some z =>
      obtain ⟨rfl, h1, _⟩ := entry_some q
      rw [at_] at e
      exact absurd (Option.some.inj e).symm (n rfl h1)
  have names : ∀ {b : Addr} {m : Str → Option Value}, s.heap.Ns b m → (hidT s.heap H).Ns b m := fun {b m} ⟨u, es, ep, e, d, r⟩ =>
    ⟨u, es, ep, hidT_get e (none_of (fun z => by rw [z, hT] at e; cases e; cases d) e fun _ _ z => by rw [z] at d; cases (show Data.seq vs.toArray _ = Data.dict es ep from d)), d, r⟩
  have kept : K.In (hidT s.heap H) := fun b u e => hidT_get (inK b u e) (none_of (fun z => by rw [z, hK] at e; cases e) (inK b u e) fun h1 h2 _ => by rw [h1, ht.mp h2] at e; cases e)
  have ok : HOk P w H s.heap := fun b u q => by
    by_cases e : b = Pt
    · subst e
      rw [HP] at q
      cases q
      exact hT
    · rw [Hb e] at q
      obtain ⟨rfl, _, rfl⟩ := entry_some q
      exact ⟨at_, by rw [List.length_map]; exact hl, vs, _, rv, at_⟩
  have script : SqL K H a (ns.map V.int) := by
    cases q : K.lookup a with
    | none => exact .inl (.inr ⟨o, (Hb naP).trans (if_pos ⟨rfl, ht.mpr q⟩)⟩)
    | some u =>
      obtain rfl : o = u := Option.some.inj (at_.symm.trans (inK a u q))
      exact .inr ⟨_, vs.toArray, _, q, rfl, rfl, rfl, by rw [List.size_toArray, hi.length]; exact hl, by simpa using rv⟩
  have bmat : (hidT s.heap H).BuiltinsAt mg Pt := by
    obtain ⟨bm, ob, h1, h2, h3, h4, h5, h6⟩ := bmain
    have n1 : bm ≠ Pt := fun z => by rw [z, hT] at h3; cases h3; cases h6
    refine ⟨bm, ob, h1, h2, fun z => ?_, n1, hidT_get h3 (none_of n1 h3 fun _ _ z => by rw [z] at h6; cases h6), h4, h5, h6⟩
    obtain ⟨u, es, ep, e, d, _⟩ := glob
    rw [z, e] at h3
    cases h3
    rw [h6] at d
    cases d
  have gP : mainGlobals ≠ Pt := fun z => by
    obtain ⟨u, es, ep, e, d, _⟩ := glob
    rw [z, hT] at e
    cases e
    cases d
  have env : Env0 P w K mg (hidT s.heap H) callerA [] s H :=
    { frames := rfl, mod := ⟨kept, names glob, ⟨mb, names hb, boot⟩, let ⟨mc, h1, h2⟩ := lim; ⟨mc, names h1, h2⟩⟩, bs := fun _ _ e => of_hidT e, bsz := Nat.le_of_eq (hidT_size _ _), funs := trivial, frf := fun b hb => absurd hb List.not_mem_nil, hok := ok, bare := .of_eq hg }
  refine codeAny_mono (run _ kept (names glob) (NdefX.tabB_of_K kept hc bmat gP) [] s H ⟨[.ref a], []⟩ [.ref a] [.ref a] _ _ env (binds s _) (.cons rfl .nil) (hsp H HP naP script)) fun r s' h => ?_
  match r, h with
  | .ok (.ret u), ⟨v, H', os, bare, un, hok', r', q⟩ =>
    obtain rfl : v = .bl true := q
    refine ⟨by rw [show u = Value.bool true from r'], ⟨fun b z e => ?_, fun b z e => un.there b z e (by simp)⟩, os, bare⟩
    by_cases eb : b = Pt
    · subst eb
      rw [hT] at e
      cases e
      obtain ⟨more, hm⟩ := un.tbls b _ HP
      have h2 := hok' b _ hm
      obtain ⟨oc, vs2, _, _, _, _, _, _, _, g1, g2, g3, g4, _⟩ := (NdefX.tabB_of_K (mg := mg) kept hc bmat gP).code
      exact .inr (.inl ⟨⟨c, oc, vs2, (of_hidT g1).1, g2, g3, g4⟩, rfl, #[], more, rfl, h2⟩)
    · cases hb : H b with
      | none => exact .inl (un.keep b z e hb (by intro z; cases z) (by simp))
      | some y =>
        have hb2 := hb
        rw [Hb eb] at hb2
        obtain ⟨rfl, _, rfl⟩ := entry_some hb2
        have e2 := (hok' b _ (un.frzs b o _ hb)).1
        rw [at_] at e
        exact .inl ((Option.some.inj e) ▸ e2)
/-- the end of a text: as Gd.walk_at, with the table of the def whose code is c -/
theorem walk_tab {l : PySem.W.OpenLaw} {n : Nat} {q : Program} {loose : List Str} {XP : (Str → Option Value) → Heap → Prop} {YP : World → Heap → Prop} {d : DefRec} {K : Params → PySem.W.Frag} {sp : World → Sp} {x : Str} {c Pt : Addr}
    (hn : l.most = some n) (hn2 : n ≤ sizeLine) (hdf : d.params.defaults = []) (hY : ∀ (w : World) (h : Heap), YP w h → (K w.params).In h ∧ h.get? Pt = some (PySem.W.tabObj #[])) (hK : ∀ w : World, (K w.params).lookup Pt = none) (hc : ∀ w : World, PySem.W.codeHdIn (K w.params) c Pt = true)
    (F : ∀ (w : World) (mg : Str → Option Value) (fa : Addr) (h : Heap), (K w.params).In h → h.Ns mainGlobals mg → mg d.name = some (.ref fa) →
      ∃ fd : FuncData, (∀ (s : Shared) (u : Value), BindsTo s fd ⟨[u], []⟩ [(x, u)]) ∧ ∀ base : Heap, (K w.params).In base → base.Ns mainGlobals mg → LamX.TabB base mg c Pt → RunAt callerA l.prog w (K w.params) mg base fa fd [x] (sp w))
    (hsp : ∀ (w : World) (H : Hp) (a : Addr) (ns : List Int), ns.length ≤ n → H Pt = some (.tbl #[]) → a ≠ Pt → SqL (K w.params) H a (ns.map V.int) → sp w [.ref a] H (fun v _ => v = .bl true) fun _ _ _ => False) :
    PySem.W.WalkO q loose XP YP l.row.toRowW d [] (fun f vs => PySem.call f vs) := by
  refine Att.attach_call hn hdf fun w _ s mg mb fa o pm cd doc a vs ns G Y ho hd hcd hmg hobj hints hlen hg => ?_
  obtain ⟨inK, hT⟩ := hY w _ Y
  obtain ⟨fd, hb, hF⟩ := F w mg fa _ inK G.T.g hmg
  exact law_tab inK G.T.g G.T.b G.T.builtins G.T.nolimit hg G.T.bmain hT (hK w) (hc w) hobj hints (Nat.le_trans hlen hn2) hF hb fun H hP na hS => hsp w H a ns hlen hP na hS
end Gt
namespace Zl
open PySem PySem.Spec PyProof.Rows L2 Lf
theorem law_spT {w : World} {K : PySem.W.Frag} {F : DSp} {H : Hp} {a Pt : Addr} {q : Str} {ns : List Int} {E : XK} (h : F [.scr ns] [(Pt, .tab q)] fun x _ => x = .dat (.bool true)) (hP : H Pt = some (.tbl #[])) (na : a ≠ Pt) (hS : SqL K H a (ns.map V.int)) : spZ w K F [.ref a] H (fun v _ => v = .bl true) E := by
  have hS' : SqL K (Fz ([] ++ [(Pt, .tab q)]) H) a (ns.map V.int) := by
    have g : Fz ([] ++ [(Pt, Node.tab q)]) H a = H a := if_neg (by simpa using na)
    rcases hS with (h | ⟨o, h⟩) | h
    · exact .inl (.inl (g.trans h))
    · exact .inl (.inr ⟨o, g.trans h⟩)
    · exact .inr h
  refine ⟨⟨fun _ => none, []⟩, _, _, _, rfl, ⟨by simp, fun x o e => (by cases e), .cons ⟨a, rfl, hS'⟩ .nil, fun p hp => ?_⟩, h, fun x μ' e v H' R => ?_⟩
  · rw [List.mem_singleton.mp hp]
    exact ⟨#[], hP, trivial, fun _ _ z => by cases z⟩
  subst e
  cases (R.head : Dz _ v (.bool true))
  rfl
end Zl
namespace Zl
open PySem PySem.Spec PyProof.Rows L2 Lf
/-- as runZ, the def's code known -/
theorem runZC {A : Around} {P : Program} {w : World} {K : PySem.W.Frag} {mg : Str → Option Value} {base : Heap} {x qual : Str} {st : Stmt} {f c : Addr} {fd : FuncData} {N ps : List Str} {k : Nat} {F : DSp} (FF : Fun K x qual st f fd) (hc : fd.code = .ref c) (S : FnScope N ps (defScope st))
    (rm : Room (k + 1) A) (len : ∀ xs μ Q, F xs μ Q → xs.length = ps.length)
    (body : ∀ (outer : List Env) (s : Shared) (H : Hp) (E : XK), Room k (A.deeper (envOfC qual (defScope st) s.heap.objs.size f (.ref c))) →
      ∃ t : DTS, DSs (cxOf CX0 P w K mg base N qual (defScope st) f (.ref c) A outer s H E).nox (defBody st) t ∧ ∀ xs μ Q, F xs μ Q → t (dEnd Q) (startZ N xs) μ) : Gd.RunAt A P w K mg base f fd ps (spZ w K F) := by
  obtain ⟨oc, od, kV, doc, pm, an, cdv, ct, osl, rfl, lk, hcd⟩ := FF.ex
  cases (hc : cdv = .ref c)
  intro outer s H args us vs Q E e0 hb rv hsp
  have inK : K.In s.heap := e0.mod.kin.keeps fun b o e => (e0.bs b o e).1
  have lenv : vs.length = ps.length := by
    obtain ⟨B, xs, μ, Q0, l, _, h, _⟩ := hsp
    rw [l]
    exact len _ _ _ h
  refine codeAny_call_function rm.depth (inK _ _ lk) rfl S.co S.gen rfl (PySem.W.codeRec_of inK hcd) (hb _ _ _ _ ?_)
  refine wpAny_newFunctionEnv_cells S.kind (fun ⟨n, v⟩ hm => (S.par n (List.of_mem_zip hm).1).imp id fun c => ⟨c, PySem.W.cellsFrom_some _ _ _ (.inl c)⟩) fun env he s1 ic => ?_
  subst he
  obtain ⟨B, xs, μ, Q0, l, R, h, low⟩ := hsp
  obtain ⟨t, d, q⟩ := body outer s H E (rm.deeper _)
  have hq : upS (cxOf CX0 P w K mg base N qual (defScope st) f (.ref c) A outer s H E).nox B t { nx := fun _ H' => Q .non H', rt := Q } (start N vs) H := by
    refine ⟨startZ N xs, μ, dEnd Q0, ?_, q xs μ Q0 h, ?_⟩
    · refine R.slots ?_
      unfold L2.start startZ
      rw [l]
      exact paired_app R.sl (paired_none _)
    · exact ⟨fun ρ μ ⟨μ', h, q⟩ σ H R => low _ _ q _ _ ((R.less h).slots (.cons .non .nil)), fun x μ ⟨μ', h, q⟩ v H R => low _ _ q _ _ (R.less h), fun _ _ q => q.elim, fun _ _ q => q.elim⟩
  refine ⟨(e0.mod.nolimit.keeps fun b o e => (e0.bs b o e).1).keeps ic.toInCall.keep, codeAny_func (wpAny_mono ((d.run B).nox.run [] s1 (start N vs) H _ (inv_start S rm.hd e0 lenv rv ic) hq) (fun fl s' hs => ?_) fun _ _ h => h)⟩
  cases fl with
  | ret u => exact let ⟨v, _, H', J, r, q⟩ := hs; ⟨v, H', J.os, J.bare, J.base, J.hok, r, q⟩
  | next => exact let ⟨_, H', J, q⟩ := hs; ⟨V.non, H', J.os, J.bare, J.base, J.hok, rfl, q⟩
  | brk => exact (let ⟨_, _, _, q⟩ := hs; q : False).elim
  | cont => exact (let ⟨_, _, _, q⟩ := hs; q : False).elim
theorem okZC {P : Program} {w : World} {K : PySem.W.Frag} {mg : Str → Option Value} {base : Heap} {x qual : Str} {st : Stmt} {f c : Addr} {fd : FuncData} {N ps : List Str} {k : Nat} {F : DSp} (FF : Fun K x qual st f fd) (hc : fd.code = .ref c) (S : FnScope N ps (defScope st))
    (len : ∀ xs μ Q, F xs μ Q → xs.length = ps.length)
    (body : ∀ (A : Around) (outer : List Env) (s : Shared) (H : Hp) (E : XK), Room k (A.deeper (envOfC qual (defScope st) s.heap.objs.size f (.ref c))) →
      ∃ t : DTS, DSs (cxOf CX0 P w K mg base N qual (defScope st) f (.ref c) A outer s H E).nox (defBody st) t ∧ ∀ xs μ Q, F xs μ Q → t (dEnd Q) (startZ N xs) μ) : FnOk P w K mg base CX0 (k + 1) f fd ps (spZ w K F) := by
  obtain ⟨oc, od, kV, doc, pm, an, cdv, ct, osl, rfl, lk, hcd⟩ := FF.ex
  cases (hc : cdv = .ref c)
  refine fn_of lk hcd S (fun vs H Q E h => ?_) fun A outer s H vs Q E hr h => ?_
  · obtain ⟨B, xs, μ, Q0, l, _, h, _⟩ := h
    rw [l]
    exact len _ _ _ h
  · obtain ⟨B, xs, μ, Q0, l, R, h, low⟩ := h
    obtain ⟨t, d, q⟩ := body A outer s H E hr
    refine ⟨_, (d.run B).nox, startZ N xs, μ, dEnd Q0, ?_, q xs μ Q0 h, ?_⟩
    · refine R.slots ?_
      unfold L2.start startZ
      rw [l]
      exact paired_app R.sl (paired_none _)
    · exact ⟨fun ρ μ ⟨μ', h, q⟩ σ H R => low _ _ q _ _ ((R.less h).slots (.cons .non .nil)), fun x μ ⟨μ', h, q⟩ v H R => low _ _ q _ _ (R.less h), fun _ _ q => q.elim, fun _ _ q => q.elim⟩
end Zl
/-! d.get(k); a statement that is never reached; the first items of a tuple in a key. -/
namespace Vd
open PySem PySem.Spec PyProof.Rows L2
section
variable {X : Cx} {pins : List (Addr × Obj)} {σ : L2.St} {H : Hp} {s : Shared} {a : Addr} {kvs : List KVR} {k : NestedKey} {y z : V} {u r : Value} {A : Around} {E : Value → Shared → Prop}
theorem c_get1 {Q : Value → Shared → Prop} (hu : A.units + 64 < cLine) (I : Inv X pins σ H s) (D : DAt X.w H a kvs) (ok : KeyOk k) (ky : KeyAt H k y) (ry : RelV y u) (h : ∀ w' s', Inv X pins σ H s' → RelV ((lookV kvs k).getD .non) w' → Q w' s') :
    wpAny (model X.prog X.w) A (call (.builtin "dict.get") [.ref a, u]) Q E s := by
  obtain ⟨hd, hz, xs, rel, m, R⟩ := D.out I.hok
  refine call_meetsIn PySem.F.slot_dict_get m.ty PySem.F.entry_dict_get (PySem.F.args_dict_get_2 _ _) (S := fun A' R s' => A' = A ∧ s' = s ∧ ∀ w' s2, Inv X pins σ H s2 → RelV ((lookV kvs k).getD .non) w' → R (.ok (.ret w')) s2) (.of_wp fun A' R' s' hS => ?_) ⟨rfl, rfl, fun w' s2 i q => h w' s2 i q⟩
  obtain ⟨rfl, rfl, hq⟩ := hS
  show wpAny _ _ (dictGet a u >>= _) _ _ _
  refine wpAny_bind (get (room8 hu) (ky.is I.hok ry) ok m R ?_)
  rcases look_cases rel k with ⟨e1, e2⟩ | ⟨v, w', e1, e2, rv⟩
  · rw [e2]
    rw [e1] at hq
    show wpAny _ _ (Builtin.Dict.missed a u >>= _) _ _ _
    exact wpAny_bind (wpAny_missed_other hd (wpAny_pure ⟨.none, rfl, hq .none _ (I.tok _) rfl⟩))
  · rw [e2]
    rw [e1] at hq
    exact wpAny_pure ⟨w', rfl, hq w' _ (I.tok _) rv⟩
end
structure G1 (X : Cx) (o : Expr) (m : Str) (apos : Pos) (e : Expr) (cpos : Pos) : Prop where
  base : attributeBase o m X.env (eval o X.env) = eval o X.env
  few : ((((backTo cpos (starEach [e] X.env)).all fun x => !x.1) && (backToKw cpos (keywordEach [] X.env)).all fun x => x.1.isSome) && decide (([e].length + ([] : List Keyword).length + if ([] : List Keyword).isEmpty = true then 0 else 1) < 30)) = true
  line : (apos.endLine == cpos.line) = true
  trees : backTo cpos (starEach [e] X.env) = [(false, eval e X.env)]
/-- d.get(k) -/
def tGet1 (w : World) (td ty : TE) : TE := fun σ H Q => td σ H fun x H1 => ∃ a, x = .ref a ∧ Some w H1 a ∧ ty σ H1 fun y H3 => ∃ kvs k, DAt w H3 a kvs ∧ KeyOk k ∧ KeyAt H3 k y ∧ Q ((lookV kvs k).getD .non) H3
section
variable {X : Cx} {o e : Expr} {apos cpos : Pos} {td ty : TE}
theorem pe_get1 (hu : X.A.units + 64 < cLine) (ho : PE X o td) (he : PE X e ty) (m : G1 X o "get" apos e cpos) : PE X (.Call (.Attribute o "get" apos) [e] [] cpos) (tGet1 X.w td ty) := by
  refine ⟨fun pins s σ H Q I h => ?_⟩
  refine wpAny_Call_method m.base m.few m.line PySem.F.plainAttrs_dict PySem.F.slot_dict_get PySem.F.type_dict_get (thn (ho.run pins s σ H _ I h) fun u s1 ⟨x, H1, I1, rx, a, ex, d, q1⟩ => ?_)
  subst ex
  cases (show u = Value.ref a from rx)
  refine ⟨(some_at I1 d).1, (some_at I1 d).2, ?_⟩
  rw [m.trees]
  refine Calls.callWith_builtin rfl (Calls.evalArgs_plain (Calls.spliced_cons (thn (he.run pins s1 σ H1 _ I1 q1) fun iv s2 ⟨y, H2, I2, ry, kvs, k, D, ok, ky, q3⟩ => Calls.spliced_nil ?_)))
  exact c_get1 hu I2 D ok ky ry fun w' s4 I4 rw' => ⟨_, H2, I4, rw', q3⟩
end
end Vd
namespace Zl
open PySem PySem.Spec PySem.W PyProof.Rows L2 Lf
section
variable {X : Cx} {o e : Expr} {apos cpos : Pos} {fd fk : DTE}
abbrev dGet1 (fd fk : DTE) : DTE := fun ρ μ Q => fd ρ μ fun d μ1 => match d with
  | .ptr a => (∃ kvs, DvAt μ1 a kvs) ∧ fk ρ μ1 fun y μ3 => match y with
    | .dat dk => ∃ kvs k, DvAt μ3 a kvs ∧ keyD dk = some k ∧ Vd.KeyOk k ∧ Q ((lookZ kvs k).getD (.dat .none)) μ3
    | _ => False
  | _ => False
theorem d_dget1 (hu : X.A.units + 64 < cLine) (ho : DE X o fd) (he : DE X e fk) (m : Vd.G1 X o "get" apos e cpos) : DE X (.Call (.Attribute o "get" apos) [e] [] cpos) (dGet1 fd fk) :=
  ⟨fun B => PE.weak (Vd.pe_get1 hu (ho.run B) (he.run B) m) fun σ H Q ⟨hv, hx, ρ, μ, Q0, hl, R, q, low⟩ => by
    refine ⟨hv, hx, ρ, μ, _, hl, R, q, fun d μ1 q1 v H1 R1 => ?_⟩
    match d, q1, R1 with
    | .ptr a, q1, R1 =>
      obtain ⟨⟨kvs, h1⟩, q1⟩ := q1
      obtain ⟨ks, D, _⟩ := h1.at R1
      cases (R1.head : v = .ref a)
      refine ⟨a, rfl, ⟨ks, D.at⟩, _ :: hv, _ :: hx, ρ, μ1, _, by simp [hl], R1, q1, fun y μ2 q2 u H2 R2 => ?_⟩
      match y, q2, R2 with
      | .dat dk, q2, R2 =>
        obtain ⟨kvs, k, h3, ek, ok, q3⟩ := q2
        obtain ⟨ks3, D3, pr⟩ := h3.at R2
        refine ⟨ks3, k, D3, ok, (keyAt_of dk u k R2.head ek).keep fun a xs e => fz_le _ _ e, ?_⟩
        rcases look_rel pr k with ⟨e1, e2⟩ | ⟨v, x, e1, e2, rv⟩
        · rw [e2] at q3
          rw [e1]
          exact low _ _ q3 _ _ (R2.tail.tail.cons .non)
        · rw [e2] at q3
          rw [e1]
          exact low _ _ q3 _ _ (R2.tail.tail.cons rv)⟩
theorem d_din {i : Expr} {pos : Pos} (hu : X.A.units + 64 < cLine) (hi : DE X i fk) (ho : DE X o fd) (hm : behindInMarks .In o = false := by rfl) : DE X (.Compare i [.In] [o] pos) (dDin id fk fd) :=
  ⟨fun B => PE.weak (pe_cmp (Vd.pc_in hu (hi.run B) (ho.run B)) hm) fun σ H Q ⟨hv, hx, ρ, μ, Q0, hl, R, q, low⟩ => by
    refine ⟨hv, hx, ρ, μ, _, hl, R, q, fun y μ1 q1 v H1 R1 => ⟨_ :: hv, _ :: hx, ρ, μ1, _, by simp [hl], R1, q1, fun d μ2 q2 u H2 R2 => ?_⟩⟩
    match d, y, q2, R2 with
    | .ptr a, .dat dk, q2, R2 =>
      obtain ⟨kvs, k, h, ek, ok, q2⟩ := q2
      obtain ⟨ks, D, pr⟩ := h.at R2
      cases (R2.head : u = .ref a)
      refine ⟨a, ks, k, rfl, D, ok, (keyAt_of dk v k R2.tail.head ek).keep fun a xs e => fz_le _ _ e, ?_⟩
      rw [look_some pr]
      exact low _ _ q2 _ _ (R2.tail.tail.cons (.bl _))⟩
/-- a statement that is never reached -/
theorem ds_never {st : Stmt} : DS X st (fun _ _ _ => False) := ⟨fun B => ⟨fun pins s σ H D I h => by
  obtain ⟨_, _, _, _, h, _⟩ := h
  exact h.elim⟩⟩
end
end Zl
namespace Zq
open PySem PySem.Spec PySem.W PySem.Calls PyProof.Rows L2
theorem readsAll_len {h : Heap} {vs : List Value} {ds : List PyData} {as : List Addr} (r : ReadsAll h vs ds as) : vs.length = ds.length := SeqAt.ReadsAll.length _ _ _ r
theorem readsAll_take {h : Heap} : ∀ (n : Nat) {ds : List PyData} {vs : List Value}, ReadsAll h vs ds [] → ReadsAll h (vs.take n) (ds.take n) []
  | 0, _, _, _ => .nil
  | n + 1, [], vs, r => by
    cases r with
    | nil => exact .nil
  | n + 1, d :: ds, vs, r => by
    generalize e : ([] : List Addr) = as at r
    cases r with
    | @cons v vs _ _ as bs h1 h2 =>
      have e' := e.symm
      rw [List.append_eq_nil_iff] at e'
      obtain ⟨rfl, rfl⟩ := e'
      exact .cons (as := []) (bs := []) h1 (readsAll_take n h2)
/-- a[:k] of a tuple -/
theorem pu_upto {P : Program} {w : World} {A : Around} {env : Env} {s0 : Shared} {a : Expr} {pos p2 p3 : Pos} {ds : List PyData} {k : Nat} {kk : Nat} (ha : PuE P w A env s0 a (.tuple ds)) (hk : k < ds.length) (hl : ds.length ≤ sizeLine)
    (ht : ∀ o i : Value, subscripted (.Slice none (some (.Constant (.int k) kk p3)) none p2) false o i = operate [i, o] (getItem o i) := by intros; rfl) : PuE P w A env s0 (.Subscript a (.Slice none (some (.Constant (.int k) kk p3)) none p2) pos) (.tuple (ds.take k)) :=
  ⟨fun s kp => by
    refine Subscript_ (wpAny_mono (ha.run s kp) (fun o s1 h1 => ?_) fun _ _ e => e)
    obtain ⟨k1, r1⟩ := of_pure h1
    refine wpAny_Slice ?_
    rw [evalPart_none]
    refine wpAny_pure ?_
    show wpAny _ _ (eval (.Constant (.int k) kk p3) env) _ _ _
    refine wpAny_Constant_int ?_
    refine wpAny_pure ?_
    generalize e0 : ([] : List Addr) = as at r1
    cases r1 with
    | @tuple a o vs n _ _ ho hc hdt hr =>
      subst e0
      have sz : vs.size = ds.length := by rw [← Array.length_toList]; exact SeqAt.ReadsAll.length _ _ _ hr
      let sv : Obj := { cls := .type "slice", data := .fields #[.none, .int k s1.toks, .none] }
      have k2 : Keep s1 { s1 with heap := s1.heap.push sv, toks := s1.toks + 1 } := ⟨_, _, rfl, fun b o e => Heap.get?_push_of_some _ e⟩
      have it : IsTup (s1.heap.push sv) a vs := ⟨o, Heap.get?_push_of_some _ ho, hc, n, hdt⟩
      have i0 : HT.sIx vs.size 0 none = 0 := rfl
      have i1 : HT.sIx vs.size vs.size (some (k : Int)) = k := by
        show (if (k : Int) < 0 then ((k : Int) + (vs.size : Nat)).toNat else min (k : Int).toNat vs.size) = k
        rw [if_neg (by omega)]
        omega
      refine tail_any (IsTup.typeIs it) (Slot.lookup slot_tuple_getitem) (HT.getItem_tuple_cut it (Heap.IsSliceOf.new _ _ _ _) (IsPart.none) (IsPart.int k s1.toks) (fun z => by rw [i1] at z; omega) ?_ (by omega)) (ht _ _)
      rw [i0, i1, List.drop_zero, Nat.sub_zero]
      have k3 : Keep { s1 with heap := s1.heap.push sv, toks := s1.toks + 1 } { s1 with heap := (s1.heap.push sv).push { cls := .type "tuple", data := .seq (vs.toList.take k).toArray }, toks := s1.toks + 1 } := ⟨_, _, rfl, fun b o e => Heap.get?_push_of_some _ e⟩
      refine pure_of ((k1.trans k2).trans k3) (.tuple (Heap.get?_push_size _ rfl) rfl rfl ?_)
      rw [List.toList_toArray]
      exact readsAll_take k (ReadsAll.keeps (k2.trans k3).mem hr)⟩
end Zq
/-! isinstance(x, T) of data and own lists. -/
namespace Zl
open PySem PySem.Spec PySem.W PyProof.Rows L2 Lf
def tyD : PyData → String
  | .none => "NoneType"
  | .bool _ => "bool"
  | .int _ => "int"
  | .str _ => "str"
  | .list _ => "list"
  | .tuple _ => "tuple"
  | .dict _ => "dict"
inductive TyZ (μ : Store) : Val → String → Prop
  | dat (d : PyData) : TyZ μ (.dat d) (tyD d)
  | lst (j : Nat) {a : Addr} {xs : List Val} : μ[j]? = some (a, Node.lst xs) → TyZ μ (.ptr a) "list"
  | tpl (ps : List (PyData ⊕ Addr)) : TyZ μ (.tpl ps) "tuple"
section
variable {X : Cx} {B : Base} {σ : List (Option V)} {ρ : DR} {H : Hp} {μ : Store}
theorem TyZ.ok {v : V} {x : Val} {t : String} (h : TyZ μ x t) (R : RL X.w X.K B H (some v :: σ) (some x :: ρ) μ) : TyX X.K H v (.type t) := by
  have hd := R.head
  cases h with
  | dat d =>
    have hd : Dz _ v d := hd
    cases hd with
    | non => exact .base .non
    | bl b => exact .base (.bl b)
    | int i => exact .base (.int i)
    | str x => exact .base (.str x)
    | lst e _ => exact .base (.lst (fz_le _ _ e))
    | tup e _ => exact .base (.tup (fz_le _ _ e))
  | lst j hj =>
    obtain ⟨us, e, _⟩ := R.at hj
    cases (hd : v = .ref _)
    exact .base (.lst e)
  | tpl ps =>
    obtain ⟨t, us, rfl, e, _⟩ := (hd : ∃ t vs, v = .ref t ∧ _)
    exact .base (.tup (fz_le _ _ e))
abbrev dIsi (T : String) (f : DTE) : DTE := fun ρ μ Q => f ρ μ fun x μ1 => ∃ t b, TyZ μ1 x t ∧ kitB t T = some b ∧ Q (.dat (.bool b)) μ1
theorem d_isi {T : String} {y : Str} {e : Expr} {f : DTE} {p p2 pos : Pos} (hI : Gl X "isinstance") (mI : X.mg "isinstance" = none) (hT : Gl X y) (mT : X.mg y = none) (bT : bootBuiltins y = some (.type T)) (he : DE X e f)
    (n1 : y ≠ "__name__" := by decide) (n2 : (y == ("__debug__" : Str)) = false := by decide) (h1 : starEach [e, .Name y p2] X.env = (false, eval e X.env) :: starEach [.Name y p2] X.env := by rfl) (h2 : ((backTo pos (starEach [.Name y p2] X.env)).any fun x => x.1) = false := by rfl)
    (h3 : starEach [.Name y p2] X.env = (false, eval (.Name y p2) X.env) :: starEach [] X.env := by rfl) :
    DE X (.Call (.Name "isinstance" p) [e, .Name y p2] [] pos) (dIsi T f) := by
  refine ⟨fun B => PE.weak (pe_callB call_isi hI mI (by decide +kernel) (pa_cons (he.run B) (pa_cons (pe_bltn (v := V.ty T) (u := .type T) hT mT bT rfl n1 n2) pa_nil h3) h1) (by decide) (by decide) h1 h2) fun σ H Q h => ?_⟩
  obtain ⟨hv, hx, ρ, μ, Q0, hl, R0, h, low⟩ := h
  refine ⟨hv, hx, ρ, μ, _, hl, R0, h, fun x μ1 h1 u H1 R1 => ?_⟩
  obtain ⟨t, b, ht, hk, q⟩ := h1
  exact ⟨_, _, _, _, b, rfl, .ty T, ht.ok R1, kit_ty hk, low _ _ q _ _ (R1.tail.cons (.bl b))⟩
/-! enumerate(list) -/
def plainV : Val → Prop
  | .dat _ => True
  | .ptr _ => True
  | _ => False
def enV (i : Nat) : Val → Val
  | .dat d => .dat (.tuple [.int i, d])
  | .ptr a => .prt (.int i) a
  | x => x
def enumZ : Nat → List Val → List Val
  | _, [] => []
  | i, x :: xs => enV i x :: enumZ (i + 1) xs
theorem enumZ_len : ∀ {xs : List Val} {k : Nat}, (enumZ k xs).length = xs.length
  | [], _ => rfl
  | x :: xs, k => congrArg (· + 1) (enumZ_len (xs := xs) (k := k + 1))
theorem enumZ_get : ∀ {xs : List Val} {k i : Nat} {x : Val}, xs[i]? = some x → (enumZ k xs)[i]? = some (enV (k + i) x)
  | y :: xs, k, 0, x, h => by
    cases h
    rfl
  | y :: xs, k, i + 1, x, h => by
    show (enumZ (k + 1) xs)[i]? = _
    rw [enumZ_get (xs := xs) (k := k + 1) (i := i) h, show k + 1 + i = k + (i + 1) by omega]
theorem seq_enum {B : Base} {a : Addr} {x : Val} {xs : List Val} (h : ∀ σ' ρ' H' μ', RL X.w X.K B H' σ' ρ' μ' → keeps x xs μ' → ∃ vs, SqL X.K H' a vs ∧ Paired (RV X.K (Fz (B.fr ++ μ') H')) vs xs) (ok : ∀ y ∈ xs, plainV y) :
    SeqZ X B (Ite X.K a) (enumZ 0 xs) (keeps x xs) := by
  refine ⟨fun σ ρ H μ i R k hi => ?_, fun σ ρ H μ R k => ?_, fun μ q k => ?_⟩
  rotate_left 2
  · unfold keeps at k ⊢
    split at k
    · obtain ⟨j, hj⟩ := k
      exact ⟨j, by rw [List.getElem?_append_left (List.getElem?_eq_some_iff.mp hj).1]; exact hj⟩
    · trivial
  · obtain ⟨vs, h1, h2⟩ := h σ ρ H μ R k
    rw [enumZ_len] at hi
    have hi' : i < vs.length := by rw [h2.length]; exact hi
    have e := List.getElem?_eq_getElem hi'
    have ey := List.getElem?_eq_getElem hi
    obtain ⟨v, ev, rv⟩ := paired_get h2 ey
    refine ⟨⟨vs, _, h1, e⟩, fun z H' y => ?_⟩
    obtain ⟨T, u, rfl, hT, rfl, y⟩ := y
    have := y vs h1
    rw [ev] at this
    cases this
    refine ⟨_, enumZ_get ey, ?_⟩
    obtain ⟨R2, g, ep⟩ := R.newZ (o := .tup [.int i, v]) hT
    have pl := ok _ (List.mem_of_getElem? ey)
    rw [Nat.zero_add]
    cases ex : xs[i] with
    | dat d =>
      rw [ex] at rv
      exact R2.cons (x := .dat (.tuple [.int i, d])) (Dz.tup ep (.cons (.int i) (.cons (Dz.mono g _ _ rv) .nil)))
    | ptr b =>
      rw [ex] at rv
      cases (rv : v = .ref b)
      exact R2.cons (x := .prt (.int i) b) ⟨T, .int i, rfl, ep, .int i⟩
    | scr ns =>
      rw [ex] at pl
      exact pl.elim
    | prt k b =>
      rw [ex] at pl
      exact pl.elim
    | tpl ps =>
      rw [ex] at pl
      exact pl.elim
  · obtain ⟨vs, h1, h2⟩ := h σ ρ H μ R k
    rw [enumZ_len]
    exact ⟨vs, h1, Nat.le_of_eq h2.length⟩
end
section
variable {X : Cx}
abbrev dEnumI (f : DTE) : DTI := fun ρ μ Q => f ρ μ fun x μ1 => match x with
  | .dat (.list ds) => Q (enumZ 0 (ds.map .dat)) (fun _ => True) μ1
  | .ptr a => ∃ (j : Nat) (xs : List Val), μ1[j]? = some (a, Node.lst xs) ∧ (∀ y ∈ xs, plainV y) ∧ Q (enumZ 0 xs) (fun μ => ∃ j : Nat, μ[j]? = some (a, Node.lst xs)) μ1
  | _ => False
theorem di_enum {e : Expr} {f : DTE} {p pos tpos : Pos} {elts : List Expr} {kk : Nat} (hg : Gl X "enumerate") (hm : X.mg "enumerate" = none) (he : DE X e f) (h1 : starEach [e] X.env = [(false, eval e X.env)] := by rfl) :
    DI X (.Tuple elts kk tpos) (.Call (.Name "enumerate" p) [e] [] pos) (dEnumI f) :=
  ⟨fun B => PI.weak (pi_enum hg hm (pa_cons (he.run B) pa_nil h1) h1) fun σ H R q => by
    obtain ⟨hv, hx, ρ, μ, Q0, hl, R0, q, low⟩ := q
    refine ⟨hv, hx, ρ, μ, _, hl, R0, q, fun x μ1 q v H1 R1 => ?_⟩
    have key : ∀ (xs : List Val), Its μ1 x false xs → (∀ y ∈ xs, plainV y) → Q0 (enumZ 0 xs) (keeps x xs) μ1 → ∃ a xs, [v] = [V.ref a] ∧ SqL X.K H1 a xs ∧ R (Ite X.K a) H1 := fun xs h pl q => by
      obtain ⟨a, e, ⟨vs, ex⟩, st⟩ := its_firm R1 h R1.head
      subst e
      exact ⟨a, vs, rfl, ex, low _ _ _ q _ _ R1.tail (seq_enum st pl)⟩
    split at q
    · exact key _ (.d _) (fun y hy => by obtain ⟨d, _, rfl⟩ := List.mem_map.mp hy; trivial) q
    · obtain ⟨j, xs, hj, pl, q⟩ := q
      exact key _ (.p j hj) pl q
    · exact q.elim⟩
end
end Zl
/-! enumerate(tuple) -/
namespace Zq
open PySem PySem.Spec PySem.W PyProof.Rows L2
theorem called_any {M : Model} {A : Around} {E : Value → Shared → Prop} {s : Shared} {cls : Value} {Q : Bool → Shared → Prop} (h : ∀ b, Q b s) : wpAny M A (Builtin.SmallTypes.calledThroughType cls) Q E s := by
  unfold Builtin.SmallTypes.calledThroughType
  exact wpAny_bind (wpAny_stack_any fun st => wpAny_pure (h _))
theorem meets_enumT {a : Value} {o : Obj} {H : Heap → Prop} (hb : Begins a o H) : Meets (Builtin.«enumerate.__new__» ⟨[.type "enumerate", a], []⟩) (fun _ R s => H s.heap ∧ R (.ok (.ret (.ref (s.heap.push o).objs.size))) { s with heap := (s.heap.push o).push { cls := .type "enumerate", data := .fields #[.none, .bool false, .ref s.heap.objs.size, rawInt 0, .none, .none] } }) := by
  refine Meets.of_wp fun prog w A R s h => ?_
  unfold Builtin.«enumerate.__new__» Builtin.SmallTypes.newClass
  refine wpAny_bind ?_
  show wpAny _ _ (isType (Value.type "enumerate") >>= _) _ _ _
  refine wpAny_bind ?_
  show wpAny _ _ (pure true) _ _ _
  refine wpAny_pure ?_
  refine wpAny_ite_false (by decide) ?_
  refine wpAny_bind ?_
  rw [sub_enumerate]
  refine wpAny_pure ?_
  refine wpAny_ite_false (by decide) ?_
  refine wpAny_pure ?_
  refine wpAny_ite_true (by decide +kernel) ?_
  refine wpAny_bind ?_
  refine called_any fun b => ?_
  have fin : wpAny (model prog w) A.in1 (do
      let i ← pyIter a
      let r ← Builtin.SmallTypes.newRecord (Value.type "enumerate") (Builtin.SmallTypes.ownedTupleFields ++ [i, rawInt 0, .none, .none])
      ret r) (fun fin s' => ∃ v, fin = Fin.done (Flow.ret v) ∧ R (Except.ok (Flow.ret v)) s') (fun e s' => R (Except.error e) s') s := by
    refine wpAny_bind (hb.iter prog w A.in1 _ s _ h.1 ?_)
    refine wpAny_bind ?_
    unfold Builtin.SmallTypes.newRecord newObj
    refine wpAny_bind (wpAny_alloc' ?_)
    refine wpAny_pure ?_
    exact wpAny_pure ⟨_, rfl, h.2⟩
  cases b with
  | true =>
    refine wpAny_ite_true (by decide) ?_
    refine wpAny_bind (wpAny_of_eq (a := (a, none)) rfl ?_)
    exact fin
  | false =>
    refine wpAny_ite_false (by decide) ?_
    refine wpAny_bind (wpAny_of_eq (a := (a, none)) rfl ?_)
    exact fin
theorem call_enumT {prog : Program} {w : World} {A : Around} {E : Value → Shared → Prop} {s : Shared} {t : Addr} {items : Array Value} {Q : Value → Shared → Prop} (h : s.heap.IsTuple t items)
    (q : ∀ h' : Heap, IsEnum h' (s.heap.objs.size + 1) s.heap.objs.size 0 Value.none → h'.IsTupleIter s.heap.objs.size t 0 → (∀ (b : Addr) (o : Obj), s.heap.get? b = some o → h'.get? b = some o) → Q (.ref (s.heap.objs.size + 1)) { s with heap := h' }) :
    wpAny (model prog w) A (call (Value.type "enumerate") [Value.ref t]) Q E s := by
  refine callType_new F.called_enumerate (by decide) (F.typeCall_enumerate_1 _) (F.newCall_enumerate_1 _) (fun obj => F.args_object_init_2 _ _) F.entry_enumerate_new (meets_enumT (begins_tuple t items)) ⟨h, ?_⟩
  have z : (s.heap.push { cls := .type "tuple_iterator", data := .fields #[.ref t, .int 0 0] }).objs.size = s.heap.objs.size + 1 := Heap.size_push _ _
  refine ⟨⟨_, Heap.get?_push_size _ rfl, rfl⟩, ?_⟩
  rw [z]
  refine q _ ?_ ⟨_, Heap.get?_push_of_some _ (Heap.get?_push_size _ rfl), rfl, rfl⟩ fun b o e => Heap.get?_push_of_some _ (Heap.get?_push_of_some _ e)
  show Heap.get? _ (s.heap.objs.size + 1) = _
  rw [← z]
  exact Heap.get?_push_size _ rfl
end Zq
namespace Zl
open PySem PySem.Spec PySem.W PyProof.Rows L2 Lf
/-- enumerate(tuple) -/
def IteT (K : PySem.W.Frag) (a : Addr) : It :=
  ⟨fun i H => ∃ (xs : List V) (x : V), SqT K H a xs ∧ xs[i]? = some x, fun i H v H' => ∃ T x, v = .ref T ∧ H T = none ∧ H' = upd H T (.tup [.int ((i : Nat) : Int), x]) ∧ ∀ xs, SqT K H a xs → xs[i]? = some x, fun i H => ∃ xs : List V, SqT K H a xs ∧ xs.length = i⟩
def EnT (a e it : Addr) (i : Nat) (h : Heap) : Prop := (∃ z, IsEnum h e it ((i : Nat) : Int) z) ∧ h.IsTupleIter it a i ∧ e ≠ it
theorem EnT.apart {a e it : Addr} {i : Nat} {h : Heap} {vs : Array Value} (st : EnT a e it i h) (l : h.IsTuple a vs) : a ≠ it ∧ e ∉ [it, a] := by
  obtain ⟨⟨z, en⟩, ⟨o, eo, co, _⟩, hne⟩ := st
  obtain ⟨q, eq, cq, _⟩ := l
  refine ⟨fun z => ?_, fun m => ?_⟩
  · rw [z, eo] at eq
    cases eq
    rw [co] at cq
    exact absurd cq (by decide +kernel)
  · rcases List.mem_cons.mp m with z | m
    · exact hne z
    · rw [← List.mem_singleton.mp m] at eq
      rw [show h.get? e = _ from en] at eq
      cases eq
      exact absurd cq (show ¬ (Value.type "enumerate" = Value.type "tuple") by decide +kernel)
theorem turn_enumT {P : Program} {w : World} {K : PySem.W.Frag} {elts : List Expr} {kk : Nat} {tpos : Pos} (a e it : Addr) :
    Turn P w K (.Tuple elts kk tpos) (IteT K a) [e, it] e (EnT a e it) := by
  have two : ∀ {b : Addr}, b ∈ [e, it] → b = e ∨ b = it := fun m => (List.mem_cons.mp m).imp id List.mem_singleton.mp
  refine ⟨List.mem_cons_self .., fun i h st b m => ?_, fun i h h' st kp => ?_, ?_, ?_, ?_⟩
  · obtain ⟨⟨z, en⟩, ⟨o, eo, _, dt⟩, _⟩ := st
    rcases two m with rfl | rfl
    · exact ⟨_, en, fun v c => by cases c⟩
    · refine ⟨o, eo, fun v c => ?_⟩
      rw [dt] at c
      cases c
  · obtain ⟨⟨z, en⟩, li, hne⟩ := st
    exact ⟨⟨z, kp e (List.mem_cons_self ..) _ en⟩, li.at fun o q => kp it (List.mem_cons_of_mem _ (List.mem_singleton.mpr rfl)) o q, hne⟩
  · intro X h1 h2 h3 h4 i pins s σ H E I free st go
    cases h1
    cases h2
    cases h3
    obtain ⟨xs, x, sx, hx⟩ := go
    obtain ⟨vs, rel, isl, _⟩ := I.tuple sx
    obtain ⟨u, eu, ru⟩ := rel.get hx
    have ap := st.apart isl
    obtain ⟨⟨z, en⟩, li, hne⟩ := st
    have lt_e : e < s.heap.objs.size := Heap.lt_size en
    have lt_i : it < s.heap.objs.size := by
      obtain ⟨_, q, _⟩ := li
      exact Heap.lt_size q
    have at_u : vs.toArray[i]? = some u := by
      rw [List.getElem?_toArray]
      exact eu
    have lt_n : i < vs.toArray.size := (Array.getElem?_eq_some_iff.mp at_u).1
    refine wpAny_pyNext_enum_itemC (Draws.tuple (A := X.A.in1) (show X.A.in1.handled = none from I.ok.hd h4) it a ap.1 vs.toArray) en ⟨li, isl⟩ lt_n hne ap.2 fun y g tk ey out st2 pair size kept => ?_
    have euy : u = y := Option.some.inj (at_u.symm.trans ey)
    subst euy
    refine ⟨_, rfl, wpAny_letOwnedTupleGo_enum (s := { s with heap := g, toks := tk + 1 }) out fun g2 en2 sb => ?_⟩
    have at_T := (sb.2 _ (Nat.ne_of_gt lt_e)).trans pair
    have old : ∀ b ob, b ∉ [e, it] → s.heap.get? b = some ob → g2.get? b = some ob := fun b ob m q =>
      (sb.2 b fun z => m (z ▸ List.mem_cons_self ..)).trans (kept b ob (fun z => m (z ▸ List.mem_cons_self ..)) (fun z => m (z ▸ List.mem_cons_of_mem _ (List.mem_singleton.mpr rfl))) q)
    have pairOk : ObjOk X.prog X.w (upd H s.heap.objs.size (.tup [.int ((i : Nat) : Int), x])) g2 s.heap.objs.size (.tup [.int ((i : Nat) : Int), x]) :=
      ⟨(by show 2 ≤ sizeLine; decide), [.int ((i : Nat) : Int) tk, u], .cons ⟨tk, rfl⟩ (.cons ru .nil), ⟨_, at_T, rfl, _, rfl⟩⟩
    refine ⟨.ref s.heap.objs.size, _, I.turnedNew (ch := [e, it]) old free (Nat.le_refl _) pairOk, rfl, ⟨_, x, rfl, I.hok.fresh (Nat.le_refl _), rfl, fun ys sy => ?_⟩, ⟨⟨u, ?_⟩, ?_, hne⟩, fun b m => ?_⟩
    · rw [I.tuple_inj sy sx]
      exact hx
    · have ek : ((i + 1 : Nat) : Int) = ((i : Nat) : Int) + 1 := by omega
      rw [ek]
      exact en2
    · exact st2.1.at fun o q => (sb.2 it hne.symm).trans q
    · have lt_b : b < s.heap.objs.size := by rcases two m with rfl | rfl <;> assumption
      rw [upd_ne (Nat.ne_of_lt lt_b)]
      exact (free b m).1
  · intro X h1 h2 h3 h4 i pins s σ H E I free st stop
    cases h1
    cases h2
    cases h3
    obtain ⟨xs, sx, hx⟩ := stop
    obtain ⟨vs, rel, isl, _⟩ := I.tuple sx
    have ap := st.apart isl
    obtain ⟨⟨z, en⟩, li, hne⟩ := st
    obtain ⟨f0, f1, f2, f3, f4, f5⟩ := free it (List.mem_cons_of_mem _ (List.mem_singleton.mpr rfl))
    have full : vs.toArray.size = i := by
      rw [List.size_toArray, ← rel.length]
      exact hx
    refine wpAny_pyNext_enum_endD (Draws.tuple (A := X.A.in1) (show X.A.in1.handled = none from I.ok.hd h4) it a ap.1 vs.toArray) en ⟨full ▸ li, isl⟩ fun g eb => ?_
    exact ⟨rfl, I.turned (t' := s.toks) (fun b o m q => eb b o m q) f0 f1 f3 f4 f5⟩
  · intro A i s Q E st h
    obtain ⟨⟨z, en⟩, _⟩ := st
    exact wpAny_pyIter_enum en h
section
variable {X : Cx}
def iEnumT (K : PySem.W.Frag) (ta : TA) : TI := fun σ H R => ta σ H fun vs H1 => ∃ a xs, vs = [V.ref a] ∧ SqT K H1 a xs ∧ R (IteT K a) H1
theorem pi_enumT {e : Expr} {ta : TA} {p pos tpos : Pos} {elts : List Expr} {kk : Nat} (hg : Gl X "enumerate") (hm : X.mg "enumerate" = none) (ha : PA X [e] ta)
    (he : starEach [e] X.env = (false, eval e X.env) :: starEach [] X.env := by rfl) (hpl : ((backTo pos (starEach [] X.env)).any fun x => x.1) = false := by rfl) :
    PI X (.Tuple elts kk tpos) (.Call (.Name "enumerate" p) [e] [] pos) (iEnumT X.K ta) := by
  refine ⟨fun pins s σ H R I h => ?_⟩
  refine Call_ (ld_blt I hg hm boot_enumerate (callWith_type1 (thn (ha.run pos pins s σ H _ I h) fun us s1 ⟨vs, H1, I1, r1, q1⟩ => ?_) he hpl))
  obtain ⟨a, xs, ex, hq, q⟩ := q1
  subst ex
  obtain rfl := Vals.ref1 r1
  obtain ⟨its, rv, p', hz⟩ := I1.tuple hq
  refine Zq.call_enumT p' fun h' he hit hk => wpAny_pyIter_enum he ?_
  have I3 : Inv X pins σ H1 { s1 with heap := h' } := I1.kept (t' := s1.toks) hk
  refine ⟨s1.heap.objs.size + 1, [s1.heap.objs.size + 1, s1.heap.objs.size], _, _, H1, rfl, I3, turn_enumT a (s1.heap.objs.size + 1) s1.heap.objs.size, ⟨⟨.none, he⟩, hit, Nat.succ_ne_self _⟩, fun b hb => ?_, q⟩
  have hle : s1.heap.objs.size ≤ b := by
    have e' : b = s1.heap.objs.size + 1 ∨ b = s1.heap.objs.size := by simpa using hb
    rcases e' with z | z
    · rw [z]; exact Nat.le_add_right _ _
    · rw [z]; exact Nat.le_refl _
  exact I1.fpOk hle (I1.hok.fresh hle)
end
section
variable {X : Cx} {B : Base}
theorem seq_enumT {a : Addr} {ds : List PyData} (h : ∀ σ' ρ' H' μ', RL X.w X.K B H' σ' ρ' μ' → ∃ vs, SqT X.K H' a vs ∧ Paired (RV X.K (Fz (B.fr ++ μ') H')) vs (ds.map Val.dat)) :
    SeqZ X B (IteT X.K a) (enumZ 0 (ds.map Val.dat)) fun _ => True := by
  refine ⟨fun σ ρ H μ i R k hi => ?_, fun σ ρ H μ R k => ?_, fun μ q k => trivial⟩
  · obtain ⟨vs, h1, h2⟩ := h σ ρ H μ R
    rw [enumZ_len] at hi
    have hi' : i < vs.length := by rw [h2.length]; exact hi
    have e := List.getElem?_eq_getElem hi'
    have ey := List.getElem?_eq_getElem hi
    obtain ⟨v, ev, rv⟩ := paired_get h2 ey
    refine ⟨⟨vs, _, h1, e⟩, fun z H' y => ?_⟩
    obtain ⟨T, u, rfl, hT, rfl, y⟩ := y
    have := y vs h1
    rw [ev] at this
    cases this
    refine ⟨_, enumZ_get ey, ?_⟩
    obtain ⟨R2, g, ep⟩ := R.newZ (o := .tup [.int i, v]) hT
    rw [Nat.zero_add, List.getElem_map]
    rw [List.getElem_map] at rv
    exact R2.cons (x := .dat (.tuple [.int i, _])) (Dz.tup ep (.cons (.int i) (.cons (Dz.mono g _ _ rv) .nil)))
  · obtain ⟨vs, h1, h2⟩ := h σ ρ H μ R
    rw [enumZ_len]
    exact ⟨vs, h1, h2.length⟩
end
section
variable {X : Cx}
abbrev dEnumT (f : DTE) : DTI := fun ρ μ Q => f ρ μ fun x μ1 => match x with
  | .dat (.tuple ds) => Q (enumZ 0 (ds.map .dat)) (fun _ => True) μ1
  | _ => False
/-- enumerate(x), x a tuple of data -/
theorem di_enumT {e : Expr} {f : DTE} {p pos tpos : Pos} {elts : List Expr} {kk : Nat} (hg : Gl X "enumerate") (hm : X.mg "enumerate" = none) (he : DE X e f) (h1 : starEach [e] X.env = [(false, eval e X.env)] := by rfl) :
    DI X (.Tuple elts kk tpos) (.Call (.Name "enumerate" p) [e] [] pos) (dEnumT f) :=
  ⟨fun B => PI.weak (pi_enumT hg hm (pa_cons (he.run B) pa_nil h1) h1) fun σ H R q => by
    obtain ⟨hv, hx, ρ, μ, Q0, hl, R0, q, low⟩ := q
    refine ⟨hv, hx, ρ, μ, _, hl, R0, q, fun x μ1 q v H1 R1 => ?_⟩
    split at q
    · rename_i ds
      obtain ⟨a, e, ⟨vs, ex⟩, st⟩ := its_firm R1 (.t ds) R1.head
      subst e
      exact ⟨a, vs, rfl, ex, low _ _ _ q _ _ R1.tail (seq_enumT fun σ' ρ' H' μ' R' => st σ' ρ' H' μ' R' trivial)⟩
    · exact q.elim⟩
end
/-! max(list of ints) -/
section
variable {X : Cx}
def zMaxL : List Val → Store → DK → Prop := fun xs μ Q => match xs with
  | [x] => itemsOf μ x fun ys => isL x μ ∧ ∃ ns : List Int, ys = ns.map (fun n => .dat (.int n)) ∧ 0 < ns.length ∧ ∀ m ∈ ns, (∀ y ∈ ns, y ≤ m) → Q (.dat (.int m)) μ
  | _ => False
theorem ints_of {K : PySem.W.Frag} {Z : Hp} : ∀ {vs : List V} {ns : List Int}, Paired (RV K Z) vs (ns.map fun n => Val.dat (.int n)) → vs = ns.map V.int
  | [], [], _ => rfl
  | v :: vs, n :: ns, h => by
    cases h with
    | cons h1 h2 =>
      cases (h1 : Dz _ v (.int n))
      rw [ints_of h2]
      rfl
theorem ca_maxL (hc : X.calm = true) : CaZ X (.builtin "max") zMaxL := ⟨_, cr_max hc, fun B σ ρ H μ vs xs Q0 Q l R q low => by
  match xs, l, R, q with
  | [x], l, R, q =>
    obtain ⟨v, rfl, R⟩ := one_arg' l R
    obtain ⟨b, ys, hi, il, ns, ey, h0, q⟩ := itemsOf_its (P := fun ys => isL x μ ∧ ∃ ns : List Int, ys = ns.map (fun n => .dat (.int n)) ∧ 0 < ns.length ∧ ∀ m ∈ ns, (∀ y ∈ ns, y ≤ m) → Q0 (.dat (.int m)) μ) q
    obtain ⟨a, us, rfl, hs, pr⟩ := hi.at R R.head
    have hb : b = false := by
      cases hi with
      | t ds => exact il.elim
      | _ => rfl
    subst hb ey
    refine ⟨a, ns, rfl, by rw [← ints_of pr]; exact hs, h0, fun m hm hle => low _ _ (q m hm hle) _ _ (R.tail.cons (.int m))⟩⟩
end
end Zl
/-! dict(xs), xs a list of pairs whose first items are data that may be keys. -/
namespace Vd
open PySem PySem.Spec PySem.Calls PyProof.Rows L2
def puts : List Row → List Row → List Row
  | acc, [] => acc
  | acc, r :: rs => puts (put acc r.1 r.2.1 r.2.2) rs
def putsV : List KVR → List KVR → List KVR
  | acc, [] => acc
  | acc, r :: rs => putsV (putV acc r.1 r.2.1 r.2.2) rs
theorem puts_app : ∀ (acc a b : List Row), puts acc (a ++ b) = puts (puts acc a) b
  | _, [], _ => rfl
  | acc, r :: a, b => puts_app (put acc r.1 r.2.1 r.2.2) a b
theorem puts_mem : ∀ {rs acc : List Row} {x : Row}, x ∈ puts acc rs → ∃ y, (y ∈ acc ∨ y ∈ rs) ∧ y.1 = x.1 ∧ y.2.1 = x.2.1
  | [], acc, x, h => ⟨x, .inl h, rfl, rfl⟩
  | r :: rs, acc, x, h => by
    obtain ⟨y, hy | hy, e1, e2⟩ := puts_mem (rs := rs) h
    · rcases put_mem hy with ⟨a, b⟩ | ⟨z, hz, a, b⟩
      · exact ⟨r, .inr (List.mem_cons_self ..), a.symm.trans e1, b.symm.trans e2⟩
      · exact ⟨z, .inl hz, a.trans e1, b.trans e2⟩
    · exact ⟨y, .inr (List.mem_cons_of_mem _ hy), e1, e2⟩
theorem puts_nd : ∀ {rs acc : List Row}, (acc.map (·.1)).Nodup → ((puts acc rs).map (·.1)).Nodup
  | [], _, h => h
  | r :: rs, acc, h => puts_nd (rs := rs) (put_nd h)
theorem puts_len : ∀ (rs acc : List Row), (puts acc rs).length ≤ acc.length + rs.length
  | [], acc => Nat.le_refl _
  | r :: rs, acc => by
    have h1 := puts_len rs (put acc r.1 r.2.1 r.2.2)
    have h2 := put_len acc r.1 r.2.1 r.2.2
    show (puts (put acc r.1 r.2.1 r.2.2) rs).length ≤ _
    rw [List.length_cons]
    omega
theorem rel_puts : ∀ {ks acc : List KVR} {rs racc : List Row}, Paired RelR acc racc → Paired RelR ks rs → Paired RelR (putsV acc ks) (puts racc rs)
  | [], _, _, _, h, .nil => h
  | k :: ks, acc, r :: rs, racc, h, .cons h1 t => by
    obtain ⟨k1, k2, k3⟩ := k
    obtain ⟨r1, r2, r3⟩ := r
    obtain ⟨e1, e2, e3⟩ := h1
    dsimp only at e1 e2 e3
    subst e1
    show Paired RelR (putsV (putV acc k1 k2 k3) ks) (puts (put racc k1 r2 r3) rs)
    exact rel_puts (rel_put h k1 e2 e3) t
theorem call_dict_rows {prog : Program} {w : World} {A : Around} {E : Value → Shared → Prop} {s : Shared} {a : Addr} {items : Array Value} {Ts : Nat → Addr} {rs : List Row} {Q : Value → Shared → Prop} (hh : A.handled = none) (hu : A.units + 64 < cLine)
    (pl : PlainSeq "list" s.heap a items) (pi : PairItems s.heap items Ts (rs.map fun r => (r.2.1, r.2.2))) (is : ∀ r ∈ rs, KeyOk r.1 ∧ NestedIs s.heap r.1 r.2.1) (hz : rs.length ≤ sizeLine)
    (h : ∀ h' tk, Holds w h' s.heap.objs.size (puts [] rs) → (∀ b o, s.heap.get? b = some o → h'.get? b = some o) → Q (.ref s.heap.objs.size) { s with heap := h', toks := tk }) :
    wpAny (model prog w) A (call (.type "dict") [.ref a]) Q E s := by
  have el : (rs.map fun r => (r.2.1, r.2.2)).length = rs.length := List.length_map ..
  refine call_dict_arg (PairArg.list a items Ts (rs.map fun r => (r.2.1, r.2.2))) ⟨pl, pi⟩ fun s₁ hs₁ hdf ok₁ => ?_
  subst hs₁
  have push : ∀ b o, s.heap.get? b = some o → (s.heap.push { cls := .type "dict", data := .dict #[] }).get? b = some o := fun b o e => Heap.get?_push_of_some _ e
  have keyS : ∀ h' : Heap, (∀ b o, b ≠ s.heap.objs.size → (s.heap.push { cls := .type "dict", data := .dict #[] }).get? b = some o → h'.get? b = some o) → ∀ r ∈ rs, NestedIs h' r.1 r.2.1 := fun h' hk r hr =>
    NestedIs.at (fun b ob vs n hb hc => hk b ob (Nat.ne_of_lt (Heap.lt_size hb)) (push b ob hb)) _ _ (is r hr).2
  have rowsS : ∀ (i : Nat) (h' : Heap), (∀ b o, b ≠ s.heap.objs.size → (s.heap.push { cls := .type "dict", data := .dict #[] }).get? b = some o → h'.get? b = some o) → Rows h' (puts [] (rs.take i)) := fun i h' hk => by
    have m : ∀ x ∈ puts [] (rs.take i), ∃ r ∈ rs, r.1 = x.1 ∧ r.2.1 = x.2.1 := fun x hx => by
      obtain ⟨y, hy | hy, e⟩ := puts_mem hx
      · cases hy
      · exact ⟨y, List.mem_of_mem_take hy, e⟩
    refine ⟨fun x hx => ?_, fun x hx => ?_, puts_nd List.nodup_nil⟩
    · obtain ⟨r, hr, e1, e2⟩ := m x hx
      rw [← e1]
      exact (is r hr).1
    · obtain ⟨r, hr, e1, e2⟩ := m x hx
      rw [← e1, ← e2]
      exact keyS h' hk r hr
  refine updateFrom_arg (A := A.in1) (Tab := fun i h' => Holds w h' s.heap.objs.size (puts [] (rs.take i)) ∧ ∀ b o, b ≠ s.heap.objs.size → (s.heap.push { cls := .type "dict", data := .dict #[] }).get? b = some o → h'.get? b = some o) (PairArg.list a items Ts (rs.map fun r => (r.2.1, r.2.2))) .none hh ok₁ hdf ⟨Holds.new s.heap, fun _ _ _ e => e⟩ ?_ ?_ ?_ ?_
  · intro i h' tb
    obtain ⟨⟨o, _, _, e, _⟩, _⟩ := tb
    exact Heap.lt_size e
  · intro i h1 h2 wr' hd hw tb hk
    refine ⟨tb.1.stay fun o e => hk _ o hd e, fun b o hb e => ?_⟩
    refine hk b o (fun hm => ?_) (tb.2 b o hb e)
    rcases hw b hm with q | q
    · cases q
    · rw [show (s.heap.push { cls := .type "dict", data := .dict #[] }).get? b = none from q] at e
      cases e
  · intro i k v s' Q' E' hi hrel tb _ hQ
    rw [el] at hi
    have hr := List.getElem?_eq_getElem hi
    have hp : (rs.map fun r => (r.2.1, r.2.2))[i]? = some (k, v) := hrel
    rw [List.getElem?_map, hr] at hp
    have ekv := Option.some.inj hp
    have hm : rs[i] ∈ rs := List.getElem_mem hi
    have et : rs.take (i + 1) = rs.take i ++ [rs[i]] := by rw [List.take_succ, hr]; rfl
    have ep : puts [] (rs.take (i + 1)) = put (puts [] (rs.take i)) rs[i].1 rs[i].2.1 rs[i].2.2 := by
      rw [et, puts_app]
      rfl
    have hle := puts_len (rs.take i) []
    rw [List.length_take, List.length_nil] at hle
    cases ekv
    refine set (by rw [Around.in1_units, Around.in1_units]; omega) (keyS _ tb.2 _ hm) (is _ hm).1 tb.1 (rowsS i _ tb.2) (by omega) fun h' m' R' sb => ?_
    exact hQ h' _ ⟨by rw [ep]; exact m', fun b o hb e => (sb.2 b hb).trans (tb.2 b o hb e)⟩ sb
  · intro h' tk tb hk
    refine ⟨rfl, h h' tk ?_ fun b o e => hk b o (Nat.ne_of_lt (Heap.lt_size e)) (fun z => nomatch z) (push b o e)⟩
    have := tb.1
    rw [el, List.take_length] at this
    exact this
section
variable {X : Cx}
theorem rows_pairs {pins : List (Addr × Obj)} {σ : L2.St} {H : Hp} {s : Shared} (I : Inv X pins σ H s) : ∀ {ps : List Addr} {kvs : List KVR}, Paired (fun p (kv : KVR) => SqT X.K H p [kv.2.1, kv.2.2]) ps kvs →
    ∃ rs : List Row, Paired RelR kvs rs ∧ ∀ (j : Nat) (r : Row), rs[j]? = some r → ∃ b : Addr, ps[j]? = some b ∧ s.heap.IsTuple b #[r.2.1, r.2.2]
  | _, _, .nil => ⟨[], .nil, fun j q e => by simp at e⟩
  | _, _, .cons (a := p) (b := kv) h t => by
    obtain ⟨rs, r, hp⟩ := rows_pairs I t
    obtain ⟨its, rv, ht, _⟩ := I.tuple h
    obtain ⟨u, y, ei, ru, ry⟩ := vals2 rv
    subst ei
    refine ⟨(kv.1, u, y) :: rs, .cons ⟨rfl, ru, ry⟩ r, fun j q e => ?_⟩
    cases j with
    | zero =>
      have e' : (kv.1, u, y) = q := Option.some.inj e
      subst e'
      exact ⟨p, rfl, ht⟩
    | succ j =>
      obtain ⟨b, e1, e2⟩ := hp j q (by simpa using e)
      exact ⟨b, by simpa using e1, e2⟩
/-- dict(xs), xs a list of pairs -/
theorem call_dictNV (hu : X.A.units + 64 < cLine) (hcalm : X.calm = true) : CallR X (.type "dict") (fun xs H Q => ∃ (a : Addr) (ps : List Addr) (kvs : List KVR), xs = [.ref a] ∧ SqL X.K H a (ps.map V.ref) ∧ Paired (fun p (kv : KVR) => SqT X.K H p [kv.2.1, kv.2.2]) ps kvs ∧
    (∀ kv ∈ kvs, KeyOk kv.1 ∧ KeyAt H kv.1 kv.2.1) ∧ ∀ p, H p = none → Q (.ref p) (upd H p (dV X.w p (putsV [] kvs)))) := by
  intro pins s σ H xs us Q I r q
  obtain ⟨a, ps, kvs, ex, hq, hp, hk, q⟩ := q
  subst ex
  obtain ⟨u, eu, rx⟩ := vals1 r
  subst eu
  cases rx
  obtain ⟨its, rv, pl, hz⟩ := I.list hq
  have ei := refs_at rv
  subst ei
  rw [List.length_map] at hz
  obtain ⟨rs, rel, hpr⟩ := rows_pairs I hp
  obtain ⟨o, n, ho, hc, hd, hdat⟩ := pl
  have l1 : rs.length = kvs.length := rel.length.symm
  have l2 : ps.length = kvs.length := hp.length
  refine call_dict_rows (rs := rs) (Ts := fun j => (ps[j]?).getD 0) (I.ok.hd hcalm) hu ⟨o, n, ho, hc, hd, hdat⟩ ⟨by simp; omega, fun j k v e => ?_⟩ (fun r hr => ?_) (by omega) fun h' tk m' k => ?_
  · rw [List.getElem?_map] at e
    obtain ⟨r, er, e2⟩ := Option.map_eq_some_iff.mp e
    cases e2
    obtain ⟨b, e1, e3⟩ := hpr j r er
    refine ⟨by simp [e1], .inl ?_⟩
    show s.heap.IsTuple ((ps[j]?).getD 0) _
    rw [e1]
    exact e3
  · obtain ⟨p, hp, q1⟩ := paired_mem rel hr
    rw [← q1.1]
    exact ⟨(hk p hp).1, (hk p hp).2.is I.hok q1.2.1⟩
  · have hm : (s.heap.objs.size == sysModules) = false := beq_eq_false_iff_ne.mpr (Nat.ne_of_gt I.big)
    have rp : Paired RelR (putsV [] kvs) (puts [] rs) := rel_puts .nil rel
    have hl : (putsV [] kvs).length ≤ sizeLine := by
      rw [rp.length]
      have := puts_len rs []
      rw [List.length_nil] at this
      omega
    exact ⟨.ref s.heap.objs.size, upd H s.heap.objs.size (dV X.w s.heap.objs.size (putsV [] kvs)), I.laid (t' := tk) k (Nat.le_refl _) (dV_ok hm hl rp m'), rfl, q _ (I.hok.fresh (Nat.le_refl _))⟩
end
end Vd
namespace Zl
open PySem PySem.Spec PyProof.Rows L2 Lf
def putsZ : List (NestedKey × Val) → List (NestedKey × PyData) → List (NestedKey × Val)
  | acc, [] => acc
  | acc, r :: rs => putsZ (putZ acc r.1 (.dat r.2)) rs
section
variable {X : Cx}
/-- dict(xs), xs an own list of pairs, a key and data -/
def zDictN : List Val → Store → DK → Prop := fun xs μ Q => match xs with
  | [.ptr l] => ∃ (j : Nat) (kds : List (NestedKey × PyData)), μ[j]? = some (l, Node.lst (kds.map fun p => Val.dat (.tuple [datK p.1, p.2]))) ∧ (∀ p ∈ kds, Vd.KeyOk p.1) ∧ ∀ p, Q (.ptr p) (μ ++ [(p, .dv (putsZ [] kds))])
  | _ => False
theorem datK_pairs {K : PySem.W.Frag} {Z H : Hp} (hz : ∀ x o, Z x = some o → H x = some o) : ∀ {vs : List V} {kds : List (NestedKey × PyData)}, RVs K Z vs (kds.map fun p => Val.dat (.tuple [datK p.1, p.2])) → (∀ p ∈ kds, Vd.KeyOk p.1) →
    ∃ (ps : List Addr) (kvs : List Vd.KVR), vs = ps.map V.ref ∧ Paired (fun p (kv : Vd.KVR) => SqT K H p [kv.2.1, kv.2.2]) ps kvs ∧ Paired (RK K Z) kvs (kds.map fun p => (p.1, Val.dat p.2))
  | [], [], _, _ => ⟨[], [], rfl, .nil, .nil⟩
  | _ :: _, [], h, _ => by cases h
  | [], _ :: _, h, _ => by cases h
  | v :: vs, kd :: kds, hp, ok => by
    cases hp with
    | cons h1 t =>
      obtain ⟨ps, kvs, e, r1, r2⟩ := datK_pairs hz t fun p hp => ok p (List.mem_cons_of_mem _ hp)
      cases (h1 : Dz Z v (.tuple [datK kd.1, kd.2])) with
      | tup ez h2 =>
        cases h2 with
        | cons hk h3 =>
          cases h3 with
          | cons hd h4 =>
            cases h4
            rename_i a y u
            refine ⟨a :: ps, (kd.1, y, u) :: kvs, by rw [e]; rfl, .cons (SqT.of (hz _ _ ez)) r1, .cons ⟨rfl, ok kd (List.mem_cons_self ..), keyAt_of _ _ _ hk (keyD_datK _), hd⟩ r2⟩
theorem puts_rel {K : PySem.W.Frag} {Z : Hp} : ∀ {ks acc : List Vd.KVR} {kds : List (NestedKey × PyData)} {accz : List (NestedKey × Val)}, Paired (RK K Z) acc accz → Paired (RK K Z) ks (kds.map fun p => (p.1, Val.dat p.2)) → Paired (RK K Z) (Vd.putsV acc ks) (putsZ accz kds)
  | [], _, [], _, h, _ => h
  | [], _, _ :: _, _, _, h => by cases h
  | _ :: _, _, [], _, _, h => by cases h
  | k :: ks, acc, kd :: kds, accz, h, hp => by
    cases hp with
    | cons h1 t =>
      obtain ⟨k1, k2, k3⟩ := k
      obtain ⟨e1, e2, e3, e4⟩ := h1
      dsimp only at e1 e2 e3 e4
      subst e1
      show Paired (RK K Z) (Vd.putsV (Vd.putV acc kd.1 k2 k3) ks) (putsZ (putZ accz kd.1 (.dat kd.2)) kds)
      exact puts_rel (put_rel h e2 e3 e4) t
theorem putsV_nd : ∀ {ks acc : List Vd.KVR}, (acc.map (·.1)).Nodup → ((Vd.putsV acc ks).map (·.1)).Nodup
  | [], _, h => h
  | k :: ks, acc, h => by
    refine putsV_nd (ks := ks) ?_
    rw [Vd.putV_keys]
    split
    · exact h
    · rename_i m
      refine List.nodup_append.mpr ⟨h, by simp, fun x hx y hy => ?_⟩
      rw [List.mem_singleton.mp hy]
      exact fun e => m (e ▸ hx)
theorem ca_dictN (hu : X.A.units + 64 < cLine) (hc : X.calm = true) : CaZ X (.type "dict") zDictN := ⟨_, Vd.call_dictNV hu hc, fun B σ ρ H μ vs xs Q0 Q l R q low => by
  unfold zDictN at q
  split at q
  · obtain ⟨j, kds, hj, ok, q⟩ := q
    obtain ⟨v, rfl, R⟩ := one_arg' l R
    obtain ⟨us, e, pr⟩ := R.at hj
    cases (R.head : v = .ref _)
    obtain ⟨ps, kvs, rfl, r1, r2⟩ := datK_pairs fz_le pr ok
    refine ⟨_, ps, kvs, rfl, SqL.of e, r1, fun kv hkv => ?_, fun p hp => low _ _ (q p) _ _ ?_⟩
    · obtain ⟨n, hn, rfl⟩ := List.mem_iff_getElem.mp hkv
      have hn2 : n < (kds.map fun p => (p.1, Val.dat p.2)).length := by rw [← r2.length]; exact hn
      obtain ⟨q3, eq3, r3⟩ := paired_get r2 (List.getElem?_eq_getElem hn2)
      rw [List.getElem?_eq_getElem hn] at eq3
      cases eq3
      exact ⟨r3.2.1, r3.2.2.1.keep fun a xs e => fz_le _ _ e⟩
    · have R9 := R.tail.new (n := .dv (putsZ [] kds)) (o := Vd.dV X.w p (Vd.putsV [] kvs)) hp ⟨_, upd_same, putsV_nd List.nodup_nil, puts_rel .nil r2⟩
      exact R9.cons (x := .ptr p) rfl
  · exact q.elim⟩
/-- a, b = a list of data -/
def zgLst (n : Nat) (u : DTGs) : DTG := fun x ρ μ Q => match x with | .dat (.list ds) => ds.length = n ∧ u ds ρ μ Q | _ => False
theorem dg_lst {es : List Expr} {k n : Nat} {u : DTGs} {pos : Pos} (hc : X.calm = true) (h : DGs X es u) (hn : (assignEach es X.env).length = n := by rfl) (hst : (assignEach es X.env).findIdx? (·.1) = none := by rfl) : DG X (.Tuple es k pos) (zgLst n u) :=
  ⟨fun B => PG.weak (pg_lst hc (h.run B) hn hst) fun v σ H Q ⟨hv, hx, x, ρ, μ, Q0, l, R, q, low⟩ => by
    have hd := R.head
    match x, q, hd with
    | .dat (.list ds), q, hd =>
      cases (hd : Dz _ v (.list ds)) with
      | lst h1 h2 =>
        refine ⟨_, _, rfl, SqL.of (fz_le _ _ h1), by rw [dzAll_len h2]; exact q.1, hv, hx, ds, ρ, μ, Q0, l, dzAll_len h2, R.slots (paired_app (dz_some h2) R.tail.sl), q.2, low⟩⟩
/-- x in a tuple of data of any depth -/
def rInTD (K : PySem.W.Frag) (g : Bool → Bool) : R2 := fun x y H Q => ∃ d ds, Dp K H x d ∧ Dp K H y (.tuple ds) ∧ d.canLay0 = true ∧ PyData.canLayAll0 ds = true ∧ d.depth ≤ 50 ∧ Q (.bl (g (ds.any fun z => PyData.eqv z d))) H
theorem op_inTD (hu : X.A.units + 65 < cLine) : OpR X (compareOp .In) (rInTD X.K id) := by
  intro pins s σ H x y v u Q I rx ry h
  obtain ⟨d, ds, hd, he, sd, se, dp, q⟩ := h
  obtain ⟨as, r1⟩ := Dp.reads I d x v hd rx
  obtain ⟨bs, r2⟩ := Dp.reads I (.tuple ds) y u he ry
  have hm : min (PyData.depthAll ds) d.depth ≤ d.depth := Nat.min_le_right ..
  exact SeqAt.in_tuple_reads r2 r1 se sd (by omega) ⟨.bl _, H, I, rfl, q⟩
theorem op_notInTD (hu : X.A.units + 65 < cLine) : OpR X (compareOp .NotIn) (rInTD X.K not) := by
  intro pins s σ H x y v u Q I rx ry h
  obtain ⟨d, ds, hd, he, sd, se, dp, q⟩ := h
  obtain ⟨as, r1⟩ := Dp.reads I d x v hd rx
  obtain ⟨bs, r2⟩ := Dp.reads I (.tuple ds) y u he ry
  have hm : min (PyData.depthAll ds) d.depth ≤ d.depth := Nat.min_le_right ..
  exact SeqAt.notIn_tuple_reads r2 r1 se sd (by omega) ⟨.bl _, H, I, rfl, q⟩
def zInT (g : Bool → Bool) : DR2 := fun x y μ Q => match y with
  | .dat (.tuple ds) => ∃ d, View μ x d ∧ d.canLay0 = true ∧ PyData.canLayAll0 ds = true ∧ d.depth ≤ 50 ∧ Q (.dat (.bool (g (ds.any fun z => PyData.eqv z d)))) μ
  | _ => False
theorem inT_up {f : Value → Value → Sem Value} {g : Bool → Bool} (h : OpR X f (rInTD X.K g)) : OpZ X f (zInT g) := ⟨_, h, fun B σ ρ H μ u v x y Q0 Q R q low => by
  have hy := R.head
  have hx := R.tail.head
  unfold zInT at q
  split at q
  · obtain ⟨d, h1, h2, h3, h4, q⟩ := q
    exact ⟨d, _, h1.at R.tail hx, (View.d _).at R hy, h2, h3, h4, low _ _ q _ _ (R.tail.tail.cons (.bl _))⟩
  · exact q.elim⟩
theorem oz_inT (hu : X.A.units + 65 < cLine) : OpZ X (compareOp .In) (zInT id) := inT_up (op_inTD hu)
theorem oz_notinT (hu : X.A.units + 65 < cLine) : OpZ X (compareOp .NotIn) (zInT not) := inT_up (op_notInTD hu)
end
/-- what stands in such a dict -/
theorem putZ_keys : ∀ (xs : List (NestedKey × Val)) (k : NestedKey) (v : Val), (putZ xs k v).map (·.1) = if k ∈ xs.map (·.1) then xs.map (·.1) else xs.map (·.1) ++ [k]
  | [], k, v => rfl
  | x :: r, k, v => by
    rw [putZ]
    by_cases e : x.1 = k
    · rw [if_pos e, List.map_cons, List.map_cons, if_pos (by rw [e]; exact List.mem_cons_self ..)]
    · have ne : k ≠ x.1 := fun z => e z.symm
      rw [if_neg e, List.map_cons, List.map_cons, putZ_keys r k v]
      by_cases m : k ∈ r.map (·.1)
      · rw [if_pos m, if_pos (List.mem_cons_of_mem _ m)]
      · rw [if_neg m, if_neg fun h => (List.mem_cons.mp h).elim ne m]
        rfl
theorem putZ_new : ∀ {xs : List (NestedKey × Val)} {k : NestedKey} (v : Val), k ∉ xs.map (·.1) → putZ xs k v = xs ++ [(k, v)]
  | [], _, _, _ => rfl
  | x :: r, k, v, h => by
    rw [List.map_cons, List.mem_cons, not_or] at h
    rw [putZ, if_neg fun e => h.1 e.symm, putZ_new v h.2]
    rfl
theorem putsZ_new : ∀ {kds : List (NestedKey × PyData)} {acc : List (NestedKey × Val)}, (acc.map (·.1) ++ kds.map (·.1)).Nodup → putsZ acc kds = acc ++ kds.map fun p => (p.1, Val.dat p.2)
  | [], acc, _ => (List.append_nil _).symm
  | kd :: kds, acc, nd => by
    have h1 : kd.1 ∉ acc.map (·.1) := fun m => (List.nodup_append.mp nd).2.2 _ m _ (List.mem_cons_self ..) rfl
    unfold putsZ
    rw [putZ_new _ h1, putsZ_new (by rw [List.map_append, List.append_assoc]; exact nd), List.append_assoc]
    rfl
theorem lookZ_mem : ∀ {kvs : List (NestedKey × Val)} {k : NestedKey} {x : Val}, (kvs.map (·.1)).Nodup → (k, x) ∈ kvs → lookZ kvs k = some x
  | y :: r, k, x, nd, h => by
    rw [List.map_cons, List.nodup_cons] at nd
    unfold lookZ
    rcases List.mem_cons.mp h with e | h
    · rw [← e, if_pos rfl]
    · rw [if_neg fun e => nd.1 (List.mem_map.mpr ⟨_, h, e.symm⟩), lookZ_mem nd.2 h]
end Zl
/-! Tuples whose items are data or own objects; == of lists and tuples of any depth; methods of texts; text * int; f-strings; [*a, *b]; ranges with a step as values. -/
namespace Zl
open PySem PySem.Spec PyProof.Rows L2 Lf
/-! ### tuples of data and own objects -/
def toVal : PyData ⊕ Addr → Val
  | .inl d => .dat d
  | .inr a => .ptr a
def partsOf : List Val → Option (List (PyData ⊕ Addr))
  | [] => some []
  | .dat d :: r => (partsOf r).map (.inl d :: ·)
  | .ptr a :: r => (partsOf r).map (.inr a :: ·)
  | _ :: _ => none
theorem partsOf_all {K : PySem.W.Frag} {Z : Hp} : ∀ {vs : List V} {xs : List Val} {ps : List (PyData ⊕ Addr)}, Paired (RV K Z) vs xs → partsOf xs = some ps → Paired (RP Z) vs ps
  | _, _, _, .nil, e => by cases e; exact .nil
  | _, .dat d :: r, ps, .cons h t, e => by
    rw [show partsOf (.dat d :: r) = (partsOf r).map (.inl d :: ·) from rfl] at e
    obtain ⟨qs, e1, rfl⟩ := Option.map_eq_some_iff.mp e
    exact .cons h (partsOf_all t e1)
  | _, .ptr a :: r, ps, .cons h t, e => by
    rw [show partsOf (.ptr a :: r) = (partsOf r).map (.inr a :: ·) from rfl] at e
    obtain ⟨qs, e1, rfl⟩ := Option.map_eq_some_iff.mp e
    exact .cons h (partsOf_all t e1)
  | _, .scr _ :: _, _, .cons h t, e => by cases e
  | _, .prt _ _ :: _, _, .cons h t, e => by cases e
  | _, .tpl _ :: _, _, .cons h t, e => by cases e
theorem rp_val {K : PySem.W.Frag} {Z : Hp} {v : V} {p : PyData ⊕ Addr} (h : RP Z v p) : RV K Z v (toVal p) := by
  cases p with
  | inl d => exact h
  | inr a => exact h
theorem rp_vals {K : PySem.W.Frag} {Z : Hp} {vs : List V} {ps : List (PyData ⊕ Addr)} (h : Paired (RP Z) vs ps) : Paired (RV K Z) vs (ps.map toVal) := by
  induction h with
  | nil => exact .nil
  | cons h t ih => exact .cons (rp_val h) ih
section
variable {X : Cx}
abbrev dTupO (g : DTA) : DTE := fun ρ μ Q => g ρ μ fun xs μ1 => match partsOf xs with | some ps => ps.length ≤ sizeLine ∧ Q (.tpl ps) μ1 | none => False
theorem d_tupO {es : List Expr} {g : DTA} {x1} {pos : Pos} (h : DA X es g) : DE X (.Tuple es x1 pos) (dTupO g) :=
  ⟨fun B => PE.weak (pe_tup (h.run B)) fun _ _ _ h => by
    obtain ⟨hv, hx, ρ, μ, Q0, hl, R0, h, low⟩ := h
    refine ⟨hv, hx, ρ, μ, _, hl, R0, h, fun xs μ1 h1 vs H1 l R1 => ?_⟩
    split at h1
    · rename_i ps e
      obtain ⟨h2, h3⟩ := paired_split (by simp [l]) R1.sl
      have al := partsOf_all (heads h2) e
      refine ⟨by rw [al.length]; exact h1.1, fun p hp => ?_⟩
      obtain ⟨R2, g, ep⟩ := R1.newZ (o := .tup vs) hp
      exact low _ _ h1.2 _ _ ((R2.rest (by simp [l])).cons (x := .tpl ps) ⟨p, vs, rfl, ep, L2.Paired.mapP al fun _ _ => RP.mono g⟩)
    · exact h1.elim⟩
/-- t[i] -/
def zIxO : DR2 := fun x y μ Q => match x, y with
  | .tpl ps, .dat (.int i) => ∃ p, atI ps i = some p ∧ Q (toVal p) μ
  | _, _ => False
theorem iz_tpl : IxZ X zIxO := ⟨_, ix_seq, fun B σ ρ H μ u v x y Q0 Q R q low => by
  have hy := R.head
  have hx := R.tail.head
  unfold zIxO at q
  split at q
  · cases (hy : Dz _ v (.int _))
    obtain ⟨p, e, q⟩ := q
    obtain ⟨t, vs, rfl, et, pr⟩ := (hx : ∃ t vs, u = .ref t ∧ _)
    obtain ⟨w, ew, rw⟩ := paired_at pr e
    exact .inr (.inl ⟨t, vs, _, w, rfl, rfl, SqT.of (fz_le _ _ et), ew, low _ _ q _ _ (R.tail.tail.cons (rp_val rw))⟩)
  · exact q.elim⟩
theorem d_ixO {a b : Expr} {fa fb : DTE} {pos : Pos} (ha : DE X a fa) (hb : DE X b fb) (hs : PlainIx b) : DE X (.Subscript a b pos) (dOp zIxO fa fb) := d_ixR iz_tpl ha hb hs
/-- a, b = t -/
def setsV : List Nat → List (PyData ⊕ Addr) → DR → DR
  | i :: is, p :: ps, ρ => setsV is ps (ρ.set i (some (toVal p)))
  | _, _, ρ => ρ
def zgTpl (is : List Nat) : DTG := fun x ρ μ Q => match x with | .tpl ps => ps.length = is.length ∧ Q (setsV is ps ρ) μ | _ => False
theorem names_put {B : Base} {hv : List (Option V)} {hx : DR} {H : Hp} {μ : Store} {Q : L2.St → Hp → Prop} (l : hv.length = hx.length) : ∀ (is : List Nat) (ps : List (PyData ⊕ Addr)) (us : List V) (σ : L2.St) (ρ : DR), is.length = ps.length → Paired (RP (Fz (B.fr ++ μ) H)) us ps → RL X.w X.K B H (hv ++ σ) (hx ++ ρ) μ →
    (∀ σ2, RL X.w X.K B H (hv ++ σ2) (hx ++ setsV is ps ρ) μ → Q σ2 H) → gNames is us σ H Q
  | [], [], _, σ, ρ, _, .nil, R, q => ⟨rfl, q _ R⟩
  | i :: is, p :: ps, u :: us, σ, ρ, e, .cons h t, R, q => by
    refine ⟨u, us, rfl, names_put l is ps us (σ.set i (some u)) (ρ.set i (some (toVal p))) (by simpa using e) t ?_ q⟩
    obtain ⟨h1, h2⟩ := paired_split l R.sl
    exact R.slots (paired_app h1 (paired_set (x := some u) (y := some (toVal p)) i h2 (rp_val h)))
  | [], _ :: _, _, _, _, e, _, _, _ => by simp at e
  | _ :: _, [], _, _, _, e, _, _, _ => by simp at e
theorem dg_tpl {es : List Expr} {k n : Nat} {is : List Nat} {pos : Pos} (hc : X.calm = true) (h : PGs X es (gNames is)) (hi : is.length = n) (hn : (assignEach es X.env).length = n := by rfl) (hst : (assignEach es X.env).findIdx? (·.1) = none := by rfl) : DG X (.Tuple es k pos) (zgTpl is) :=
  ⟨fun B => PG.weak (pg_tup hc h hn hst) fun v σ H Q ⟨hv, hx, x, ρ, μ, Q0, l, R, q, low⟩ => by
    have hd := R.head
    match x, q, hd with
    | .tpl ps, q, hd =>
      obtain ⟨t, us, rfl, et, pr⟩ := (hd : ∃ t vs, v = .ref t ∧ _)
      refine ⟨t, us, rfl, SqT.of (fz_le _ _ et), by rw [pr.length, q.1, hi], ?_⟩
      exact names_put l is ps us σ ρ q.1.symm pr R.tail fun σ2 R2 => low _ _ q.2 _ _ R2⟩
def zLenO : List Val → Store → DK → Prop := fun xs μ Q => match xs with | [.tpl ps] => Q (.dat (.int (ps.length : Nat))) μ | _ => False
theorem ca_lenO : CaZ X (.builtin "len") zLenO := ⟨_, call_len_seq, fun B σ ρ H μ vs xs Q0 Q l R q low => by
  match xs, l, R, q with
  | [.tpl ps], l, R, q =>
    obtain ⟨v, rfl, R⟩ := one_arg' l R
    obtain ⟨t, us, rfl, et, pr⟩ := (R.head : ∃ t vs, v = .ref t ∧ _)
    exact ⟨t, us, rfl, .inr (SqT.of (fz_le _ _ et)), by rw [pr.length]; exact low _ _ q _ _ (R.tail.cons (.int _))⟩⟩
end
/-! ### == of any depth -/
mutual
inductive DView (μ : Store) : Val → PyData → Prop
  | dat (d : PyData) : DView μ (.dat d) d
  | lst (j : Nat) {a : Addr} {xs : List Val} {ds : List PyData} : μ[j]? = some (a, .lst xs) → DViews μ xs ds → DView μ (.ptr a) (.list ds)
  | tpl {ps : List (PyData ⊕ Addr)} {ds : List PyData} : DViews μ (ps.map toVal) ds → DView μ (.tpl ps) (.tuple ds)
inductive DViews (μ : Store) : List Val → List PyData → Prop
  | nil : DViews μ [] []
  | cons {x : Val} {xs : List Val} {d : PyData} {ds : List PyData} : DView μ x d → DViews μ xs ds → DViews μ (x :: xs) (d :: ds)
end
theorem DViews.dats {μ : Store} : ∀ ds : List PyData, DViews μ (ds.map .dat) ds
  | [] => .nil
  | d :: ds => .cons (.dat d) (DViews.dats ds)
section
variable {w : World} {K : PySem.W.Frag} {B : Base} {H : Hp} {σ : List (Option V)} {ρ : DR} {μ : Store}
theorem Dz.dpH {v : V} {d : PyData} (h : Dz (Fz (B.fr ++ μ) H) v d) : Dp K H v d := Dz.dp _ _ (Dz.mono fz_le _ _ h)
mutual
theorem DView.at (R : RL w K B H σ ρ μ) : ∀ (d : PyData) (x : Val) (v : V), DView μ x d → RV K (Fz (B.fr ++ μ) H) v x → Dp K H v d
  | .none, _, _, h, r => by cases h; exact Dz.dpH r
  | .bool _, _, _, h, r => by cases h; exact Dz.dpH r
  | .int _, _, _, h, r => by cases h; exact Dz.dpH r
  | .str _, _, _, h, r => by cases h; exact Dz.dpH r
  | .dict _, _, _, h, r => by cases h; exact Dz.dpH r
  | .list ds, _, v, h, r => by
    cases h with
    | dat => exact Dz.dpH r
    | lst j hj hs =>
      obtain ⟨vs, e, pr⟩ := R.at hj
      cases (r : v = .ref _)
      exact .lst (SqL.of e) (DViews.at R ds _ vs hs pr)
  | .tuple ds, _, v, h, r => by
    cases h with
    | dat => exact Dz.dpH r
    | tpl hs =>
      obtain ⟨t, vs, rfl, et, pr⟩ := (r : ∃ t vs, v = .ref t ∧ _)
      exact .tup (SqT.of (fz_le _ _ et)) (DViews.at R ds _ vs hs (rp_vals pr))
theorem DViews.at (R : RL w K B H σ ρ μ) : ∀ (ds : List PyData) (xs : List Val) (vs : List V), DViews μ xs ds → Paired (RV K (Fz (B.fr ++ μ) H)) vs xs → DpAll K H vs ds
  | [], _, _, h, r => by
    cases h
    cases r
    exact .nil
  | d :: ds, _, _, h, r => by
    cases h with
    | cons h1 h2 =>
      cases r with
      | cons r1 r2 => exact .cons (DView.at R d _ _ h1 r1) (DViews.at R ds _ _ h2 r2)
end
end
section
variable {X : Cx}
def zEqV (g : Bool → Bool) : DR2 := fun x y μ Q => ∃ d e, DView μ x d ∧ DView μ y e ∧ SeqAt.shaped d = true ∧ SeqAt.shaped e = true ∧ Q (.dat (.bool (g (PyData.eqv d e)))) μ
theorem oz_eqV (hu : X.A.units + 64 < cLine) : OpZ X (compareOp .Eq) (zEqV id) := ⟨_, op_eqD hu, fun B σ ρ H μ u v x y Q0 Q R ⟨d, e, h1, h2, h3, h4, q⟩ low => ⟨d, e, DView.at R.tail d x u h1 R.tail.head, DView.at R e y v h2 R.head, h3, h4, low _ _ q _ _ (R.tail.tail.cons (.bl _))⟩⟩
theorem oz_neV (hu : X.A.units + 64 < cLine) : OpZ X (compareOp .NotEq) (zEqV not) := ⟨_, op_neD hu, fun B σ ρ H μ u v x y Q0 Q R ⟨d, e, h1, h2, h3, h4, q⟩ low => ⟨d, e, DView.at R.tail d x u h1 R.tail.head, DView.at R e y v h2 R.head, h3, h4, low _ _ q _ _ (R.tail.tail.cons (.bl _))⟩⟩
/-! ### xs.clear() -/
def zClear : Val → List Val → Store → DK → Prop := fun x xs μ Q => match x, xs with
  | .ptr a, [] => ∃ (j : Nat) (ys : List Val), μ[j]? = some (a, Node.lst ys) ∧ Q (.dat .none) (μ.set j (a, .lst []))
  | _, _ => False
theorem me_clear : MeZ X "list.clear" zClear := ⟨_, mt_clear, fun B σ ρ H μ v x vs xs Q0 Q l R q low => by
  match x, xs, vs, l, R, q with
  | .ptr a, [], [], l, R, q =>
    obtain ⟨j, ys, hj, q⟩ := q
    have R : RL X.w X.K B H (some v :: σ) (some (.ptr a) :: ρ) μ := R
    obtain ⟨us, e, pr⟩ := R.at hj
    cases (R.head : v = .ref a)
    exact ⟨a, us, rfl, rfl, e, low _ _ q _ _ ((R.tail.put (n' := .lst []) hj ⟨[], upd_same, .nil⟩).cons .non)⟩⟩
/-! ### methods of texts -/
def isS (x : Val) : Prop := match x with | .dat (.str _) => True | _ => False
abbrev dSM (R : Val → List Val → Store → DK → Prop) (fo : DTE) (g : DTA) : DTE := fun ρ μ Q => fo ρ μ fun x μ1 => isS x ∧ g ρ μ1 fun xs μ2 => R x xs μ2 Q
theorem isS_ty {B : Base} {σ : List (Option V)} {ρ : DR} {H : Hp} {μ : Store} {v : V} {x : Val} (R : RL X.w X.K B H (some v :: σ) (some x :: ρ) μ) (h : isS x) : tyV X.K "str" v H := by
  have hd := R.head
  match x, h, hd with
  | .dat (.str z), _, hd =>
    cases (hd : Dz _ v (.str z))
    exact rfl
theorem d_sm {o e : Expr} {es : List Expr} {fo : DTE} {g : DTA} {name : Str} {id : String} {apos cpos : Pos} {R : Val → List Val → Store → DK → Prop} (slot : Slot "str" name id) (hty : typeOf (.builtin id) = pure (.type "method_descriptor")) (m : MeZ X id R) (ho : DE X o fo) (ha : DA X (e :: es) g)
    (hbase : attributeBase o name X.env (eval o X.env) = eval o X.env := by rfl)
    (hfew : ((backTo cpos (starEach (e :: es) X.env)).all (fun x => !x.1) && (backToKw cpos (keywordEach [] X.env)).all (fun x => x.1.isSome) && decide ((e :: es).length + ([] : List Keyword).length + (if ([] : List Keyword).isEmpty then 0 else 1) < 30)) = true := by rfl)
    (hline : (apos.endLine == cpos.line) = true := by rfl) (hs : starEach (e :: es) X.env = (false, eval e X.env) :: starEach es X.env := by rfl) (hplain : (backTo cpos (starEach es X.env)).any (·.1) = false := by rfl) :
    DE X (.Call (.Attribute o name apos) (e :: es) [] cpos) (dSM R fo g) := by
  obtain ⟨r, h1, h2⟩ := m.ex
  exact ⟨fun B => PE.weak (pe_bm PySem.F.plainAttrs_str slot hty h1 (ho.run B) (ha.run B) hbase hfew hline hs hplain) fun σ H Q q => by
    obtain ⟨hv, hx, ρ, μ, Q0, hl, R0, q, low⟩ := q
    refine ⟨hv, hx, ρ, μ, _, hl, R0, q, fun x μ1 q1 v H1 R1 => ⟨isS_ty R1 q1.1, ?_⟩⟩
    refine ⟨some v :: hv, some x :: hx, ρ, μ1, _, by simp [hl], R1, q1.2, fun xs μ2 q2 vs H2 l R2 => ?_⟩
    exact h2 B _ _ _ _ _ _ _ _ _ _ l R2 q2 low⟩
def zRstrip : Val → List Val → Store → DK → Prop := fun x xs μ Q => match x, xs with
  | .dat (.str a), [.dat (.str b)] => a.length ≤ sizeLine ∧ Q (.dat (.str (Txt.rstripChars a b))) μ
  | _, _ => False
theorem me_rstrip : MeZ X "str.rstrip" zRstrip := ⟨_, mt_rstripChars, fun B σ ρ H μ v x vs xs Q0 Q l R q low => by
  match x, xs, l, R, q with
  | .dat (.str a), [.dat (.str b)], l, R, q =>
    obtain ⟨u, rfl, R⟩ := one_arg' l R
    have h1 := R.head
    have h2 := R.tail.head
    cases (h1 : Dz _ u (.str b))
    cases (h2 : Dz _ v (.str a))
    exact ⟨a, b, rfl, rfl, q.1, low _ _ q.2 _ _ (R.tail.tail.cons (.str _))⟩⟩
/-! ### a text of one sign times an int -/
def S1 (c n : Nat) : Str := ⟨(List.replicate n c).toArray⟩
theorem fold_one (c : Nat) : ∀ (n : Nat) (acc : Array Nat), ((List.replicate n (#[c] : Array Nat)).foldl (· ++ ·) acc).toList = acc.toList ++ List.replicate n c
  | 0, acc => by simp
  | n + 1, acc => by
    rw [List.replicate_succ, List.foldl_cons, fold_one c n, List.replicate_succ]
    simp
theorem op_strmul : OpR X (binaryOp .Mult) (fun x y H Q => ∃ (c n : Nat), x = .str ⟨#[c]⟩ ∧ y = .int (n : Int) ∧ n ≤ 100000 ∧ Q (.str (S1 c n)) H) := by
  intro pins s σ H x y v u Q I rx ry h
  obtain ⟨c, n, rfl, rfl, h5, q⟩ := h
  obtain ⟨t, rfl⟩ := rx
  obtain ⟨t', rfl⟩ := ry
  have ez : sizeLine = 16777216 := by decide +kernel
  have el : (⟨#[c]⟩ : Str).length = 1 := rfl
  refine PySem.P.mul_str ?_ (fun h1 _ => ?_) (fun _ _ => ?_) ?_
  · rw [decide_eq_false (by omega), decide_eq_false (by omega)]
    rfl
  · rw [el]
    have : (1 : Int) ≤ (2 ^ 63 - 1) / n := Int.le_ediv_of_mul_le (by omega) (by omega)
    show ¬ ((1 : Int) > (2 ^ 63 - 1) / n)
    omega
  · unfold Builtin.Str.tooLong
    refine decide_eq_false ?_
    rw [el]
    show ¬ 1 * n > sizeLine
    rw [ez]
    omega
  · by_cases h0 : (n : Int) < 1
    · rw [if_pos h0]
      have e0 : n = 0 := by omega
      subst e0
      exact ⟨by decide, V.str (S1 c 0), H, I.tok _, ⟨s.toks, rfl⟩, q⟩
    · rw [if_neg h0]
      by_cases h1 : n = 1
      · subst h1
        exact ⟨V.str (S1 c 1), H, I, ⟨t, rfl⟩, q⟩
      · have e2 : ((n : Int) == 1 || (⟨#[c]⟩ : Str).length == 0) = false := by
          have z : ((n : Int) == 1) = false := beq_eq_false_iff_ne.mpr (by omega)
          rw [z]
          rfl
        rw [e2]
        have ef : (⟨(List.replicate (n : Int).toNat (#[c] : Array Nat)).foldl (· ++ ·) #[]⟩ : Str) = S1 c n := by
          have : ((List.replicate n (#[c] : Array Nat)).foldl (· ++ ·) #[]) = (List.replicate n c).toArray := by
            apply Array.ext'
            rw [fold_one]
            rfl
          show (⟨(List.replicate n (#[c] : Array Nat)).foldl (· ++ ·) #[]⟩ : Str) = _
          rw [this]
          rfl
        refine ⟨?_, V.str (S1 c n), H, I.tok _, ⟨s.toks, by rw [ef]⟩, q⟩
        rw [ef]
        show (List.replicate n c).toArray.size ≤ _
        rw [ez]
        simp
        omega
/-- ints, or a text of one sign times an int -/
def zMulS : DR2 := fun x y μ Q => match x, y with
  | .dat (.str z), .dat (.int k) => ∃ (c n : Nat), z = ⟨#[c]⟩ ∧ k = (n : Int) ∧ n ≤ 100000 ∧ Q (.dat (.str (S1 c n))) μ
  | _, _ => False
theorem oz_mulS : OpZ X (binaryOp .Mult) zMulS := ⟨_, op_strmul, fun B σ ρ H μ u v x y Q0 Q R q low => by
  have hy := R.head
  have hx := R.tail.head
  unfold zMulS at q
  split at q
  · obtain ⟨c, n, rfl, rfl, h, q⟩ := q
    cases (hx : Dz _ u (.str _))
    cases (hy : Dz _ v (.int _))
    exact ⟨c, n, rfl, rfl, h, low _ _ q _ _ (R.tail.tail.cons (.str _))⟩
  · exact q.elim⟩
/-! ### f-strings -/
abbrev dFmt (f : DTE) : DTE := fun ρ μ Q => f ρ μ fun x μ1 => match x with
  | .dat (.str y) => y.length ≤ sizeLine ∧ Q (.dat (.str y)) μ1
  | .dat (.int i) => i.natAbs.log2 < 1920 ∧ Q (.dat (.str (toString i))) μ1
  | _ => False
theorem d_fmt {e : Expr} {f : DTE} {pos : Pos} (h : DE X e f) : DE X (.FormattedValue e (-1) none pos) (dFmt f) :=
  ⟨fun B => PE.weak (pe_fmt (h.run B)) fun σ H Q ⟨hv, hx, ρ, μ, Q0, hl, R, q, low⟩ => by
    refine ⟨hv, hx, ρ, μ, _, hl, R, q, fun x μ1 q1 v H1 R1 => ?_⟩
    have hd := R1.head
    split at q1
    · cases (hd : Dz _ v (.str _))
      exact .inl ⟨_, rfl, q1.1, low _ _ q1.2 _ _ R1⟩
    · cases (hd : Dz _ v (.int _))
      exact .inr ⟨_, rfl, q1.1, low _ _ q1.2 _ _ (R1.tail.cons (.str _))⟩
    · exact q1.elim⟩
inductive DJ (X : Cx) : List Expr → List DTE → Prop where
  | nil : DJ X [] []
  | cons {e : Expr} {f : DTE} {es : List Expr} {fs : List DTE} (h : DE X e f) (r : DJ X es fs) : DJ X (e :: es) (f :: fs)
def dJs : List DTE → Str → DR → Store → (Str → Store → Prop) → Prop
  | [], acc, _, μ, Q => Q acc μ
  | f :: fs, acc, ρ, μ, Q => f ρ μ fun x μ1 => match x with | .dat (.str y) => (acc ++ y).length ≤ sizeLine ∧ dJs fs (acc ++ y) ρ μ1 Q | _ => False
theorem DJ.pj (B : Base) {es : List Expr} {fs : List DTE} (h : DJ X es fs) : PJ X es (fs.map (up X B)) := by
  induction h with
  | nil => exact .nil
  | cons h r ih => exact .cons (h.run B) ih
theorem js_up {B : Base} {σ : L2.St} {hv : List (Option V)} {hx ρ : DR} {Q0 : Str → Store → Prop} {Q : Str → Hp → Prop} (hl : hv.length = hx.length) (low : ∀ out μ', Q0 out μ' → ∀ H', RL X.w X.K B H' (hv ++ σ) (hx ++ ρ) μ' → Q out H') :
    ∀ (fs : List DTE) (acc : Str) (H : Hp) (μ : Store), RL X.w X.K B H (hv ++ σ) (hx ++ ρ) μ → dJs fs acc ρ μ Q0 → tJs (fs.map (up X B)) acc σ H Q
  | [], acc, H, μ, R, q => low _ _ q _ R
  | f :: fs, acc, H, μ, R, q => by
    refine ⟨hv, hx, ρ, μ, _, hl, R, q, fun x μ1 q1 v H1 R1 => ?_⟩
    have hd := R1.head
    split at q1
    · cases (hd : Dz _ v (.str _))
      exact ⟨_, rfl, q1.1, js_up hl low fs _ H1 μ1 R1.tail q1.2⟩
    · exact q1.elim
abbrev dJoined (fs : List DTE) : DTE := fun ρ μ Q => dJs fs Str.empty ρ μ fun out μ1 => Q (.dat (.str out)) μ1
theorem d_joined {v1 v2 : Expr} {rest : List Expr} {fs : List DTE} {pos : Pos} (h : DJ X (v1 :: v2 :: rest) fs) : DE X (.JoinedStr (v1 :: v2 :: rest) pos) (dJoined fs) :=
  ⟨fun B => PE.weak (pe_joined (h.pj B)) fun σ H Q ⟨hv, hx, ρ, μ, Q0, hl, R, q, low⟩ =>
    js_up hl (fun out μ' q' H' R' => low _ _ q' _ _ (R'.cons (x := .dat (.str out)) (.str out))) fs Str.empty H μ R q⟩
/-! ### [*xs, ..] -/
abbrev dStar (f : DTE) (g : DTA) : DTA := fun ρ μ Q => f ρ μ fun x μ1 => itemsOf μ1 x fun ys => g ρ μ1 fun xs μ2 => Q (ys ++ xs) μ2
theorem da_star {e : Expr} {es : List Expr} {f : DTE} {g : DTA} {p : Pos} (he : DE X e f) (hr : DA X es g) (hs : starEach (.Starred e p :: es) X.env = (true, eval e X.env) :: starEach es X.env := by rfl) : DA X (.Starred e p :: es) (dStar f g) :=
  ⟨fun B => PA.weak (StX.pa_star (he.run B) (hr.run B) hs) fun σ H Q ⟨hv, hx, ρ, μ, Q0, hl, R, q, low⟩ => by
    refine ⟨hv, hx, ρ, μ, _, hl, R, q, fun x μ1 q1 v H1 R1 => ?_⟩
    obtain ⟨b, ys, hi, q2⟩ := itemsOf_its (P := fun ys => g ρ μ1 fun xs μ2 => Q0 (ys ++ xs) μ2) q1
    obtain ⟨a, us, rfl, hs2, pr⟩ := hi.at R1 R1.head
    have lu : us.length = ys.length := pr.length
    refine ⟨a, us, rfl, ?_, us.map some ++ hv, ys.map some ++ hx, ρ, μ1, _, by simp [lu, hl], ?_, q2, fun xs μ2 q3 vs H2 l R2 => ?_⟩
    · cases b with
      | true => exact .inl hs2
      | false => exact .inr hs2
    · rw [List.append_assoc, List.append_assoc]
      have : ∀ {us : List V} {ys : List Val}, Paired (RV X.K (Fz (B.fr ++ μ1) H1)) us ys → Paired (RVo X.K (Fz (B.fr ++ μ1) H1)) (us.map some) (ys.map some) := fun {us ys} h => by
        induction h with
        | nil => exact .nil
        | cons h t ih => exact .cons h ih
      exact R1.tail.slots (paired_app (this pr) R1.tail.sl)
    · refine low _ _ q3 (us ++ vs) H2 (by simp [lu, l]) ?_
      obtain ⟨h1, h2⟩ := paired_split (by simp [l]) R2.sl
      rw [List.append_assoc, List.append_assoc] at h2
      obtain ⟨h3, h4⟩ := paired_split (by simp [lu]) h2
      refine R2.slots ?_
      rw [List.map_append, List.map_append, List.append_assoc, List.append_assoc]
      exact paired_app h3 (paired_app h1 h4)⟩
/-! ### ranges with a step -/
theorem cr_range3 : CallR X (.type "range") (fun vs H Q => ∃ (i j c : Int), vs = [V.int i, V.int j, V.int c] ∧ c ≠ 0 ∧ c.natAbs < 1073741824 ∧ ∀ p, H p = none → Q (.ref p) (upd H p (rgO p i j c))) := by
  intro pins s σ H vs us Q I r h
  obtain ⟨i, j, c, rfl, c0, c1, q⟩ := h
  cases r with
  | cons r1 rr =>
    cases rr with
    | cons r2 rr =>
      cases rr with
      | cons r3 rr =>
        cases rr
        obtain ⟨t, rfl⟩ := r1
        obtain ⟨t', rfl⟩ := r2
        obtain ⟨t'', rfl⟩ := r3
        refine call_range_3 c0 ⟨.ref s.heap.objs.size, upd H s.heap.objs.size (rgO s.heap.objs.size i j c), I.laid (t' := s.toks) (fun b o e => Heap.get?_push_of_some _ e) (Nat.le_refl _) ?_, rfl, q _ (I.hok.fresh (Nat.le_refl _))⟩ (.inl (PyProof.noPylong_small c1))
        exact ⟨⟨t, t', t'', Heap.get?_push_size _ rfl⟩, ⟨_, Heap.get?_push_size _ rfl⟩, fun h h' ⟨t, u, v, e⟩ k => ⟨t, u, v, k _ e⟩⟩
def zRange3 : List Val → Store → DK → Prop := fun xs μ Q => match xs with
  | [.dat (.int i), .dat (.int j), .dat (.int c)] => c ≠ 0 ∧ c.natAbs < 1073741824 ∧ ∀ p, Q (.ptr p) (μ ++ [(p, .rng i j c)])
  | _ => False
theorem ca_range3 : CaZ X (.type "range") zRange3 := ⟨_, cr_range3, fun B σ ρ H μ vs xs Q0 Q l R q low => by
  match xs, vs, l, R, q with
  | [.dat (.int i), .dat (.int j), .dat (.int c)], [v1, v2, v3], l, R, q =>
    have R : RL X.w X.K B H (some v1 :: some v2 :: some v3 :: σ) (some (.dat (.int i)) :: some (.dat (.int j)) :: some (.dat (.int c)) :: ρ) μ := R
    have h1 := R.head
    have h2 := R.tail.head
    have h3 := R.tail.tail.head
    cases (h1 : Dz _ v1 (.int i))
    cases (h2 : Dz _ v2 (.int j))
    cases (h3 : Dz _ v3 (.int c))
    exact ⟨i, j, c, rfl, q.1, q.2.1, fun p hp => low _ _ (q.2.2 p) _ _ ((R.tail.tail.tail.new (n := .rng i j c) hp upd_same).cons rfl)⟩⟩
def rangeC (lo c : Int) (n : Nat) : List Val := (List.range n).map fun i : Nat => .dat (.int (lo + (i : Int) * c))
theorem rangeC_len {lo c : Int} {n : Nat} : (rangeC lo c n).length = n := by unfold rangeC; rw [List.length_map, List.length_range]
theorem rangeC_get {lo c : Int} {n i : Nat} (h : i < n) : (rangeC lo c n)[i]? = some (.dat (.int (lo + (i : Int) * c))) := by
  unfold rangeC
  rw [List.getElem?_map, List.getElem?_range h]
  rfl
theorem seq_rangeC {B : Base} {lo c : Int} {n : Nat} : SeqZ X B (Itc lo c n) (rangeC lo c n) fun _ => True :=
  ⟨fun σ ρ H μ i R _ hi => by
    rw [rangeC_len] at hi
    refine ⟨hi, fun x H' y => ?_⟩
    obtain ⟨rfl, rfl⟩ := y
    exact ⟨_, rangeC_get hi, R.cons (.int _)⟩, fun σ ρ H μ R _ => by
    rw [rangeC_len]
    exact Nat.le_refl n, fun _ _ _ => trivial⟩
def iRngV (te : TE) : TI := fun σ H R => te σ H fun x G => ∃ (a : Addr) (i j c : Int) (n : Nat), x = .ref a ∧ G a = some (rgO a i j c) ∧ RgC i j c n ∧ R (Itc i c n) G
theorem pi_rngV {tg e : Expr} {te : TE} (pe : PE X e te) : PI X tg e (iRngV te) :=
  ⟨fun pins s σ H R J h => thn (pe.run pins s σ H _ J h) fun u z ⟨x, G, JG, rx, a, i, j, c, n, ex, ea, ⟨c0, c1, c2, c3⟩, q⟩ => by
    subst ex
    obtain rfl : u = .ref a := rx
    obtain ⟨⟨t1, t2, t3, ho⟩, _⟩ := (show ObjOk X.prog X.w G z.heap a (rgO a i j c) from JG.hok a _ ea)
    refine wpAny_pyIter_range ho c2 (pi_one (tk := z.toks) JG _ (turn_rangeC _ i c n) ?_ q)
    have e1 : i + ((0 : Nat) : Int) * c = i := by simp
    have e2 : (n : Int) - ((0 : Nat) : Int) = Builtin.Range.rangeSize i j c := by rw [c3]; simp
    show IsRangeIter _ _ (i + ((0 : Nat) : Int) * c) ((n : Int) - ((0 : Nat) : Int)) c
    rw [e1, e2]
    exact Heap.get?_push_size _ rfl⟩
abbrev dRngI (f : DTE) : DTI := fun ρ μ Q => f ρ μ fun x μ1 => match x with
  | .ptr a => ∃ (m : Nat) (i j c : Int) (n : Nat), μ1[m]? = some (a, Node.rng i j c) ∧ RgC i j c n ∧ Q (rangeC i c n) (fun _ => True) μ1
  | _ => False
theorem di_rng {tg e : Expr} {f : DTE} (h : DE X e f) : DI X tg e (dRngI f) :=
  ⟨fun B => PI.weak (pi_rngV (h.run B)) fun σ H R ⟨hv, hx, ρ, μ, Q0, hl, R0, q, low⟩ => by
    refine ⟨hv, hx, ρ, μ, _, hl, R0, q, fun x μ1 q1 v H1 R1 => ?_⟩
    match x, q1, R1 with
    | .ptr a, q1, R1 =>
      obtain ⟨m, i, j, c, n, hm, hc, q1⟩ := q1
      have ea : H1 a = some (rgO a i j c) := R1.at hm
      cases (R1.head : v = .ref a)
      exact ⟨a, i, j, c, n, rfl, ea, hc, low _ _ _ q1 _ _ R1.tail seq_rangeC⟩⟩
end
end Zl
/-! d[k] += e; calls of own defs by keywords, with defaults. -/
namespace Vd
open PySem PySem.Spec PyProof.Rows L2
section
variable {X : Cx}
def tgetV (w : World) : V → V → Hp → VK → Prop := fun o i H Q => ∃ (a : Addr) (kvs : List KVR) (k : NestedKey) (v : V), o = .ref a ∧ DAt w H a kvs ∧ KeyOk k ∧ KeyAt H k i ∧ lookV kvs k = some v ∧ Q v H
def tsetV (w : World) : TSet := fun o i v H Q => ∃ (a : Addr) (kvs : List KVR) (k : NestedKey), o = .ref a ∧ H a = some (dV w a kvs) ∧ DAt w H a kvs ∧ KeyOk k ∧ KeyAt H k i ∧ kvs.length < sizeLine ∧ Q (upd H a (dV w a (putV kvs k i v)))
theorem get_vd (hu : X.A.units + 64 < cLine) : PGet X (tgetV X.w) := by
  intro pins s σ H o i ov iv Q I r1 r2 h
  obtain ⟨a, kvs, k, v, rfl, D, ok, ky, hv, q⟩ := h
  cases r1
  exact c_item hu I D ok ky r2 hv fun w' s3 I3 rw' => ⟨v, H, I3, rw', q⟩
theorem set_vd (hu : X.A.units + 64 < cLine) : PSet X (tsetV X.w) := by
  intro pins s σ H o i v ov iv u Q I r1 r2 r3 h
  obtain ⟨a, kvs, k, rfl, hD, D, ok, ky, hl, q⟩ := h
  cases r1
  exact c_store hu I hD D ok ky r2 r3 hl fun s' I' => ⟨_, I', q⟩
end
end Vd
namespace Zl
open PySem PySem.Spec PyProof.Rows L2 Lf
section
variable {X : Cx}
theorem DvAt.dat {B : Base} {H : Hp} {σ : List (Option V)} {ρ : DR} {μ : Store} {a : Addr} {j : Nat} {kvs : List (NestedKey × Val)} (R : RL X.w X.K B H σ ρ μ) (hj : μ[j]? = some (a, .dv kvs)) :
    ∃ ks : List Vd.KVR, H a = some (Vd.dV X.w a ks) ∧ (ks.map (·.1)).Nodup ∧ Paired (RK X.K (Fz (B.fr ++ μ) H)) ks kvs ∧ Vd.DAt X.w H a ks := by
  obtain ⟨ks, e, nd, pr⟩ := R.at hj
  refine ⟨ks, e, nd, pr, ⟨.inl e, fun p hp => ?_, nd⟩⟩
  obtain ⟨i, hi, rfl⟩ := List.mem_iff_getElem.mp hp
  have hi2 : i < kvs.length := by rw [← pr.length]; exact hi
  obtain ⟨q, eq, r⟩ := paired_get pr (List.getElem?_eq_getElem hi2)
  rw [List.getElem?_eq_getElem hi] at eq
  cases eq
  exact ⟨r.2.1, r.2.2.1.keep fun a xs e => fz_le _ _ e⟩
abbrev dDaug (g : Int → Int → Int) (fd fk fv : DTE) : DTS := fun E ρ μ => fd ρ μ fun d μ1 => fk ρ μ1 fun y μ2 => match d, y with
  | .ptr a, .dat dk => ∃ (kvs : List (NestedKey × Val)) (k : NestedKey) (i : Int), DvAt μ2 a kvs ∧ keyD dk = some k ∧ Vd.KeyOk k ∧ lookZ kvs k = some (.dat (.int i)) ∧ fv ρ μ2 fun z μ3 => match z with
    | .dat (.int n) => ∃ (j : Nat) (kvs' : List (NestedKey × Val)), μ3[j]? = some (a, Node.dv kvs') ∧ kvs'.length < sizeLine ∧ E.nx ρ (μ3.set j (a, .dv (putZ kvs' k (.dat (.int (g i n))))))
    | _ => False
  | _, _ => False
theorem ds_daug {o i value : Expr} {op : Operator} {g : Int → Int → Int} {fd fk fv : DTE} {tpos pos : Pos} (hu : X.A.units + 64 < cLine) (ip : PIp X op (ipI g)) (ho : DE X o fd) (hi : DE X i fk) (hv : DE X value fv)
    (ha : ∀ ov iv new, augStore i ov iv new = (do holding [new, ov, iv] (setItem ov iv new); release [new, ov, iv] []; pure .next) := by intros; rfl) : DS X (.AugAssign (.Subscript o i tpos) op value pos) (dDaug g fd fk fv) :=
  ⟨fun B => PS.weak (ps_augS (ho.run B) (hi.run B) (Vd.get_vd hu) (hv.run B) ip (Vd.set_vd hu) ha) fun D σ H ⟨ρ, μ, E, R, q, b⟩ => by
    refine ⟨[], [], ρ, μ, _, rfl, R, q, fun d μ1 q1 v H1 R1 => ⟨[_], [_], ρ, μ1, _, rfl, R1, q1, fun y μ2 q2 u H2 R2 => ?_⟩⟩
    match d, y, q2, R2 with
    | .ptr a, .dat dk, q2, R2 =>
      have R2 : RL X.w X.K B H2 (some u :: some v :: σ) (some (.dat dk) :: some (.ptr a) :: ρ) μ2 := R2
      obtain ⟨kvs, k, i0, hk, ek, ok, hl, q2⟩ := q2
      obtain ⟨ks, D2, pr⟩ := hk.at R2
      cases (R2.tail.head : v = .ref a)
      rcases look_rel pr k with ⟨_, e2⟩ | ⟨w, x', e1, e2, rv⟩
      · rw [e2] at hl; cases hl
      · rw [e2] at hl
        cases hl
        cases (rv : Dz _ w (.int i0))
        refine ⟨a, ks, k, _, rfl, D2, ok, (keyAt_of dk u k R2.head ek).keep fun a xs e => fz_le _ _ e, e1, [_, _], [_, _], ρ, μ2, _, rfl, R2, q2, fun z μ3 q3 t H3 R3 => ?_⟩
        match z, q3, R3 with
        | .dat (.int n), q3, R3 =>
          have R3 : RL X.w X.K B H3 (some t :: some u :: some (.ref a) :: σ) (some (.dat (.int n)) :: some (.dat dk) :: some (.ptr a) :: ρ) μ3 := R3
          obtain ⟨j, kvs', hj, hln, q3⟩ := q3
          have ht := R3.head
          cases (ht : Dz _ t (.int n))
          obtain ⟨ks3, e3, nd, pr3, D3⟩ := DvAt.dat R3 hj
          have hk3 := keyAt_of dk u k R3.tail.head ek
          refine ⟨i0, n, rfl, rfl, a, ks3, k, rfl, e3, D3, ok, hk3.keep fun a xs e => fz_le _ _ e, by rw [pr3.length]; exact hln, b.nx _ _ q3 _ _ ?_⟩
          exact (R3.putD (v := .int (g i0 n)) (x := .dat (.int (g i0 n))) hj nd pr3 ok hk3 (Dz.int _)).tail.tail.tail⟩
/-! ### keywords -/
structure DKw (X : Cx) (kws : List Keyword) (f : DTA) : Prop where
  run : ∀ B : Base, PK X kws (upA X B f)
theorem PK.weak {kws : List Keyword} {t t' : TA} (h : PK X kws t) (w : ∀ σ H Q, t' σ H Q → t σ H Q) : PK X kws t' := ⟨fun pos pins s σ H Q I q => h.run pos pins s σ H Q I (w _ _ _ q)⟩
theorem dk_nil : DKw X [] dNil := ⟨fun B => PK.weak pk_nil fun _ _ _ h => by
  obtain ⟨hv, hx, ρ, μ, Q0, hl, R0, h, low⟩ := h
  exact low _ _ h [] _ rfl R0⟩
theorem dk_cons {nm : Option Str} {e : Expr} {kpos : Pos} {kws : List Keyword} {f : DTE} {g : DTA} (ha : DE X e f) (hr : DKw X kws g) : DKw X (⟨nm, e, kpos⟩ :: kws) (dCons f g) :=
  ⟨fun B => PK.weak (pk_cons (ha.run B) (hr.run B)) fun _ _ _ h => by
    obtain ⟨hv, hx, ρ, μ, Q0, hl, R0, h, low⟩ := h
    refine ⟨hv, hx, ρ, μ, _, hl, R0, h, fun x μ1 h1 u H1 R1 => ?_⟩
    refine ⟨some u :: hv, some x :: hx, ρ, μ1, _, by simp [hl], R1, h1, fun xs μ2 h2 vs H2 l R2 => ?_⟩
    exact low _ _ h2 (u :: vs) H2 (by simp [l]) (RL.turn (by simp [l]) R2)⟩
/-- how the values are put: positional ones, those of the keywords -/
structure Sel (g : {α : Type} → List α → List α → List α) (n m : Nat) : Prop where
  rel : ∀ {α β : Type} {R : α → β → Prop} {a : List α} {b : List β} {c : List α} {d : List β}, b.length = n → d.length = m → Paired R a b → Paired R c d → Paired R (g a c) (g b d)
theorem sel_app {n m : Nat} : Sel (fun a b => a ++ b) n m := ⟨fun _ _ h1 h2 => paired_app h1 h2⟩
/-- an own def, called by keywords -/
def CalK (P : Program) (w : World) (K : PySem.W.Frag) (mg : Str → Option Value) (base : Heap) (k n : Nat) (x : Str) (ps ks : List Str) (g : {α : Type} → List α → List α → List α) (F : DSp) : Prop :=
  ∃ (f : Addr) (fd : FuncData), FnOk P w K mg base CX0 k f fd ps (spZ w K F) ∧ mg x = some (.ref f) ∧ PySem.W.keepIn K (.ref f) = true ∧ ∃ gU : List Value → List Value → List Value, KBn K fd ps n ks gU (fun a b => g a b)
theorem somes {K : PySem.W.Frag} {Z : Hp} {us : List V} {ys : List Val} (h : Paired (RV K Z) us ys) : Paired (RVo K Z) (us.map some) (ys.map some) := by
  induction h with
  | nil => exact .nil
  | cons h t ih => exact .cons h ih
/-- no object is handed over -/
abbrev dOwnK (n m : Nat) (g : {α : Type} → List α → List α → List α) (F : DSp) (fa fk : DTA) : DTE := fun ρ μ Q => fa ρ μ fun xs μ1 => fk ρ μ1 fun ys μ2 => xs.length = n ∧ ys.length = m ∧ F (g xs ys) [] fun x ν => Q x (μ2 ++ ν)
theorem d_ownK {k n : Nat} {x : Str} {ps ks : List Str} {g : {α : Type} → List α → List α → List α} {F : DSp} {e : Expr} {es : List Expr} {kws : List Keyword} {fa fk : DTA} {p pos : Pos} (C : CalK X.prog X.w X.K X.mg X.base k n x ps ks g F) (S : Sel (fun a b => g a b) n ks.length) (hr : Room k X.A) (hg : Gl X x) (ha : DA X (e :: es) fa) (hkw : DKw X kws fk)
    (hall : (backToKw pos (keywordEach kws X.env)).all (·.1.isSome) = true := by rfl) (hks : (backToKw pos (keywordEach kws X.env)).filterMap (·.1) = ks := by rfl)
    (hdb : (x == ("__debug__" : Str)) = false := by decide) (he : starEach (e :: es) X.env = (false, eval e X.env) :: starEach es X.env := by rfl)
    (hpl : ((backTo pos (starEach (e :: es) X.env)).any (·.1) || (backToKw pos (keywordEach kws X.env)).any (·.1.isNone)) = false := by rfl) :
    DE X (.Call (.Name x p) (e :: es) kws pos) (dOwnK n ks.length g F fa fk) := by
  obtain ⟨f, fd, FO, hm, hk, gU, hb⟩ := C
  refine ⟨fun B => PE.weak (pe_callN FO hr hg hm hk hb pass0 (ha.run B) (hkw.run B) hall hks hdb he hpl) fun σ H Q ⟨hv, hx, ρ, μ, Q0, hl, R0, h, low⟩ => ?_⟩
  refine ⟨hv, hx, ρ, μ, _, hl, R0, h, fun xs μ1 h1 vs H1 l R1 => ?_⟩
  refine ⟨vs.map some ++ hv, xs.map some ++ hx, ρ, μ1, _, by simp [l, hl], by rw [List.append_assoc, List.append_assoc]; exact R1, h1, fun ys μ2 h2 zs H2 l2 R2 => ?_⟩
  obtain ⟨n1, n2, q⟩ := h2
  obtain ⟨s1, s2⟩ := paired_split (by simp [l2]) R2.sl
  rw [List.append_assoc, List.append_assoc] at s2
  obtain ⟨s3, s4⟩ := paired_split (by simp [l]) s2
  have pg := S.rel n1 n2 (heads s3) (heads s1)
  refine ⟨l.trans n1, l2.trans n2, ?_⟩
  have R3 := R2.slots (paired_app (somes pg) s4)
  obtain ⟨B', xs', μ', Q', l', R', ⟨Q'', f', m⟩, low'⟩ := call_z (F := Cl F) (by exact pg.length) R3 (μ0 := []) (μr := μ2) (.refl _) ⟨_, q, fun x ν q => ⟨_, List.perm_append_comm, q⟩⟩ low
  exact ⟨B', xs', μ', Q'', l', R', f', fun x ν q => low' x ν (m _ _ q)⟩
/-- an own def with defaults, which a call leaves out -/
def CalD (P : Program) (w : World) (K : PySem.W.Frag) (mg : Str → Option Value) (base : Heap) (k : Nat) (x : Str) (ps : List Str) (dvs : List V) (dd : List PyData) (F : DSp) : Prop :=
  ∃ (f : Addr) (fd : FuncData) (ds : List Value), FnOk P w K mg base CX0 k f fd ps (spZ w K F) ∧ mg x = some (.ref f) ∧ PySem.W.keepIn K (.ref f) = true ∧ Binds K fd ps ds ∧ Vals dvs ds ∧ ∀ Z, DzAll Z dvs dd
abbrev dOwnD (dd : List PyData) (F : DSp) (fa : DTA) : DTE := fun ρ μ Q => fa ρ μ fun xs μ1 => F (xs ++ dd.map .dat) [] fun x ν => Q x (μ1 ++ ν)
theorem d_ownD {k : Nat} {x : Str} {ps : List Str} {dvs : List V} {dd : List PyData} {F : DSp} {e : Expr} {es : List Expr} {fa : DTA} {p pos : Pos} (C : CalD X.prog X.w X.K X.mg X.base k x ps dvs dd F) (hr : Room k X.A) (hg : Gl X x) (ha : DA X (e :: es) fa)
    (hdb : (x == ("__debug__" : Str)) = false := by decide) (he : starEach (e :: es) X.env = (false, eval e X.env) :: starEach es X.env := by rfl) (hpl : (backTo pos (starEach es X.env)).any (·.1) = false := by rfl) :
    DE X (.Call (.Name x p) (e :: es) [] pos) (dOwnD dd F fa) := by
  obtain ⟨f, fd, ds, FO, hm, hk, hb, hd, hz⟩ := C
  refine ⟨fun B => PE.weak (pe_call FO hr hg hm hk hb hd pass0 (ha.run B) hdb he hpl) fun σ H Q ⟨hv, hx, ρ, μ, Q0, hl, R0, h, low⟩ => ?_⟩
  refine ⟨hv, hx, ρ, μ, _, hl, R0, h, fun xs μ1 h1 vs H1 l R1 => ?_⟩
  obtain ⟨s1, s2⟩ := paired_split (by simp [l]) R1.sl
  have pg := paired_app (heads s1) (dz_all (K := X.K) (hz (Fz (B.fr ++ μ1) H1)))
  have R3 := R1.slots (paired_app (somes pg) s2)
  obtain ⟨B', xs', μ', Q', l', R', ⟨Q'', f', m⟩, low'⟩ := call_z (F := Cl F) (by exact pg.length) R3 (μ0 := []) (μr := μ1) (.refl _) ⟨_, h1, fun x ν q => ⟨_, List.perm_append_comm, q⟩⟩ low
  exact ⟨B', xs', μ', Q'', l', R', f', fun x ν q => low' x ν (m _ _ q)⟩
end
end Zl
/-! str(x) of ints and texts; sep.join(texts). -/
namespace Zl
open PySem PySem.Spec PyProof.Rows L2 Lf
section
variable {X : Cx}
def zStr : List Val → Store → DK → Prop := fun xs μ Q => match xs with
  | [.dat (.int i)] => i.natAbs.log2 < 1920 ∧ Q (.dat (.str (toString i))) μ
  | [.dat (.str a)] => Q (.dat (.str a)) μ
  | _ => False
theorem ca_str : CaZ X (.type "str") zStr := by
  refine ⟨fun vs H Q => (∃ i, vs = [.int i] ∧ i.natAbs.log2 < 1920 ∧ Q (.str (toString i)) H) ∨ ∃ a, vs = [.str a] ∧ Q (.str a) H, ?_, fun B σ ρ H μ vs xs Q0 Q l R q low => ?_⟩
  · intro pins s σ H xs us Q I r h
    rcases h with h | h
    · exact call_str_int pins s σ H xs us Q I r h
    · exact SkE.call_str_str pins s σ H xs us Q I r h
  · unfold zStr at q
    split at q
    · obtain ⟨v, rfl, R⟩ := one_arg' l R
      have hd := R.head
      cases (hd : Dz _ v (.int _))
      exact .inl ⟨_, rfl, q.1, low _ _ q.2 _ _ (R.tail.cons (.str _))⟩
    · obtain ⟨v, rfl, R⟩ := one_arg' l R
      have hd := R.head
      cases (hd : Dz _ v (.str _))
      exact .inr ⟨_, rfl, low _ _ q _ _ (R.tail.cons (.str _))⟩
    · exact q.elim
theorem strs_of {K : PySem.W.Frag} {Z : Hp} : ∀ {vs : List V} {ys : List Str}, Paired (RV K Z) vs (ys.map fun s => Val.dat (.str s)) → vs = ys.map V.str
  | [], [], _ => rfl
  | v :: vs, y :: ys, h => by
    cases h with
    | cons h1 h2 =>
      cases (h1 : Dz _ v (.str y))
      rw [strs_of h2]
      rfl
/-- sep.join(a list or a tuple of texts) -/
def zJoin : Val → List Val → Store → DK → Prop := fun x xs μ Q => match x, xs with
  | .dat (.str a), [y] => itemsOf μ y fun zs => ∃ ys : List Str, zs = ys.map (fun s => Val.dat (.str s)) ∧ (ys.map (·.length)).sum + ys.length * a.length ≤ 16777216 ∧ Q (.dat (.str (Txt.join a ys))) μ
  | _, _ => False
theorem me_join : MeZ X "str.join" zJoin := ⟨_, mt_join, fun B σ ρ H μ v x vs xs Q0 Q l R q low => by
  match x, xs, l, R, q with
  | .dat (.str a), [y], l, R, q =>
    obtain ⟨u, rfl, R⟩ := one_arg' l R
    have h2 := R.tail.head
    cases (h2 : Dz _ v (.str a))
    obtain ⟨b, zs, hi, ys, ez, hl, q⟩ := itemsOf_its (P := fun zs => ∃ ys : List Str, zs = ys.map (fun s => Val.dat (.str s)) ∧ (ys.map (·.length)).sum + ys.length * a.length ≤ 16777216 ∧ Q0 (.dat (.str (Txt.join a ys))) μ) q
    obtain ⟨p, us, rfl, hs, pr⟩ := hi.at R R.head
    subst ez
    have eu := strs_of pr
    subst eu
    refine ⟨a, p, ys, rfl, rfl, ?_, hl, low _ _ q _ _ (R.tail.tail.cons (.str _))⟩
    cases b with
    | true => exact .inr hs
    | false => exact .inl hs⟩
end
end Zl
namespace Zl
open PySem PySem.Spec PyProof.Rows L2 Lf
/-- a global int -/
theorem d_gint {X : Cx} {x : Str} {i : Int} {pos : Pos} (hg : Gl X x) (h : ∃ t, X.mg x = some (.int i t)) (hd : (x == ("__debug__" : Str)) = false := by decide) : DE X (.Name x pos) (dC (.int i)) := by
  obtain ⟨t, e⟩ := h
  exact d_of_c (v := V.int i) (pe_glob (v := V.int i) (u := .int i t) hg e ⟨t, rfl⟩ hd) fun _ => .int i
end Zl
/-! a, b = x, y -/
namespace Zl
open PySem PySem.Spec PyProof.Rows L2 Lf
section
variable {X : Cx}
theorem ds_par {i j : Nat} {x y : Str} {a b : Expr} {g : DTA} {px py pt : Pos} {kt k2 pt2} {pos : Pos} (hc : X.calm = true) (hN : X.N.Nodup) (hi : X.N[i]? = some x) (hj : X.N[j]? = some y) (hij : i ≠ j)
    (hx : X.env.scope.names.lookup x = some .local) (hy : X.env.scope.names.lookup y = some .local) (ha : DA X [a, b] g)
    (hw : swappedStores [.Tuple [.Name x px, .Name y py] kt pt] (.Tuple [a, b] k2 pt2) X.env = pure (some [x, y]))
    (hs : swapsWithSole [.Tuple [.Name x px, .Name y py] kt pt] (.Tuple [a, b] k2 pt2) pos.line X.env = pure false := by rfl) :
    DS X (.Assign [.Tuple [.Name x px, .Name y py] kt pt] (.Tuple [a, b] k2 pt2) pos) (dPar i j g) :=
  ds_of_par fun B => ps_par hc hN hi hj hij hx hy (ha.run B) hw hs
end
end Zl
/-! a <= b < c, b an int; keywords told the other way round. -/
namespace Zl
open PySem PySem.Spec PyProof.Rows L2 Lf
section
variable {X : Cx}
abbrev dChain (R R' : DR2) (fa fb fc : DTE) : DTT := fun ρ μ Q => fa ρ μ fun x μ1 => fb ρ μ1 fun y μ2 => match y with
  | .dat (.int j) => R x (.dat (.int j)) μ2 fun z μ3 => match z with
    | .dat (.bool k) => if k = true then fc ρ μ3 fun w μ4 => R' (.dat (.int j)) w μ4 fun z' μ5 => (match z' with | .dat (.bool k') => Q k' μ5 | _ => False) else Q false μ3
    | _ => False
  | _ => False
theorem dt_chain {a b c : Expr} {op op' : CmpOp} {R R' : DR2} {fa fb fc : DTE} {pos : Pos} (o : OpZ X (compareOp op) R) (o' : OpZ X (compareOp op') R') (ha : DE X a fa) (hb : DE X b fb) (hc : DE X c fc)
    (hm : lastMarks [op, op'] [b, c] = false := by with_unfolding_all rfl) : DT X (.Compare a [op, op'] [b, c] pos) (dChain R R' fa fb fc) := by
  obtain ⟨r, h1, h2⟩ := o.ex
  obtain ⟨r', h1', h2'⟩ := o'.ex
  refine ⟨fun B => PT.weak (pt_chain h1 h1' (ha.run B) (hb.run B) (hc.run B) hm) fun σ H Q h => ?_⟩
  obtain ⟨hv, hx, ρ, μ, Q0, hl, R0, h, low⟩ := h
  refine ⟨hv, hx, ρ, μ, _, hl, R0, h, fun x μ1 q1 u H1 R1 => ⟨some u :: hv, some x :: hx, ρ, μ1, _, by simp [hl], R1, q1, fun y μ2 q2 v H2 R2 => ?_⟩⟩
  have hd := R2.head
  match y, q2, R2, hd with
  | .dat (.int j), q2, R2, hd =>
    cases (hd : Dz _ v (.int j))
    refine h2 B _ _ _ _ _ _ _ _ _ _ R2 q2 fun z μ3 q3 z' H3 R3 => ?_
    have hd3 := R3.head
    match z, q3, R3, hd3 with
    | .dat (.bool k), q3, R3, hd3 =>
      cases (hd3 : Dz _ z' (.bool k))
      refine ⟨k, rfl, ?_⟩
      cases k with
      | false => exact ⟨false, rfl, low _ _ q3 _ R3.tail⟩
      | true =>
        refine ⟨hv, hx, ρ, μ3, _, hl, R3.tail, q3, fun w μ4 q4 w' H4 R4 => ?_⟩
        refine h2' B _ _ _ _ _ _ _ _ _ _ ((R4.tail.cons (x := .dat (.int j)) (Dz.int j)).cons R4.head) q4 fun z5 μ5 q5 v5 H5 R5 => ?_
        have hd5 := R5.head
        match z5, q5, R5, hd5 with
        | .dat (.bool k5), q5, R5, hd5 =>
          cases (hd5 : Dz _ v5 (.bool k5))
          exact ⟨k5, rfl, low _ _ q5 _ R5.tail⟩
theorem sel_rev {n m : Nat} : Sel (fun a b => a ++ b.reverse) n m := ⟨fun _ _ h1 h2 => paired_app h1 (paired_reverse h2)⟩
end
end Zl
/-! all(bools), sum(ints), a try whose body raises nothing, a = b = x. -/
namespace Zl
open PySem PySem.Spec PyProof.Rows L2 Lf
section
variable {X : Cx}
theorem bools_of {K : PySem.W.Frag} {Z : Hp} : ∀ {vs : List V} {bs : List Bool}, Paired (RV K Z) vs (bs.map fun b => Val.dat (.bool b)) → vs = bs.map V.bl
  | [], [], _ => rfl
  | v :: vs, b :: bs, h => by
    cases h with
    | cons h1 h2 =>
      cases (h1 : Dz _ v (.bool b))
      rw [bools_of h2]
      rfl
def zAll : List Val → Store → DK → Prop := fun xs μ Q => match xs with
  | [.ptr a] => ∃ (j : Nat) (bs : List Bool), μ[j]? = some (a, Node.lst (bs.map fun b => .dat (.bool b))) ∧ Q (.dat (.bool (bs.all id))) μ
  | _ => False
theorem ca_all (hc : X.calm = true) : CaZ X (.builtin "all") zAll := ⟨_, cr_all hc, fun B σ ρ H μ vs xs Q0 Q l R q low => by
  unfold zAll at q
  split at q
  · obtain ⟨j, bs, hj, q⟩ := q
    obtain ⟨v, rfl, R⟩ := one_arg' l R
    obtain ⟨us, e, pr⟩ := R.at hj
    cases (R.head : v = .ref _)
    have eu := bools_of pr
    subst eu
    exact ⟨_, bs, rfl, SqL.of e, low _ _ q _ _ (R.tail.cons (x := .dat (.bool _)) (Dz.bl _))⟩
  · exact q.elim⟩
def zSum : List Val → Store → DK → Prop := fun xs μ Q => match xs with
  | [.ptr a] => ∃ (j : Nat) (ns : List Int), μ[j]? = some (a, Node.lst (ns.map fun n => .dat (.int n))) ∧ Q (.dat (.int ns.sum)) μ
  | _ => False
theorem ca_sum (hc : X.calm = true) : CaZ X (.builtin "sum") zSum := ⟨_, cr_sum hc, fun B σ ρ H μ vs xs Q0 Q l R q low => by
  unfold zSum at q
  split at q
  · obtain ⟨j, ns, hj, q⟩ := q
    obtain ⟨v, rfl, R⟩ := one_arg' l R
    obtain ⟨us, e, pr⟩ := R.at hj
    cases (R.head : v = .ref _)
    have eu := ints_of pr
    subst eu
    exact ⟨_, ns, rfl, SqL.of e, low _ _ q _ _ (R.tail.cons (x := .dat (.int _)) (Dz.int _))⟩
  · exact q.elim⟩
theorem ds_try {body : List Stmt} {h₀ : ExceptHandler} {hs : List ExceptHandler} {t : DTS} {pos : Pos} (hb : DSs X.nox body t) : DS X (.Try body (h₀ :: hs) [] [] pos) t :=
  ⟨fun B => PS.weak (ps_try_thru0 (hb.run B)) fun D σ H ⟨ρ, μ, E, R, q, b⟩ => ⟨ρ, μ, E, R, q, ⟨b.nx, b.rt, b.bk, b.ct⟩⟩⟩
abbrev dSet2 (i j : Nat) (f : DTE) : DTS := fun E ρ μ => f ρ μ fun x μ1 => E.nx ((ρ.set i (some x)).set j (some x)) μ1
theorem ds_set2 {i j : Nat} {t1 t2 e : Expr} {f : DTE} {pos : Pos} (he : DE X e f) (h1 : PG X t1 (gName i)) (h2 : PG X t2 (gName j))
    (ha : (assignEach [t1, t2] X.env).map (·.2) = [assign t1 X.env, assign t2 X.env] := by rfl) (hw : swappedStores [t1, t2] e X.env = pure none := by rfl) : DS X (.Assign [t1, t2] e pos) (dSet2 i j f) :=
  ⟨fun B => PS.weak (ps_asg2 (he.run B) h1 h2 ha hw) fun D σ H ⟨ρ, μ, E, R, q, b⟩ => ⟨[], [], ρ, μ, _, rfl, R, q, fun x μ1 q1 v H1 R1 => b.nx _ _ q1 _ _ (by
    have R2 : RL X.w X.K B H1 (some v :: σ) (some x :: ρ) μ1 := R1
    exact R2.tail.slots (paired_set j (paired_set i R2.tail.sl R2.head) R2.head))⟩⟩
end
end Zl
/-! xs[a:c] = ys -/
namespace Zl
open PySem PySem.Spec PyProof.Rows L2 Lf
section
variable {X : Cx}
def gSubSl (to : TE) (tl th : TO) : TG := fun v σ H Q => to σ H fun o H1 => tl σ H1 fun l H2 => th σ H2 fun h H3 => ∃ (lA b : Addr) (xs ys : List V) (a c : Int), o = .ref lA ∧ v = .ref b ∧ l = some a ∧ h = some c ∧ H3 lA = some (.lst xs) ∧ H3 b = some (.lst ys) ∧ lA ≠ b ∧ 0 ≤ a ∧ a ≤ c ∧ c ≤ xs.length ∧
  xs.length + ys.length ≤ sizeLine ∧ Q σ (upd H3 lA (.lst (xs.take a.toNat ++ ys ++ xs.drop c.toNat)))
theorem pg_subSl {o : Expr} {lo hi : Option Expr} {to : TE} {tl th : TO} {p2 pos : Pos} (ho : PE X o to) (hl : PO X lo tl) (hu : PO X hi th)
    (ha : ∀ v, assign (.Subscript o (.Slice lo hi none p2) pos) X.env v = (do
      let ov ← holding [v] (eval o X.env)
      let iv ← holding [v, ov] (eval (.Slice lo hi none p2) X.env)
      standAt pos
      holding [v, ov, iv] (setItem ov iv v)
      release [iv, v, ov] []) := by intro _; rfl) : PG X (.Subscript o (.Slice lo hi none p2) pos) (gSubSl to tl th) := by
  refine ⟨fun pins s σ H v u Q I r h => ?_⟩
  rw [ha]
  refine wpAny_bind (wpAny_holding (thn (ho.run pins s σ H _ I h) fun ov s1 ⟨x, H1, I1, r1, q1⟩ => ?_))
  refine wpAny_bind (wpAny_holding ?_)
  refine wpAny_Slice (thn (hl.run pins s1 σ H1 _ I1 q1) fun vl s2 ⟨l, H2, I2, pl, q2⟩ => thn (hu.run pins s2 σ H2 _ I2 q2) fun vu s3 ⟨w, H3, I3, pu, q3⟩ => ?_)
  rw [evalPart_none]
  refine wpAny_pure ?_
  have I4 : Inv X pins σ H3 { s3 with heap := s3.heap.push { cls := .type "slice", data := .fields #[vl, vu, .none] } } := I3.kept (t' := s3.toks) fun b ob q => Heap.get?_push_of_some _ q
  obtain ⟨lA, b, xs, ys, a, c, rfl, rfl, rfl, rfl, hA, hB, hne, a0, ac, cx, hz, q⟩ := q3
  obtain rfl : ov = .ref lA := r1
  obtain rfl : u = .ref b := r
  cases pl
  cases pu
  refine wpAny_bind (wpAny_standAt (wpAny_bind (wpAny_holding ?_)))
  refine set_slice I4 hA hB hne (Heap.IsSliceOf.new ..) ⟨_, rfl⟩ ⟨_, rfl⟩ a0 ac cx hz fun s' I5 => ?_
  exact wpAny_release ⟨σ, _, I5, q⟩
/-- the list, the one whose items come in: both own, not the same -/
def zSetSl (fo : DTE) (fl fh : DTO) : DTG := fun x ρ μ Q => fo ρ μ fun o μ1 => fl ρ μ1 fun l μ2 => fh ρ μ2 fun h μ3 => match o, x, l, h with
  | .ptr a, .ptr b, some i, some k => ∃ (j m : Nat) (xs ys : List Val), μ3[j]? = some (a, Node.lst xs) ∧ μ3[m]? = some (b, Node.lst ys) ∧ j ≠ m ∧ 0 ≤ i ∧ i ≤ k ∧ k ≤ xs.length ∧ xs.length + ys.length ≤ sizeLine ∧ Q ρ (μ3.set j (a, .lst (xs.take i.toNat ++ ys ++ xs.drop k.toNat)))
  | _, _, _, _ => False
theorem dg_setSl {o : Expr} {lo hi : Option Expr} {fo : DTE} {fl fh : DTO} {p2 pos : Pos} (ho : DE X o fo) (hl : DO X lo fl) (hu : DO X hi fh)
    (ha : ∀ v, assign (.Subscript o (.Slice lo hi none p2) pos) X.env v = (do
      let ov ← holding [v] (eval o X.env)
      let iv ← holding [v, ov] (eval (.Slice lo hi none p2) X.env)
      standAt pos
      holding [v, ov, iv] (setItem ov iv v)
      release [iv, v, ov] []) := by intro _; rfl) : DG X (.Subscript o (.Slice lo hi none p2) pos) (zSetSl fo fl fh) :=
  ⟨fun B => PG.weak (pg_subSl (ho.run B) (hl.run B) (hu.run B) ha) fun v σ H Q ⟨hv, hx, x, ρ, μ, Q0, l, R, q, low⟩ => by
    refine ⟨some v :: hv, some x :: hx, ρ, μ, _, by simp [l], R, q, fun o μ1 q1 vo H1 R1 => ?_⟩
    refine ⟨some vo :: some v :: hv, some o :: some x :: hx, ρ, μ1, _, by simp [l], R1, q1, fun i μ2 q2 H2 R2 => ?_⟩
    refine ⟨some vo :: some v :: hv, some o :: some x :: hx, ρ, μ2, _, by simp [l], R2, q2, fun k μ3 q3 H3 R3 => ?_⟩
    have R3 : RL X.w X.K B H3 (some vo :: some v :: (hv ++ σ)) (some o :: some x :: (hx ++ ρ)) μ3 := R3
    have ho := R3.head
    have hx2 := R3.tail.head
    match o, x, i, k, q3, R3, ho, hx2 with
    | .ptr a, .ptr b, some i, some k, q3, R3, ho, hx2 =>
      cases (ho : vo = .ref a)
      cases (hx2 : v = .ref b)
      obtain ⟨j, m, xs, ys, hj, hm, hjm, i0, ik, kx, hz, q4⟩ := q3
      obtain ⟨us, e1, p1⟩ := R3.at hj
      obtain ⟨ws, e2, p2⟩ := R3.at hm
      have ne : a ≠ b := fun e => by
        subst e
        have nd := R3.nd
        rw [List.map_append, List.nodup_append] at nd
        have n2 := nd.2.1
        have a1 : (μ3.map (·.1))[j]? = some a := by rw [List.getElem?_map, hj]; rfl
        have a2 : (μ3.map (·.1))[m]? = some a := by rw [List.getElem?_map, hm]; rfl
        exact hjm ((List.getElem?_inj (List.getElem?_eq_some_iff.mp a1).1 n2).mp (a1.trans a2.symm))
      refine ⟨a, b, us, ws, i, k, rfl, rfl, rfl, rfl, e1, e2, ne, i0, ik, by rw [p1.length]; exact kx, by rw [p1.length, p2.length]; exact hz, low _ _ q4 _ _ ?_⟩
      have pr := paired_app (paired_app (paired_take i.toNat p1) p2) (paired_drop k.toNat p1)
      exact (R3.tail.tail.put (n' := .lst (xs.take i.toNat ++ ys ++ xs.drop k.toNat)) hj ⟨_, upd_same, pr⟩)⟩
end
end Zl
/-! zip of two lists of data -/
namespace Zl
open PySem PySem.Spec PyProof.Rows L2 Lf
def zipZ (ds es : List PyData) : List Val := (ds.zip es).map fun q => .dat (.tuple [q.1, q.2])
theorem zipZ_len (ds es : List PyData) : (zipZ ds es).length = min ds.length es.length := by
  unfold zipZ
  rw [List.length_map, List.length_zip]
section
variable {X : Cx} {B : Base}
theorem seq_zip {a b : Addr} {ds es : List PyData} {ok : Store → Prop} (hm : ∀ μ q, ok μ → ok (μ ++ [q]))
    (h1 : ∀ σ' ρ' H' μ', RL X.w X.K B H' σ' ρ' μ' → ok μ' → ∃ vs, SqL X.K H' a vs ∧ Paired (RV X.K (Fz (B.fr ++ μ') H')) vs (ds.map Val.dat))
    (h2 : ∀ σ' ρ' H' μ', RL X.w X.K B H' σ' ρ' μ' → ok μ' → ∃ vs, SqL X.K H' b vs ∧ Paired (RV X.K (Fz (B.fr ++ μ') H')) vs (es.map Val.dat)) :
    SeqZ X B (Itz X.K a b) (zipZ ds es) ok := by
  refine ⟨fun σ ρ H μ i R k hi => ?_, fun σ ρ H μ R k => ?_, hm⟩
  · obtain ⟨vs, s1, p1⟩ := h1 σ ρ H μ R k
    obtain ⟨us, s2, p2⟩ := h2 σ ρ H μ R k
    rw [zipZ_len] at hi
    have l1 : i < ds.length := by omega
    have l2 : i < es.length := by omega
    have e1 : (ds.map Val.dat)[i]? = some (.dat ds[i]) := by rw [List.getElem?_map, List.getElem?_eq_getElem l1]; rfl
    have e2 : (es.map Val.dat)[i]? = some (.dat es[i]) := by rw [List.getElem?_map, List.getElem?_eq_getElem l2]; rfl
    obtain ⟨v, ev, rv⟩ := paired_get p1 e1
    obtain ⟨u, eu, ru⟩ := paired_get p2 e2
    refine ⟨⟨vs, us, v, u, s1, s2, ev, eu⟩, fun z H' y => ?_⟩
    obtain ⟨T, x', y', rfl, hT, rfl, y1, y2⟩ := y
    have q1 := y1 vs s1
    rw [ev] at q1
    cases q1
    have q2 := y2 us s2
    rw [eu] at q2
    cases q2
    refine ⟨.dat (.tuple [ds[i], es[i]]), ?_, ?_⟩
    · unfold zipZ
      rw [List.getElem?_map, (show (ds.zip es)[i]? = some (ds[i], es[i]) from List.getElem?_zip_eq_some.mpr ⟨List.getElem?_eq_getElem l1, List.getElem?_eq_getElem l2⟩)]
      rfl
    · obtain ⟨R2, g, ep⟩ := R.newZ (o := .tup [v, u]) hT
      exact R2.cons (x := .dat (.tuple [_, _])) (Dz.tup ep (.cons (Dz.mono g _ _ rv) (.cons (Dz.mono g _ _ ru) .nil)))
  · obtain ⟨vs, s1, p1⟩ := h1 σ ρ H μ R k
    obtain ⟨us, s2, p2⟩ := h2 σ ρ H μ R k
    refine ⟨vs, us, s1, s2, ?_⟩
    rw [zipZ_len]
    have l1 := p1.length
    have l2 := p2.length
    rw [List.length_map] at l1 l2
    omega
end
section
variable {X : Cx}
abbrev dZip (g : DTA) : DTI := fun ρ μ Q => g ρ μ fun xs μ1 => match xs with
  | [x, y] => ∃ ds es : List PyData, Its μ1 x false (ds.map .dat) ∧ Its μ1 y false (es.map .dat) ∧ Q (zipZ ds es) (fun μ => keeps x (ds.map .dat) μ ∧ keeps y (es.map .dat) μ) μ1
  | _ => False
theorem keeps_more {x : Val} {xs : List Val} (μ : Store) (q : Addr × Node) (k : keeps x xs μ) : keeps x xs (μ ++ [q]) := by
  unfold keeps at k ⊢
  split at k
  · obtain ⟨j, hj⟩ := k
    exact ⟨j, by rw [List.getElem?_append_left (List.getElem?_eq_some_iff.mp hj).1]; exact hj⟩
  · trivial
theorem di_zip {e e2 : Expr} {g : DTA} {p pos tpos : Pos} {elts : List Expr} {kk : Nat} (hg : Gl X "zip") (hm : X.mg "zip" = none) (ha : DA X [e, e2] g)
    (hs : starEach [e, e2] X.env = (false, eval e X.env) :: starEach [e2] X.env := by rfl) (hpl : (backTo pos (starEach [e2] X.env)).any (·.1) = false := by rfl) :
    DI X (.Tuple elts kk tpos) (.Call (.Name "zip" p) [e, e2] [] pos) (dZip g) :=
  ⟨fun B => PI.weak (pi_zip hg hm (ha.run B) hs hpl) fun σ H R q => by
    obtain ⟨hv, hx, ρ, μ, Q0, hl, R0, q, low⟩ := q
    refine ⟨hv, hx, ρ, μ, _, hl, R0, q, fun xs μ1 q vs H1 l R1 => ?_⟩
    match xs, vs, l, R1, q with
    | [x, y], [v, u], l, R1, q =>
      have R1 : RL X.w X.K B H1 (some v :: some u :: (hv ++ σ)) (some x :: some y :: (hx ++ ρ)) μ1 := R1
      obtain ⟨ds, es, h1, h2, q⟩ := q
      obtain ⟨a, ea, ⟨vs1, ex1⟩, st1⟩ := its_firm R1 h1 R1.head
      obtain ⟨b, eb, ⟨vs2, ex2⟩, st2⟩ := its_firm R1 h2 R1.tail.head
      subst ea
      subst eb
      exact ⟨a, b, vs1, vs2, rfl, ex1, ex2, low _ _ _ q _ _ R1.tail.tail (seq_zip (fun μ q k => ⟨keeps_more μ q k.1, keeps_more μ q k.2⟩) (fun σ' ρ' H' μ' R' k => st1 σ' ρ' H' μ' R' k.1) (fun σ' ρ' H' μ' R' k => st2 σ' ρ' H' μ' R' k.2))⟩⟩
end
end Zl
/-! lists of lists are lent, however deep; what the def gives is made of no list -/
namespace Zl
open PySem PySem.Spec PyProof.Rows L2 Lf
section
variable {w : World} {K : PySem.W.Frag} {B : Base} {H : Hp} {σ : List (Option V)} {ρ : DR} {μ : Store}
mutual
theorem DView.dz (R : RL w K B H σ ρ μ) : ∀ (d : PyData) (x : Val) (v : V), DView μ x d → RV K (Fz (B.fr ++ μ) H) v x → Dz H v d
  | .none, _, _, h, r => by cases h; exact Dz.mono fz_le _ _ r
  | .bool _, _, _, h, r => by cases h; exact Dz.mono fz_le _ _ r
  | .int _, _, _, h, r => by cases h; exact Dz.mono fz_le _ _ r
  | .str _, _, _, h, r => by cases h; exact Dz.mono fz_le _ _ r
  | .dict _, _, _, h, r => by cases h; exact Dz.mono fz_le _ _ r
  | .list ds, _, v, h, r => by
    cases h with
    | dat => exact Dz.mono fz_le _ _ r
    | lst j hj hs =>
      obtain ⟨vs, e, pr⟩ := R.at hj
      cases (r : v = .ref _)
      exact .lst e (DViews.dz R ds _ vs hs pr)
  | .tuple ds, _, v, h, r => by
    cases h with
    | dat => exact Dz.mono fz_le _ _ r
    | tpl hs =>
      obtain ⟨t, vs, rfl, et, pr⟩ := (r : ∃ t vs, v = .ref t ∧ _)
      exact .tup (fz_le _ _ et) (DViews.dz R ds _ vs hs (rp_vals pr))
theorem DViews.dz (R : RL w K B H σ ρ μ) : ∀ (ds : List PyData) (xs : List Val) (vs : List V), DViews μ xs ds → Paired (RV K (Fz (B.fr ++ μ) H)) vs xs → DzAll H vs ds
  | [], _, _, h, r => by
    cases h
    cases r
    exact .nil
  | d :: ds, _, _, h, r => by
    cases h with
    | cons h1 h2 =>
      cases r with
      | cons r1 r2 => exact .cons (DView.dz R d _ _ h1 r1) (DViews.dz R ds _ _ h2 r2)
end
end
section
variable {X : Cx} {k : Nat} {ps : List Str} {F : DSp}
inductive LentN (μ : Store) : Val → Val → Prop
  | keep (x : Val) : LentN μ x x
  | n {x : Val} {d : PyData} : DView μ x d → LentN μ x (.dat d)
def lendN (F : DSp) (xs : List Val) (μ : Store) (Q : DK) : Prop := ∃ ys, Paired (LentN μ) xs ys ∧ F ys [] fun x ν => (flatV x ∧ ∀ p ∈ ν, flatN p.2) ∧ Q x (μ ++ ν)
theorem lentN_at {B : Base} {H : Hp} {μ : Store} {σ : List (Option V)} {ρ : DR} (R : RL X.w X.K B H σ ρ μ) {v : V} {x y : Val} (r : RV X.K (Fz (B.fr ++ μ) H) v x) (l : LentN μ x y) : RV X.K H v y := by
  cases l with
  | keep => exact RV.mono fz_le r
  | n h => exact DView.dz R _ _ _ h r
theorem lentN_all {B : Base} {H : Hp} {μ : Store} {σ : List (Option V)} {ρ : DR} (R : RL X.w X.K B H σ ρ μ) : ∀ {vs : List V} {xs ys : List Val}, Paired (LentN μ) xs ys → Paired (RVo X.K (Fz (B.fr ++ μ) H)) (vs.map some) (xs.map some) → Paired (RVo X.K H) (vs.map some) (ys.map some)
  | [], [], _, .nil, _ => .nil
  | [], _ :: _, _, _, h => by cases h
  | _ :: _, [], _, _, h => by cases h
  | v :: vs, x :: xs, _, .cons l t, h => by
    cases h with
    | cons r h => exact .cons (lentN_at R (v := v) (x := x) r l) (lentN_all R t h)
theorem lendN_call {B : Base} {H : Hp} {σ : List (Option V)} {ρ : DR} {μ : Store} {vs : List V} {xs : List Val} {Q0 : DK} {Q : VK} (l : vs.length = xs.length) (R : RL X.w X.K B H (vs.map some ++ σ) (xs.map some ++ ρ) μ) (h : lendN F xs μ Q0) (low : Low X B σ ρ Q0 Q) : spZ X.w X.K (Cl F) vs H Q E0 := by
  obtain ⟨ys, le, f⟩ := h
  have fn : Fz [] H = H := by
    funext x
    unfold Fz
    simp
  have sl := (paired_split (by simp [l]) R.sl).1
  have sr := (paired_split (by simp [l]) R.sl).2
  have ly : xs.length = ys.length := le.length
  have rel := lentN_all R le sl
  refine ⟨⟨H, []⟩, ys, [], _, by omega, ⟨by simp, fun x o h => by rw [show (([] : Store) ++ []) = [] from rfl, fn]; exact h, by rw [show (([] : Store) ++ []) = [] from rfl, fn]; exact rel, fun p hp => by simp at hp⟩, ⟨_, f, fun x ν q => q⟩, fun x ν ⟨⟨fx, fν⟩, q⟩ v H' R2 => low x _ q v H' ?_⟩
  have b2 : ∀ x o, H x = some o → x ∉ ν.map (·.1) ∧ H' x = some o := fun x o e => Fz.sub (R2.base x o e)
  have same : ∀ q ∈ B.fr ++ μ, H' q.1 = H q.1 := fun q hq => by
    cases e : H q.1 with
    | none => exact absurd e (R.st q hq).live
    | some o => exact (b2 _ _ e).2
  have out : ∀ q ∈ B.fr ++ μ, q.1 ∉ ν.map (·.1) := fun q hq => by
    cases e : H q.1 with
    | none => exact absurd e (R.st q hq).live
    | some o => exact (b2 _ _ e).1
  have g3 : ∀ x o, Fz (B.fr ++ μ) H x = some o → Fz (B.fr ++ (μ ++ ν)) H' x = some o := fun x o h => by
    obtain ⟨h1, h2⟩ := Fz.sub h
    obtain ⟨h3, h4⟩ := b2 _ _ h2
    refine Fz.of (fun z => ?_) h4
    rw [← List.append_assoc, List.map_append] at z
    rcases List.mem_append.mp z with z | z
    · exact h1 z
    · exact h3 z
  have tp : Vd.Tups (Fz ν H') (Fz (B.fr ++ (μ ++ ν)) H') := fun x us e => by
    obtain ⟨h1, h2⟩ := Fz.sub e
    refine Fz.of (fun z => ?_) h2
    rw [← List.append_assoc, List.map_append] at z
    rcases List.mem_append.mp z with z | z
    · obtain ⟨q, hq, rfl⟩ := List.mem_map.mp z
      rw [same q hq] at h2
      exact (R.st q hq).noTup h2
    · exact h1 z
  have nd2 : (ν.map (·.1)).Nodup := R2.nd
  refine ⟨?_, fun x o h => g3 _ _ (R.base x o h), .cons (RV.keep (v := v) tp fx R2.head) (L2.Paired.mapP sr fun _ _ => RVo.mono g3), fun q hq => ?_⟩
  · rw [← List.append_assoc, List.map_append, List.nodup_append]
    refine ⟨R.nd, nd2, fun x hx y hy e => ?_⟩
    obtain ⟨q, hq, rfl⟩ := List.mem_map.mp hx
    exact out q hq (by rw [e]; exact hy)
  · rw [← List.append_assoc] at hq
    rcases List.mem_append.mp hq with hq | hq
    · exact (R.st q hq).mono g3 (same q hq)
    · exact RN.keep tp (fν q hq) (R2.st q hq)
abbrev dOwnLN (F : DSp) (g : DTA) : DTE := fun ρ μ Q => g ρ μ fun xs μ1 => lendN F xs μ1 Q
variable {x : Str} {e : Expr} {es : List Expr} {g : DTA} {p pos : Pos}
theorem d_ownLN (M : CalZ X.prog X.w X.K X.mg X.base k x ps F) (hr : Room k X.A) (hg : Gl X x) (ha : DA X (e :: es) g)
    (hdb : (x == ("__debug__" : Str)) = false := by decide) (he : starEach (e :: es) X.env = (false, eval e X.env) :: starEach es X.env := by rfl) (hpl : (backTo pos (starEach es X.env)).any (·.1) = false := by rfl) :
    DE X (.Call (.Name x p) (e :: es) [] pos) (dOwnLN F g) :=
  ⟨fun B => PE.weak (pe_own (cal_cl M) hr hg (ha.run B) hdb he hpl) fun σ H Q ⟨hv, hx, ρ, μ, Q0, hl, R0, h, low⟩ => by
    refine ⟨hv, hx, ρ, μ, _, hl, R0, h, fun xs μ1 h1 vs H1 l R1 => ?_⟩
    show spZ _ _ _ (vs ++ []) _ _ _
    rw [List.append_nil]
    exact lendN_call l R1 h1 low⟩
end
end Zl
/-! xs[k:k] = ys, k anywhere from 0 on -/
namespace Zl
open PySem PySem.Spec PyProof.Rows L2 Lf
theorem cut_here (k n : Nat) : sliceBounds (some (k : Int)) (some (k : Int)) none n = (((min k n : Nat) : Int), ((min k n : Nat) : Int), 1) := by
  have nn : ¬ ((k : Int) < 0) := by omega
  unfold sliceBounds
  simp only [Option.getD_none, nn, if_false, if_pos (show (1 : Int) > 0 from by decide)]
  have em : max 0 (min (k : Int) n) = ((min k n : Nat) : Int) := by omega
  rw [em]
theorem put_here (xs ys : List Value) (k : Nat) : xs.toArray.extract 0 (min k xs.toArray.size) ++ ys.toArray ++ xs.toArray.extract (min k xs.toArray.size) xs.toArray.size = (xs.take k ++ ys ++ xs.drop k).toArray := by
  rw [L2.splice_eq]
  rcases Nat.le_total k xs.length with h | h
  · rw [show min k xs.toArray.size = k from Nat.min_eq_left (by rw [List.size_toArray]; exact h)]
  · rw [show min k xs.toArray.size = xs.length from Nat.min_eq_right (by rw [List.size_toArray]; exact h)]
    rw [List.take_of_length_le (Nat.le_refl _), List.drop_of_length_le (Nat.le_refl _), List.take_of_length_le h, List.drop_of_length_le h]
section
variable {prog : Program} {w : World} {A : Around} {E : Value → Shared → Prop} {t : Shared}
theorem setItem_here {o p z : Addr} {us ws : Array Value} {i j : Nat} {vl vu : Value} {k : Nat} {Q : Unit → Shared → Prop}
    (ho : t.heap.get? o = some { cls := .type "list", data := .seq us i }) (hp : t.heap.get? p = some { cls := .type "list", data := .seq ws j }) (op : o ≠ p)
    (hz : t.heap.IsSliceOf z vl vu .none) (p1 : IsPart vl (some (k : Int))) (p2 : IsPart vu (some (k : Int))) (room : us.size + ws.size ≤ sizeLine)
    (q : Q () { t with heap := t.heap.update o (Obj.mapSeq fun l => l.extract 0 (min k us.size) ++ ws ++ l.extract (min k us.size) l.size) }) :
    wpAny (model prog w) A (setItem (.ref o) (.ref z) (.ref p)) Q E t := by
  have lo : t.heap.IsList o us := PySem.IsL.isList ho
  have lp : t.heap.IsList p ws := PySem.IsL.isList hp
  obtain ⟨oz, gz, cz, dz⟩ := id hz
  have tz : t.TypeIs (.ref z) "slice" := ⟨oz, gz, cz⟩
  have noStep : ¬ ((rawPart none == rawInt 0) = true) := Bool.false_ne_true
  have unlike : Builtin.List.listSameRef (.ref o) (.ref p) = false := beq_eq_false_iff_ne.mpr op
  have big : ((fun l : Array Value => l.extract 0 (min k us.size) ++ ws ++ l.extract (min k us.size) l.size) us).size ≤ sizeLine + 1 := by
    have := Nat.min_le_right k us.size
    simp only [Array.size_append, Array.size_extract]
    omega
  have mx : (max ((min k us.size : Nat) : Int) ((min k us.size : Nat) : Int)).toNat = min k us.size := by omega
  unfold setItem
  try with_reducible refine wpAny_holding ?_
  first | refine wpAny_bind (wpAny_pure ?_) | skip
  refine wpAny_bind (wpAny_sequenceKey lo.typeIs (by decide) ?_)
  refine wpAny_bind (wpAny_callSpecial?_slot (name := Str.ofString "__setitem__") lo.typeIs slot_list_setitem (wpAny_call_entry slot_list_setitem lo.typeIs entry_list_setitem ?_ (args_list_setitem _ _ _)))
  show wpAny _ _ (Builtin.List.listSubscript? (.ref z) >>= _) _ _ t
  refine wpAny_bind ?_
  unfold Builtin.List.listSubscript?
  refine wpAny_bind (wpAny_specialOf tz slice_no_index ?_)
  simp only [Option.isNone_none, if_true]
  refine wpAny_pure ?_
  show wpAny _ _ (typeOf (.ref z) >>= _) _ _ t
  refine wpAny_bind (wpAny_typeOf tz ?_)
  first | rw [if_neg (by decide)] | refine PySem.W.KFB.if_not (by decide) ?_
  rw [listSliceParts_eq]
  refine wpAny_bind (wpAny_bind (wpAny_field gz dz (x := .none) rfl (wpAny_bind (wpAny_listPart .none ?_))))
  rw [if_neg noStep]
  refine wpAny_bind (wpAny_field gz dz (x := vl) rfl (wpAny_bind (wpAny_listPart p1 ?_)))
  refine wpAny_bind (wpAny_field gz dz (x := vu) rfl (wpAny_bind (wpAny_listPart p2 (wpAny_pure ?_))))
  first | simp only [unlike, Bool.false_eq_true, if_false] | refine PySem.W.KFB.if_not unlike ?_ | (dsimp only; rw [if_neg (by rw [unlike]; exact Bool.false_ne_true)])
  refine wpAny_bind (m := Builtin.List.listAllItems (.ref p) "must assign iterable to extended slice") ?_
  unfold Builtin.List.listAllItems
  refine wpAny_bind (wpAny_typeOf lp.typeIs ?_)
  first | refine PySem.W.KFB.if_so (by decide) ?_ | rw [if_pos (by decide)] | simp only [beq_self_eq_true, Bool.true_or, if_true]
  unfold Builtin.List.listItems
  refine wpAny_bind (wpAny_seqItems hp rfl (wpAny_pure ?_))
  refine wpAny_bind (wpAny_bind (wpAny_seqItems ho rfl (wpAny_pure ?_)))
  refine wpAny_bind (wpAny_of_eq ((sliceIndices_raw (some (k : Int)) (some (k : Int)) none us.size (by simp)).trans (congrArg (pure : Int × Int × Int → Sem (Int × Int × Int)) (cut_here k us.size))) ?_)
  show wpAny _ _ (if ((1 : Int) == 1) = true then _ else _) _ _ t
  rw [if_pos (by decide)]
  refine wpAny_bind (wpAny_rule ?_)
  first | simp only [notLongL room, Bool.false_eq_true, if_false] | refine PySem.W.KFB.if_not (notLongL room) ?_
  first | refine wpAny_bind (wpAny_pure ?_) | skip
  show wpAny _ _ (updateSeq o (fun l => l.extract 0 ((min k us.size : Nat) : Int).toNat ++ ws ++ l.extract (max ((min k us.size : Nat) : Int) ((min k us.size : Nat) : Int)).toNat l.size) >>= _) _ _ t
  rw [mx, Int.toNat_natCast]
  refine wpAny_bind (wpAny_updateSeq (hz := Nat.le_trans (Nat.le_add_right _ _) room) (_hz' := big) ho rfl ?_)
  refine wpAny_bind (wpAny_letGo ?_)
  first | exact wpAny_bind (wpAny_pure (wpAny_pure ⟨.none, rfl, wpAny_pure q⟩)) | exact wpAny_pure ⟨.none, rfl, wpAny_pure q⟩
end
section
variable {X : Cx}
theorem set_here {pins : List (Addr × Obj)} {s : Shared} {σ : L2.St} {H : Hp} {o p z : Addr} {xs ys : List V} {k : Nat} {vl vu : Value} {Q : Unit → Shared → Prop} (I : Inv X pins σ H s)
    (ho : H o = some (.lst xs)) (hp : H p = some (.lst ys)) (op : o ≠ p) (hs : s.heap.IsSliceOf z vl vu .none) (ra : RelV (.int (k : Int)) vl) (rc : RelV (.int (k : Int)) vu)
    (room : xs.length + ys.length ≤ sizeLine) (h : ∀ s', Inv X pins σ (upd H o (.lst (xs.take k ++ ys ++ xs.drop k))) s' → Q () s') :
    wpAny (model X.prog X.w) X.A (setItem (.ref o) (.ref z) (.ref p)) Q X.xe s := by
  obtain ⟨ta, rfl⟩ := ra
  obtain ⟨tc, rfl⟩ := rc
  obtain ⟨z1, i1, n1, r1, l1, e1⟩ := I.lstM ho
  obtain ⟨z2, i2, n2, r2, l2, e2⟩ := I.lstM hp
  refine setItem_here (k := k) e1 e2 op hs (.int _ _) (.int _ _) (by rw [List.size_toArray, List.size_toArray]; omega) (h _ ?_)
  refine I.lset (its' := i1.take k ++ i2 ++ i1.drop k) (t' := s.toks) ho e1 (put_here i1 i2 k) (Vals.append (Vals.append (r1.take _) r2) (r1.drop _)) ?_
  rw [List.length_append, List.length_append, List.length_take, List.length_drop]
  omega
def gSubHere (to : TE) (tl th : TO) : TG := fun v σ H Q => to σ H fun o H1 => tl σ H1 fun l H2 => th σ H2 fun h H3 => ∃ (lA b : Addr) (xs ys : List V) (k : Nat), o = .ref lA ∧ v = .ref b ∧ l = some (k : Int) ∧ h = some (k : Int) ∧ H3 lA = some (.lst xs) ∧ H3 b = some (.lst ys) ∧ lA ≠ b ∧
  xs.length + ys.length ≤ sizeLine ∧ Q σ (upd H3 lA (.lst (xs.take k ++ ys ++ xs.drop k)))
theorem pg_subHere {o : Expr} {lo hi : Option Expr} {to : TE} {tl th : TO} {p2 pos : Pos} (ho : PE X o to) (hl : PO X lo tl) (hu : PO X hi th)
    (ha : ∀ v, assign (.Subscript o (.Slice lo hi none p2) pos) X.env v = (do
      let ov ← holding [v] (eval o X.env)
      let iv ← holding [v, ov] (eval (.Slice lo hi none p2) X.env)
      standAt pos
      holding [v, ov, iv] (setItem ov iv v)
      release [iv, v, ov] []) := by intro _; rfl) : PG X (.Subscript o (.Slice lo hi none p2) pos) (gSubHere to tl th) := by
  refine ⟨fun pins s σ H v u Q I r h => ?_⟩
  rw [ha]
  refine wpAny_bind (wpAny_holding (thn (ho.run pins s σ H _ I h) fun ov s1 ⟨x, H1, I1, r1, q1⟩ => ?_))
  refine wpAny_bind (wpAny_holding ?_)
  refine wpAny_Slice (thn (hl.run pins s1 σ H1 _ I1 q1) fun vl s2 ⟨l, H2, I2, pl, q2⟩ => thn (hu.run pins s2 σ H2 _ I2 q2) fun vu s3 ⟨w, H3, I3, pu, q3⟩ => ?_)
  rw [evalPart_none]
  refine wpAny_pure ?_
  have I4 : Inv X pins σ H3 { s3 with heap := s3.heap.push { cls := .type "slice", data := .fields #[vl, vu, .none] } } := I3.kept (t' := s3.toks) fun b ob q => Heap.get?_push_of_some _ q
  obtain ⟨lA, b, xs, ys, k, rfl, rfl, rfl, rfl, hA, hB, hne, hz, q⟩ := q3
  obtain rfl : ov = .ref lA := r1
  obtain rfl : u = .ref b := r
  cases pl
  cases pu
  refine wpAny_bind (wpAny_standAt (wpAny_bind (wpAny_holding ?_)))
  refine set_here I4 hA hB hne (Heap.IsSliceOf.new ..) ⟨_, rfl⟩ ⟨_, rfl⟩ hz fun s' I5 => ?_
  exact wpAny_release ⟨σ, _, I5, q⟩
/-- the list, the one whose items come in: both own, not the same; k anywhere -/
def zSetHere (fo : DTE) (fl fh : DTO) : DTG := fun x ρ μ Q => fo ρ μ fun o μ1 => fl ρ μ1 fun l μ2 => fh ρ μ2 fun h μ3 => match o, x, l, h with
  | .ptr a, .ptr b, some i, some k => ∃ (j m n : Nat) (xs ys : List Val), μ3[j]? = some (a, Node.lst xs) ∧ μ3[m]? = some (b, Node.lst ys) ∧ j ≠ m ∧ i = n ∧ k = n ∧ xs.length + ys.length ≤ sizeLine ∧ Q ρ (μ3.set j (a, .lst (xs.take n ++ ys ++ xs.drop n)))
  | _, _, _, _ => False
theorem dg_setHere {o : Expr} {lo hi : Option Expr} {fo : DTE} {fl fh : DTO} {p2 pos : Pos} (ho : DE X o fo) (hl : DO X lo fl) (hu : DO X hi fh)
    (ha : ∀ v, assign (.Subscript o (.Slice lo hi none p2) pos) X.env v = (do
      let ov ← holding [v] (eval o X.env)
      let iv ← holding [v, ov] (eval (.Slice lo hi none p2) X.env)
      standAt pos
      holding [v, ov, iv] (setItem ov iv v)
      release [iv, v, ov] []) := by intro _; rfl) : DG X (.Subscript o (.Slice lo hi none p2) pos) (zSetHere fo fl fh) :=
  ⟨fun B => PG.weak (pg_subHere (ho.run B) (hl.run B) (hu.run B) ha) fun v σ H Q ⟨hv, hx, x, ρ, μ, Q0, l, R, q, low⟩ => by
    refine ⟨some v :: hv, some x :: hx, ρ, μ, _, by simp [l], R, q, fun o μ1 q1 vo H1 R1 => ?_⟩
    refine ⟨some vo :: some v :: hv, some o :: some x :: hx, ρ, μ1, _, by simp [l], R1, q1, fun i μ2 q2 H2 R2 => ?_⟩
    refine ⟨some vo :: some v :: hv, some o :: some x :: hx, ρ, μ2, _, by simp [l], R2, q2, fun k μ3 q3 H3 R3 => ?_⟩
    have R3 : RL X.w X.K B H3 (some vo :: some v :: (hv ++ σ)) (some o :: some x :: (hx ++ ρ)) μ3 := R3
    have ho := R3.head
    have hx2 := R3.tail.head
    match o, x, i, k, q3, R3, ho, hx2 with
    | .ptr a, .ptr b, some i, some k, q3, R3, ho, hx2 =>
      cases (ho : vo = .ref a)
      cases (hx2 : v = .ref b)
      obtain ⟨j, m, n, xs, ys, hj, hm, hjm, rfl, rfl, hz, q4⟩ := q3
      obtain ⟨us, e1, p1⟩ := R3.at hj
      obtain ⟨ws, e2, p2⟩ := R3.at hm
      have ne : a ≠ b := fun e => by
        subst e
        have nd := R3.nd
        rw [List.map_append, List.nodup_append] at nd
        have n2 := nd.2.1
        have a1 : (μ3.map (·.1))[j]? = some a := by rw [List.getElem?_map, hj]; rfl
        have a2 : (μ3.map (·.1))[m]? = some a := by rw [List.getElem?_map, hm]; rfl
        exact hjm ((List.getElem?_inj (List.getElem?_eq_some_iff.mp a1).1 n2).mp (a1.trans a2.symm))
      refine ⟨a, b, us, ws, n, rfl, rfl, rfl, rfl, e1, e2, ne, by rw [p1.length, p2.length]; exact hz, low _ _ q4 _ _ ?_⟩
      have pr := paired_app (paired_app (paired_take n p1) p2) (paired_drop n p1)
      exact (R3.tail.tail.put (n' := .lst (xs.take n ++ ys ++ xs.drop n)) hj ⟨_, upd_same, pr⟩)⟩
end
end Zl
/-! x is True, x is not False: both truths -/
namespace Zl
open PySem PySem.Spec PyProof.Rows L2 Lf
section
variable {X : Cx}
def zIsB (g : Bool → Bool) : DR2 := fun x y μ Q => match x, y with | .dat (.bool a), .dat (.bool b) => Q (.dat (.bool (g (decide (a = b))))) μ | _, _ => False
theorem oz_isB : OpZ X (compareOp .Is) (zIsB id) := ⟨_, op_isBl, fun B σ ρ H μ u v x y Q0 Q R q low => by
  unfold zIsB at q
  split at q
  · rename_i a b
    cases (R.head : Dz _ v (.bool _))
    cases (R.tail.head : Dz _ u (.bool _))
    exact ⟨a, b, rfl, rfl, low _ _ q _ _ (R.tail.tail.cons (x := .dat (.bool _)) (Dz.bl _))⟩
  · exact q.elim⟩
theorem oz_notB : OpZ X (compareOp .IsNot) (zIsB not) := ⟨_, op_notBl, fun B σ ρ H μ u v x y Q0 Q R q low => by
  unfold zIsB at q
  split at q
  · rename_i a b
    cases (R.head : Dz _ v (.bool _))
    cases (R.tail.head : Dz _ u (.bool _))
    exact ⟨a, b, rfl, rfl, low _ _ q _ _ (R.tail.tail.cons (x := .dat (.bool _)) (Dz.bl _))⟩
  · exact q.elim⟩
end
end Zl
/-! i += e, of a plain name -/
namespace Zl
open PySem PySem.Spec PyProof.Rows L2 Lf
section
variable {X : Cx}
theorem ds_aug {i : Nat} {x : Str} {e : Expr} {f : DTE} {op : Operator} {g : Int → Int → Int} {pos' pos : Pos} (hN : X.N.Nodup) (hi : X.N[i]? = some x) (hx : Loc X.env.scope x) (he : DE X e f) (ho : PIp X op (ipI g)) (hf : X.fn x = true ∨ X.env.scope.names.lookup x = some .local := by first | exact .inl rfl | exact .inr rfl | assumption) :
    DS X (.AugAssign (.Name x pos') op e pos) (dAug i g f) := ds_of_aug fun B => ps_aug hN hi hx (he.run B) ho hf
end
end Zl
/-! data that can be compared, with a bound of their depth -/
namespace Zl
open PySem PySem.Spec PyProof.Rows L2 Lf
def Lyn (k : Nat) (d : PyData) : Prop := d.canLay0 = true ∧ d.depth ≤ k
theorem Lyn.up {k m : Nat} {d : PyData} (h : Lyn k d) (e : k ≤ m) : Lyn m d := ⟨h.1, Nat.le_trans h.2 e⟩
theorem lyn_all {k : Nat} : ∀ {ds : List PyData}, (∀ d ∈ ds, Lyn k d) → PyData.canLayAll0 ds = true ∧ PyData.depthAll ds ≤ k
  | [], _ => ⟨by rw [PyData.canLayAll0], by rw [PyData.depthAll]; exact Nat.zero_le _⟩
  | d :: r, h => by
    obtain ⟨h1, h2⟩ := h d (List.mem_cons_self ..)
    obtain ⟨h3, h4⟩ := lyn_all fun z hz => h z (List.mem_cons_of_mem _ hz)
    refine ⟨by rw [PyData.canLayAll0, h1, h3]; rfl, ?_⟩
    rw [PyData.depthAll]
    omega
theorem lyn_list {k : Nat} {ds : List PyData} (h : ∀ d ∈ ds, Lyn k d) : Lyn (k + 1) (.list ds) := by
  obtain ⟨h1, h2⟩ := lyn_all h
  refine ⟨by rw [PyData.canLay0]; exact h1, ?_⟩
  rw [PyData.depth]
  omega
theorem lyn_tup {k : Nat} {ds : List PyData} (h : ∀ d ∈ ds, Lyn k d) : Lyn (k + 1) (.tuple ds) := by
  obtain ⟨h1, h2⟩ := lyn_all h
  refine ⟨by rw [PyData.canLay0]; exact h1, ?_⟩
  rw [PyData.depth]
  omega
theorem Lyn.shaped {k : Nat} {d : PyData} (h : Lyn k d) (e : k ≤ 64) : SeqAt.shaped d = true := by
  unfold SeqAt.shaped
  rw [h.1]
  exact decide_eq_true (Nat.le_trans h.2 e)
theorem lyn_str {x : Str} (h : ∀ c ∈ x.cps.toList, c < 1114112) : Lyn 0 (.str x) := by
  refine ⟨?_, by rw [PyData.depth]; exact Nat.le_refl _⟩
  rw [PyData.canLay0]
  show x.cps.all (· < 0x110000) = true
  rw [← Array.all_toList, List.all_eq_true]
  intro c hc
  exact decide_eq_true (h c hc)
theorem lyn_int (i : Int) : Lyn 0 (.int i) := ⟨by rw [PyData.canLay0], by rw [PyData.depth]; exact Nat.le_refl _⟩
theorem lyn_bool (i : Bool) : Lyn 0 (.bool i) := ⟨by rw [PyData.canLay0], by rw [PyData.depth]; exact Nat.le_refl _⟩
theorem lyn_none : Lyn 0 .none := ⟨by rw [PyData.canLay0], by rw [PyData.depth]; exact Nat.le_refl _⟩
theorem Lyn.same {k : Nat} {d : PyData} (h : Lyn k d) : PyData.eqv d d = true := SeqAt.eqv_refl _ h.1
end Zl
namespace Kr
open PySem PySem.Spec PyProof.Rows L2 Lf Zl
abbrev rw_name : PySem.W.OpenLaw := PySem.Challenge.rw_leafround_k88_patches_lead_over
abbrev topS (i : Nat) : Stmt := rw_name.prog.main.body[i]!
structure Bs (mg : Str → Option Value) : Prop where
  len : mg "len" = none
  range : mg "range" = none
  list : mg "list" = none
  tuple : mg "tuple" = none
  max : mg "max" = none
  min : mg "min" = none
  int : mg "int" = none
  str : mg "str" = none
  isinstance : mg "isinstance" = none
  enumerate : mg "enumerate" = none
  bool : mg "bool" = none
  all : mg "all" = none
  sum : mg "sum" = none
  zip : mg "zip" = none
structure Ts (K : PySem.W.Frag) (mg : Str → Option Value) : Prop extends Bs mg
/-! ### dice -/
def diceN (ns : List Int) (s l r : Int) : Node := .lst [.dat (.list (ns.map .int)), .dat (.int s), .dat (.int l), .dat (.int r)]
structure DiceOk (s l r : Int) (N : Nat) : Prop where
  s0 : 0 ≤ s
  s1 : s ≤ N
  l0 : 0 ≤ l
  l1 : l ≤ 30
  r0 : 0 ≤ r
theorem DiceOk.more {s l r : Int} {N M : Nat} (h : DiceOk s l r N) (m : N ≤ M) : DiceOk s l r M := ⟨h.s0, by have := h.s1; omega, h.l0, h.l1, h.r0⟩
theorem pow_lt {x : Int} {a n : Nat} (h0 : 0 ≤ x) (h : x < 2 ^ a) : (x ^ n).natAbs < 2 ^ (a * n + 1) := by
  have e : (x ^ n).natAbs = x.natAbs ^ n := Int.natAbs_pow x n
  have h1 : x.natAbs < 2 ^ a := by
    have : (x.natAbs : Int) < ((2 ^ a : Nat) : Int) := by
      rw [Int.natAbs_of_nonneg h0, Int.natCast_pow]
      exact h
    exact Int.ofNat_lt.mp this
  rw [e]
  refine Nat.lt_of_le_of_lt (Nat.pow_le_pow_left (Nat.le_of_lt h1) n) ?_
  rw [← Nat.pow_mul]
  exact Nat.pow_lt_pow_right (by decide) (Nat.lt_succ_self _)
theorem atI_in {α : Type} {xs : List α} {k : Int} (h0 : 0 ≤ k) (h1 : k < xs.length) : ∃ n : Nat, ∃ h : n < xs.length, k = n ∧ atI xs k = some xs[n] := by
  obtain ⟨n, rfl⟩ := Int.eq_ofNat_of_zero_le h0
  have hn : n < xs.length := by omega
  exact ⟨n, hn, rfl, atI_nat (List.getElem?_eq_getElem hn)⟩
theorem ints_lay : ∀ ns : List Int, PyData.canLayAll0 (ns.map .int) = true ∧ PyData.depthAll (ns.map .int) = 0
  | [] => ⟨rfl, rfl⟩
  | n :: ns => by
    obtain ⟨h1, h2⟩ := ints_lay ns
    refine ⟨?_, ?_⟩
    · rw [List.map_cons, PyData.canLayAll0, h1]
      rfl
    · rw [List.map_cons, PyData.depthAll, h2]
      rfl
theorem ints_shaped (ns : List Int) : SeqAt.shaped (.list (ns.map .int)) = true := by
  obtain ⟨h1, h2⟩ := ints_lay ns
  unfold SeqAt.shaped
  rw [PyData.canLay0.eq_5, h1, PyData.depth, h2]
  rfl
section
variable {P : Program} {w : World} {K : PySem.W.Frag} {mg : Str → Option Value} {base : Heap}
def fRoll : DSp := fun xs μ Q => ∃ a ns s l r N m, xs = [.ptr a, .dat (.int m)] ∧ μ = [(a, diceN ns s l r)] ∧ DiceOk s l r N ∧ N ≤ 1000000 ∧ 0 < m ∧ m ≤ 10 ^ 60 ∧ ∀ k s' l' r', 0 ≤ k → k < m → DiceOk s' l' r' (N + 1) → Q (.dat (.int k)) [(a, diceN ns s' l' r')]
abbrev sRoll : Stmt := topS 18
theorem scRoll : FnScope ["_law_dice", "_law_size", "_law_spot", "_law_cell", "_law_seed", "_law_rest"] ["_law_dice", "_law_size"] (defScope sRoll) := ⟨rfl, rfl, rfl, by decide +kernel, rfl, by decide +kernel, by decide +kernel⟩
theorem ok_roll {f : Addr} {fd : FuncData} (F : Fun K "_law_roll" "_law_roll" sRoll f fd) (T : Bs mg) : FnOk P w K mg base CX0 1 f fd ["_law_dice", "_law_size"] (spZ w K fRoll) := by
  refine Fun.okZ F scRoll (fun xs μ Q h => ?_) (fun cdv A outer s H E hr => ?_)
  · obtain ⟨a, ns, s, l, r, N, m, rfl, _⟩ := h
    rfl
  · have nd := scRoll.nd
    refine ⟨_, (dss_cut (ds_if (dt_cmp (oz_eq hr.units) (d_ix (dv 0) d_int (fun _ _ => rfl)) d_int (nomark _))
  (dss_cons (ds_set (i := 2) nd rfl (Or.inl rfl) (d_ix (dv 0) d_int (fun _ _ => rfl)))
  (dss_cons (ds_asg (d_bin oz_add (dv 2) d_int) (dg_sub (dv 0) d_int))
  (dss_cons (ds_set (i := 3) nd rfl (Or.inl rfl) d_int)
  (dss_cut (ds_if (dt_cmp (oz_ne hr.units) (d_ix (dv 0) d_int (fun _ _ => rfl)) (d_lst da_nil) (nomark _))
  (dss_one (ds_set (i := 3) nd rfl (Or.inl rfl) (d_ix (d_ix (dv 0) d_int (fun _ _ => rfl)) (d_bin oz_mod (dv 2) (d_callB ca_len (by rfl) T.len PySem.boot_len (da_cons (d_ix (dv 0) d_int (fun _ _ => rfl)) da_nil))) (fun _ _ => rfl))))
  dss_nil)
  (dss_cons (ds_if (DW.dt (dw_or (dt_cmp (oz_ge hr.units) (dv 2) (d_callB ca_len (by rfl) T.len PySem.boot_len (da_cons (d_ix (dv 0) d_int (fun _ _ => rfl)) da_nil)) (nomark _)) (dw_or1 (dt_cmp (oz_lt hr.units) (dv 3) (d_bin oz_pow d_int d_int) (nomark _)))))
  (dss_cons (ds_set (i := 4) nd rfl (Or.inl rfl) (d_bin oz_mod (d_bin oz_mul (d_bin oz_add (d_bin oz_mod (dv 3) d_int) d_int) (d_bin oz_add (d_bin oz_add (d_bin oz_mul (dv 2) (dv 2)) (d_bin oz_mul d_int (dv 2))) d_int)) d_int))
  (dss_cons (ds_set (i := 4) nd rfl (Or.inl rfl) (d_bin oz_mod (d_bin oz_pow (dv 4) d_int) d_int))
  (dss_one (ds_ret (d_bin oz_mod (d_bin oz_div (d_bin oz_mod (d_bin oz_add (dv 4) (d_bin oz_mul d_int (dv 2))) d_int) d_int) (dv 1))))))
  dss_nil)
  (dss_cons (ds_asg d_int (dg_sub (dv 0) d_int))
  (dss_one (ds_asg (d_bin oz_sub (dv 3) (d_bin oz_pow d_int d_int)) (dg_sub (dv 0) d_int)))))))))
  dss_nil)
  (dss_cons (ds_asg (d_bin oz_sub (d_ix (dv 0) d_int (fun _ _ => rfl)) d_int) (dg_sub (dv 0) d_int))
  (dss_cons (ds_set (i := 5) nd rfl (Or.inl rfl) (d_ix (dv 0) d_int (fun _ _ => rfl)))
  (dss_cons (ds_asg (d_bin oz_div (dv 5) (dv 1)) (dg_sub (dv 0) d_int))
  (dss_one (ds_ret (d_bin oz_mod (dv 5) (dv 1)))))))), ?_⟩
    rintro xs μ Q ⟨a, ns, s, l, r, N, m, rfl, rfl, ok, hN, hm, hm1, q⟩
    obtain ⟨s0, s1, l0, l1, r0⟩ := id ok
    refine ⟨fun ρ μ => ∃ (s' l' r' : Int) (y2 y3 y4 y5 : Option Val) (ext : Store), ρ = [some (.ptr a), some (.dat (.int m)), y2, y3, y4, y5] ∧ μ = (a, diceN ns s' l' r') :: ext ∧ 0 ≤ s' ∧ s' ≤ N + 1 ∧ 1 ≤ l' ∧ l' ≤ 30 ∧ 0 ≤ r', ?_, ?_⟩
    · refine ⟨0, _, _, rfl, rfl, ite2 (fun c => ?_) (fun c => ?_)⟩
      · refine ⟨0, _, _, rfl, rfl, 0, _, 1, rfl, rfl, ?_⟩
        refine ⟨fun ρ μ => ∃ (c : Int) (ext : Store), ρ = [some (.ptr a), some (.dat (.int m)), some (.dat (.int s)), some (.dat (.int c)), none, none] ∧ μ = (a, diceN ns (s + 1) l r) :: ext, ?_, ?_⟩
        · refine ⟨0, _, _, rfl, rfl, Nat.zero_le _, fun p => ⟨.list (ns.map .int), .list [], .d _, .p 1 rfl rfl, ints_shaped ns, rfl, ?_⟩⟩
          refine ite2 (fun c1 => ?_) (fun c1 => ⟨0, _, rfl, rfl⟩)
          have ne : ns ≠ [] := fun z => by
            subst z
            exact absurd c1 (by decide)
          have hp : 0 < ns.length := List.length_pos_iff.mpr ne
          refine ⟨0, _, _, rfl, rfl, 0, _, _, rfl, rfl, ?_⟩
          have hl : (0 : Int) < ((ns.map PyData.int).length : Nat) := by
            rw [List.length_map]
            omega
          obtain ⟨n, hn, e1, e2⟩ := atI_in (xs := ns.map PyData.int) (k := s % ((ns.map PyData.int).length : Nat)) (Int.emod_nonneg _ (by omega)) (Int.emod_lt_of_pos _ hl)
          refine ⟨hl, _, e2, ?_⟩
          rw [List.getElem_map]
          exact ⟨_, _, rfl, rfl⟩
        · rintro ρ μ ⟨c, ext, rfl, rfl⟩
          have pw : CPow 10 18 := ⟨by decide, by decide, by decide⟩
          have last : (10 : Int) ^ 18 ≤ c → ∃ (s' l' r' : Int) (y2 y3 y4 y5 : Option Val) (ext' : Store), [some (Val.ptr a), some (.dat (.int m)), some (.dat (.int s)), some (.dat (.int c)), none, none] = [some (.ptr a), some (.dat (.int m)), y2, y3, y4, y5] ∧ (a, diceN ns (s + 1) 30 (c - 10 ^ 18)) :: ext = (a, diceN ns s' l' r') :: ext' ∧ 0 ≤ s' ∧ s' ≤ N + 1 ∧ 1 ≤ l' ∧ l' ≤ 30 ∧ 0 ≤ r' := fun h =>
            ⟨_, _, _, _, _, _, _, _, rfl, rfl, by omega, by omega, by decide, by decide, Int.sub_nonneg_of_le h⟩
          refine ⟨0, _, _, rfl, rfl, ite2 (fun g => ?_) (fun g => ⟨pw, ite2 (fun g2 => ?_) (fun g2 => ?_)⟩)⟩
          · have e1 := Int.emod_nonneg c (show (999953 : Int) ≠ 0 by decide)
            have e2 := Int.emod_lt_of_pos c (show (0 : Int) < 999953 by decide)
            refine ⟨by decide, wide_mul (a := 20) (b := 20) (by omega) (by omega) (by decide) (by decide) (by decide), wide_mul (a := 10) (b := 20) (by decide) (by omega) (by decide) (by decide) (by decide), ?_⟩
            have m1 : s * s ≤ 1000000 * 1000000 := Int.mul_le_mul (by omega) (by omega) (by omega) (by decide)
            have m0 : 0 ≤ s * s := Int.mul_nonneg s0 s0
            refine ⟨wide_mul (a := 21) (b := 50) (by omega) (by omega) (by decide) (by decide) (by decide), by decide, ?_⟩
            generalize (c % 999953 + 37) * (s * s + 79 * s + 4001) = z
            have z1 := Int.emod_nonneg z (show (1000003 : Int) ≠ 0 by decide)
            have z2 := Int.emod_lt_of_pos z (show (0 : Int) < 1000003 by decide)
            refine ⟨⟨by decide, by decide, by omega⟩, by decide, ?_⟩
            generalize (z % 1000003) ^ (3 : Int).toNat = y
            have y1 := Int.emod_nonneg y (show (998244353 : Int) ≠ 0 by decide)
            refine ⟨wide_mul (a := 20) (b := 20) (by decide) (by omega) (by decide) (by decide) (by decide), by decide, wide_div (b := 20) (by decide) (by decide) (by decide) (by decide), hm, ?_⟩
            exact ⟨_, List.take_sublist 1 _, q _ _ _ _ (Int.emod_nonneg _ (by omega)) (Int.emod_lt_of_pos _ hm) ⟨by omega, by omega, l0, l1, r0⟩⟩
          · have e1 := Int.emod_nonneg c (show (999953 : Int) ≠ 0 by decide)
            have e2 := Int.emod_lt_of_pos c (show (0 : Int) < 999953 by decide)
            refine ⟨by decide, wide_mul (a := 20) (b := 20) (by omega) (by omega) (by decide) (by decide) (by decide), wide_mul (a := 10) (b := 20) (by decide) (by omega) (by decide) (by decide) (by decide), ?_⟩
            have m1 : s * s ≤ 1000000 * 1000000 := Int.mul_le_mul (by omega) (by omega) (by omega) (by decide)
            have m0 : 0 ≤ s * s := Int.mul_nonneg s0 s0
            refine ⟨wide_mul (a := 21) (b := 50) (by omega) (by omega) (by decide) (by decide) (by decide), by decide, ?_⟩
            generalize (c % 999953 + 37) * (s * s + 79 * s + 4001) = z
            have z1 := Int.emod_nonneg z (show (1000003 : Int) ≠ 0 by decide)
            have z2 := Int.emod_lt_of_pos z (show (0 : Int) < 1000003 by decide)
            refine ⟨⟨by decide, by decide, by omega⟩, by decide, ?_⟩
            generalize (z % 1000003) ^ (3 : Int).toNat = y
            have y1 := Int.emod_nonneg y (show (998244353 : Int) ≠ 0 by decide)
            refine ⟨wide_mul (a := 20) (b := 20) (by decide) (by omega) (by decide) (by decide) (by decide), by decide, wide_div (b := 20) (by decide) (by decide) (by decide) (by decide), hm, ?_⟩
            exact ⟨_, List.take_sublist 1 _, q _ _ _ _ (Int.emod_nonneg _ (by omega)) (Int.emod_lt_of_pos _ hm) ⟨by omega, by omega, l0, l1, r0⟩⟩
          · have g3 : (10 : Int) ^ 18 ≤ c := by
              have := of_decide_eq_false (by simpa using g2 : decide (c < (10 : Int) ^ (18 : Int).toNat) = false)
              exact Int.not_lt.mp this
            refine ⟨0, _, _, rfl, rfl, pw, 0, _, _, rfl, rfl, last g3⟩
      · have c' : l ≠ 0 := by simpa using c
        exact ⟨s, l, r, _, _, _, _, [], rfl, rfl, s0, by omega, by omega, l1, r0⟩
    · rintro ρ μ ⟨s', l', r', y2, y3, y4, y5, ext, rfl, rfl, h0, h1, h2, h3, h4⟩
      refine ⟨0, _, _, rfl, rfl, 0, _, 2, rfl, rfl, 0, _, _, rfl, rfl, ?_⟩
      have cd : CDivW r' m := wide_div (b := 200) hm (by omega) (by decide) (by decide)
      refine ⟨cd, 0, _, 3, rfl, rfl, hm, ?_⟩
      exact ⟨_, List.take_sublist 1 _, q _ _ _ _ (Int.emod_nonneg _ (by omega)) (Int.emod_lt_of_pos _ hm) ⟨h0, by omega, by omega, by omega, Int.ediv_nonneg h4 (by omega)⟩⟩
end
end Kr
namespace Kr
open PySem PySem.Spec PyProof.Rows L2 Lf Zl SX
local macro_rules | `(tactic| walk_at "sub") => `(tactic| first | exact List.nil_sublist _ | (refine .cons₂ _ ?_; walk_at "sub") | (refine .cons _ ?_; walk_at "sub"))
/-! ### texts -/
theorem S_app (a b : List Nat) : S a ++ S b = S (a ++ b) := TL.ext_tl (TL.tl_append _ _)
theorem S_leng (a : List Nat) : (S a).length = a.length := by rw [S_len]
theorem S_inj {a b : List Nat} (h : S a = S b) : a = b := congrArg TL.tl h
/-- signs from the blank to ~ -/
def Tok7 (l : List Nat) : Prop := ∀ c ∈ l, 32 ≤ c ∧ c ≤ 126
theorem Tok7.app {a b : List Nat} (ha : Tok7 a) (hb : Tok7 b) : Tok7 (a ++ b) := fun c hc => (List.mem_append.mp hc).elim (ha c) (hb c)
theorem Tok7.lay {l : List Nat} (h : Tok7 l) : (PyData.str (S l)).canLay0 = true := by
  show (S l).cps.all (· < 0x110000) = true
  rw [← Array.all_toList, List.all_eq_true]
  intro c hc
  exact decide_eq_true (by have := h c hc; omega)
section
variable {P : Program} {w : World} {K : PySem.W.Frag} {mg : Str → Option Value} {base : Heap}
def fPick : DSp := fun xs μ Q => ∃ a ns s l r N, ∃ ts : List PyData, xs = [.ptr a, .dat (.list ts)] ∧ μ = [(a, diceN ns s l r)] ∧ DiceOk s l r N ∧ N ≤ 1000000 ∧ ts ≠ [] ∧ ts.length ≤ 1000000 ∧ ∀ t ∈ ts, ∀ s' l' r', DiceOk s' l' r' (N + 1) → Q (.dat t) [(a, diceN ns s' l' r')]
abbrev sPick : Stmt := topS 19
theorem scPick : FnScope ["_law_dice", "_law_some"] ["_law_dice", "_law_some"] (defScope sPick) := ⟨rfl, rfl, rfl, by decide +kernel, rfl, by decide +kernel, by decide +kernel⟩
theorem ok_pick {f : Addr} {fd : FuncData} (F : Fun K "_law_pick" "_law_pick" sPick f fd) (T : Bs mg) (c__law_roll : CalZ P w K mg base 1 "_law_roll" ["_law_dice", "_law_size"] fRoll) : FnOk P w K mg base CX0 2 f fd ["_law_dice", "_law_some"] (spZ w K fPick) := by
  refine Fun.okZ F scPick (fun xs μ Q h => ?_) (fun cdv A outer s H E hr => ?_)
  · obtain ⟨a, ns, s, l, r, N, ts, rfl, _⟩ := h
    rfl
  · have nd := scPick.nd
    refine ⟨_, (dss_one (ds_ret (d_ix (dv 1) (d_own1 c__law_roll (hr.mono (by omega)) (by rfl) (da_cons (dv 0) (da_cons (d_callB ca_len (by rfl) T.len PySem.boot_len (da_cons (dv 1) da_nil)) da_nil))) (fun _ _ => rfl)))), ?_⟩
    rintro xs μ Q ⟨a, ns, s, l, r, N, ts, rfl, rfl, ok, hN, ne, hl, q⟩
    have hp : 0 < ts.length := List.length_pos_iff.mpr ne
    refine ⟨0, a, _, rfl, a, ns, s, l, r, N, _, rfl, rfl, ok, hN, by omega, by omega, fun t s2 l2 r2 t0 t1 ok2 => ⟨_, _, rfl, ?_⟩⟩
    obtain ⟨n, hn, rfl, e⟩ := atI_in (xs := ts) t0 t1
    exact ⟨ts[n], e, _, .refl _, q _ (List.getElem_mem hn) s2 l2 r2 ok2⟩
end
end Kr
namespace Kr
open PySem PySem.Spec PyProof.Rows L2 Lf Zl SX
/-! ### lines drawn -/
def dats (l : List PyData) : List Val := l.map .dat
theorem datOf_dats (l : List PyData) : datOf (dats l) = some l := datOf_map l
def txts (l : List Str) : List PyData := l.map .str
theorem datOf_eq : ∀ {xs : List Val} {ds : List PyData}, datOf xs = some ds → xs = dats ds
  | [], ds, h => by
    cases h
    rfl
  | .dat d :: r, ds, e => by
    rw [show datOf (.dat d :: r) = (datOf r).map (d :: ·) from rfl] at e
    cases er : datOf r with
    | none => rw [er] at e; cases e
    | some ds' =>
      rw [er] at e
      cases e
      rw [datOf_eq er]
      rfl
  | .ptr _ :: _, _, e => by cases e
  | .scr _ :: _, _, e => by cases e
  | .prt _ _ :: _, _, e => by cases e
  | .tpl _ :: _, _, e => by cases e
theorem datOf_cut {L : List Val} {D : List PyData} {lo hi : Option Int} (h : datOf L = some D) : datOf (cutG L lo hi) = some (cutG D lo hi) := by
  have e : L = dats D := datOf_eq h
  rw [e]
  unfold dats
  rw [cutG_map]
  exact datOf_map _
theorem cutG_take {α : Type} (xs : List α) (r : Nat) : cutG xs none (some (r : Int)) = xs.take r := by
  unfold cutG
  rw [HT.sIx_none, HT.sIx_nat, List.drop_zero, Nat.sub_zero]
  rcases Nat.le_total r xs.length with h | h
  · rw [Nat.min_eq_left h]
  · rw [Nat.min_eq_right h, List.take_of_length_le (Nat.le_refl _), List.take_of_length_le h]
/-- a page: few lines, of plain signs -/
structure LsOk (ls : List Str) : Prop where
  len : ls.length ≤ 30
  one : ∀ x ∈ ls, x.length ≤ 10 ∧ ∀ c ∈ x.cps.toList, c < 128
section
variable {P : Program} {w : World} {K : PySem.W.Frag} {mg : Str → Option Value} {base : Heap}
def nine : List Str := ["- a", "- b", "  = 1", "", "    = 1", "  ^", "= 1", "yy", "- "]
theorem nine_ok : ∀ x ∈ nine, x.length ≤ 10 ∧ ∀ c ∈ x.cps.toList, c < 128 := by decide +kernel
def fDrawn : DSp := fun xs μ Q => ∃ a ns s l r N, xs = [.ptr a] ∧ μ = [(a, diceN ns s l r)] ∧ DiceOk s l r N ∧ N ≤ 900000 ∧ ∀ (p : Addr) (ls : List Str) s' l' r', LsOk ls → ls.length ≤ 14 → DiceOk s' l' r' (N + 20) → Q (.ptr p) [(a, diceN ns s' l' r'), (p, .lst (dats (txts ls)))]
abbrev sDrawn : Stmt := topS 21
theorem scDrawn : FnScope ["_law_dice", "_law_few", "_law_some", "_law_k"] ["_law_dice"] (defScope sDrawn) := ⟨rfl, rfl, rfl, by decide +kernel, rfl, by decide +kernel, by decide +kernel⟩
theorem ok_drawn {f : Addr} {fd : FuncData} (F : Fun K "_law_lines_drawn" "_law_lines_drawn" sDrawn f fd) (T : Bs mg) (c__law_roll : CalZ P w K mg base 1 "_law_roll" ["_law_dice", "_law_size"] fRoll) (c__law_pick : CalZ P w K mg base 2 "_law_pick" ["_law_dice", "_law_some"] fPick) : FnOk P w K mg base CX0 3 f fd ["_law_dice"] (spZ w K fDrawn) := by
  refine Fun.okZ F scDrawn (fun xs μ Q h => ?_) (fun cdv A outer s H E hr => ?_)
  · obtain ⟨a, ns, s, l, r, N, rfl, _⟩ := h
    rfl
  · have nd := scDrawn.nd
    refine ⟨_, (dss_cons (ds_set (i := 1) nd rfl (Or.inl rfl) (d_own1 c__law_pick (hr.mono (by omega)) (by rfl) (da_cons (dv 0) (da_cons (d_fz (d_lst (da_cons d_int (da_cons d_int (da_cons d_int da_nil))))) da_nil))))
  (dss_cons (ds_set (i := 2) nd rfl (Or.inr rfl) (d_fz (d_slice (d_lst (da_cons d_str (da_cons d_str (da_cons d_str (da_cons d_str (da_cons d_str (da_cons d_str (da_cons d_str (da_cons d_str (da_cons d_str da_nil)))))))))) do_none (do_some (dv 1)))))
  (dss_one (ds_ret (d_lc (own := [("_law_k", 3)]) rfl nd (di_range1 (by rfl) T.range (da_cons (d_own1 c__law_roll (hr.mono (by omega)) (by rfl) (da_cons (dv 0) (da_cons d_int da_nil))) da_nil)) (blkOk_by (own := [("_law_k", 3)]) (N := ["_law_dice", "_law_few", "_law_some", "_law_k"]) (sc := defScope (topS 21)) (by decide +kernel)) (put_name (i := 3) (by decide)) (fun _ _ _ _ _ => (pg_name (i := 3) nd rfl (Or.inl rfl))) (fun _ _ _ _ _ => dts_nil) (fun _ _ _ _ _ => (d_own1 c__law_pick (hr.mono (by omega)) (by rfl) (da_cons (dv 0) (da_cons (dv 2) da_nil))))))))), ?_⟩
    rintro xs μ Q ⟨a, ns, s, l, r, N, rfl, rfl, ok, hN, q⟩
    have ez : sizeLine = 16777216 := by decide +kernel
    refine ⟨(by show 3 ≤ sizeLine; decide), fun p => ⟨1, _, _, rfl, rfl, ?_⟩⟩
    refine ⟨0, a, _, rfl, a, ns, s, l, r, N, _, rfl, rfl, ok, by omega, (fun z => nomatch z), (by show 3 ≤ 1000000; decide), fun z hz s2 l2 r2 ok2 => ⟨_, [], rfl, ?_⟩⟩
    have hm : ∃ m : Nat, z = .int m ∧ 2 ≤ m := by
      rcases List.mem_cons.mp hz with rfl | hz
      · exact ⟨2, rfl, by decide⟩
      rcases List.mem_cons.mp hz with rfl | hz
      · exact ⟨3, rfl, by decide⟩
      · rw [List.mem_singleton.mp hz]
        exact ⟨9, rfl, by decide⟩
    obtain ⟨m, rfl, hm⟩ := hm
    refine ⟨(by show 9 ≤ sizeLine; decide), fun p9 => ⟨1, _, rfl, fun p8 => ⟨2, _, _, rfl, datOf_cut (D := txts nine) rfl, ?_⟩⟩⟩
    rw [cutG_take]
    have ht : ∀ t ∈ (txts nine).take m, ∃ x ∈ nine, t = .str x := fun t h => by
      obtain ⟨x, hx, rfl⟩ := List.mem_map.mp (List.mem_of_mem_take h)
      exact ⟨x, hx, rfl⟩
    have hne : (txts nine).take m ≠ [] := fun h => by
      have := congrArg List.length h
      rw [List.length_take] at this
      have h9 : (txts nine).length = 9 := rfl
      rw [h9, List.length_nil] at this
      omega
    have hlen : ((txts nine).take m).length ≤ 9 := by
      rw [List.length_take]
      exact Nat.min_le_right _ _
    generalize (txts nine).take m = D at ht hne hlen
    refine ⟨0, a, _, rfl, a, ns, s2, l2, r2, _, 15, rfl, rfl, ok2, by omega, by decide, by decide, fun t3 s3 l3 r3 t30 t31 ok3 => ⟨_, [], rfl, ?_⟩⟩
    obtain ⟨n, rfl⟩ := Int.eq_ofNat_of_zero_le t30
    refine ⟨by omega, by omega, fun k acc μ => ∃ (ls : List Str) (s4 l4 r4 : Int), μ = [(a, diceN ns s4 l4 r4), (p9, .lst (dats (txts nine)))] ∧ acc = dats (txts ls) ∧ ls.length = k ∧ (∀ x ∈ ls, x ∈ nine) ∧ DiceOk s4 l4 r4 (N + 2 + k), ⟨[], s3, l3, r3, rfl, rfl, rfl, fun _ h => (by cases h), ok3.more (by omega)⟩, fun _ _ _ _ _ => trivial, ?_, ?_⟩
    · rintro k y acc μ hy ⟨ls, s4, l4, r4, rfl, rfl, hk, hls, ok4⟩
      have hkn : k < n := by
        have := (List.getElem?_eq_some_iff.mp hy).1
        rw [rangeZ_len] at this
        omega
      refine ⟨_, rfl, 0, a, _, rfl, a, ns, s4, l4, r4, _, D, rfl, rfl, ok4, by omega, hne, by omega, fun z hz s5 l5 r5 ok5 => ⟨_, [], rfl, ?_⟩⟩
      obtain ⟨x, hx, rfl⟩ := ht z hz
      refine ⟨by unfold dats txts; rw [List.length_map, List.length_map]; omega, _, .refl _, ls ++ [x], s5, l5, r5, rfl, ?_, by simp [hk], fun w hw => ?_, ok5.more (by omega)⟩
      · unfold dats txts
        simp only [List.map_append]
        rfl
      · rcases List.mem_append.mp hw with hw | hw
        · exact hls w hw
        · rw [List.mem_singleton.mp hw]
          exact hx
    · rintro acc μ ⟨ls, s4, l4, r4, rfl, rfl, hk, hls, ok4⟩ p2
      rw [rangeZ_len] at hk ok4
      refine ⟨_, .cons₂ _ (.cons _ (.refl _)), q p2 ls s4 l4 r4 ⟨by omega, fun x hx => nine_ok x (hls x hx)⟩ (by omega) (ok4.more (by omega))⟩
end
end Kr
namespace Kr
open PySem PySem.Spec PyProof.Rows L2 Lf Zl SX
/-- the rows of a patch -/
inductive RowG : PyData → Prop
  | keep {n : Nat} : 0 < n → RowG (.tuple [.str "keep", .int n])
  | cut {n : Nat} : 0 < n → RowG (.tuple [.str "cut", .int n])
  | put {ls : List Str} : ls ≠ [] → ls.length ≤ 40 → RowG (.tuple [.str "put", .tuple (txts ls)])
def chg (m : Nat) (ls : List Str) : List PyData := (if 0 < m then [.tuple [.str "cut", .int m]] else []) ++ (if ls = [] then [] else [.tuple [.str "put", .tuple (txts ls)]])
section
variable {P : Program} {w : World} {K : PySem.W.Frag} {mg : Str → Option Value} {base : Heap}
def fNumber : DSp := fun xs μ Q => ∃ i : Int, xs = [.dat (.int i)] ∧ μ = [] ∧ 0 ≤ i ∧ Q (.dat (.bool true)) []
abbrev sNumber : Stmt := topS 4
theorem scNumber : FnScope ["thing"] ["thing"] (defScope sNumber) := ⟨rfl, rfl, rfl, by decide +kernel, rfl, by decide +kernel, by decide +kernel⟩
theorem ok_number {f : Addr} {fd : FuncData} (F : Fun K "is_number" "is_number" sNumber f fd) (T : Bs mg) : FnOk P w K mg base CX0 1 f fd ["thing"] (spZ w K fNumber) := by
  refine Fun.okZ F scNumber (fun xs μ Q h => ?_) (fun cdv A outer s H E hr => ?_)
  · obtain ⟨i, rfl, _⟩ := h
    rfl
  · have nd := scNumber.nd
    refine ⟨_, (dss_one (ds_ret (d_and (d_isi (T := "int") (by rfl) T.isinstance (by rfl) T.int (by decide +kernel) (dv 0)) (d_and (d_not (d_isi (T := "bool") (by rfl) T.isinstance (by rfl) T.bool (by decide +kernel) (dv 0))) (d_one (d_cmp (oz_ge hr.units) (dv 0) d_int (nomark _))))))), ?_⟩
    rintro xs μ Q ⟨i, rfl, rfl, hi, q⟩
    refine ⟨_, true, .dat _, rfl, _, false, .dat _, rfl, ?_⟩
    refine ⟨[], .refl _, ?_⟩
    show Q (.dat (.bool (decide (i ≥ 0)))) []
    rw [decide_eq_true (show i ≥ 0 from hi)]
    exact q
def fChanges : DSp := fun xs μ Q => ∃ (m : Nat) (ls : List Str), xs = [.dat (.int m), .dat (.list (txts ls))] ∧ μ = [] ∧ ls.length ≤ 40 ∧ ∀ p, Q (.ptr p) [(p, .lst (dats (chg m ls)))]
abbrev sChanges : Stmt := topS 12
theorem scChanges : FnScope ["many", "lines", "rows"] ["many", "lines"] (defScope sChanges) := ⟨rfl, rfl, rfl, by decide +kernel, rfl, by decide +kernel, by decide +kernel⟩
theorem ok_changes {f : Addr} {fd : FuncData} (F : Fun K "changes" "changes" sChanges f fd) (T : Bs mg) : FnOk P w K mg base CX0 1 f fd ["many", "lines"] (spZ w K fChanges) := by
  refine Fun.okZ F scChanges (fun xs μ Q h => ?_) (fun cdv A outer s H E hr => ?_)
  · obtain ⟨m, ls, rfl, _⟩ := h
    rfl
  · have nd := scChanges.nd
    refine ⟨_, (dss_cons (ds_set (i := 2) nd rfl (Or.inl rfl) (d_ifExp (dt_cmp (oz_gt hr.units) (dv 0) d_int (nomark _)) (d_lst (da_cons (d_tup (da_cons d_str (da_cons (dv 0) da_nil))) da_nil)) (d_lst da_nil)))
  (dss_one (ds_ret (d_ifExp (dt_truth (dv 1)) (d_lst (da_star (dv 2) (da_cons (d_tup (da_cons d_str (da_cons (d_callTy ca_tuple (by rfl) T.tuple (by decide +kernel) (da_cons (dv 1) da_nil)) da_nil))) da_nil))) (dv 2))))), ?_⟩
    rintro xs μ Q ⟨m, ls, rfl, rfl, hl, q⟩
    have ez : sizeLine = 16777216 := by decide +kernel
    refine ite2 (fun g => ?_) (fun g => ?_)
    · have g' : 0 < m := by
        have : (0 : Int) < m := of_decide_eq_true g
        omega
      refine ⟨(by show 2 ≤ sizeLine; omega), (by show 1 ≤ sizeLine; omega), fun p => ?_⟩
      cases ls with
      | nil =>
        refine ⟨_, .refl _, ?_⟩
        have := q p
        unfold chg at this
        rw [if_pos g', if_pos rfl] at this
        exact this
      | cons x r =>
        refine ⟨0, _, rfl, _, datOf_map _, (by show 2 ≤ sizeLine; omega), (by show _ ≤ sizeLine; simp; omega), fun p2 => ⟨_, List.drop_sublist 1 _, ?_⟩⟩
        have := q p2
        unfold chg at this
        rw [if_pos g', if_neg (fun z => nomatch z)] at this
        exact this
    · have g' : ¬ 0 < m := fun h => g (decide_eq_true (by show (m : Int) > 0; omega))
      refine ⟨Nat.zero_le _, fun p => ?_⟩
      cases ls with
      | nil =>
        refine ⟨_, .refl _, ?_⟩
        have := q p
        unfold chg at this
        rw [if_neg g', if_pos rfl] at this
        exact this
      | cons x r =>
        refine ⟨0, _, rfl, _, datOf_map _, (by show 2 ≤ sizeLine; omega), (by show _ ≤ sizeLine; simp; omega), fun p2 => ⟨_, List.drop_sublist 1 _, ?_⟩⟩
        have := q p2
        unfold chg at this
        rw [if_neg g', if_neg (fun z => nomatch z)] at this
        exact this
def fIsRow : DSp := fun xs μ Q => ∃ r : PyData, xs = [.dat r] ∧ μ = [] ∧ RowG r ∧ Q (.dat (.bool true)) []
abbrev sIsRow : Stmt := topS 16
theorem scIsRow : FnScope ["thing", "word", "what", "line"] ["thing"] (defScope sIsRow) := ⟨rfl, rfl, rfl, by decide +kernel, rfl, by decide +kernel, by decide +kernel⟩
theorem ok_isrow {f : Addr} {fd : FuncData} (F : Fun K "is_row" "is_row" sIsRow f fd) (T : Bs mg) (c_is_number : CalZ P w K mg base 1 "is_number" ["thing"] fNumber) : FnOk P w K mg base CX0 2 f fd ["thing"] (spZ w K fIsRow) := by
  refine Fun.okZ F scIsRow (fun xs μ Q h => ?_) (fun cdv A outer s H E hr => ?_)
  · obtain ⟨r, rfl, _⟩ := h
    rfl
  · have nd := scIsRow.nd
    refine ⟨_, (dss_cons (ds_if (DW.dt (dw_or (dt_not (dt_truth (d_isi (T := "tuple") (by rfl) T.isinstance (by rfl) T.tuple (by decide +kernel) (dv 0)))) (dw_or1 (dt_cmp (oz_ne hr.units) (d_callB ca_len (by rfl) T.len PySem.boot_len (da_cons (dv 0) da_nil)) d_int (nomark _)))))
  (dss_one (ds_ret d_bl))
  dss_nil)
  (dss_cons (ds_asg (dv 0) (dg_tup rfl (dgs_cons (dg_name (i := 1) nd rfl (Or.inl rfl)) (dgs_cons (dg_name (i := 2) nd rfl (Or.inl rfl)) dgs_nil))))
  (dss_cons (ds_if (dt_cmp (oz_eq hr.units) (dv 1) d_str (nomark _))
  (dss_one (ds_ret (d_and (d_isi (T := "tuple") (by rfl) T.isinstance (by rfl) T.tuple (by decide +kernel) (dv 2)) (d_and (d_cmp (oz_gt hr.units) (d_callB ca_len (by rfl) T.len PySem.boot_len (da_cons (dv 2) da_nil)) d_int (nomark _)) (d_one (d_callB (ca_all rfl) (by rfl) T.all (by decide +kernel) (da_cons (d_lc (own := [("line", 3)]) rfl nd (di_seq (dv 2)) (blkOk_by (own := [("line", 3)]) (N := ["thing", "word", "what", "line"]) (sc := defScope (topS 16)) (by decide +kernel)) (put_name (i := 3) (by decide)) (fun _ _ _ _ _ => (pg_name (i := 3) nd rfl (Or.inl rfl))) (fun _ _ _ _ _ => dts_nil) (fun _ _ _ _ _ => (d_isi (T := "str") (by rfl) T.isinstance (by rfl) T.str (by decide +kernel) (dv 3)))) da_nil)))))))
  dss_nil)
  (dss_one (ds_ret (d_and (d_cmp (oz_in (room65 hr)) (dv 1) (d_tup (da_cons d_str (da_cons d_str da_nil))) (by rfl)) (d_and (d_own0 c_is_number (hr.mono (by omega)) (by rfl) (da_cons (dv 2) da_nil)) (d_one (d_cmp (oz_gt hr.units) (dv 2) d_int (nomark _)))))))))), ?_⟩
    rintro xs μ Q ⟨r, rfl, rfl, hr2, q⟩
    have ez : sizeLine = 16777216 := by decide +kernel
    cases hr2 with
    | @keep n hn =>
      refine ⟨_, true, .dat _, rfl, rfl, ?_⟩
      refine ⟨(by show 2 ≤ sizeLine; omega), _, .d _, rfl, rfl, ?_⟩
      refine ⟨n, rfl, rfl, by omega, [], .refl _, ?_⟩
      show Q (.dat (.bool (decide ((n : Int) > 0)))) []
      rw [decide_eq_true (show (n : Int) > 0 by omega)]
      exact q
    | @cut n hn =>
      refine ⟨_, true, .dat _, rfl, rfl, ?_⟩
      refine ⟨(by show 2 ≤ sizeLine; omega), _, .d _, rfl, rfl, ?_⟩
      refine ⟨n, rfl, rfl, by omega, [], .refl _, ?_⟩
      show Q (.dat (.bool (decide ((n : Int) > 0)))) []
      rw [decide_eq_true (show (n : Int) > 0 by omega)]
      exact q
    | @put ls h1 h2 =>
      have hl : (txts ls).length = ls.length := by
        unfold txts
        rw [List.length_map]
      have h0 : 0 < ls.length := List.length_pos_iff.mpr h1
      refine ⟨_, true, .dat _, rfl, rfl, ?_⟩
      refine ⟨_, true, .dat _, rfl, ?_⟩
      refine ite2 (fun g => ?_) (fun g => ?_)
      · refine ⟨fun i acc μ => μ = [] ∧ acc = (List.replicate i true).map fun b => Val.dat (.bool b), ⟨rfl, rfl⟩, fun _ _ _ _ _ => trivial, ?_, ?_⟩
        · rintro i y acc μ hy ⟨rfl, rfl⟩
          unfold txts at hy
          rw [List.map_map, List.getElem?_map] at hy
          obtain ⟨x, hx, rfl⟩ := Option.map_eq_some_iff.mp hy
          have hi : i < ls.length := (List.getElem?_eq_some_iff.mp hx).1
          refine ⟨_, rfl, _, true, .dat _, rfl, by rw [List.length_map, List.length_replicate]; omega, _, .refl _, rfl, ?_⟩
          rw [List.replicate_succ', List.map_append]
          rfl
        · rintro acc μ ⟨rfl, rfl⟩ p
          refine ⟨0, _, rfl, [], List.nil_sublist _, ?_⟩
          rw [show (List.replicate ((txts ls).map Val.dat).length true).all id = true from by simp]
          exact q
      · exfalso
        apply g
        refine decide_eq_true ?_
        show ((txts ls).length : Int) > 0
        omega
end
end Kr
namespace Kr
open PySem PySem.Spec PyProof.Rows L2 Lf Zl SX
/-! ### a row of the table -/
def cellB (ab : List Int) (x : Str) (new : List Str) : Nat → Int
  | 0 => 0
  | k + 1 => if new[k]? = some x then ab.getD k 0 + 1 else (if cellB ab x new k > ab.getD (k + 1) 0 then cellB ab x new k else ab.getD (k + 1) 0)
def rowB (ab : List Int) (x : Str) (new : List Str) (k : Nat) : List Int := (List.range (k + 1)).map (cellB ab x new)
theorem rowB_succ (ab : List Int) (x : Str) (new : List Str) (k : Nat) : rowB ab x new (k + 1) = rowB ab x new k ++ [cellB ab x new (k + 1)] := by
  unfold rowB
  rw [List.range_succ (n := k + 1), List.map_append]
  rfl
theorem atI_last {α : Type} (l : List α) (x : α) : atI (l ++ [x]) (-1) = some x := by
  unfold atI ixN
  rw [if_neg (by decide), List.length_append, List.length_singleton, if_pos (by omega)]
  show (l ++ [x])[_]? = some x
  rw [show ((-1 : Int) + ((l.length + 1 : Nat) : Int)).toNat = l.length by omega, List.getElem?_append_right (Nat.le_refl _), Nat.sub_self]
  rfl
section
variable {P : Program} {w : World} {K : PySem.W.Frag} {mg : Str → Option Value} {base : Heap}
def fBeneath : DSp := fun xs μ Q => ∃ (ab : List Int) (x : Str) (new : List Str), xs = [.dat (.list (ab.map .int)), .dat (.str x), .dat (.list (txts new))] ∧ μ = [] ∧ ab.length = new.length + 1 ∧ new.length ≤ 40 ∧ ∀ p, Q (.ptr p) [(p, .lst (dats ((rowB ab x new new.length).map .int)))]
abbrev sBeneath : Stmt := topS 8
theorem scBeneath : FnScope ["above", "line", "new", "row", "number", "other"] ["above", "line", "new"] (defScope sBeneath) := ⟨rfl, rfl, rfl, by decide +kernel, rfl, by decide +kernel, by decide +kernel⟩
theorem ok_beneath {f : Addr} {fd : FuncData} (F : Fun K "row_beneath" "row_beneath" sBeneath f fd) (T : Bs mg) : FnOk P w K mg base CX0 1 f fd ["above", "line", "new"] (spZ w K fBeneath) := by
  refine Fun.okZ F scBeneath (fun xs μ Q h => ?_) (fun cdv A outer s H E hr => ?_)
  · obtain ⟨ab, x, new, rfl, _⟩ := h
    rfl
  · have nd := scBeneath.nd
    refine ⟨_, (dss_cons (ds_set (i := 3) nd rfl (Or.inl rfl) (d_lst (da_cons d_int da_nil)))
  (dss_cons (ds_for PassesOwn.never rfl (di_enum (by rfl) T.enumerate (dv 2)) (dg_tup rfl (dgs_cons (dg_name (i := 4) nd rfl (Or.inl rfl)) (dgs_cons (dg_name (i := 5) nd rfl (Or.inl rfl)) dgs_nil)))
  (dss_one (ds_expr (d_lm PySem.F.slot_list_append PySem.F.type_list_append me_append (dv 3) (da_cons (d_ifExp (dt_cmp (oz_eq hr.units) (dv 1) (dv 5) (nomark _)) (d_bin oz_add (d_ix (dv 0) (dv 4) (fun _ _ => rfl)) d_int) (d_callB (ca_max2 rfl) (by rfl) T.max (by decide +kernel) (da_cons (d_ix (dv 0) (d_bin oz_add (dv 4) d_int) (fun _ _ => rfl)) (da_cons (d_ix (dv 3) (d_neg d_int) (fun _ _ => rfl)) da_nil)))) da_nil)))))
  (dss_one (ds_ret (dv 3))))), ?_⟩
    rintro xs μ Q ⟨ab, x, new, rfl, rfl, hab, hnw, q⟩
    have ez : sizeLine = 16777216 := by decide +kernel
    refine ⟨(by show 1 ≤ sizeLine; omega), fun pr => ?_⟩
    refine ⟨fun i ρ μ => ∃ y4 y5 : Option Val, ρ = [some (.dat (.list (ab.map .int))), some (.dat (.str x)), some (.dat (.list (txts new))), some (.ptr pr), y4, y5] ∧ μ = [(pr, .lst (dats ((rowB ab x new i).map .int)))], ⟨_, _, rfl, rfl⟩, fun _ _ _ _ _ => trivial, ?_, ?_⟩
    · rintro i y ρ μ hy ⟨y4, y5, rfl, rfl⟩
      have hi : i < new.length := by
        have := (List.getElem?_eq_some_iff.mp hy).1
        unfold txts at this
        rwa [enumZ_len, List.length_map, List.length_map] at this
      have hn : new[i]? = some new[i] := List.getElem?_eq_getElem hi
      generalize new[i] = o at hn
      have ey : ((txts new).map Val.dat)[i]? = some (.dat (.str o)) := by
        unfold txts
        rw [List.getElem?_map, List.getElem?_map, hn]
        rfl
      rw [enumZ_get ey, Nat.zero_add] at hy
      cases hy
      have a1 : (ab.map PyData.int)[i]? = some (.int (ab.getD i 0)) := by
        rw [List.getElem?_map, List.getD, List.getElem?_eq_getElem (by omega)]
        rfl
      have a2 : (ab.map PyData.int)[i + 1]? = some (.int (ab.getD (i + 1) 0)) := by
        rw [List.getElem?_map, List.getD, List.getElem?_eq_getElem (by omega)]
        rfl
      have hl : (dats ((rowB ab x new i).map .int)).length < sizeLine := by
        unfold dats rowB
        rw [List.length_map, List.length_map, List.length_map, List.length_range]
        omega
      have last : atI (dats ((rowB ab x new i).map .int)) (-1) = some (.dat (.int (cellB ab x new i))) := by
        have e : dats ((rowB ab x new i).map .int) = dats (((List.range i).map (cellB ab x new)).map .int) ++ [.dat (.int (cellB ab x new i))] := by
          unfold rowB dats
          rw [List.range_succ]
          simp only [List.map_append]
          rfl
        rw [e]
        exact atI_last _ _
      have step : ∀ v : Int, v = cellB ab x new (i + 1) → dats ((rowB ab x new i).map .int) ++ [Val.dat (.int v)] = dats ((rowB ab x new (i + 1)).map .int) := fun v e => by
        rw [e, rowB_succ]
        unfold dats
        simp only [List.map_append]
        rfl
      refine ⟨rfl, ⟨0, _, rfl⟩, ite2 (fun g => ?_) (fun g => ?_)⟩
      · have g' : x = o := of_decide_eq_true g
        refine ⟨_, atI_nat a1, 0, _, rfl, hl, _, .refl _, _, _, rfl, ?_⟩
        rw [← step _ (show ab.getD i 0 + 1 = cellB ab x new (i + 1) by rw [cellB, if_pos (by rw [hn, g'])])]
        rfl
      · have g' : ¬ x = o := fun h => g (decide_eq_true h)
        have ec : cellB ab x new (i + 1) = (if cellB ab x new i > ab.getD (i + 1) 0 then cellB ab x new i else ab.getD (i + 1) 0) := by
          rw [cellB]
          exact if_neg (by rw [hn]; exact fun h => g' (Option.some.inj h).symm)
        refine ⟨_, atI_nat a2, 0, _, _, rfl, last, 0, _, rfl, hl, _, .refl _, _, _, rfl, ?_⟩
        rw [← step _ (show (if cellB ab x new i > ab.getD (i + 1) 0 then cellB ab x new i else ab.getD (i + 1) 0) = cellB ab x new (i + 1) from ec.symm)]
        rfl
    · rintro ρ μ ⟨y4, y5, rfl, rfl⟩
      have e : (enumZ 0 ((txts new).map Val.dat)).length = new.length := by
        unfold txts
        rw [enumZ_len, List.length_map, List.length_map]
      rw [e]
      exact ⟨_, .refl _, q pr⟩
end
end Kr
namespace Kr
open PySem PySem.Spec PyProof.Rows L2 Lf Zl SX
/-! ### the table -/
def tabR (old new : List Str) : Nat → List Int
  | 0 => List.replicate (new.length + 1) 0
  | i + 1 => rowB (tabR old new i) (old.getD i "") new new.length
def tabL (old new : List Str) (i j : Nat) : Int := (tabR old new i).getD j 0
theorem tabR_len (old new : List Str) : ∀ i, (tabR old new i).length = new.length + 1
  | 0 => List.length_replicate
  | i + 1 => by
    unfold tabR rowB
    rw [List.length_map, List.length_range]
theorem rowB_get (ab : List Int) (x : Str) (new : List Str) {k j : Nat} (h : j ≤ k) : (rowB ab x new k).getD j 0 = cellB ab x new j := by
  unfold rowB
  rw [List.getD, List.getElem?_map, List.getElem?_range (by omega)]
  rfl
theorem tabL_zero (old new : List Str) (j : Nat) : tabL old new 0 j = 0 := by
  unfold tabL tabR
  rw [List.getD, List.getElem?_replicate]
  split <;> rfl
theorem tabL_first (old new : List Str) : ∀ i, tabL old new i 0 = 0
  | 0 => tabL_zero old new 0
  | i + 1 => by
    unfold tabL tabR
    rw [rowB_get _ _ _ (Nat.zero_le _)]
    rfl
theorem tabL_cell (old new : List Str) (i : Nat) {j : Nat} (h : j ≤ new.length) : tabL old new (i + 1) j = cellB (tabR old new i) (old.getD i "") new j := by
  have e : tabR old new (i + 1) = rowB (tabR old new i) (old.getD i "") new new.length := rfl
  unfold tabL
  rw [e, rowB_get _ _ _ h]
theorem tabL_same {old new : List Str} {i j : Nat} {x : Str} (hi : old[i]? = some x) (hj : new[j]? = some x) : tabL old new (i + 1) (j + 1) = tabL old new i j + 1 := by
  have hl := (List.getElem?_eq_some_iff.mp hj).1
  rw [tabL_cell _ _ _ (by omega)]
  rw [cellB, if_pos (by rw [hj, List.getD, hi]; rfl)]
  rfl
theorem tabL_other {old new : List Str} {i j : Nat} {x y : Str} (hi : old[i]? = some x) (hj : new[j]? = some y) (ne : x ≠ y) :
    tabL old new (i + 1) (j + 1) = if tabL old new (i + 1) j > tabL old new i (j + 1) then tabL old new (i + 1) j else tabL old new i (j + 1) := by
  have hl := (List.getElem?_eq_some_iff.mp hj).1
  rw [tabL_cell _ _ _ (by omega), tabL_cell _ _ _ (by omega)]
  rw [cellB, if_neg (by rw [hj, List.getD, hi]; exact fun h => ne (Option.some.inj h).symm)]
  rfl
theorem tabL_nonneg (old new : List Str) : ∀ i j, 0 ≤ tabL old new i j
  | 0, j => by rw [tabL_zero]; exact Int.le_refl 0
  | i + 1, 0 => by rw [tabL_first]; exact Int.le_refl 0
  | i + 1, j + 1 => by
    by_cases h : j + 1 ≤ new.length
    · have a := tabL_nonneg old new i j
      have b := tabL_nonneg old new i (j + 1)
      rw [tabL_cell _ _ _ h, cellB]
      split
      · have : (tabR old new i).getD j 0 = tabL old new i j := rfl
        omega
      · have e : (tabR old new i).getD (j + 1) 0 = tabL old new i (j + 1) := rfl
        split <;> omega
    · unfold tabL
      rw [List.getD, List.getElem?_eq_none (by rw [tabR_len]; omega)]
      exact Int.le_refl 0
def rowD (l : List Int) : PyData := .list (l.map .int)
/-- the rows behind the first one -/
def tabT (old new : List Str) (k : Nat) : List PyData := (List.range k).map fun i => rowD (tabR old new (i + 1))
theorem tabT_succ (old new : List Str) (k : Nat) : tabT old new (k + 1) = tabT old new k ++ [rowD (tabR old new (k + 1))] := by
  unfold tabT
  rw [List.range_succ, List.map_append]
  rfl
theorem tabT_len (old new : List Str) (k : Nat) : (tabT old new k).length = k := by
  unfold tabT
  rw [List.length_map, List.length_range]
theorem tabT_get (old new : List Str) {k i : Nat} (h : i < k) : (tabT old new k)[i]? = some (rowD (tabR old new (i + 1))) := by
  unfold tabT
  rw [List.getElem?_map, List.getElem?_range h]
  rfl
theorem txts_get {ls : List Str} {i : Nat} {y : Val} (h : ((txts ls).map Val.dat)[i]? = some y) : ∃ x, ls[i]? = some x ∧ y = .dat (.str x) := by
  unfold txts at h
  rw [List.map_map, List.getElem?_map] at h
  obtain ⟨x, hx, rfl⟩ := Option.map_eq_some_iff.mp h
  exact ⟨x, hx, rfl⟩
theorem txts_len (ls : List Str) : (txts ls).length = ls.length := List.length_map ..
theorem rep_ints (n : Nat) : (List.replicate n [Val.dat (.int 0)]).flatten = dats ((List.replicate n (0 : Int)).map .int) := by
  induction n with
  | zero => rfl
  | succ n ih =>
    rw [List.replicate_succ, List.flatten_cons, ih, List.replicate_succ]
    rfl
section
variable {P : Program} {w : World} {K : PySem.W.Frag} {mg : Str → Option Value} {base : Heap}
def fTable : DSp := fun xs μ Q => ∃ old new : List Str, xs = [.dat (.list (txts old)), .dat (.list (txts new))] ∧ μ = [] ∧ old.length ≤ 40 ∧ new.length ≤ 40 ∧ ∀ p0 p, Q (.ptr p) [(p0, .lst (dats ((tabR old new 0).map .int))), (p, .lst (.ptr p0 :: dats (tabT old new old.length)))]
abbrev sTable : Stmt := topS 7
theorem scTable : FnScope ["old", "new", "rows", "line"] ["old", "new"] (defScope sTable) := ⟨rfl, rfl, rfl, by decide +kernel, rfl, by decide +kernel, by decide +kernel⟩
theorem ok_table {f : Addr} {fd : FuncData} (F : Fun K "table" "table" sTable f fd) (T : Bs mg) (c_row_beneath : CalZ P w K mg base 1 "row_beneath" ["above", "line", "new"] fBeneath) : FnOk P w K mg base CX0 2 f fd ["old", "new"] (spZ w K fTable) := by
  refine Fun.okZ F scTable (fun xs μ Q h => ?_) (fun cdv A outer s H E hr => ?_)
  · obtain ⟨old, new, rfl, _⟩ := h
    rfl
  · have nd := scTable.nd
    refine ⟨_, (dss_cons (ds_set (i := 2) nd rfl (Or.inl rfl) (d_lst (da_cons (d_bin oz_mul (d_lst (da_cons d_int da_nil)) (d_bin oz_add (d_callB ca_len (by rfl) T.len PySem.boot_len (da_cons (dv 1) da_nil)) d_int)) da_nil)))
  (dss_cons (ds_for PassesOwn.never rfl (di_seq (dv 0)) (dg_name (i := 3) nd rfl (Or.inl rfl))
  (dss_one (ds_expr (d_lm PySem.F.slot_list_append PySem.F.type_list_append me_append (dv 2) (da_cons (d_fz (d_ownL c_row_beneath (hr.mono (by omega)) (by rfl) (da_cons (d_ix (dv 2) (d_neg d_int) (fun _ _ => rfl)) (da_cons (dv 3) (da_cons (dv 1) da_nil))))) da_nil)))))
  (dss_one (ds_ret (dv 2))))), ?_⟩
    rintro xs μ Q ⟨old, new, rfl, rfl, ho, hn, q⟩
    have ez : sizeLine = 16777216 := by decide +kernel
    refine ⟨(by show 1 ≤ sizeLine; omega), fun p1 => ?_⟩
    have eln : (txts new).length = new.length := txts_len new
    refine ⟨_, .p 0 rfl, by omega, by omega, by show _ ≤ sizeLine; simp; omega, fun p0 => ⟨(by show 1 ≤ sizeLine; omega), fun p => ?_⟩⟩
    have er : (List.replicate (((txts new).length : Int) + 1).toNat [Val.dat (.int 0)]).flatten = dats ((tabR old new 0).map .int) := by
      rw [show (((txts new).length : Int) + 1).toNat = new.length + 1 by omega]
      exact rep_ints _
    rw [er]
    refine ⟨fun i ρ μ => ∃ y3 : Option Val, ρ = [some (.dat (.list (txts old))), some (.dat (.list (txts new))), some (.ptr p), y3] ∧ μ = [(p1, .lst [.dat (.int 0)]), (p0, .lst (dats ((tabR old new 0).map .int))), (p, .lst (.ptr p0 :: dats (tabT old new i)))], ⟨_, rfl, rfl⟩, fun _ _ _ _ _ => trivial, ?_, ?_⟩
    · rintro i y ρ μ hy ⟨y3, rfl, rfl⟩
      obtain ⟨x, hx, rfl⟩ := txts_get hy
      have hi := (List.getElem?_eq_some_iff.mp hx).1
      have last : ∃ v, atI (.ptr p0 :: dats (tabT old new i)) (-1) = some v ∧ Lent [(p1, .lst [.dat (.int 0)]), (p0, .lst (dats ((tabR old new 0).map .int))), (p, .lst (.ptr p0 :: dats (tabT old new i)))] v (.dat (.list ((tabR old new i).map .int))) := by
        cases i with
        | zero => exact ⟨.ptr p0, rfl, .p 1 rfl (datOf_dats _)⟩
        | succ i =>
          refine ⟨.dat (rowD (tabR old new (i + 1))), ?_, .keep _⟩
          rw [tabT_succ]
          unfold dats
          rw [List.map_append, ← List.cons_append]
          exact atI_last _ _
      obtain ⟨v, hv, le⟩ := last
      refine ⟨⟨2, _, rfl⟩, 2, _, _, rfl, hv, _, .cons le (.cons (.keep _) (.cons (.keep _) .nil)), tabR old new i, x, new, rfl, rfl, tabR_len old new i, hn, fun pb => ⟨⟨trivial, ?_⟩, 3, _, _, rfl, datOf_dats _, 2, _, rfl, ?_, _, .refl _, _, rfl, ?_⟩⟩
      · intro e he
        rw [List.mem_singleton.mp he]
        intro z hz
        obtain ⟨d, hd, rfl⟩ := List.mem_map.mp hz
        obtain ⟨k, _, rfl⟩ := List.mem_map.mp hd
        rfl
      · show (Val.ptr p0 :: dats (tabT old new i)).length < sizeLine
        unfold dats
        rw [List.length_cons, List.length_map, tabT_len]
        omega
      · rw [tabT_succ]
        have e : rowB (tabR old new i) x new new.length = tabR old new (i + 1) := by
          show _ = rowB (tabR old new i) (old.getD i "") new new.length
          rw [List.getD, hx]
          rfl
        rw [e]
        unfold dats
        rw [List.map_append]
        rfl
    · rintro ρ μ ⟨y3, rfl, rfl⟩
      rw [List.length_map, txts_len]
      exact ⟨_, .cons _ (.refl _), q p0 p⟩
def fLTable : DSp := fun xs μ Q => ∃ old new : List Str, xs = [.dat (.list (txts old)), .dat (.list (txts new))] ∧ μ = [] ∧ old.length ≤ 40 ∧ new.length ≤ 40 ∧ ∀ p, Q (.ptr p) [(p, .lst (dats (rowD (tabR old new 0) :: tabT old new old.length)))]
abbrev sLTable : Stmt := topS 23
theorem scLTable : FnScope ["_law_old", "_law_new", "_law_found", "_law_one", "_law_above", "_law_line", "_law_j", "_law_other_here"] ["_law_old", "_law_new"] (defScope sLTable) := ⟨rfl, rfl, rfl, by decide +kernel, rfl, by decide +kernel, by decide +kernel⟩
theorem ok_ltable {f : Addr} {fd : FuncData} (F : Fun K "_law_table" "_law_table" sLTable f fd) (T : Bs mg) : FnOk P w K mg base CX0 1 f fd ["_law_old", "_law_new"] (spZ w K fLTable) := by
  refine Fun.okZ F scLTable (fun xs μ Q h => ?_) (fun cdv A outer s H E hr => ?_)
  · obtain ⟨old, new, rfl, _⟩ := h
    rfl
  · have nd := scLTable.nd
    refine ⟨_, (dss_cons (ds_set (i := 2) nd rfl (Or.inl rfl) (d_lst (da_cons (d_fz (d_bin oz_mul (d_lst (da_cons d_int da_nil)) (d_bin oz_add (d_callB ca_len (by rfl) T.len PySem.boot_len (da_cons (dv 1) da_nil)) d_int))) da_nil)))
  (dss_cons (ds_for PassesOwn.never rfl (di_seq (dv 0)) (dg_name (i := 3) nd rfl (Or.inl rfl))
  (dss_cons (ds_set (i := 4) nd rfl (Or.inl rfl) (d_ix (dv 2) (d_neg d_int) (fun _ _ => rfl)))
  (dss_cons (ds_set (i := 5) nd rfl (Or.inl rfl) (d_lst (da_cons d_int da_nil)))
  (dss_cons (ds_for PassesOwn.never rfl (di_enum (by rfl) T.enumerate (dv 1)) (dg_tup rfl (dgs_cons (dg_name (i := 6) nd rfl (Or.inl rfl)) (dgs_cons (dg_name (i := 7) nd rfl (Or.inl rfl)) dgs_nil)))
  (dss_one (ds_expr (d_lm PySem.F.slot_list_append PySem.F.type_list_append me_append (dv 5) (da_cons (d_ifExp (dt_cmp (oz_eq hr.units) (dv 3) (dv 7) (nomark _)) (d_bin oz_add (d_ix (dv 4) (dv 6) (fun _ _ => rfl)) d_int) (d_callB (ca_max2 rfl) (by rfl) T.max (by decide +kernel) (da_cons (d_ix (dv 5) (d_neg d_int) (fun _ _ => rfl)) (da_cons (d_ix (dv 4) (d_bin oz_add (dv 6) d_int) (fun _ _ => rfl)) da_nil)))) da_nil)))))
  (dss_one (ds_expr (d_lm PySem.F.slot_list_append PySem.F.type_list_append me_append (dv 2) (da_cons (d_fz (dv 5)) da_nil))))))))
  (dss_one (ds_ret (dv 2))))), ?_⟩
    rintro xs μ Q ⟨old, new, rfl, rfl, ho, hn, q⟩
    have ez : sizeLine = 16777216 := by decide +kernel
    refine ⟨(by show 1 ≤ sizeLine; omega), fun p1 => ?_⟩
    have eln : (txts new).length = new.length := txts_len new
    have er : (List.replicate (((txts new).length : Int) + 1).toNat [Val.dat (.int 0)]).flatten = dats ((tabR old new 0).map .int) := by
      rw [show (((txts new).length : Int) + 1).toNat = new.length + 1 by omega]
      exact rep_ints _
    refine ⟨_, .p 0 rfl, by omega, by omega, by show _ ≤ sizeLine; simp; omega, fun p0 => ⟨1, _, _, rfl, by rw [er]; exact datOf_dats _, (by show 1 ≤ sizeLine; omega), fun p => ?_⟩⟩
    refine ⟨fun i ρ μ => ∃ y3 y4 y5 y6 y7 : Option Val, ρ = [some (.dat (.list (txts old))), some (.dat (.list (txts new))), some (.ptr p), y3, y4, y5, y6, y7] ∧ μ = [(p1, .lst [.dat (.int 0)]), (p, .lst (dats (rowD (tabR old new 0) :: tabT old new i)))], ⟨_, _, _, _, _, rfl, rfl⟩, fun _ _ _ _ _ => trivial, ?_, ?_⟩
    · rintro i y ρ μ hy ⟨y3, y4, y5, y6, y7, rfl, rfl⟩
      obtain ⟨x, hx, rfl⟩ := txts_get hy
      have hi := (List.getElem?_eq_some_iff.mp hx).1
      have last : atI (dats (rowD (tabR old new 0) :: tabT old new i)) (-1) = some (.dat (rowD (tabR old new i))) := by
        cases i with
        | zero => rfl
        | succ i =>
          rw [tabT_succ, ← List.cons_append]
          unfold dats
          rw [List.map_append]
          exact atI_last _ _
      refine ⟨1, _, _, rfl, last, (by show 1 ≤ sizeLine; omega), fun pr => ?_⟩
      have hab : (tabR old new i).length = new.length + 1 := tabR_len old new i
      generalize eab : tabR old new i = ab at hab
      refine ⟨fun j ρ μ => ∃ y6 y7 : Option Val, ρ = [some (.dat (.list (txts old))), some (.dat (.list (txts new))), some (.ptr p), some (.dat (.str x)), some (.dat (rowD ab)), some (.ptr pr), y6, y7] ∧ μ = [(p1, .lst [.dat (.int 0)]), (p, .lst (dats (rowD (tabR old new 0) :: tabT old new i))), (pr, .lst (dats ((rowB ab x new j).map .int)))], ⟨_, _, rfl, rfl⟩, fun _ _ _ _ _ => trivial, ?_, ?_⟩
      · rintro j y ρ μ hy ⟨y6, y7, rfl, rfl⟩
        have hj : j < new.length := by
          have := (List.getElem?_eq_some_iff.mp hy).1
          unfold txts at this
          rwa [enumZ_len, List.length_map, List.length_map] at this
        have hnj : new[j]? = some new[j] := List.getElem?_eq_getElem hj
        generalize new[j] = o at hnj
        have ey : ((txts new).map Val.dat)[j]? = some (.dat (.str o)) := by
          unfold txts
          rw [List.getElem?_map, List.getElem?_map, hnj]
          rfl
        rw [enumZ_get ey, Nat.zero_add] at hy
        cases hy
        have a1 : (ab.map PyData.int)[j]? = some (.int (ab.getD j 0)) := by
          rw [List.getElem?_map, List.getD, List.getElem?_eq_getElem (by omega)]
          rfl
        have a2 : (ab.map PyData.int)[j + 1]? = some (.int (ab.getD (j + 1) 0)) := by
          rw [List.getElem?_map, List.getD, List.getElem?_eq_getElem (by omega)]
          rfl
        have hl : (dats ((rowB ab x new j).map .int)).length < sizeLine := by
          unfold dats rowB
          rw [List.length_map, List.length_map, List.length_map, List.length_range]
          omega
        have last : atI (dats ((rowB ab x new j).map .int)) (-1) = some (.dat (.int (cellB ab x new j))) := by
          have e : dats ((rowB ab x new j).map .int) = dats (((List.range j).map (cellB ab x new)).map .int) ++ [.dat (.int (cellB ab x new j))] := by
            unfold rowB dats
            rw [List.range_succ]
            simp only [List.map_append]
            rfl
          rw [e]
          exact atI_last _ _
        have step : ∀ v : Int, v = cellB ab x new (j + 1) → dats ((rowB ab x new j).map .int) ++ [Val.dat (.int v)] = dats ((rowB ab x new (j + 1)).map .int) := fun v e => by
          rw [e, rowB_succ]
          unfold dats
          simp only [List.map_append]
          rfl
        refine ⟨rfl, ⟨2, _, rfl⟩, ite2 (fun g => ?_) (fun g => ?_)⟩
        · have g' : x = o := of_decide_eq_true g
          refine ⟨_, atI_nat a1, 2, _, rfl, hl, _, .refl _, _, _, rfl, ?_⟩
          rw [← step _ (show ab.getD j 0 + 1 = cellB ab x new (j + 1) by rw [cellB, if_pos (by rw [hnj, g'])])]
          rfl
        · have g' : ¬ x = o := fun h => g (decide_eq_true h)
          have ec : cellB ab x new (j + 1) = (if cellB ab x new j > ab.getD (j + 1) 0 then cellB ab x new j else ab.getD (j + 1) 0) := by
            rw [cellB]
            exact if_neg (by rw [hnj]; exact fun h => g' (Option.some.inj h).symm)
          refine ⟨2, _, _, rfl, last, _, atI_nat a2, 2, _, rfl, hl, _, .refl _, _, _, rfl, ?_⟩
          rw [← step (if ab.getD (j + 1) 0 > cellB ab x new j then ab.getD (j + 1) 0 else cellB ab x new j) (by rw [ec]; split <;> split <;> omega)]
          rfl
      · rintro ρ μ ⟨y6, y7, rfl, rfl⟩
        have e : (enumZ 0 ((txts new).map Val.dat)).length = new.length := by
          unfold txts
          rw [enumZ_len, List.length_map, List.length_map]
        rw [e]
        refine ⟨⟨1, _, rfl⟩, 2, _, _, rfl, datOf_dats _, 1, _, rfl, ?_, _, .refl _, _, _, _, _, _, rfl, ?_⟩
        · unfold dats
          rw [List.length_map, List.length_cons, tabT_len]
          omega
        · rw [tabT_succ]
          have e : rowB ab x new new.length = tabR old new (i + 1) := by
            show _ = rowB (tabR old new i) (old.getD i "") new new.length
            rw [List.getD, hx, eab]
            rfl
          rw [e, ← List.cons_append]
          unfold dats
          rw [List.map_append]
          rfl
    · rintro ρ μ ⟨y3, y4, y5, y6, y7, rfl, rfl⟩
      rw [List.length_map, txts_len]
      exact ⟨_, .cons _ (.refl _), q p⟩
end
end Kr
namespace Kr
open PySem PySem.Spec PyProof.Rows L2 Lf Zl SX
/-! ### pairs kept -/
def Up (old new : List Str) : Nat → Nat → List (Nat × Nat) → Prop
  | i, j, [] => i ≤ old.length ∧ j ≤ new.length
  | i, j, (a, b) :: r => i ≤ a ∧ j ≤ b ∧ (∃ x, old[a]? = some x ∧ new[b]? = some x) ∧ Up old new (a + 1) (b + 1) r
theorem Up.less {old new : List Str} {i j i' j' : Nat} {l : List (Nat × Nat)} (h : Up old new i j l) (hi : i' ≤ i) (hj : j' ≤ j) : Up old new i' j' l := by
  cases l with
  | nil => exact ⟨Nat.le_trans hi h.1, Nat.le_trans hj h.2⟩
  | cons p r => exact ⟨Nat.le_trans hi h.1, Nat.le_trans hj h.2.1, h.2.2⟩
theorem Up.len {old new : List Str} : ∀ {i j : Nat} {l : List (Nat × Nat)}, Up old new i j l → i + l.length ≤ old.length
  | _, _, [], h => h.1
  | _, _, (a, b) :: r, h => by
    have := Up.len h.2.2.2
    have h1 := h.1
    rw [List.length_cons]
    omega
/-! ### rows of a patch -/
inductive Op where
  | keep (n : Nat) | cut (n : Nat) | put (ls : List Str)
def Op.dat : Op → PyData
  | .keep n => .tuple [.str "keep", .int n]
  | .cut n => .tuple [.str "cut", .int n]
  | .put ls => .tuple [.str "put", .tuple (txts ls)]
def Op.kind : Op → Str
  | .keep _ => "keep"
  | .cut _ => "cut"
  | .put _ => "put"
def Op.ok : Op → Prop
  | .keep n => 0 < n
  | .cut n => 0 < n
  | .put ls => ls ≠ [] ∧ ls.length ≤ 40 ∧ ∀ x ∈ ls, ∀ c ∈ x.cps.toList, c < 128
theorem Op.row {o : Op} (h : o.ok) : RowG o.dat := by
  cases o with
  | keep n => exact .keep h
  | cut n => exact .cut h
  | put ls => exact .put h.1 h.2.1
abbrev Tri := Nat × List Str × Nat
def Op.st (old : List Str) (s : Tri) : Op → Tri
  | .keep n => (s.1 + n, s.2.1 ++ (old.drop s.1).take n, s.2.2 + n)
  | .cut n => (s.1 + n, s.2.1, s.2.2)
  | .put ls => (s.1, s.2.1 ++ ls, s.2.2)
def rn (old : List Str) (s : Tri) (ops : List Op) : Tri := ops.foldl (Op.st old) s
theorem run_app (old : List Str) (s : Tri) (a b : List Op) : rn old s (a ++ b) = rn old (rn old s a) b := List.foldl_append ..
theorem run_one (old : List Str) (s : Tri) (a : List Op) (o : Op) : rn old s (a ++ [o]) = Op.st old (rn old s a) o := by rw [run_app]; rfl
theorem st_le (old : List Str) (s : Tri) (o : Op) : s.1 ≤ (Op.st old s o).1 ∧ s.2.1.length ≤ (Op.st old s o).2.1.length ∧ s.2.2 ≤ (Op.st old s o).2.2 := by
  cases o <;> simp [Op.st]
theorem run_le (old : List Str) : ∀ (ops : List Op) (s : Tri), s.1 ≤ (rn old s ops).1 ∧ s.2.1.length ≤ (rn old s ops).2.1.length ∧ s.2.2 ≤ (rn old s ops).2.2
  | [], s => ⟨Nat.le_refl _, Nat.le_refl _, Nat.le_refl _⟩
  | o :: r, s => by
    have h1 := st_le old s o
    have h2 := run_le old r (Op.st old s o)
    exact ⟨Nat.le_trans h1.1 h2.1, Nat.le_trans h1.2.1 h2.2.1, Nat.le_trans h1.2.2 h2.2.2⟩
theorem run_pre (old : List Str) (ops : List Op) (i : Nat) (s : Tri) : (rn old s (ops.take i)).1 ≤ (rn old s ops).1 ∧ (rn old s (ops.take i)).2.1.length ≤ (rn old s ops).2.1.length ∧ (rn old s (ops.take i)).2.2 ≤ (rn old s ops).2.2 := by
  have h := run_le old (ops.drop i) (rn old s (ops.take i))
  rwa [← run_app, List.take_append_drop] at h
theorem run_next (old : List Str) {ops : List Op} {i : Nat} {o : Op} (s : Tri) (h : ops[i]? = some o) : rn old s (ops.take (i + 1)) = Op.st old (rn old s (ops.take i)) o := by
  rw [List.take_succ, h]
  exact run_one ..
def Alt (ops : List Op) : Prop := ∀ i a b, ops[i]? = some a → ops[i + 1]? = some b → a.kind ≠ b.kind
theorem Alt.snoc {ops : List Op} {o : Op} (h : Alt ops) (hl : ∀ r a, ops = r ++ [a] → a.kind ≠ o.kind) : Alt (ops ++ [o]) := fun i a b ha hb => by
  have lb := (List.getElem?_eq_some_iff.mp hb).1
  rw [List.length_append, List.length_singleton] at lb
  rw [List.getElem?_append_left (by omega)] at ha
  by_cases e : i + 1 < ops.length
  · rw [List.getElem?_append_left e] at hb
    exact h i a b ha hb
  · have ei : i + 1 = ops.length := by omega
    rw [ei, List.getElem?_append_right (Nat.le_refl _), Nat.sub_self] at hb
    cases hb
    refine hl (ops.take i) a ?_
    have : ops.take (i + 1) = ops := List.take_of_length_le (by omega)
    rw [← this, List.take_succ, ha]
    rw [List.take_append_of_le_length (by rw [List.length_take]; omega), List.take_take]
    simp
theorem Alt.init {a b : List Op} (h : Alt (a ++ b)) : Alt a := fun i x y hx hy => by
  have l1 := (List.getElem?_eq_some_iff.mp hx).1
  have l2 := (List.getElem?_eq_some_iff.mp hy).1
  exact h i x y (by rw [List.getElem?_append_left l1]; exact hx) (by rw [List.getElem?_append_left l2]; exact hy)
def chgO (m : Nat) (ls : List Str) : List Op := (if 0 < m then [.cut m] else []) ++ (if ls = [] then [] else [.put ls])
theorem chgO_dat (m : Nat) (ls : List Str) : (chgO m ls).map Op.dat = chg m ls := by
  unfold chgO chg
  rw [List.map_append]
  split <;> split <;> rfl
theorem chgO_len (m : Nat) (ls : List Str) : (chgO m ls).length ≤ 2 := by
  unfold chgO
  split <;> split <;> simp
theorem chgO_run (old : List Str) (s : Tri) (m : Nat) (ls : List Str) : rn old s (chgO m ls) = (s.1 + m, s.2.1 ++ ls, s.2.2) := by
  unfold chgO
  rw [run_app]
  by_cases h : 0 < m
  · rw [if_pos h]
    by_cases g : ls = []
    · rw [if_pos g, g]
      show ((s.1 + m, s.2.1, s.2.2) : Tri) = _
      rw [List.append_nil]
    · rw [if_neg g]
      rfl
  · rw [if_neg h]
    have : m = 0 := by omega
    subst this
    by_cases g : ls = []
    · rw [if_pos g, g]
      show (s : Tri) = _
      rw [List.append_nil]
      rfl
    · rw [if_neg g]
      rfl
theorem chgO_ok {m : Nat} {ls : List Str} (h : ls.length ≤ 40) (hx : ∀ x ∈ ls, ∀ c ∈ x.cps.toList, c < 128) : ∀ o ∈ chgO m ls, o.ok := fun o ho => by
  unfold chgO at ho
  rcases List.mem_append.mp ho with ho | ho
  · split at ho
    · rename_i g
      rw [List.mem_singleton.mp ho]
      exact g
    · cases ho
  · split at ho
    · cases ho
    · rename_i g
      rw [List.mem_singleton.mp ho]
      exact ⟨g, h, hx⟩
theorem kinds_ne : (Op.keep 0).kind ≠ (Op.cut 0).kind ∧ (Op.keep 0).kind ≠ (Op.put []).kind ∧ (Op.cut 0).kind ≠ (Op.put []).kind := by decide +kernel
/-- behind nothing, or behind a keep -/
def Kp (ops : List Op) : Prop := ∀ r a, ops = r ++ [a] → ∃ n, a = .keep n
theorem Alt.chg {ops : List Op} (h : Alt ops) (hk : Kp ops) (m : Nat) (ls : List Str) : Alt (ops ++ chgO m ls) := by
  unfold chgO
  have last : ∀ {l r : List Op} {o a : Op}, l ++ [o] = r ++ [a] → o = a := fun e => (List.append_inj' e rfl).2 |> fun e => by cases e; rfl
  have h1 : Alt (ops ++ (if 0 < m then [.cut m] else [])) := by
    split
    · exact h.snoc fun r a e => by
        obtain ⟨n, rfl⟩ := hk r a e
        exact kinds_ne.1
    · rw [List.append_nil]; exact h
  rw [← List.append_assoc]
  by_cases g : ls = []
  · rw [if_pos g, List.append_nil]; exact h1
  · rw [if_neg g]
    refine h1.snoc fun r a e => ?_
    by_cases hm : 0 < m
    · rw [if_pos hm] at e
      rw [← last e]
      exact kinds_ne.2.2
    · rw [if_neg hm, List.append_nil] at e
      obtain ⟨n, rfl⟩ := hk r a e
      exact kinds_ne.2.1
structure PatG (old new : List Str) (ops : List Op) (cut put k : Nat) : Prop where
  ok : ∀ o ∈ ops, o.ok
  alt : Alt ops
  len : ops.length ≤ 3 * k
  last : Kp ops
  run : rn old (0, [], 0) ops = (cut, new.take put, k)
/-- behind the changes -/
structure PatH (old new : List Str) (ops : List Op) (cut put k : Nat) : Prop where
  ok : ∀ o ∈ ops, o.ok
  alt : Alt ops
  len : ops.length ≤ 3 * k + 2
  run : rn old (0, [], 0) ops = (cut, new.take put, k)
theorem PatG.nil (old new : List Str) : PatG old new [] 0 0 0 := ⟨fun o h => (by cases h), fun i a b h => (by cases h), Nat.le_refl _, fun r a e => (by cases r <;> cases e), rfl⟩
theorem PatG.chg {old new : List Str} {ops : List Op} {cut put k one other : Nat} (h : PatG old new ops cut put k) (h1 : cut ≤ one) (h2 : put ≤ other) (hn : new.length ≤ 40) (hx : ∀ x ∈ new, ∀ c ∈ x.cps.toList, c < 128) : PatH old new (ops ++ chgO (one - cut) ((new.drop put).take (other - put))) one other k := by
  refine ⟨fun o ho => ?_, h.alt.chg h.last _ _, ?_, ?_⟩
  · rcases List.mem_append.mp ho with ho | ho
    · exact h.ok o ho
    · exact chgO_ok (by rw [List.length_take, List.length_drop]; omega) (fun x h => hx x (List.mem_of_mem_drop (List.mem_of_mem_take h))) o ho
  · have := h.len
    have := chgO_len (one - cut) ((new.drop put).take (other - put))
    rw [List.length_append]
    omega
  · rw [run_app, h.run, chgO_run]
    show (cut + (one - cut), new.take put ++ (new.drop put).take (other - put), k) = _
    rw [show cut + (one - cut) = one by omega, ← List.take_add, show put + (other - put) = other by omega]
theorem take_one {new : List Str} {j : Nat} {x : Str} (h : new[j]? = some x) : new.take (j + 1) = new.take j ++ [x] := by
  rw [List.take_succ, h]
  rfl
theorem PatH.more {old new : List Str} {r : List Op} {n one other k : Nat} {x : Str} (h : PatH old new (r ++ [.keep n]) one other k) (ho : old[one]? = some x) (hn : new[other]? = some x) : PatG old new (r ++ [.keep (n + 1)]) (one + 1) (other + 1) (k + 1) := by
  have e := h.run
  rw [run_one] at e
  refine ⟨fun o hm => ?_, ?_, ?_, fun r' a e' => ⟨n + 1, ?_⟩, ?_⟩
  · rcases List.mem_append.mp hm with hm | hm
    · exact h.ok o (List.mem_append_left _ hm)
    · rw [List.mem_singleton.mp hm]
      exact Nat.succ_pos n
  · refine h.alt.init.snoc fun r' a e' => ?_
    subst e'
    have := h.alt r'.length a (.keep n) (by rw [List.append_assoc, List.getElem?_append_right (Nat.le_refl _), Nat.sub_self]; rfl) (by rw [List.append_assoc, List.getElem?_append_right (by omega), show r'.length + 1 - r'.length = 1 by omega]; rfl)
    exact this
  · have := h.len
    rw [List.length_append, List.length_singleton] at this ⊢
    omega
  · have := (List.append_inj' e' rfl).2
    cases this
    rfl
  · rw [run_one]
    generalize rn old (0, [], 0) r = s at e
    obtain ⟨a, f, q⟩ := s
    have e : (a + n, f ++ (old.drop a).take n, q + n) = ((one, new.take other, k) : Tri) := e
    show ((a + (n + 1), f ++ (old.drop a).take (n + 1), q + (n + 1)) : Tri) = _
    rw [Prod.mk.injEq, Prod.mk.injEq] at e
    obtain ⟨e1, e2, e3⟩ := e
    subst e1
    rw [take_one hn, List.take_succ, List.getElem?_drop, ho, ← e2, ← List.append_assoc, ← e3]
    rfl
theorem PatH.new {old new : List Str} {ops : List Op} {one other k : Nat} {x : Str} (h : PatH old new ops one other k) (hl : ∀ r a, ops = r ++ [a] → a.kind ≠ (Op.keep 1).kind) (ho : old[one]? = some x) (hn : new[other]? = some x) : PatG old new (ops ++ [.keep 1]) (one + 1) (other + 1) (k + 1) := by
  refine ⟨fun o hm => ?_, h.alt.snoc hl, ?_, fun r' a e' => ⟨1, ?_⟩, ?_⟩
  · rcases List.mem_append.mp hm with hm | hm
    · exact h.ok o hm
    · rw [List.mem_singleton.mp hm]
      exact Nat.one_pos
  · have := h.len
    rw [List.length_append, List.length_singleton]
    omega
  · have := (List.append_inj' e' rfl).2
    cases this
    rfl
  · rw [run_one, h.run]
    show ((one + 1, new.take other ++ (old.drop one).take 1, k + 1) : Tri) = _
    rw [take_one hn, List.take_succ, List.getElem?_drop, show one + 0 = one from rfl, ho]
    rfl
/-- a whole patch -/
structure PatF (old new : List Str) (ops : List Op) (k : Nat) : Prop where
  ok : ∀ o ∈ ops, o.ok
  alt : Alt ops
  len : ops.length ≤ 200
  run : rn old (0, [], 0) ops = (old.length, new, k)
theorem PatG.fin {old new : List Str} {ops : List Op} {cut put k : Nat} (h : PatG old new ops cut put k) (h1 : cut ≤ old.length) (h2 : put ≤ new.length) (hn : new.length ≤ 40) (hx : ∀ x ∈ new, ∀ c ∈ x.cps.toList, c < 128) (hk : k ≤ 40) : PatF old new (ops ++ chgO (old.length - cut) (new.drop put)) k := by
  have g := h.chg h1 h2 hn hx
  have e : (new.drop put).take (new.length - put) = new.drop put := List.take_of_length_le (by rw [List.length_drop]; omega)
  rw [e] at g
  refine ⟨g.ok, g.alt, by have := g.len; omega, ?_⟩
  rw [g.run, List.take_length]
def sumK : List Op → Nat
  | [] => 0
  | .keep n :: r => n + sumK r
  | _ :: r => sumK r
theorem run_sum (old : List Str) : ∀ (ops : List Op) (s : Tri), (rn old s ops).2.2 = s.2.2 + sumK ops
  | [], s => rfl
  | o :: r, s => by
    show (rn old (Op.st old s o) r).2.2 = _
    rw [run_sum old r]
    cases o with
    | keep n => show s.2.2 + n + sumK r = s.2.2 + (n + sumK r); omega
    | cut n => rfl
    | put ls => rfl
end Kr
namespace Kr
open PySem PySem.Spec PyProof.Rows L2 Lf Zl SX
/-! ### likeness -/
def LikeG : Nat → PyData → Prop
  | 0, _ => False
  | n + 1, .int _ => True
  | n + 1, .list ds => ds.length ≤ 100 ∧ ∀ d ∈ ds, LikeG n d
  | _, _ => False
theorem dss_never {X : Cx} {ss : List Stmt} : DSs X ss (fun _ _ _ => False) := ⟨fun B => ⟨fun pins s σ H D I h => by
  obtain ⟨_, _, _, _, h, _⟩ := h
  exact h.elim⟩⟩
theorem kk : kitB "int" "bool" = some false ∧ kitB "int" "int" = some true ∧ kitB "list" "bool" = some false ∧ kitB "list" "int" = some false ∧ kitB "list" "str" = some false ∧ kitB "list" "tuple" = some false ∧ kitB "list" "list" = some true := by decide +kernel
theorem zip_same {ds : List PyData} {i : Nat} {y : Val} (h : (zipZ ds ds)[i]? = some y) : ∃ d, ds[i]? = some d ∧ y = .dat (.tuple [d, d]) := by
  unfold zipZ at h
  rw [List.getElem?_map] at h
  obtain ⟨q, hq, rfl⟩ := Option.map_eq_some_iff.mp h
  obtain ⟨h1, h2⟩ := List.getElem?_zip_eq_some.mp hq
  refine ⟨q.1, h1, ?_⟩
  rw [h1] at h2
  rw [← Option.some.inj h2]
section
variable {P : Program} {w : World} {K : PySem.W.Frag} {mg : Str → Option Value} {base : Heap}
def fLike (n : Nat) : DSp := fun xs μ Q => ∃ d, xs = [.dat d, .dat d] ∧ μ = [] ∧ LikeG n d ∧ Q (.dat (.bool true)) []
abbrev sLike : Stmt := topS 5
theorem scLike : FnScope ["thing", "due", "one", "other"] ["thing", "due"] (defScope sLike) := ⟨rfl, rfl, rfl, by decide +kernel, rfl, by decide +kernel, by decide +kernel⟩
theorem ok_like0 {f : Addr} {fd : FuncData} (F : Fun K "is_like" "is_like" sLike f fd) : FnOk P w K mg base CX0 1 f fd ["thing", "due"] (spZ w K (fLike 0)) := by
  refine Fun.okZ F scLike (fun xs μ Q h => ?_) (fun cdv A outer s H E hr => ?_)
  · obtain ⟨d, _, _, h, _⟩ := h
    cases h
  · exact ⟨_, dss_never, fun xs μ Q ⟨d, _, _, h, _⟩ => by cases h⟩
theorem ok_like1 {n k : Nat} {f : Addr} {fd : FuncData} (F : Fun K "is_like" "is_like" sLike f fd) (T : Bs mg) (c_is_like : CalZ P w K mg base (k + 1) "is_like" ["thing", "due"] (fLike n)) : FnOk P w K mg base CX0 (k + 2) f fd ["thing", "due"] (spZ w K (fLike (n + 1))) := by
  refine Fun.okZ F scLike (fun xs μ Q h => ?_) (fun cdv A outer s H E hr => ?_)
  · obtain ⟨d, rfl, _⟩ := h
    rfl
  · have nd := scLike.nd
    refine ⟨_, (dss_cons (ds_if (dt_cmp oz_isN (dv 1) d_non (nomark _))
  (dss_one (ds_ret (d_cmp oz_isN (dv 0) d_non (nomark _))))
  dss_nil)
  (dss_cons (ds_if (dt_truth (d_isi (T := "bool") (by rfl) T.isinstance (by rfl) T.bool (by decide +kernel) (dv 1)))
  (dss_one (ds_ret (d_and (d_isi (T := "bool") (by rfl) T.isinstance (by rfl) T.bool (by decide +kernel) (dv 0)) (d_one (d_cmp (oz_eq hr.units) (dv 0) (dv 1) (nomark _))))))
  dss_nil)
  (dss_cons (ds_if (dt_truth (d_isi (T := "int") (by rfl) T.isinstance (by rfl) T.int (by decide +kernel) (dv 1)))
  (dss_one (ds_ret (d_and (d_isi (T := "int") (by rfl) T.isinstance (by rfl) T.int (by decide +kernel) (dv 0)) (d_and (d_not (d_isi (T := "bool") (by rfl) T.isinstance (by rfl) T.bool (by decide +kernel) (dv 0))) (d_one (d_cmp (oz_eq hr.units) (dv 0) (dv 1) (nomark _)))))))
  dss_nil)
  (dss_cons (ds_if (dt_truth (d_isi (T := "str") (by rfl) T.isinstance (by rfl) T.str (by decide +kernel) (dv 1)))
  (dss_one (ds_ret (d_and (d_isi (T := "str") (by rfl) T.isinstance (by rfl) T.str (by decide +kernel) (dv 0)) (d_one (d_cmp (oz_eq hr.units) (dv 0) (dv 1) (nomark _))))))
  dss_nil)
  (dss_cons (ds_if (DW.dt (dw_and (dt_truth (d_isi (T := "tuple") (by rfl) T.isinstance (by rfl) T.tuple (by decide +kernel) (dv 1))) (dw_and1 (dt_not (dt_truth (d_isi (T := "tuple") (by rfl) T.isinstance (by rfl) T.tuple (by decide +kernel) (dv 0)))))))
  (dss_one (ds_ret d_bl))
  dss_nil)
  (dss_cons (ds_if (DW.dt (dw_and (dt_truth (d_isi (T := "list") (by rfl) T.isinstance (by rfl) T.list (by decide +kernel) (dv 1))) (dw_and1 (dt_not (dt_truth (d_isi (T := "list") (by rfl) T.isinstance (by rfl) T.list (by decide +kernel) (dv 0)))))))
  (dss_one (ds_ret d_bl))
  dss_nil)
  (dss_one (ds_ret (d_and (d_cmp (oz_eq hr.units) (d_callB ca_len (by rfl) T.len PySem.boot_len (da_cons (dv 0) da_nil)) (d_callB ca_len (by rfl) T.len PySem.boot_len (da_cons (dv 1) da_nil)) (nomark _)) (d_one (d_callB (ca_all rfl) (by rfl) T.all (by decide +kernel) (da_cons (d_lc (own := [("one", 2), ("other", 3)]) rfl nd (di_zip (by rfl) T.zip (da_cons (dv 0) (da_cons (dv 1) da_nil))) (blkOk_by (own := [("one", 2), ("other", 3)]) (N := ["thing", "due", "one", "other"]) (sc := defScope (topS 5)) (by decide +kernel)) (put_tup (is := [2, 3]) rfl (by decide)) (fun _ _ _ _ _ => (pg_tup rfl (pgs_cons (pg_name (i := 2) nd rfl (Or.inl rfl)) (pgs_cons (pg_name (i := 3) nd rfl (Or.inl rfl)) pgs_nil)))) (fun _ _ _ _ _ => dts_nil) (fun _ _ _ _ _ => (d_ownLN c_is_like (hr.mono (Nat.le_refl _)) (by rfl) (da_cons (dv 2) (da_cons (dv 3) da_nil))))) da_nil)))))))))))), ?_⟩
    rintro xs μ Q ⟨d, rfl, rfl, hd, q⟩
    have ez : sizeLine = 16777216 := by decide +kernel
    cases d with
    | int i =>
      refine ⟨_, false, .dat _, kk.1, ?_⟩
      refine ⟨_, true, .dat _, kk.2.1, ?_⟩
      refine ⟨_, true, .dat _, kk.2.1, _, false, .dat _, kk.1, ?_⟩
      refine ⟨[], .refl _, ?_⟩
      show Q (.dat (.bool (decide (i = i)))) []
      rw [decide_eq_true rfl]
      exact q
    | list ds =>
      refine ⟨_, false, .dat _, kk.2.2.1, ?_⟩
      refine ⟨_, false, .dat _, kk.2.2.2.1, ?_⟩
      refine ⟨_, false, .dat _, kk.2.2.2.2.1, ?_⟩
      refine ⟨_, false, .dat _, kk.2.2.2.2.2.1, ?_⟩
      refine ⟨_, true, .dat _, kk.2.2.2.2.2.2, _, true, .dat _, kk.2.2.2.2.2.2, ?_⟩
      refine ite2 (fun _ => ?_) (fun z => absurd (decide_eq_true rfl) z)
      refine ⟨ds, ds, .d _, .d _, fun i acc μ => μ = [] ∧ acc = (List.replicate i true).map fun b => Val.dat (.bool b), ⟨rfl, rfl⟩, fun _ _ _ _ _ => ⟨trivial, trivial⟩, ?_, ?_⟩
      · rintro i y acc μ hy ⟨rfl, rfl⟩
        obtain ⟨d, hdi, rfl⟩ := zip_same hy
        have hi := (List.getElem?_eq_some_iff.mp hdi).1
        refine ⟨_, rfl, _, .cons (.keep _) (.cons (.keep _) .nil), d, rfl, rfl, hd.2 d (List.mem_of_getElem? hdi), ⟨rfl, fun p hp => by cases hp⟩, ?_, _, .refl _, rfl, ?_⟩
        · have := hd.1
          rw [List.length_map, List.length_replicate]
          omega
        · rw [List.replicate_succ', List.map_append]
          rfl
      · rintro acc μ ⟨rfl, rfl⟩ p
        refine ⟨0, _, rfl, [], List.nil_sublist _, ?_⟩
        rw [show (List.replicate (zipZ ds ds).length true).all id = true from by simp]
        exact q
    | none => exact hd.elim
    | bool b => exact hd.elim
    | str x => exact hd.elim
    | tuple ds => exact hd.elim
    | dict kvs => exact hd.elim
/-- what anything tells of likeness at three levels -/
def fIsTable : DSp := fun xs μ Q => ∃ old new : List Str, xs = [.dat (.list (txts old)), .dat (.list (txts new)), .dat (.list (rowD (tabR old new 0) :: tabT old new old.length))] ∧ μ = [] ∧ old.length ≤ 40 ∧ new.length ≤ 40 ∧ Q (.dat (.bool true)) []
theorem like_rows (old new : List Str) (ho : old.length ≤ 40) (hn : new.length ≤ 40) : LikeG 3 (.list (rowD (tabR old new 0) :: tabT old new old.length)) := by
  have one : ∀ i, LikeG 2 (rowD (tabR old new i)) := fun i => by
    refine ⟨by rw [List.length_map, tabR_len]; omega, fun d hd => ?_⟩
    obtain ⟨k, _, rfl⟩ := List.mem_map.mp hd
    trivial
  refine ⟨by rw [List.length_cons, tabT_len]; omega, fun d hd => ?_⟩
  rcases List.mem_cons.mp hd with rfl | hd
  · exact one 0
  · unfold tabT at hd
    obtain ⟨k, _, rfl⟩ := List.mem_map.mp hd
    exact one (k + 1)
abbrev sIsTable : Stmt := topS 9
theorem scIsTable : FnScope ["old", "new", "thing"] ["old", "new", "thing"] (defScope sIsTable) := ⟨rfl, rfl, rfl, by decide +kernel, rfl, by decide +kernel, by decide +kernel⟩
theorem ok_istable {f : Addr} {fd : FuncData} (F : Fun K "is_table" "is_table" sIsTable f fd) (T : Bs mg) (c_table : CalZ P w K mg base 2 "table" ["old", "new"] fTable) (c_is_like : CalZ P w K mg base 4 "is_like" ["thing", "due"] (fLike 3)) : FnOk P w K mg base CX0 5 f fd ["old", "new", "thing"] (spZ w K fIsTable) := by
  refine Fun.okZ F scIsTable (fun xs μ Q h => ?_) (fun cdv A outer s H E hr => ?_)
  · obtain ⟨old, new, rfl, _⟩ := h
    rfl
  · have nd := scIsTable.nd
    refine ⟨_, (dss_one (ds_ret (d_ownLN c_is_like (hr.mono (by omega)) (by rfl) (da_cons (dv 2) (da_cons (d_own0 c_table (hr.mono (by omega)) (by rfl) (da_cons (dv 0) (da_cons (dv 1) da_nil))) da_nil))))), ?_⟩
    rintro xs μ Q ⟨old, new, rfl, rfl, ho, hn, q⟩
    refine ⟨old, new, rfl, rfl, ho, hn, fun p0 p => ?_⟩
    refine ⟨_, .cons (.keep _) (.cons (.n (.lst 1 rfl (.cons (.lst 0 rfl (DViews.dats _)) (DViews.dats _)))) .nil), _, rfl, rfl, like_rows old new ho hn, ⟨rfl, fun p hp => by cases hp⟩, ?_⟩
    exact ⟨[], List.nil_sublist _, q⟩
end
end Kr
namespace Kr
open PySem PySem.Spec PyProof.Rows L2 Lf Zl SX
def pairD (p : Nat × Nat) : PyData := .tuple [.int p.1, .int p.2]
/-! ### where the pairs come from -/
structure Bt (old new : List Str) (one other : Nat) (ps : List (Nat × Nat)) : Prop where
  up : Up old new one other ps.reverse
  cnt : tabL old new one other + ps.length = tabL old new old.length new.length
theorem Bt.start (old new : List Str) : Bt old new old.length new.length [] := ⟨⟨Nat.le_refl _, Nat.le_refl _⟩, by simp⟩
theorem Bt.one_le {old new : List Str} {one other : Nat} {ps : List (Nat × Nat)} (h : Bt old new one other ps) : one ≤ old.length := by
  have := h.up.len
  omega
theorem Up.len2 {old new : List Str} : ∀ {i j : Nat} {l : List (Nat × Nat)}, Up old new i j l → j ≤ new.length
  | _, _, [], h => h.2
  | _, _, (a, b) :: r, h => by
    have := Up.len2 h.2.2.2
    have h1 := h.2.1
    omega
theorem Bt.same {old new : List Str} {i j : Nat} {ps : List (Nat × Nat)} {x : Str} (h : Bt old new (i + 1) (j + 1) ps) (hi : old[i]? = some x) (hj : new[j]? = some x) : Bt old new i j (ps ++ [(i, j)]) := by
  refine ⟨?_, ?_⟩
  · rw [List.reverse_append]
    exact ⟨Nat.le_refl _, Nat.le_refl _, ⟨x, hi, hj⟩, h.up⟩
  · have c := h.cnt
    rw [tabL_same hi hj] at c
    rw [List.length_append, List.length_singleton]
    omega
theorem Bt.left {old new : List Str} {i j : Nat} {ps : List (Nat × Nat)} {x y : Str} (h : Bt old new (i + 1) (j + 1) ps) (hi : old[i]? = some x) (hj : new[j]? = some y) (ne : x ≠ y) (g : tabL old new i (j + 1) ≥ tabL old new (i + 1) j) : Bt old new i (j + 1) ps := by
  refine ⟨h.up.less (Nat.le_succ _) (Nat.le_refl _), ?_⟩
  have c := h.cnt
  rw [tabL_other hi hj ne, if_neg (by omega)] at c
  exact c
theorem Bt.right {old new : List Str} {i j : Nat} {ps : List (Nat × Nat)} {x y : Str} (h : Bt old new (i + 1) (j + 1) ps) (hi : old[i]? = some x) (hj : new[j]? = some y) (ne : x ≠ y) (g : ¬ tabL old new i (j + 1) ≥ tabL old new (i + 1) j) : Bt old new (i + 1) j ps := by
  refine ⟨h.up.less (Nat.le_refl _) (Nat.le_succ _), ?_⟩
  have c := h.cnt
  rw [tabL_other hi hj ne, if_pos (by omega)] at c
  exact c
theorem Bt.fin {old new : List Str} {i j : Nat} {ps : List (Nat × Nat)} (h : Bt old new i j ps) (g : i = 0 ∨ j = 0) : Up old new 0 0 ps.reverse ∧ (ps.reverse.length : Int) = tabL old new old.length new.length := by
  refine ⟨h.up.less (Nat.zero_le _) (Nat.zero_le _), ?_⟩
  have c := h.cnt
  rw [List.length_reverse]
  rcases g with rfl | rfl
  · rw [tabL_zero] at c; omega
  · rw [tabL_first] at c; omega
theorem row_ix {old new : List Str} {p0 : Addr} {μ : Store} {i m : Nat} (hi : i ≤ m) (hm : μ[0]? = some (p0, .lst (dats ((tabR old new 0).map .int)))) :
    ∃ v, atI (Val.ptr p0 :: dats (tabT old new m)) (i : Int) = some v ∧ ∀ (j : Nat) (Q : DK), j ≤ new.length → Q (.dat (.int (tabL old new i j))) μ → zIx v (.dat (.int (j : Int))) μ Q := by
  have cell : ∀ (i j : Nat), j ≤ new.length → ((tabR old new i).map PyData.int)[j]? = some (.int (tabL old new i j)) := fun i j hj => by
    have hl := tabR_len old new i
    unfold tabL
    rw [List.getElem?_map, List.getD, List.getElem?_eq_getElem (by omega)]
    rfl
  cases i with
  | zero =>
    refine ⟨.ptr p0, atI_nat (j := 0) rfl, fun j Q hj q => ⟨0, _, .dat (.int (tabL old new 0 j)), hm, atI_nat ?_, q⟩⟩
    unfold dats
    rw [List.getElem?_map, cell 0 j hj]
    rfl
  | succ i =>
    refine ⟨.dat (rowD (tabR old new (i + 1))), atI_nat ?_, fun j Q hj q => ⟨_, atI_nat (cell (i + 1) j hj), q⟩⟩
    show (dats (tabT old new m))[i]? = _
    unfold dats
    rw [List.getElem?_map, tabT_get old new (by omega)]
    rfl
theorem atI_txt {ls : List Str} {i : Nat} {x : Str} (h : ls[i]? = some x) : atI (txts ls) (((i + 1 : Nat) : Int) - 1) = some (.str x) := by
  rw [show (((i + 1 : Nat) : Int) - 1) = ((i : Nat) : Int) by omega]
  refine atI_nat ?_
  unfold txts
  rw [List.getElem?_map, h]
  rfl
theorem cutG_mid {α : Type} (xs : List α) {a b : Nat} (ha : a ≤ xs.length) (hb : b ≤ xs.length) : cutG xs (some (a : Int)) (some (b : Int)) = (xs.drop a).take (b - a) := by
  unfold cutG
  rw [HT.sIx_nat, HT.sIx_nat, Nat.min_eq_left ha, Nat.min_eq_left hb]
theorem cutG_from {α : Type} (xs : List α) {a : Nat} (ha : a ≤ xs.length) : cutG xs (some (a : Int)) none = xs.drop a := by
  unfold cutG
  rw [HT.sIx_nat, HT.sIx_none, Nat.min_eq_left ha, List.take_of_length_le (by rw [List.length_drop]; exact Nat.le_refl _)]
theorem cut_txts (ls : List Str) {a b : Nat} (ha : a ≤ ls.length) (hb : b ≤ ls.length) : cutG (txts ls) (some (a : Int)) (some (b : Int)) = txts ((ls.drop a).take (b - a)) := by
  rw [cutG_mid _ (by rw [txts_len]; exact ha) (by rw [txts_len]; exact hb)]
  unfold txts
  rw [List.map_take, List.map_drop]
theorem from_txts (ls : List Str) {a : Nat} (ha : a ≤ ls.length) : cutG (txts ls) (some (a : Int)) none = txts (ls.drop a) := by
  rw [cutG_from _ (by rw [txts_len]; exact ha)]
  unfold txts
  rw [List.map_drop]
theorem chg_flat (m : Nat) (ls : List Str) : dats (chg m ls) = dats ((chgO m ls).map Op.dat) := by rw [chgO_dat]
theorem ops_app (a b : List Op) : dats (a.map Op.dat) ++ dats (b.map Op.dat) = dats ((a ++ b).map Op.dat) := by
  unfold dats
  rw [List.map_append, List.map_append]
theorem Up.rest {old new : List Str} {i j a b : Nat} {l : List (Nat × Nat)} (h : Up old new i j ((a, b) :: l)) : i ≤ a ∧ j ≤ b ∧ (∃ x, old[a]? = some x ∧ new[b]? = some x) ∧ Up old new (a + 1) (b + 1) l := h
section
variable {P : Program} {w : World} {K : PySem.W.Frag} {mg : Str → Option Value} {base : Heap}
def fKept : DSp := fun xs μ Q => ∃ old new : List Str, xs = [.dat (.list (txts old)), .dat (.list (txts new))] ∧ μ = [] ∧ old.length ≤ 40 ∧ new.length ≤ 40 ∧ ∀ p l, Up old new 0 0 l → (l.length : Int) = tabL old new old.length new.length → Q (.ptr p) [(p, .lst (dats (l.map pairD)))]
abbrev sKept : Stmt := topS 11
theorem scKept : FnScope ["old", "new", "rows", "one", "other", "pairs"] ["old", "new"] (defScope sKept) := ⟨rfl, rfl, rfl, by decide +kernel, rfl, by decide +kernel, by decide +kernel⟩
theorem ok_kept {f : Addr} {fd : FuncData} (F : Fun K "kept" "kept" sKept f fd) (T : Bs mg) (c_table : CalZ P w K mg base 2 "table" ["old", "new"] fTable) : FnOk P w K mg base CX0 3 f fd ["old", "new"] (spZ w K fKept) := by
  refine Fun.okZ F scKept (fun xs μ Q h => ?_) (fun cdv A outer s H E hr => ?_)
  · obtain ⟨old, new, rfl, _⟩ := h
    rfl
  · have nd := scKept.nd
    refine ⟨_, (dss_cons (ds_set (i := 2) nd rfl (Or.inl rfl) (d_own0 c_table (hr.mono (by omega)) (by rfl) (da_cons (dv 0) (da_cons (dv 1) da_nil))))
  (dss_cons (ds_par (i := 3) (j := 4) (by rfl) nd rfl rfl (by decide) rfl rfl (da_cons (d_callB ca_len (by rfl) T.len PySem.boot_len (da_cons (dv 0) da_nil)) (da_cons (d_callB ca_len (by rfl) T.len PySem.boot_len (da_cons (dv 1) da_nil)) da_nil)) (by rfl))
  (dss_cons (ds_set (i := 5) nd rfl (Or.inl rfl) (d_lst da_nil))
  (dss_cons (ds_whileN PassesOwn.never (DW.dt (dw_and (dt_cmp (oz_gt hr.units) (dv 3) d_int (nomark _)) (dw_and1 (dt_cmp (oz_gt hr.units) (dv 4) d_int (nomark _)))))
  (dss_one (ds_if (dt_cmp (oz_eq hr.units) (d_ix (dv 0) (d_bin oz_sub (dv 3) d_int) (fun _ _ => rfl)) (d_ix (dv 1) (d_bin oz_sub (dv 4) d_int) (fun _ _ => rfl)) (nomark _))
  (dss_cons (ds_par (i := 3) (j := 4) (by rfl) nd rfl rfl (by decide) rfl rfl (da_cons (d_bin oz_sub (dv 3) d_int) (da_cons (d_bin oz_sub (dv 4) d_int) da_nil)) (by rfl))
  (dss_one (ds_expr (d_lm PySem.F.slot_list_append PySem.F.type_list_append me_append (dv 5) (da_cons (d_tup (da_cons (dv 3) (da_cons (dv 4) da_nil))) da_nil)))))
  (dss_one (ds_if (dt_cmp (oz_ge hr.units) (d_ix (d_ix (dv 2) (d_bin oz_sub (dv 3) d_int) (fun _ _ => rfl)) (dv 4) (fun _ _ => rfl)) (d_ix (d_ix (dv 2) (dv 3) (fun _ _ => rfl)) (d_bin oz_sub (dv 4) d_int) (fun _ _ => rfl)) (nomark _))
  (dss_one (ds_aug (i := 3) nd rfl (Or.inl rfl) d_int ip_sub))
  (dss_one (ds_aug (i := 4) nd rfl (Or.inl rfl) d_int ip_sub)))))))
  (dss_one (ds_ret (d_rev (dv 5)))))))), ?_⟩
    rintro xs μ Q ⟨old, new, rfl, rfl, ho, hn, q⟩
    have ez : sizeLine = 16777216 := by decide +kernel
    refine ⟨old, new, rfl, rfl, ho, hn, fun p0 p1 => ?_⟩
    refine ⟨Nat.zero_le _, fun pp => ?_⟩
    refine ⟨fun n ρ μ => ∃ (one other : Nat) (ps : List (Nat × Nat)), n = one + other ∧ ρ = [some (.dat (.list (txts old))), some (.dat (.list (txts new))), some (.ptr p1), some (.dat (.int one)), some (.dat (.int other)), some (.ptr pp)] ∧ μ = [(p0, .lst (dats ((tabR old new 0).map .int))), (p1, .lst (.ptr p0 :: dats (tabT old new old.length))), (pp, .lst (dats (ps.map pairD)))] ∧ Bt old new one other ps, ⟨_, old.length, new.length, [], rfl, by rw [← txts_len old, ← txts_len new]; rfl, rfl, Bt.start old new⟩, ?_⟩
    rintro n ρ μ ⟨one, other, ps, rfl, rfl, rfl, bt⟩
    have fin : (one = 0 ∨ other = 0) → ∃ μ', List.Sublist μ' [(p0, Node.lst (dats ((tabR old new 0).map .int))), (p1, .lst (.ptr p0 :: dats (tabT old new old.length))), (pp, .lst (dats (ps.map pairD)))] ∧ True := fun _ => ⟨[], List.nil_sublist _, trivial⟩
    have h1 := bt.one_le
    have h2 := bt.up.len2
    have ends : (one = 0 ∨ other = 0) → dRet (dRev (dVar 5)) (dEnd Q) [some (.dat (.list (txts old))), some (.dat (.list (txts new))), some (.ptr p1), some (.dat (.int one)), some (.dat (.int other)), some (.ptr pp)] [(p0, .lst (dats ((tabR old new 0).map .int))), (p1, .lst (.ptr p0 :: dats (tabT old new old.length))), (pp, .lst (dats (ps.map pairD)))] := fun g => by
      obtain ⟨u, c⟩ := bt.fin g
      refine ⟨⟨2, _, rfl⟩, 2, _, rfl, fun p => ⟨_, List.drop_sublist 3 _, ?_⟩⟩
      have := q p ps.reverse u c
      unfold dats at this ⊢
      rw [List.map_reverse, List.map_reverse] at this
      exact this
    refine ite2 (fun g1 => ite2 (fun g2 => ?_) (fun g2 => ends (.inr ?_))) (fun g1 => ends (.inl ?_))
    · have c1 : (0 : Int) < one := of_decide_eq_true g1
      have c2 : (0 : Int) < other := of_decide_eq_true g2
      obtain ⟨i, rfl⟩ := Nat.exists_eq_succ_of_ne_zero (show one ≠ 0 by omega)
      obtain ⟨j, rfl⟩ := Nat.exists_eq_succ_of_ne_zero (show other ≠ 0 by omega)
      have hx : old[i]? = some old[i] := List.getElem?_eq_getElem (by omega)
      have hy : new[j]? = some new[j] := List.getElem?_eq_getElem (by omega)
      generalize old[i] = x at hx
      generalize new[j] = y at hy
      refine ⟨_, atI_txt hx, _, atI_txt hy, ite2 (fun g => ?_) (fun g => ?_)⟩
      · have e : x = y := of_decide_eq_true g
        subst e
        have hl : ps.length < sizeLine := by
          have := bt.up.len
          rw [List.length_reverse] at this
          omega
        have ei : (((i + 1 : Nat) : Int) - 1) = ((i : Nat) : Int) := by omega
        have ej : (((j + 1 : Nat) : Int) - 1) = ((j : Nat) : Int) := by omega
        refine ⟨⟨2, _, rfl⟩, (by show 2 ≤ sizeLine; omega), 2, _, rfl, by unfold dats; rw [List.length_map, List.length_map]; exact hl, _, .refl _, i + j, by omega, i, j, ps ++ [(i, j)], rfl, ?_, ?_, bt.same hx hy⟩
        · rw [← ei, ← ej]
          rfl
        · rw [List.map_append]
          unfold dats
          rw [List.map_append, List.map_singleton, List.map_singleton]
          unfold pairD
          rw [← ei, ← ej]
          rfl
      · have ne : x ≠ y := fun h => g (decide_eq_true h)
        obtain ⟨v, hv, gv⟩ := row_ix (old := old) (new := new) (p0 := p0) (μ := [(p0, .lst (dats ((tabR old new 0).map .int))), (p1, .lst (.ptr p0 :: dats (tabT old new old.length))), (pp, .lst (dats (ps.map pairD)))]) (i := i) (m := old.length) (by omega) rfl
        have hv2 : atI (Val.ptr p0 :: dats (tabT old new old.length)) ((i + 1 : Nat) : Int) = some (.dat (rowD (tabR old new (i + 1)))) := atI_nat (by
          show (dats (tabT old new old.length))[i]? = _
          unfold dats
          rw [List.getElem?_map, tabT_get old new (by omega)]
          rfl)
        have cell2 : atI ((tabR old new (i + 1)).map PyData.int) (((j + 1 : Nat) : Int) - 1) = some (.int (tabL old new (i + 1) j)) := by
          rw [show (((j + 1 : Nat) : Int) - 1) = ((j : Nat) : Int) by omega]
          refine atI_nat ?_
          have hl := tabR_len old new (i + 1)
          unfold tabL
          rw [List.getElem?_map, List.getD, List.getElem?_eq_getElem (by omega)]
          rfl
        have ei : (((i + 1 : Nat) : Int) - 1) = ((i : Nat) : Int) := by omega
        have ej : (((j + 1 : Nat) : Int) - 1) = ((j : Nat) : Int) := by omega
        refine ⟨1, _, v, rfl, by rw [← hv, ← ei], gv (j + 1) _ (by omega) ⟨1, _, _, rfl, hv2, _, cell2, ?_⟩⟩
        refine ite2 (fun g3 => ?_) (fun g3 => ?_)
        · have c : tabL old new i (j + 1) ≥ tabL old new (i + 1) j := of_decide_eq_true g3
          refine ⟨_, .refl _, i + (j + 1), by omega, i, j + 1, ps, rfl, ?_, rfl, bt.left hx hy ne c⟩
          rw [← ei]
          rfl
        · have c : ¬ tabL old new i (j + 1) ≥ tabL old new (i + 1) j := fun h => g3 (decide_eq_true h)
          refine ⟨_, .refl _, i + 1 + j, by omega, i + 1, j, ps, rfl, ?_, rfl, bt.right hx hy ne c⟩
          rw [← ej]
          rfl
    · have : ¬ (0 : Int) < other := fun h => g2 (decide_eq_true h)
      omega
    · have : ¬ (0 : Int) < one := fun h => g1 (decide_eq_true h)
      omega
def fPatch : DSp := fun xs μ Q => ∃ old new : List Str, xs = [.dat (.list (txts old)), .dat (.list (txts new))] ∧ μ = [] ∧ old.length ≤ 40 ∧ new.length ≤ 40 ∧ (∀ x ∈ new, ∀ c ∈ x.cps.toList, c < 128) ∧ ∀ p ops k, PatF old new ops k → (k : Int) = tabL old new old.length new.length → Q (.ptr p) [(p, .lst (dats (ops.map Op.dat)))]
abbrev sPatch : Stmt := topS 10
theorem scPatch : FnScope ["old", "new", "told", "cut", "put", "one", "other"] ["old", "new"] (defScope sPatch) := ⟨rfl, rfl, rfl, by decide +kernel, rfl, by decide +kernel, by decide +kernel⟩
theorem ok_patch {f : Addr} {fd : FuncData} (F : Fun K "patch" "patch" sPatch f fd) (T : Bs mg) (c_kept : CalZ P w K mg base 3 "kept" ["old", "new"] fKept) (c_changes : CalZ P w K mg base 1 "changes" ["many", "lines"] fChanges) : FnOk P w K mg base CX0 4 f fd ["old", "new"] (spZ w K fPatch) := by
  refine Fun.okZ F scPatch (fun xs μ Q h => ?_) (fun cdv A outer s H E hr => ?_)
  · obtain ⟨old, new, rfl, _⟩ := h
    rfl
  · have nd := scPatch.nd
    refine ⟨_, (dss_cons (ds_set (i := 2) nd rfl (Or.inl rfl) (d_lst da_nil))
  (dss_cons (ds_set2 d_int (pg_name (i := 3) nd rfl (Or.inl rfl)) (pg_name (i := 4) nd rfl (Or.inl rfl)))
  (dss_cons (ds_for PassesOwn.never rfl (di_seq (d_own0 c_kept (hr.mono (by omega)) (by rfl) (da_cons (dv 0) (da_cons (dv 1) da_nil)))) (dg_tup rfl (dgs_cons (dg_name (i := 5) nd rfl (Or.inl rfl)) (dgs_cons (dg_name (i := 6) nd rfl (Or.inl rfl)) dgs_nil)))
  (dss_cut (ds_expr (d_lm PySem.F.slot_list_extend PySem.F.type_list_extend me_extend2 (dv 2) (da_cons (d_own0 c_changes (hr.mono (by omega)) (by rfl) (da_cons (d_bin oz_sub (dv 5) (dv 3)) (da_cons (d_fz (d_slice (dv 1) (do_some (dv 4)) (do_some (dv 6)))) da_nil))) da_nil)))
  (dss_cons (ds_if (DW.dt (dw_and (dt_truth (dv 2)) (dw_and1 (dt_cmp (oz_eq hr.units) (d_ix (d_ix (dv 2) (d_neg d_int) (fun _ _ => rfl)) d_int (fun _ _ => rfl)) d_str (nomark _)))))
  (dss_one (ds_asg (d_tup (da_cons d_str (da_cons (d_bin oz_add (d_ix (d_ix (dv 2) (d_neg d_int) (fun _ _ => rfl)) d_int (fun _ _ => rfl)) d_int) da_nil))) (dg_sub (dv 2) (d_neg d_int))))
  (dss_one (ds_expr (d_lm PySem.F.slot_list_append PySem.F.type_list_append me_append (dv 2) (da_cons (d_tup (da_cons d_str (da_cons d_int da_nil))) da_nil)))))
  (dss_one (ds_par (i := 3) (j := 4) (by rfl) nd rfl rfl (by decide) rfl rfl (da_cons (d_bin oz_add (dv 5) d_int) (da_cons (d_bin oz_add (dv 6) d_int) da_nil)) (by rfl))))))
  (dss_cons (ds_expr (d_lm PySem.F.slot_list_extend PySem.F.type_list_extend me_extend2 (dv 2) (da_cons (d_own0 c_changes (hr.mono (by omega)) (by rfl) (da_cons (d_bin oz_sub (d_callB ca_len (by rfl) T.len PySem.boot_len (da_cons (dv 0) da_nil)) (dv 3)) (da_cons (d_fz (d_slice (dv 1) (do_some (dv 4)) do_none)) da_nil))) da_nil)))
  (dss_one (ds_ret (dv 2))))))), ?_⟩
    rintro xs μ Q ⟨old, new, rfl, rfl, ho, hn, hx, q⟩
    have ez : sizeLine = 16777216 := by decide +kernel
    refine ⟨Nat.zero_le _, fun pt => ?_⟩
    refine ⟨old, new, rfl, rfl, ho, hn, fun pk l up cnt => ?_⟩
    have ll : l.length ≤ 40 := by
      have := up.len
      omega
    refine ⟨1, _, rfl, fun i ρ μ => ∃ (ops : List Op) (cut put : Nat) (y5 y6 : Option Val), ρ = [some (.dat (.list (txts old))), some (.dat (.list (txts new))), some (.ptr pt), some (.dat (.int cut)), some (.dat (.int put)), y5, y6] ∧ μ = [(pt, .lst (dats (ops.map Op.dat))), (pk, .lst (dats (l.map pairD)))] ∧ PatG old new ops cut put i ∧ Up old new cut put (l.drop i), ⟨[], 0, 0, _, _, rfl, rfl, PatG.nil old new, up⟩, ?_, ?_, ?_⟩
    · rintro i ρ μ hi ⟨ops, cut, put, y5, y6, rfl, rfl, _, _⟩
      exact ⟨1, rfl⟩
    · rintro i y ρ μ hy ⟨ops, cut, put, y5, y6, rfl, rfl, pg, u⟩
      have hy2 : ∃ a b, l[i]? = some (a, b) ∧ y = .dat (pairD (a, b)) := by
        unfold dats at hy
        rw [List.getElem?_map, List.getElem?_map] at hy
        obtain ⟨d, hd, rfl⟩ := Option.map_eq_some_iff.mp hy
        obtain ⟨⟨a, b⟩, hab, rfl⟩ := Option.map_eq_some_iff.mp hd
        exact ⟨a, b, hab, rfl⟩
      obtain ⟨a, b, hab, rfl⟩ := hy2
      have hi := (List.getElem?_eq_some_iff.mp hab).1
      rw [List.drop_eq_getElem_cons hi] at u
      rw [show l[i] = (a, b) from Option.some.inj ((List.getElem?_eq_getElem hi).symm.trans hab)] at u
      obtain ⟨ca, pb, ⟨x, hxa, hxb⟩, u2⟩ := u.rest
      have la := (List.getElem?_eq_some_iff.mp hxa).1
      have lb := (List.getElem?_eq_some_iff.mp hxb).1
      have ph := pg.chg ca pb hn hx
      refine ⟨rfl, fun ρ μ => ∃ (ops1 : List Op) (e3 : Addr × Node), ρ = [some (.dat (.list (txts old))), some (.dat (.list (txts new))), some (.ptr pt), some (.dat (.int cut)), some (.dat (.int put)), some (.dat (.int a)), some (.dat (.int b))] ∧ μ = [(pt, .lst (dats (ops1.map Op.dat))), (pk, .lst (dats (l.map pairD))), e3] ∧ PatH old new ops1 a b i, ?_, ?_⟩
      · refine ⟨⟨0, _, rfl⟩, fun p3 => ⟨2, _, _, rfl, datOf_map _, a - cut, (new.drop put).take (b - put), ?_, rfl, by rw [List.length_take, List.length_drop]; omega, fun pc => ⟨0, _, _, rfl, .p 2 rfl, ?_, ops ++ chgO (a - cut) ((new.drop put).take (b - put)), (pc, .lst (dats (chg (a - cut) ((new.drop put).take (b - put))))), rfl, ?_, ph⟩⟩⟩
        · rw [cut_txts new (by omega) (by omega), show ((a : Int) - cut) = ((a - cut : Nat) : Int) by omega]
        · have h1 := pg.len
          have h2 := chgO_len (a - cut) ((new.drop put).take (b - put))
          rw [chg_flat]
          unfold dats
          rw [List.length_map, List.length_map, List.length_map, List.length_map]
          omega
        · show [_, _, _] = _
          rw [chg_flat, ops_app]
      rintro ρ μ ⟨ops1, e3, rfl, rfl, ph1⟩
      have ll1 : ops1.length ≤ 200 := by
        have := ph1.len
        omega
      have new1 : (∀ r o, ops1 = r ++ [o] → o.kind ≠ (Op.keep 1).kind) → PatG old new (ops1 ++ [.keep 1]) (a + 1) (b + 1) (i + 1) := fun h => ph1.new h hxa hxb
      rcases List.eq_nil_or_concat ops1 with rfl | ⟨r, o, e⟩
      · refine ⟨0, _, rfl, ⟨0, _, rfl⟩, (by show 2 ≤ sizeLine; omega), 0, _, rfl, (by show 0 < sizeLine; omega), _, List.Sublist.cons₂ _ (List.Sublist.cons₂ _ (List.nil_sublist _)), [.keep 1], a + 1, b + 1, _, _, rfl, rfl, new1 (fun r o e => by cases r <;> cases e), u2⟩
      · rw [List.concat_eq_append] at e
        subst e
        have em : dats ((r ++ [o]).map Op.dat) = dats (r.map Op.dat) ++ [.dat o.dat] := by
          unfold dats
          rw [List.map_append, List.map_append]
          rfl
        have ne : (dats ((r ++ [o]).map Op.dat)).isEmpty = false := by
          rw [em]
          cases dats (r.map Op.dat) <;> rfl
        have lst : atI (dats ((r ++ [o]).map Op.dat)) (-1) = some (.dat o.dat) := by
          rw [em]
          exact atI_last _ _
        have len1 : (dats ((r ++ [o]).map Op.dat)).length = (r ++ [o]).length := by
          unfold dats
          rw [List.length_map, List.length_map]
        have hlt : (dats ((r ++ [o]).map Op.dat)).length < sizeLine := by
          rw [len1]
          omega
        have app1 : ∀ o', dats ((r ++ [o]).map Op.dat) ++ [Val.dat (Op.dat o')] = dats ((r ++ [o] ++ [o']).map Op.dat) := fun o' => by
          unfold dats
          rw [List.map_append (l₁ := r ++ [o]), List.map_append (l₁ := (r ++ [o]).map Op.dat)]
          rfl
        have lastk : ∀ {o' : Op} {r' : List Op}, r ++ [o] = r' ++ [o'] → o = o' := fun e => by
          have := (List.append_inj' e rfl).2
          cases this
          rfl
        cases o with
        | keep n =>
          refine ⟨0, _, rfl, ?_⟩
          rw [ne]
          refine ⟨0, _, _, rfl, lst, _, rfl, 0, _, _, rfl, lst, _, rfl, (by show 2 ≤ sizeLine; omega), 0, _, r.length, rfl, ?_, _, List.Sublist.cons₂ _ (List.Sublist.cons₂ _ (List.nil_sublist _)), r ++ [.keep (n + 1)], a + 1, b + 1, _, _, rfl, ?_, ph1.more hxa hxb, u2⟩
          · rw [len1, List.length_append]
            unfold ixN
            rw [if_neg (by decide), List.length_singleton, if_pos (by omega)]
            congr 1
            omega
          · rw [em, List.set_append]
            rw [if_neg (by unfold dats; rw [List.length_map, List.length_map]; omega)]
            have : r.length - (dats (r.map Op.dat)).length = 0 := by
              unfold dats
              rw [List.length_map, List.length_map]
              omega
            rw [this]
            unfold dats
            rw [List.map_append, List.map_append]
            rfl
        | cut n =>
          refine ⟨0, _, rfl, ?_⟩
          rw [ne]
          refine ⟨0, _, _, rfl, lst, _, rfl, ⟨0, _, rfl⟩, (by show 2 ≤ sizeLine; omega), 0, _, rfl, hlt, _, List.Sublist.cons₂ _ (List.Sublist.cons₂ _ (List.nil_sublist _)), r ++ [.cut n] ++ [.keep 1], a + 1, b + 1, _, _, rfl, ?_, new1 (fun r' o' e => by rw [← lastk e]; exact fun h => kinds_ne.1 h.symm), u2⟩
          rw [← app1]
          rfl
        | put ls =>
          refine ⟨0, _, rfl, ?_⟩
          rw [ne]
          refine ⟨0, _, _, rfl, lst, _, rfl, ⟨0, _, rfl⟩, (by show 2 ≤ sizeLine; omega), 0, _, rfl, hlt, _, List.Sublist.cons₂ _ (List.Sublist.cons₂ _ (List.nil_sublist _)), r ++ [.put ls] ++ [.keep 1], a + 1, b + 1, _, _, rfl, ?_, new1 (fun r' o' e => by rw [← lastk e]; exact fun h => kinds_ne.2.1 h.symm), u2⟩
          rw [← app1]
          rfl
    · rintro ρ μ ⟨ops, cut, put, y5, y6, rfl, rfl, pg, u⟩
      have el : (dats (l.map pairD)).length = l.length := by
        unfold dats
        rw [List.length_map, List.length_map]
      have u3 : cut ≤ old.length ∧ put ≤ new.length := by
        rw [el, List.drop_of_length_le (Nat.le_refl _)] at u
        exact u
      rw [el] at pg
      have pf := pg.fin u3.1 u3.2 hn hx ll
      refine ⟨⟨0, _, rfl⟩, fun p3 => ⟨2, _, _, rfl, datOf_map _, old.length - cut, new.drop put, ?_, rfl, by rw [List.length_drop]; omega, fun pc => ⟨0, _, _, rfl, .p 2 rfl, ?_, _, .cons₂ _ (List.nil_sublist _), ?_⟩⟩⟩
      · rw [from_txts new u3.2, txts_len, show ((old.length : Int) - cut) = ((old.length - cut : Nat) : Int) by omega]
      · have h1 := pg.len
        have h2 := chgO_len (old.length - cut) (new.drop put)
        rw [chg_flat]
        unfold dats
        rw [List.length_map, List.length_map, List.length_map, List.length_map]
        omega
      · have := q pt _ _ pf cnt
        rw [← ops_app, ← chg_flat] at this
        exact this
end
end Kr
namespace Kr
open PySem PySem.Spec PyProof.Rows L2 Lf Zl SX
theorem ops_get {ops : List Op} {i : Nat} {y : Val} (h : ((ops.map Op.dat).map Val.dat)[i]? = some y) : ∃ o, ops[i]? = some o ∧ y = .dat o.dat := by
  rw [List.getElem?_map, List.getElem?_map] at h
  obtain ⟨d, hd, rfl⟩ := Option.map_eq_some_iff.mp h
  obtain ⟨o, ho, rfl⟩ := Option.map_eq_some_iff.mp hd
  exact ⟨o, ho, rfl⟩
theorem cut_tail {α : Type} (xs : List α) : cutG xs (some 1) none = xs.drop 1 := by
  unfold cutG
  rw [show (1 : Int) = ((1 : Nat) : Int) from rfl, HT.sIx_nat, HT.sIx_none]
  rcases Nat.lt_or_ge xs.length 1 with h | h
  · cases xs with
    | nil => rfl
    | cons x r => simp at h
  · rw [Nat.min_eq_left h, List.take_of_length_le (by rw [List.length_drop]; exact Nat.le_refl _)]
theorem zip_next {ops : List Op} {i : Nat} {y : Val} (h : (zipZ (ops.map Op.dat) (cutG (ops.map Op.dat) (some 1) none))[i]? = some y) : ∃ a b, ops[i]? = some a ∧ ops[i + 1]? = some b ∧ y = .dat (.tuple [a.dat, b.dat]) := by
  unfold zipZ at h
  rw [List.getElem?_map, cut_tail] at h
  obtain ⟨q, hq, rfl⟩ := Option.map_eq_some_iff.mp h
  obtain ⟨h1, h2⟩ := List.getElem?_zip_eq_some.mp hq
  rw [List.getElem?_map] at h1
  rw [List.getElem?_drop, List.getElem?_map, Nat.add_comm] at h2
  obtain ⟨a, ha, ea⟩ := Option.map_eq_some_iff.mp h1
  obtain ⟨b, hb, eb⟩ := Option.map_eq_some_iff.mp h2
  exact ⟨a, b, ha, hb, by rw [ea, eb]⟩
theorem kind_at (o : Op) : ∃ ds, o.dat = .tuple ds ∧ atI ds 0 = some (.str o.kind) := by
  cases o <;> exact ⟨_, rfl, rfl⟩
section
variable {P : Program} {w : World} {K : PySem.W.Frag} {mg : Str → Option Value} {base : Heap}
def fPutOn : DSp := fun xs μ Q => ∃ (old new : List Str) (ops : List Op) (k : Nat), xs = [.dat (.list (txts old)), .dat (.list (ops.map Op.dat))] ∧ μ = [] ∧ old.length ≤ 40 ∧ new.length ≤ 40 ∧ PatF old new ops k ∧ ∀ p, Q (.ptr p) [(p, .lst (dats (txts new)))]
abbrev sPutOn : Stmt := topS 13
theorem scPutOn : FnScope ["lines", "patch", "told", "at", "number", "word", "what"] ["lines", "patch"] (defScope sPutOn) := ⟨rfl, rfl, rfl, by decide +kernel, rfl, by decide +kernel, by decide +kernel⟩
theorem ok_puton {f : Addr} {fd : FuncData} (F : Fun K "put_on" "put_on" sPutOn f fd) (T : Bs mg) : FnOk P w K mg base CX0 1 f fd ["lines", "patch"] (spZ w K fPutOn) := by
  refine Fun.okZ F scPutOn (fun xs μ Q h => ?_) (fun cdv A outer s H E hr => ?_)
  · obtain ⟨old, new, ops, k, rfl, _⟩ := h
    rfl
  · have nd := scPutOn.nd
    refine ⟨_, (dss_cons (ds_set (i := 2) nd rfl (Or.inl rfl) (d_lst da_nil))
  (dss_cons (ds_set (i := 3) nd rfl (Or.inl rfl) d_int)
  (dss_cons (ds_for PassesOwn.never rfl (di_enum (by rfl) T.enumerate (dv 1)) (dg_tup rfl (dgs_cons (dg_name (i := 4) nd rfl (Or.inl rfl)) (dgs_cons (dg_tup rfl (dgs_cons (dg_name (i := 5) nd rfl (Or.inl rfl)) (dgs_cons (dg_name (i := 6) nd rfl (Or.inl rfl)) dgs_nil))) dgs_nil)))
  (dss_cons (ds_if (dt_cmp (oz_eq hr.units) (dv 5) d_str (nomark _))
  (dss_cons (ds_expr (d_lm PySem.F.slot_list_extend PySem.F.type_list_extend me_extend2 (dv 2) (da_cons (dv 6) da_nil)))
  (dss_one ds_continue))
  dss_nil)
  (dss_cons (ds_if (dt_cmp (oz_gt hr.units) (dv 6) (d_bin oz_sub (d_callB ca_len (by rfl) T.len PySem.boot_len (da_cons (dv 0) da_nil)) (dv 3)) (nomark _))
  (dss_one ds_never)
  dss_nil)
  (dss_cons (ds_if (dt_cmp (oz_eq hr.units) (dv 5) d_str (nomark _))
  (dss_one (ds_expr (d_lm PySem.F.slot_list_extend PySem.F.type_list_extend me_extend2 (dv 2) (da_cons (d_slice (dv 0) (do_some (dv 3)) (do_some (d_bin oz_add (dv 3) (dv 6)))) da_nil))))
  dss_nil)
  (dss_one (ds_aug (i := 3) nd rfl (Or.inl rfl) (dv 6) ip_add))))))
  (dss_cons (ds_if (dt_cmp (oz_lt hr.units) (dv 3) (d_callB ca_len (by rfl) T.len PySem.boot_len (da_cons (dv 0) da_nil)) (nomark _))
  (dss_one ds_never)
  dss_nil)
  (dss_one (ds_ret (dv 2))))))), ?_⟩
    rintro xs μ Q ⟨old, new, ops, k, rfl, rfl, ho, hn, pf, q⟩
    have ez : sizeLine = 16777216 := by decide +kernel
    refine ⟨Nat.zero_le _, fun pt => ?_⟩
    refine ⟨fun i ρ μ => ∃ (y4 y5 y6 : Option Val), ρ = [some (.dat (.list (txts old))), some (.dat (.list (ops.map Op.dat))), some (.ptr pt), some (.dat (.int (rn old (0, [], 0) (ops.take i)).1)), y4, y5, y6] ∧ μ = [(pt, .lst (dats (txts (rn old (0, [], 0) (ops.take i)).2.1)))], ⟨_, _, _, rfl, rfl⟩, fun _ _ _ _ _ => trivial, ?_, ?_⟩
    · rintro i y ρ μ hy ⟨y4, y5, y6, rfl, rfl⟩
      have hi : i < ops.length := by
        have := (List.getElem?_eq_some_iff.mp hy).1
        rwa [enumZ_len, List.length_map, List.length_map] at this
      have hoi : ops[i]? = some ops[i] := List.getElem?_eq_getElem hi
      generalize ops[i] = o at hoi
      have ey : ((ops.map Op.dat).map Val.dat)[i]? = some (.dat o.dat) := by
        rw [List.getElem?_map, List.getElem?_map, hoi]
        rfl
      rw [enumZ_get ey, Nat.zero_add] at hy
      cases hy
      have nx := run_next old (0, [], 0) hoi
      have pre := run_pre old ops (i + 1) (0, [], 0)
      rw [nx, pf.run] at pre
      have pre0 := run_pre old ops i (0, [], 0)
      rw [pf.run] at pre0
      generalize rn old (0, [], 0) (ops.take i) = s at nx pre pre0
      obtain ⟨a, f, q3⟩ := s
      have len0 : (dats (txts f)).length = f.length := by
        unfold dats
        rw [List.length_map, txts_len]
      have tx : ∀ g : List Str, dats (txts f) ++ (txts g).map Val.dat = dats (txts (f ++ g)) := fun g => by
        unfold dats txts
        rw [List.map_append, List.map_append]
      cases o with
      | put ls =>
        have pre : a ≤ old.length ∧ (f ++ ls).length ≤ new.length ∧ q3 ≤ k := pre
        rw [List.length_append] at pre
        refine ⟨rfl, rfl, ⟨0, _, rfl⟩, 0, _, rfl, by rw [len0, txts_len]; omega, _, .refl _, some (.dat (.int i)), some (.dat (.str "put")), some (.dat (.tuple (txts ls))), ?_, ?_⟩
        · rw [nx]
          rfl
        · rw [nx]
          show [(pt, Node.lst (dats (txts f) ++ (txts ls).map Val.dat))] = _
          rw [tx]
          rfl
      | keep n =>
        have pre : a + n ≤ old.length ∧ (f ++ (old.drop a).take n).length ≤ new.length ∧ q3 + n ≤ k := pre
        rw [List.length_append] at pre
        refine ⟨rfl, rfl, ite2 (fun g => ?_) (fun g => ?_)⟩
        · have c : (n : Int) > ((txts old).length : Int) - a := of_decide_eq_true g
          rw [txts_len] at c
          omega
        · refine ⟨⟨0, _, rfl⟩, fun p2 => ⟨0, _, _, rfl, .p 1 rfl, ?_, _, .cons₂ _ (List.nil_sublist _), some (.dat (.int i)), some (.dat (.str "keep")), some (.dat (.int n)), ?_, ?_⟩⟩
          · have e : cutG (txts old) (some (a : Int)) (some ((a : Int) + (n : Int))) = txts ((old.drop a).take n) := by
              have := cut_txts old (a := a) (b := a + n) (by omega) pre.1
              rw [show a + n - a = n by omega] at this
              exact this
            show (dats (txts f)).length + ((cutG (txts old) (some (a : Int)) (some ((a : Int) + (n : Int)))).map Val.dat).length ≤ sizeLine
            rw [e, List.length_map, txts_len, len0]
            omega
          · rw [nx]
            rfl
          · rw [nx]
            have e : cutG (txts old) (some (a : Int)) (some ((a : Int) + (n : Int))) = txts ((old.drop a).take n) := by
              have := cut_txts old (a := a) (b := a + n) (by omega) pre.1
              rw [show a + n - a = n by omega] at this
              exact this
            show [(pt, Node.lst (dats (txts f) ++ (cutG (txts old) (some (a : Int)) (some ((a : Int) + (n : Int)))).map Val.dat))] = _
            rw [e, tx]
            rfl
      | cut n =>
        have pre : a + n ≤ old.length ∧ f.length ≤ new.length ∧ q3 ≤ k := pre
        refine ⟨rfl, rfl, ite2 (fun g => ?_) (fun g => ?_)⟩
        · have c : (n : Int) > ((txts old).length : Int) - a := of_decide_eq_true g
          rw [txts_len] at c
          omega
        · refine ⟨_, .refl _, some (.dat (.int i)), some (.dat (.str "cut")), some (.dat (.int n)), ?_, ?_⟩
          · rw [nx]
            rfl
          · rw [nx]
            rfl
    · rintro ρ μ ⟨y4, y5, y6, rfl, rfl⟩
      rw [enumZ_len, List.length_map, List.length_map, List.take_length, pf.run]
      refine ite2 (fun g => ?_) (fun g => ?_)
      · have c : (old.length : Int) < ((txts old).length : Int) := of_decide_eq_true g
        rw [txts_len] at c
        omega
      · exact ⟨_, .refl _, q pt⟩
def fHasForm : DSp := fun xs μ Q => ∃ ops : List Op, xs = [.dat (.list (ops.map Op.dat))] ∧ μ = [] ∧ (∀ o ∈ ops, o.ok) ∧ Alt ops ∧ ops.length ≤ 200 ∧ Q (.dat (.bool true)) []
abbrev sHasForm : Stmt := topS 15
theorem scHasForm : FnScope ["thing", "one", "other", "row"] ["thing"] (defScope sHasForm) := ⟨rfl, rfl, rfl, by decide +kernel, rfl, by decide +kernel, by decide +kernel⟩
theorem ok_hasform {f : Addr} {fd : FuncData} (F : Fun K "has_form" "has_form" sHasForm f fd) (T : Bs mg) (c_is_row : CalZ P w K mg base 2 "is_row" ["thing"] fIsRow) : FnOk P w K mg base CX0 3 f fd ["thing"] (spZ w K fHasForm) := by
  refine Fun.okZ F scHasForm (fun xs μ Q h => ?_) (fun cdv A outer s H E hr => ?_)
  · obtain ⟨ops, rfl, _⟩ := h
    rfl
  · have nd := scHasForm.nd
    refine ⟨_, (dss_cons (ds_if (DW.dt (dw_or (dt_not (dt_truth (d_isi (T := "list") (by rfl) T.isinstance (by rfl) T.list (by decide +kernel) (dv 0)))) (dw_or1 (dt_not (dt_truth (d_callB (ca_all rfl) (by rfl) T.all (by decide +kernel) (da_cons (d_lc (own := [("row", 3)]) rfl nd (di_seq (dv 0)) (blkOk_by (own := [("row", 3)]) (N := ["thing", "one", "other", "row"]) (sc := defScope (topS 15)) (by decide +kernel)) (put_name (i := 3) (by decide)) (fun _ _ _ _ _ => (pg_name (i := 3) nd rfl (Or.inl rfl))) (fun _ _ _ _ _ => dts_nil) (fun _ _ _ _ _ => (d_own0 c_is_row (hr.mono (by omega)) (by rfl) (da_cons (dv 3) da_nil)))) da_nil)))))))
  (dss_one (ds_ret d_bl))
  dss_nil)
  (dss_one (ds_ret (d_callB (ca_all rfl) (by rfl) T.all (by decide +kernel) (da_cons (d_lc (own := [("one", 1), ("other", 2)]) rfl nd (di_zip (by rfl) T.zip (da_cons (dv 0) (da_cons (d_slice (dv 0) (do_some d_int) do_none) da_nil))) (blkOk_by (own := [("one", 1), ("other", 2)]) (N := ["thing", "one", "other", "row"]) (sc := defScope (topS 15)) (by decide +kernel)) (put_tup (is := [1, 2]) rfl (by decide)) (fun _ _ _ _ _ => (pg_tup rfl (pgs_cons (pg_name (i := 1) nd rfl (Or.inl rfl)) (pgs_cons (pg_name (i := 2) nd rfl (Or.inl rfl)) pgs_nil)))) (fun _ _ _ _ _ => dts_nil) (fun _ _ _ _ _ => (d_cmp (oz_ne hr.units) (d_ix (dv 1) d_int (fun _ _ => rfl)) (d_ix (dv 2) d_int (fun _ _ => rfl)) (nomark _)))) da_nil))))), ?_⟩
    rintro xs μ Q ⟨ops, rfl, rfl, hok, alt, hl, q⟩
    have ez : sizeLine = 16777216 := by decide +kernel
    refine ⟨_, true, .dat _, kk.2.2.2.2.2.2, ?_⟩
    refine ⟨fun i acc μ => μ = [] ∧ acc = (List.replicate i true).map fun b => Val.dat (.bool b), ⟨rfl, rfl⟩, fun _ _ _ _ _ => trivial, ?_, ?_⟩
    · rintro i y acc μ hy ⟨rfl, rfl⟩
      obtain ⟨o, ho, rfl⟩ := ops_get hy
      have hi := (List.getElem?_eq_some_iff.mp ho).1
      refine ⟨_, rfl, o.dat, rfl, rfl, Op.row (hok o (List.mem_of_getElem? ho)), by rw [List.length_map, List.length_replicate]; omega, _, .refl _, rfl, ?_⟩
      rw [List.replicate_succ', List.map_append]
      rfl
    · rintro acc μ ⟨rfl, rfl⟩ p
      refine ⟨0, _, rfl, ?_⟩
      rw [show (List.replicate ((ops.map Op.dat).map Val.dat).length true).all id = true from by simp]
      refine fun p2 => ⟨_, _, .d _, .p 1 rfl, ?_⟩
      refine ⟨fun i acc μ => μ = [(p, .lst ((List.replicate ((ops.map Op.dat).map Val.dat).length true).map fun b => Val.dat (.bool b))), (p2, .lst ((cutG (ops.map Op.dat) (some 1) none).map .dat))] ∧ acc = (List.replicate i true).map fun b => Val.dat (.bool b), ⟨rfl, rfl⟩, fun _ _ _ _ h => ⟨trivial, 1, by rw [h.1]; rfl⟩, ?_, ?_⟩
      · rintro i y acc μ hy ⟨rfl, rfl⟩
        obtain ⟨a, b, ha, hb, rfl⟩ := zip_next hy
        have hi := (List.getElem?_eq_some_iff.mp ha).1
        obtain ⟨d1, e1, k1⟩ := kind_at a
        obtain ⟨d2, e2, k2⟩ := kind_at b
        rw [e1, e2]
        refine ⟨_, rfl, _, k1, _, k2, ?_, _, .refl _, rfl, ?_⟩
        · rw [List.length_map, List.length_replicate]
          omega
        · rw [decide_eq_false (alt i a b ha hb), List.replicate_succ', List.map_append]
          rfl
      · rintro acc μ ⟨rfl, rfl⟩ p3
        refine ⟨2, _, rfl, [], List.nil_sublist _, ?_⟩
        rw [show (List.replicate (zipZ (ops.map Op.dat) (cutG (ops.map Op.dat) (some 1) none)).length true).all id = true from by simp]
        exact q
theorem lyn_txts {ls : List Str} (h : LsOk ls) : Lyn 1 (.list (txts ls)) := lyn_list fun d hd => by
  obtain ⟨x, hx, rfl⟩ := List.mem_map.mp hd
  exact lyn_str fun c hc => by
    have := (h.one x hx).2 c hc
    omega
/-- the table's last number -/
theorem row_last (old new : List Str) (p0 : Addr) : ∃ v, atI (Val.ptr p0 :: dats (tabT old new old.length)) (-1) = some v ∧ ∀ (μ : Store) (Q : DK), (∃ j : Nat, μ[j]? = some (p0, .lst (dats ((tabR old new 0).map .int)))) → Q (.dat (.int (tabL old new old.length new.length))) μ → zIx v (.dat (.int (-1))) μ Q := by
  have last : ∀ i, ∃ l : List Int, tabR old new i = l ++ [tabL old new i new.length] := fun i => by
    have hl := tabR_len old new i
    refine ⟨(tabR old new i).take new.length, ?_⟩
    have h1 : tabR old new i = (tabR old new i).take (new.length + 1) := by rw [List.take_of_length_le (by omega)]
    have h2 : (tabR old new i)[new.length]? = some (tabL old new i new.length) := by
      unfold tabL
      rw [List.getD, List.getElem?_eq_getElem (by omega)]
      rfl
    rw [List.take_succ, h2] at h1
    exact h1
  have at1 : ∀ i, atI ((tabR old new i).map PyData.int) (-1) = some (.int (tabL old new i new.length)) := fun i => by
    obtain ⟨l, e⟩ := last i
    rw [e, List.map_append]
    exact atI_last _ _
  cases e : old.length with
  | zero =>
    refine ⟨.ptr p0, rfl, fun μ Q ⟨j, hj⟩ q => ⟨j, _, .dat (.int (tabL old new 0 new.length)), hj, ?_, q⟩⟩
    obtain ⟨l, e⟩ := last 0
    unfold dats
    rw [e, List.map_append, List.map_append]
    exact atI_last _ _
  | succ m =>
    refine ⟨.dat (rowD (tabR old new (m + 1))), ?_, fun μ Q _ q => ⟨_, at1 (m + 1), q⟩⟩
    rw [tabT_succ]
    unfold dats
    rw [List.map_append, ← List.cons_append]
    exact atI_last _ _
def keeps1 : List Op → List Int
  | [] => []
  | .keep n :: r => (n : Int) :: keeps1 r
  | _ :: r => keeps1 r
theorem keeps1_app : ∀ a b, keeps1 (a ++ b) = keeps1 a ++ keeps1 b
  | [], b => rfl
  | .keep n :: r, b => by
    show (n : Int) :: keeps1 (r ++ b) = _
    rw [keeps1_app r b]
    rfl
  | .cut n :: r, b => keeps1_app r b
  | .put ls :: r, b => keeps1_app r b
theorem keeps1_len : ∀ a, (keeps1 a).length ≤ a.length
  | [] => Nat.le_refl _
  | .keep n :: r => Nat.succ_le_succ (keeps1_len r)
  | .cut n :: r => Nat.le_succ_of_le (keeps1_len r)
  | .put ls :: r => Nat.le_succ_of_le (keeps1_len r)
theorem keeps1_sum : ∀ a, (keeps1 a).sum = ((sumK a : Nat) : Int)
  | [] => rfl
  | .keep n :: r => by
    show (n : Int) + (keeps1 r).sum = ((n + sumK r : Nat) : Int)
    rw [keeps1_sum r]
    omega
  | .cut n :: r => keeps1_sum r
  | .put ls :: r => keeps1_sum r
def fIsPatch : DSp := fun xs μ Q => ∃ (old new : List Str) (ops : List Op) (k : Nat), xs = [.dat (.list (txts old)), .dat (.list (txts new)), .dat (.list (ops.map Op.dat))] ∧ μ = [] ∧ LsOk new ∧ old.length ≤ 40 ∧ new.length ≤ 40 ∧ PatF old new ops k ∧ (k : Int) = tabL old new old.length new.length ∧ Q (.dat (.bool true)) []
abbrev sIsPatch : Stmt := topS 14
theorem scIsPatch : FnScope ["old", "new", "thing", "told", "many", "word", "what"] ["old", "new", "thing"] (defScope sIsPatch) := ⟨rfl, rfl, rfl, by decide +kernel, rfl, by decide +kernel, by decide +kernel⟩
theorem ok_ispatch {f : Addr} {fd : FuncData} (F : Fun K "is_patch" "is_patch" sIsPatch f fd) (T : Bs mg) (c_has_form : CalZ P w K mg base 3 "has_form" ["thing"] fHasForm) (c_put_on : CalZ P w K mg base 1 "put_on" ["lines", "patch"] fPutOn) (c_table : CalZ P w K mg base 2 "table" ["old", "new"] fTable) : FnOk P w K mg base CX0 4 f fd ["old", "new", "thing"] (spZ w K fIsPatch) := by
  refine Fun.okZ F scIsPatch (fun xs μ Q h => ?_) (fun cdv A outer s H E hr => ?_)
  · obtain ⟨old, new, ops, k, rfl, _⟩ := h
    rfl
  · have nd := scIsPatch.nd
    refine ⟨_, (dss_cons (ds_if (dt_not (dt_truth (d_own0 c_has_form (hr.mono (by omega)) (by rfl) (da_cons (dv 2) da_nil))))
  (dss_one (ds_ret d_bl))
  dss_nil)
  (dss_cons (ds_try
  (dss_one (ds_set (i := 3) nd rfl (Or.inl rfl) (d_ownL c_put_on (hr.mono (by omega)) (by rfl) (da_cons (dv 0) (da_cons (dv 2) da_nil))))))
  (dss_cons (ds_set (i := 4) nd rfl (Or.inl rfl) (d_callB (ca_sum rfl) (by rfl) T.sum (by decide +kernel) (da_cons (d_lc (own := [("word", 5), ("what", 6)]) rfl nd (di_seq (dv 2)) (blkOk_by (own := [("word", 5), ("what", 6)]) (N := ["old", "new", "thing", "told", "many", "word", "what"]) (sc := defScope (topS 14)) (by decide +kernel)) (put_tup (is := [5, 6]) rfl (by decide)) (fun _ _ _ _ _ => (pg_tup rfl (pgs_cons (pg_name (i := 5) nd rfl (Or.inl rfl)) (pgs_cons (pg_name (i := 6) nd rfl (Or.inl rfl)) pgs_nil)))) (fun _ _ _ _ _ => (dts_one (dt_cmp (oz_eq hr.units) (dv 5) d_str (nomark _)))) (fun _ _ _ _ _ => (dv 6))) da_nil)))
  (dss_one (ds_ret (d_and (d_cmp (oz_eq hr.units) (dv 3) (d_callTy ca_list (by rfl) T.list (by decide +kernel) (da_cons (dv 1) da_nil)) (nomark _)) (d_one (d_cmp (oz_eq hr.units) (dv 4) (d_ix (d_ix (d_own0 c_table (hr.mono (by omega)) (by rfl) (da_cons (dv 0) (da_cons (dv 1) da_nil))) (d_neg d_int) (fun _ _ => rfl)) (d_neg d_int) (fun _ _ => rfl)) (nomark _))))))))), ?_⟩
    rintro xs μ Q ⟨old, new, ops, k, rfl, rfl, hls, ho, hn, pf, hk, q⟩
    have ez : sizeLine = 16777216 := by decide +kernel
    refine ⟨ops, rfl, rfl, pf.ok, pf.alt, pf.len, ?_⟩
    refine ⟨_, .cons (.keep _) (.cons (.keep _) .nil), old, new, ops, k, rfl, rfl, ho, hn, pf, fun pt => ⟨⟨trivial, ?_⟩, ?_⟩⟩
    · intro e he
      rw [List.mem_singleton.mp he]
      intro z hz
      obtain ⟨d, hd, rfl⟩ := List.mem_map.mp hz
      obtain ⟨x, _, rfl⟩ := List.mem_map.mp hd
      rfl
    refine ⟨fun i acc μ => μ = [(pt, .lst (dats (txts new)))] ∧ acc = (keeps1 (ops.take i)).map fun n => Val.dat (.int n), ⟨rfl, rfl⟩, fun _ _ _ _ _ => trivial, ?_, ?_⟩
    · rintro i y acc μ hy ⟨rfl, rfl⟩
      obtain ⟨o, ho, rfl⟩ := ops_get hy
      have hi := (List.getElem?_eq_some_iff.mp ho).1
      have st : keeps1 (ops.take (i + 1)) = keeps1 (ops.take i) ++ keeps1 [o] := by
        rw [List.take_succ, ho]
        exact keeps1_app _ _
      cases o with
      | keep n =>
        refine ⟨_, rfl, ?_, _, .refl _, rfl, ?_⟩
        · have := keeps1_len (ops.take i)
          rw [List.length_take] at this
          have := pf.len
          rw [List.length_map]
          omega
        · rw [st, List.map_append]
          rfl
      | cut n =>
        refine ⟨_, rfl, _, .refl _, rfl, ?_⟩
        rw [st, List.map_append]
        show _ = _ ++ []
        rw [List.append_nil]
      | put ls =>
        refine ⟨_, rfl, _, .refl _, rfl, ?_⟩
        rw [st, List.map_append]
        show _ = _ ++ []
        rw [List.append_nil]
    · rintro acc μ ⟨rfl, rfl⟩ p2
      rw [List.length_map, List.length_map, List.take_length]
      refine ⟨1, _, rfl, ?_⟩
      have es : (keeps1 ops).sum = (k : Int) := by
        rw [keeps1_sum]
        have h1 := run_sum old ops (0, [], 0)
        rw [pf.run] at h1
        have h1 : k = 0 + sumK ops := h1
        omega
      rw [es]
      refine fun p3 => ⟨_, _, .p 0 rfl (datOf_dats _), .p 2 rfl (datOf_map _), ?_, ?_, ?_⟩
      · exact (lyn_txts hls).shaped (by decide)
      · exact (lyn_txts hls).shaped (by decide)
      · rw [(lyn_txts hls).same]
        refine ⟨old, new, rfl, rfl, ho, hn, fun q0 q1 => ?_⟩
        have hr := row_last old new q0
        obtain ⟨v, hv, gv⟩ := hr
        refine ⟨4, _, v, rfl, hv, gv _ _ ⟨3, rfl⟩ ?_⟩
        refine ⟨[], List.nil_sublist _, ?_⟩
        show Q (.dat (.bool (decide ((k : Int) = tabL old new old.length new.length)))) []
        rw [decide_eq_true hk]
        exact q
end
end Kr
namespace Kr
open PySem PySem.Spec PyProof.Rows L2 Lf Zl SX
theorem kT : kitB "tuple" "tuple" = some true := by decide +kernel
theorem kS : kitB "str" "str" = some true := by decide +kernel
section
variable {P : Program} {w : World} {K : PySem.W.Frag} {mg : Str → Option Value} {base : Heap}
def fWhole : DSp := fun xs μ Q => ∃ i : Int, xs = [.dat (.int i)] ∧ μ = [] ∧ Q (.dat (.bool true)) []
abbrev sWhole : Stmt := topS 20
theorem scWhole : FnScope ["_law_thing"] ["_law_thing"] (defScope sWhole) := ⟨rfl, rfl, rfl, by decide +kernel, rfl, by decide +kernel, by decide +kernel⟩
theorem ok_whole {f : Addr} {fd : FuncData} (F : Fun K "_law_whole" "_law_whole" sWhole f fd) (T : Bs mg) : FnOk P w K mg base CX0 1 f fd ["_law_thing"] (spZ w K fWhole) := by
  refine Fun.okZ F scWhole (fun xs μ Q h => ?_) (fun cdv A outer s H E hr => ?_)
  · obtain ⟨i, rfl, _⟩ := h
    rfl
  · have nd := scWhole.nd
    refine ⟨_, (dss_one (ds_ret (d_and (d_isi (T := "int") (by rfl) T.isinstance (by rfl) T.int (by decide +kernel) (dv 0)) (d_one (d_not (d_isi (T := "bool") (by rfl) T.isinstance (by rfl) T.bool (by decide +kernel) (dv 0))))))), ?_⟩
    rintro xs μ Q ⟨i, rfl, rfl, q⟩
    refine ⟨_, true, .dat _, kk.2.1, _, false, .dat _, kk.1, ?_⟩
    exact ⟨[], .refl _, q⟩
def fForm : DSp := fun xs μ Q => ∃ ops : List Op, xs = [.dat (.list (ops.map Op.dat))] ∧ μ = [] ∧ (∀ o ∈ ops, o.ok) ∧ Alt ops ∧ ops.length ≤ 200 ∧ Q (.dat (.bool true)) []
abbrev sForm : Stmt := topS 25
theorem scForm : FnScope ["_law_rows", "_law_last", "_law_one", "_law_what", "_law_line"] ["_law_rows"] (defScope sForm) := ⟨rfl, rfl, rfl, by decide +kernel, rfl, by decide +kernel, by decide +kernel⟩
def lastK (ops : List Op) : Nat → PyData
  | 0 => .none
  | i + 1 => match ops[i]? with | some o => .str o.kind | none => .none
theorem ok_form {f : Addr} {fd : FuncData} (F : Fun K "_law_form" "_law_form" sForm f fd) (T : Bs mg) (c__law_whole : CalZ P w K mg base 1 "_law_whole" ["_law_thing"] fWhole) : FnOk P w K mg base CX0 2 f fd ["_law_rows"] (spZ w K fForm) := by
  refine Fun.okZ F scForm (fun xs μ Q h => ?_) (fun cdv A outer s H E hr => ?_)
  · obtain ⟨ops, rfl, _⟩ := h
    rfl
  · have nd := scForm.nd
    refine ⟨_, (dss_cons (ds_if (dt_not (dt_truth (d_isi (T := "list") (by rfl) T.isinstance (by rfl) T.list (by decide +kernel) (dv 0))))
  (dss_one (ds_ret d_bl))
  dss_nil)
  (dss_cons (ds_set (i := 1) nd rfl (Or.inl rfl) d_non)
  (dss_cons (ds_for PassesOwn.never rfl (di_seq (dv 0)) (dg_name (i := 2) nd rfl (Or.inl rfl))
  (dss_cons (ds_if (DW.dt (dw_or (dt_not (dt_truth (d_isi (T := "tuple") (by rfl) T.isinstance (by rfl) T.tuple (by decide +kernel) (dv 2)))) (dw_or1 (dt_cmp (oz_ne hr.units) (d_callB ca_len (by rfl) T.len PySem.boot_len (da_cons (dv 2) da_nil)) d_int (nomark _)))))
  (dss_one (ds_ret d_bl))
  dss_nil)
  (dss_cons (ds_if (DW.dt (dw_or (dt_not (dt_truth (d_isi (T := "str") (by rfl) T.isinstance (by rfl) T.str (by decide +kernel) (d_ix (dv 2) d_int (fun _ _ => rfl))))) (dw_or1 (dt_cmp (oz_eq hr.units) (d_ix (dv 2) d_int (fun _ _ => rfl)) (dv 1) (nomark _)))))
  (dss_one (ds_ret d_bl))
  dss_nil)
  (dss_cons (ds_asg (dv 2) (dg_tup rfl (dgs_cons (dg_name (i := 1) nd rfl (Or.inl rfl)) (dgs_cons (dg_name (i := 3) nd rfl (Or.inl rfl)) dgs_nil))))
  (dss_one (ds_if (dt_cmp (oz_in (room65 hr)) (dv 1) (d_tup (da_cons d_str (da_cons d_str da_nil))) (by rfl))
  (dss_one (ds_if (DW.dt (dw_or (dt_not (dt_truth (d_own0 c__law_whole (hr.mono (by omega)) (by rfl) (da_cons (dv 3) da_nil)))) (dw_or1 (dt_cmp (oz_lt hr.units) (dv 3) d_int (nomark _)))))
  (dss_one (ds_ret d_bl))
  dss_nil))
  (dss_one (ds_if (DW.dt (dw_or (dt_cmp (oz_ne hr.units) (dv 1) d_str (nomark _)) (dw_or (dt_not (dt_truth (d_isi (T := "tuple") (by rfl) T.isinstance (by rfl) T.tuple (by decide +kernel) (dv 3)))) (dw_or1 (dt_cmp (oz_eq hr.units) (dv 3) (d_tup da_nil) (nomark _))))))
  (dss_one (ds_ret d_bl))
  (dss_one (ds_if (dt_cmp (oz_ne hr.units) (d_lc (own := [("_law_line", 4)]) rfl nd (di_seq (dv 3)) (blkOk_by (own := [("_law_line", 4)]) (N := ["_law_rows", "_law_last", "_law_one", "_law_what", "_law_line"]) (sc := defScope (topS 25)) (by decide +kernel)) (put_name (i := 4) (by decide)) (fun _ _ _ _ _ => (pg_name (i := 4) nd rfl (Or.inl rfl))) (fun _ _ _ _ _ => (dts_one (dt_not (dt_truth (d_isi (T := "str") (by rfl) T.isinstance (by rfl) T.str (by decide +kernel) (dv 4)))))) (fun _ _ _ _ _ => (dv 4))) (d_lst da_nil) (nomark _))
  (dss_one (ds_ret d_bl))
  dss_nil))))))))))
  (dss_one (ds_ret d_bl))))), ?_⟩
    rintro xs μ Q ⟨ops, rfl, rfl, hok, alt, hl, q⟩
    have ez : sizeLine = 16777216 := by decide +kernel
    refine ⟨_, true, .dat _, kk.2.2.2.2.2.2, ?_⟩
    refine ⟨fun i ρ μ => ∃ y2 y3 y4 : Option Val, ρ = [some (.dat (.list (ops.map Op.dat))), some (.dat (lastK ops i)), y2, y3, y4] ∧ μ = [], ⟨_, _, _, rfl, rfl⟩, fun _ _ _ _ _ => trivial, ?_, ?_⟩
    · rintro i y ρ μ hy ⟨y2, y3, y4, rfl, rfl⟩
      obtain ⟨o, ho, rfl⟩ := ops_get hy
      have hi := (List.getElem?_eq_some_iff.mp ho).1
      have nk : ∀ (g : Bool → Bool) (Q : DK), Q (.dat (.bool (g false))) [] → zEqq g (.dat (.str o.kind)) (.dat (lastK ops i)) [] Q := fun g Q h => by
        cases i with
        | zero => exact h
        | succ i =>
          have hp : ops[i]? = some ops[i] := List.getElem?_eq_getElem (by omega)
          have e : lastK ops (i + 1) = .str (ops[i]).kind := by
            show (match ops[i]? with | some o => PyData.str o.kind | none => .none) = _
            rw [hp]
          rw [e]
          show Q (.dat (.bool (g (decide (o.kind = (ops[i]).kind))))) []
          rw [decide_eq_false fun h => alt i _ _ hp ho h.symm]
          exact h
      have nl : lastK ops (i + 1) = .str o.kind := by
        show (match ops[i]? with | some o => PyData.str o.kind | none => .none) = _
        rw [ho]
      have hok1 := hok o (List.mem_of_getElem? ho)
      cases o with
      | keep n =>
        have hok1 : 0 < n := hok1
        refine ⟨_, true, .dat _, kT, ?_⟩
        refine ⟨_, rfl, _, true, .dat _, kS, _, rfl, nk _ _ ?_⟩
        refine ⟨rfl, (by show 2 ≤ sizeLine; omega), _, .d _, rfl, rfl, ?_⟩
        refine ite2 (fun _ => ?_) (fun c => absurd (by decide +kernel) c)
        refine ⟨n, rfl, rfl, ite2 (fun g => ?_) (fun g => ?_)⟩
        · have : (n : Int) < 1 := of_decide_eq_true g
          omega
        · exact ⟨_, .refl _, _, _, _, by rw [nl]; rfl, rfl⟩
      | cut n =>
        have hok1 : 0 < n := hok1
        refine ⟨_, true, .dat _, kT, ?_⟩
        refine ⟨_, rfl, _, true, .dat _, kS, _, rfl, nk _ _ ?_⟩
        refine ⟨rfl, (by show 2 ≤ sizeLine; omega), _, .d _, rfl, rfl, ?_⟩
        refine ite2 (fun _ => ?_) (fun c => absurd (by decide +kernel) c)
        refine ⟨n, rfl, rfl, ite2 (fun g => ?_) (fun g => ?_)⟩
        · have : (n : Int) < 1 := of_decide_eq_true g
          omega
        · exact ⟨_, .refl _, _, _, _, by rw [nl]; rfl, rfl⟩
      | put ls =>
        have hok1 : ls ≠ [] ∧ ls.length ≤ 40 ∧ ∀ x ∈ ls, ∀ c ∈ x.cps.toList, c < 128 := hok1
        refine ⟨_, true, .dat _, kT, ?_⟩
        refine ⟨_, rfl, _, true, .dat _, kS, _, rfl, nk _ _ ?_⟩
        refine ⟨rfl, (by show 2 ≤ sizeLine; omega), _, .d _, rfl, rfl, ?_⟩
        refine ite2 (fun c => absurd c (by decide +kernel)) (fun _ => ?_)
        have ev : PyData.eqv (.tuple (txts ls)) (.tuple []) = false := by
          cases ls with
          | nil => exact absurd rfl hok1.1
          | cons x r => rfl
        have sh : SeqAt.shaped (.tuple (txts ls)) = true := (lyn_tup (k := 0) (fun d hd => by
          obtain ⟨x, hx, rfl⟩ := List.mem_map.mp hd
          exact lyn_str fun c hc => by
            have := hok1.2.2 x hx c hc
            omega)).shaped (by decide)
        refine ⟨_, true, .dat _, kT, (by show 0 ≤ sizeLine; omega), sh, rfl, ?_⟩
        rw [ev]
        refine ⟨fun j acc μ => μ = [] ∧ acc = [], ⟨rfl, rfl⟩, fun _ _ _ _ _ => trivial, ?_, ?_⟩
        · rintro j y acc μ hy ⟨rfl, rfl⟩
          obtain ⟨x, hx, rfl⟩ := txts_get hy
          exact ⟨_, rfl, _, true, .dat _, kS, _, .refl _, rfl, rfl⟩
        · rintro acc μ ⟨rfl, rfl⟩ p
          refine ⟨Nat.zero_le _, fun p2 => ⟨_, _, .p 0 rfl rfl, .p 1 rfl rfl, rfl, rfl, ?_⟩⟩
          exact ⟨[], List.nil_sublist _, _, _, _, by rw [nl]; rfl, rfl⟩
    · rintro ρ μ ⟨y2, y3, y4, rfl, rfl⟩
      exact ⟨[], .refl _, q⟩
def fLed : DSp := fun xs μ Q => ∃ (old new : List Str) (ops : List Op) (k : Nat), xs = [.dat (.list (txts old)), .dat (.list (ops.map Op.dat))] ∧ μ = [] ∧ old.length ≤ 40 ∧ new.length ≤ 40 ∧ PatF old new ops k ∧ ∀ p, Q (.tpl [.inr p, .inl (.int k)]) [(p, .lst (dats (txts new)))]
abbrev sLed : Stmt := topS 24
theorem scLed : FnScope ["_law_old", "_law_rows", "_law_found", "_law_kept", "_law_left", "_law_word", "_law_what"] ["_law_old", "_law_rows"] (defScope sLed) := ⟨rfl, rfl, rfl, by decide +kernel, rfl, by decide +kernel, by decide +kernel⟩
theorem ok_led {f : Addr} {fd : FuncData} (F : Fun K "_law_led" "_law_led" sLed f fd) (T : Bs mg) : FnOk P w K mg base CX0 1 f fd ["_law_old", "_law_rows"] (spZ w K fLed) := by
  refine Fun.okZ F scLed (fun xs μ Q h => ?_) (fun cdv A outer s H E hr => ?_)
  · obtain ⟨old, new, ops, k, rfl, _⟩ := h
    rfl
  · have nd := scLed.nd
    refine ⟨_, (dss_cons (ds_set (i := 2) nd rfl (Or.inl rfl) (d_lst da_nil))
  (dss_cons (ds_set (i := 3) nd rfl (Or.inl rfl) d_int)
  (dss_cons (ds_set (i := 4) nd rfl (Or.inl rfl) (d_fz (d_callTy ca_list (by rfl) T.list (by decide +kernel) (da_cons (dv 0) da_nil))))
  (dss_cons (ds_for PassesOwn.never rfl (di_seq (dv 1)) (dg_tup rfl (dgs_cons (dg_name (i := 5) nd rfl (Or.inl rfl)) (dgs_cons (dg_name (i := 6) nd rfl (Or.inl rfl)) dgs_nil)))
  (dss_one (ds_if (dt_cmp (oz_eq hr.units) (dv 5) d_str (nomark _))
  (dss_one (ds_set (i := 2) nd rfl (Or.inl rfl) (d_bin oz_add (dv 2) (d_callTy ca_list (by rfl) T.list (by decide +kernel) (da_cons (dv 6) da_nil)))))
  (dss_one (ds_if (dt_cmp (oz_gt hr.units) (dv 6) (d_callB ca_len (by rfl) T.len PySem.boot_len (da_cons (dv 4) da_nil)) (nomark _))
  (dss_one (ds_ret (d_tup (da_cons d_non (da_cons d_int da_nil)))))
  (dss_cons (ds_if (dt_cmp (oz_eq hr.units) (dv 5) d_str (nomark _))
  (dss_cons (ds_set (i := 2) nd rfl (Or.inl rfl) (d_bin oz_add (dv 2) (d_slice (dv 4) do_none (do_some (dv 6)))))
  (dss_one (ds_set (i := 3) nd rfl (Or.inl rfl) (d_bin oz_add (dv 3) (dv 6)))))
  dss_nil)
  (dss_one (ds_set (i := 4) nd rfl (Or.inl rfl) (d_fz (d_slice (dv 4) (do_some (dv 6)) do_none))))))))))
  (dss_one (ds_ret (d_ifExp (dt_cmp (oz_ne hr.units) (dv 4) (d_lst da_nil) (nomark _)) (d_tup (da_cons d_non (da_cons d_int da_nil))) (d_tupO (da_cons (dv 2) (da_cons (dv 3) da_nil)))))))))), ?_⟩
    rintro xs μ Q ⟨old, new, ops, k, rfl, rfl, ho, hn, pf, q⟩
    have ez : sizeLine = 16777216 := by decide +kernel
    refine ⟨Nat.zero_le _, fun pt => ?_⟩
    refine fun pl => ⟨1, _, _, rfl, datOf_map _, ?_⟩
    refine ⟨fun i ρ μ => ∃ (pt : Addr) (y5 y6 : Option Val), ρ = [some (.dat (.list (txts old))), some (.dat (.list (ops.map Op.dat))), some (.ptr pt), some (.dat (.int (rn old (0, [], 0) (ops.take i)).2.2)), some (.dat (.list (txts (old.drop (rn old (0, [], 0) (ops.take i)).1)))), y5, y6] ∧ μ = [(pt, .lst (dats (txts (rn old (0, [], 0) (ops.take i)).2.1)))], ⟨_, _, _, rfl, rfl⟩, fun _ _ _ _ _ => trivial, ?_, ?_⟩
    · rintro i y ρ μ hy ⟨pt, y5, y6, rfl, rfl⟩
      obtain ⟨o, ho, rfl⟩ := ops_get hy
      have nx := run_next old (0, [], 0) ho
      have pre := run_pre old ops (i + 1) (0, [], 0)
      rw [nx, pf.run] at pre
      have pre0 := run_pre old ops i (0, [], 0)
      rw [pf.run] at pre0
      generalize rn old (0, [], 0) (ops.take i) = s at nx pre pre0
      obtain ⟨a, f, q3⟩ := s
      have len0 : (dats (txts f)).length = f.length := by
        unfold dats
        rw [List.length_map, txts_len]
      have tx : ∀ g : List Str, dats (txts f) ++ (txts g).map Val.dat = dats (txts (f ++ g)) := fun g => by
        unfold dats txts
        rw [List.map_append, List.map_append]
      cases o with
      | put ls =>
        have pre : a ≤ old.length ∧ (f ++ ls).length ≤ new.length ∧ q3 ≤ k := pre
        rw [List.length_append] at pre
        refine ⟨rfl, fun p1 => ⟨_, _, .p 0 rfl, .p 1 rfl, by rw [len0, List.length_map, txts_len]; omega, fun p2 => ⟨_, List.drop_sublist 2 _, p2, some (.dat (.str "put")), some (.dat (.tuple (txts ls))), ?_, ?_⟩⟩⟩
        · rw [nx]
          rfl
        · rw [nx]
          show [(p2, Node.lst (dats (txts f) ++ (txts ls).map Val.dat))] = _
          rw [tx]
          rfl
      | keep n =>
        have pre : a + n ≤ old.length ∧ (f ++ (old.drop a).take n).length ≤ new.length ∧ q3 + n ≤ k := pre
        rw [List.length_append] at pre
        refine ⟨rfl, ite2 (fun g => ?_) (fun g => ?_)⟩
        · have c : (n : Int) > ((txts (old.drop a)).length : Int) := of_decide_eq_true g
          rw [txts_len, List.length_drop] at c
          omega
        · have e : cutG (txts (old.drop a)) none (some (n : Int)) = txts ((old.drop a).take n) := by
            rw [cutG_take]
            unfold txts
            rw [List.map_take]
          have e2 : cutG (txts (old.drop a)) (some (n : Int)) none = txts (old.drop (a + n)) := by
            rw [from_txts _ (by rw [List.length_drop]; omega), List.drop_drop]
          refine fun p1 => ⟨_, _, .p 0 rfl, .p 1 rfl, ?_, fun p2 => ?_⟩
          · show (dats (txts f)).length + ((cutG (txts (old.drop a)) none (some (n : Int))).map Val.dat).length ≤ sizeLine
            rw [e, List.length_map, txts_len, len0]
            omega
          refine fun p3 => ⟨3, _, _, rfl, datOf_map _, _, List.drop_sublist 2 _, p2, some (.dat (.str "keep")), some (.dat (.int n)), ?_, ?_⟩
          · rw [nx, e2]
            rfl
          · rw [nx]
            show [(p2, Node.lst (dats (txts f) ++ (cutG (txts (old.drop a)) none (some (n : Int))).map Val.dat))] = _
            rw [e, tx]
            rfl
      | cut n =>
        have pre : a + n ≤ old.length ∧ f.length ≤ new.length ∧ q3 ≤ k := pre
        refine ⟨rfl, ite2 (fun g => ?_) (fun g => ?_)⟩
        · have c : (n : Int) > ((txts (old.drop a)).length : Int) := of_decide_eq_true g
          rw [txts_len, List.length_drop] at c
          omega
        · have e2 : cutG (txts (old.drop a)) (some (n : Int)) none = txts (old.drop (a + n)) := by
            rw [from_txts _ (by rw [List.length_drop]; omega), List.drop_drop]
          refine fun p3 => ⟨1, _, _, rfl, datOf_map _, _, .refl _, pt, some (.dat (.str "cut")), some (.dat (.int n)), ?_, ?_⟩
          · rw [nx, e2]
            rfl
          · rw [nx]
            rfl
    · rintro ρ μ ⟨pt, y5, y6, rfl, rfl⟩
      rw [List.length_map, List.length_map, List.take_length, pf.run]
      refine ⟨Nat.zero_le _, fun p2 => ?_⟩
      rw [List.drop_length]
      refine ⟨_, _, .d _, .p 1 rfl rfl, rfl, rfl, ?_⟩
      refine ⟨(by show 2 ≤ sizeLine; omega), _, .cons₂ _ (List.nil_sublist _), q pt⟩
end
end Kr
namespace Kr
open PySem PySem.Spec PyProof.Rows L2 Lf Zl SX
/-! ### another page -/
def Pg (n : Nat) (ls : List Str) : Prop := ls.length ≤ n ∧ ∀ x ∈ ls, x.length ≤ 10 ∧ ∀ c ∈ x.cps.toList, c < 128
theorem Pg.ls {n : Nat} {ls : List Str} (h : Pg n ls) (e : n ≤ 30) : LsOk ls := ⟨Nat.le_trans h.1 e, h.2⟩
theorem txts_cut (ls : List Str) (lo hi : Option Int) : cutG (txts ls) lo hi = txts (cutG ls lo hi) := cutG_map
theorem mem_cut {α : Type} {xs : List α} {lo hi : Option Int} {x : α} (h : x ∈ cutG xs lo hi) : x ∈ xs := List.mem_of_mem_drop (List.mem_of_mem_take h)
theorem cut_from_len {α : Type} (xs : List α) (a : Nat) : (cutG xs (some (a : Int)) none).length = xs.length - a := by
  unfold cutG
  rw [HT.sIx_nat, HT.sIx_none, List.length_take, List.length_drop]
  omega
theorem cut_one_len {α : Type} (xs : List α) (a : Nat) : (cutG xs (some (a : Int)) (some ((a : Int) + 1))).length ≤ 1 := by
  unfold cutG
  rw [show (a : Int) + 1 = ((a + 1 : Nat) : Int) by omega, HT.sIx_nat, HT.sIx_nat, List.length_take, List.length_drop]
  omega
theorem two_app (a b : List Str) : dats (txts a) ++ dats (txts b) = dats (txts (a ++ b)) := by
  unfold dats txts
  rw [List.map_append, List.map_append]
theorem dats_len (ls : List Str) : (dats (txts ls)).length = ls.length := by
  unfold dats
  rw [List.length_map, txts_len]
theorem four_ok : ∀ x ∈ (["- a", "- b", "new", ""] : List Str), x.length ≤ 10 ∧ ∀ c ∈ x.cps.toList, c < 128 := by decide +kernel
theorem turned_ok : ("turned" : Str).length ≤ 10 ∧ ∀ c ∈ ("turned" : Str).cps.toList, c < 128 := by decide +kernel
section
variable {P : Program} {w : World} {K : PySem.W.Frag} {mg : Str → Option Value} {base : Heap}
def fOther : DSp := fun xs μ Q => ∃ a ns s l r N, ∃ old : List Str, xs = [.ptr a, .dat (.list (txts old))] ∧ μ = [(a, diceN ns s l r)] ∧ DiceOk s l r N ∧ N ≤ 800000 ∧ Pg 14 old ∧ ∀ (ls : List Str) s' l' r', Pg 20 ls → DiceOk s' l' r' (N + 100) → Q (.dat (.list (txts ls))) [(a, diceN ns s' l' r')]
abbrev sOther : Stmt := topS 22
theorem scOther : FnScope ["_law_dice", "_law_old", "_law_found", "_law_turn", "_law_at", "_law_to", "_law_way", "_law_line"] ["_law_dice", "_law_old"] (defScope sOther) := ⟨rfl, rfl, rfl, by decide +kernel, rfl, by decide +kernel, by decide +kernel⟩
theorem ok_other {f : Addr} {fd : FuncData} (F : Fun K "_law_other" "_law_other" sOther f fd) (T : Bs mg) (c__law_roll : CalZ P w K mg base 1 "_law_roll" ["_law_dice", "_law_size"] fRoll) (c__law_pick : CalZ P w K mg base 2 "_law_pick" ["_law_dice", "_law_some"] fPick) (c__law_lines_drawn : CalZ P w K mg base 3 "_law_lines_drawn" ["_law_dice"] fDrawn) : FnOk P w K mg base CX0 4 f fd ["_law_dice", "_law_old"] (spZ w K fOther) := by
  refine Fun.okZ F scOther (fun xs μ Q h => ?_) (fun cdv A outer s H E hr => ?_)
  · obtain ⟨a, ns, s, l, r, N, old, rfl, _⟩ := h
    rfl
  · have nd := scOther.nd
    refine ⟨_, (dss_cons (ds_set (i := 2) nd rfl (Or.inl rfl) (d_callTy ca_list (by rfl) T.list (by decide +kernel) (da_cons (dv 1) da_nil)))
  (dss_cons (ds_for PassesOwn.never rfl (di_range1 (by rfl) T.range (da_cons (d_own1 c__law_roll (hr.mono (by omega)) (by rfl) (da_cons (dv 0) (da_cons d_int da_nil))) da_nil)) (dg_name (i := 3) nd rfl (Or.inl rfl))
  (dss_cons (ds_set (i := 4) nd rfl (Or.inl rfl) (d_own1 c__law_roll (hr.mono (by omega)) (by rfl) (da_cons (dv 0) (da_cons (d_bin oz_add (d_callB ca_len (by rfl) T.len PySem.boot_len (da_cons (dv 2) da_nil)) d_int) da_nil))))
  (dss_cons (ds_set (i := 5) nd rfl (Or.inl rfl) (d_own1 c__law_roll (hr.mono (by omega)) (by rfl) (da_cons (dv 0) (da_cons (d_bin oz_add (d_callB ca_len (by rfl) T.len PySem.boot_len (da_cons (dv 2) da_nil)) d_int) da_nil))))
  (dss_cons (ds_set (i := 6) nd rfl (Or.inl rfl) (d_own1 c__law_roll (hr.mono (by omega)) (by rfl) (da_cons (dv 0) (da_cons d_int da_nil))))
  (dss_one (ds_if (dt_cmp (oz_eq hr.units) (dv 6) d_int (nomark _))
  (dss_one (ds_set (i := 2) nd rfl (Or.inl rfl) (d_bin oz_add (d_slice (dv 2) do_none (do_some (dv 4))) (d_slice (dv 2) (do_some (d_bin oz_add (dv 4) d_int)) do_none))))
  (dss_one (ds_if (dt_cmp (oz_eq hr.units) (dv 6) d_int (nomark _))
  (dss_one (ds_expr (d_lm PySem.F.slot_list_insert PySem.F.type_list_insert me_insert (dv 2) (da_cons (dv 4) (da_cons (d_own1 c__law_pick (hr.mono (by omega)) (by rfl) (da_cons (dv 0) (da_cons (d_fz (d_lst (da_cons d_str (da_cons d_str (da_cons d_str (da_cons d_str da_nil)))))) da_nil))) da_nil)))))
  (dss_one (ds_if (DW.dt (dw_and (dt_cmp (oz_eq hr.units) (dv 6) d_int (nomark _)) (dw_and1 (dt_cmp (oz_lt hr.units) (dv 4) (d_callB ca_len (by rfl) T.len PySem.boot_len (da_cons (dv 2) da_nil)) (nomark _)))))
  (dss_one (ds_asg d_str (dg_sub (dv 2) (dv 4))))
  (dss_cons (ds_set (i := 7) nd rfl (Or.inl rfl) (d_slice (dv 2) (do_some (dv 4)) (do_some (d_bin oz_add (dv 4) d_int))))
  (dss_cons (ds_set (i := 2) nd rfl (Or.inl rfl) (d_bin oz_add (d_slice (dv 2) do_none (do_some (dv 4))) (d_slice (dv 2) (do_some (d_bin oz_add (dv 4) d_int)) do_none)))
  (dss_one (ds_asg (dv 7) (dg_setHere (dv 2) (do_some (dv 5)) (do_some (dv 5)))))))))))))))))
  (dss_one (ds_weak (ds_ret (d_own1 c__law_pick (hr.mono (by omega)) (by rfl) (da_cons (dv 0) (da_cons (d_fz (d_lst (da_cons (dv 2) (da_cons (dv 2) (da_cons (d_fz (d_own1 c__law_lines_drawn (hr.mono (by omega)) (by rfl) (da_cons (dv 0) da_nil))) (da_cons (d_fz (d_callTy ca_list (by rfl) T.list (by decide +kernel) (da_cons (dv 1) da_nil))) (da_cons (d_fz (d_lst da_nil)) da_nil))))))) da_nil)))))))), ?_⟩
    rintro xs μ Q ⟨a, ns, s, l, r, N, old, rfl, rfl, ok, hN, hpo, q⟩
    have ez : sizeLine = 16777216 := by decide +kernel
    refine fun pf0 => ⟨0, a, _, rfl, a, ns, s, l, r, N, 5, rfl, rfl, ok, by omega, by decide, by decide, fun t s1 l1 r1 t0 t1 ok1 => ⟨_, [], rfl, ?_⟩⟩
    obtain ⟨t, rfl⟩ := Int.eq_ofNat_of_zero_le t0
    refine ⟨by omega, by omega, fun i ρ μ => ∃ (pf : Addr) (ls : List Str) (s l r : Int) (y3 y4 y5 y6 y7 : Option Val), ρ = [some (.ptr a), some (.dat (.list (txts old))), some (.ptr pf), y3, y4, y5, y6, y7] ∧ μ = [(a, diceN ns s l r), (pf, .lst (dats (txts ls)))] ∧ Pg (14 + i) ls ∧ DiceOk s l r (N + 1 + 4 * i), ⟨pf0, old, _, _, _, _, _, _, _, _, rfl, rfl, hpo, ok1.more (by omega)⟩, fun _ _ _ _ _ => trivial, ?_, ?_⟩
    · rintro i y ρ μ hy ⟨pf, ls, s, l, r, y3, y4, y5, y6, y7, rfl, rfl, hp, ok2⟩
      have hi : i < 5 := by
        have := (List.getElem?_eq_some_iff.mp hy).1
        rw [rangeZ_len] at this
        omega
      have hlen := hp.1
      have dl := dats_len ls
      refine ⟨1, _, rfl, 0, a, _, rfl, a, ns, s, l, r, _, _, rfl, rfl, ok2, by omega, by omega, by rw [dl]; omega, fun at_ s3 l3 r3 a0 a1 ok3 => ⟨_, [], rfl, ?_⟩⟩
      obtain ⟨at_, rfl⟩ := Int.eq_ofNat_of_zero_le a0
      refine ⟨1, _, rfl, 0, a, _, rfl, a, ns, s3, l3, r3, _, _, rfl, rfl, ok3, by omega, by omega, by rw [dl]; omega, fun to_ s4 l4 r4 b0 b1 ok4 => ⟨_, [], rfl, ?_⟩⟩
      obtain ⟨to_, rfl⟩ := Int.eq_ofNat_of_zero_le b0
      refine ⟨0, a, _, rfl, a, ns, s4, l4, r4, _, 4, rfl, rfl, ok4, by omega, by decide, by decide, fun way s5 l5 r5 c0 c1 ok5 => ⟨_, [], rfl, ?_⟩⟩
      have ha : at_ ≤ ls.length := by rw [dl] at a1; omega
      have hto : to_ ≤ ls.length := by rw [dl] at b1; omega
      have cut2 : Pg (14 + i) (ls.take at_ ++ cutG ls (some ((at_ : Int) + 1)) none) := by
        refine ⟨?_, fun x hx => ?_⟩
        · rw [List.length_append, List.length_take, show (at_ : Int) + 1 = ((at_ + 1 : Nat) : Int) by omega, cut_from_len]
          omega
        · rcases List.mem_append.mp hx with hx | hx
          · exact hp.2 x (List.mem_of_mem_take hx)
          · exact hp.2 x (mem_cut hx)
      have ec : ∀ lo hi, cutG (dats (txts ls)) lo hi = dats (txts (cutG ls lo hi)) := fun lo hi => by
        unfold dats
        rw [cutG_map, txts_cut]
      have e1 : cutG (dats (txts ls)) none (some (at_ : Int)) = dats (txts (ls.take at_)) := by rw [ec, cutG_take]
      have cutq : cutG (dats (txts ls)) none (some (at_ : Int)) ++ cutG (dats (txts ls)) (some ((at_ : Int) + 1)) none = dats (txts (ls.take at_ ++ cutG ls (some ((at_ : Int) + 1)) none)) := by rw [e1, ec, two_app]
      have cutl : (cutG (dats (txts ls)) none (some (at_ : Int))).length + (cutG (dats (txts ls)) (some ((at_ : Int) + 1)) none).length ≤ sizeLine := by
        rw [← List.length_append, cutq, dats_len]
        have := cut2.1
        omega
      have okn : DiceOk s5 l5 r5 (N + 1 + 4 * (i + 1)) := ok5.more (by omega)
      refine ite2 (fun g => ?_) (fun g => ite2 (fun g1 => ?_) (fun g1 => ?_))
      · refine ⟨1, _, rfl, fun p1 => ⟨1, _, rfl, fun p2 => ⟨_, _, .p 2 rfl, .p 3 rfl, cutl, fun p3 => ?_⟩⟩⟩
        refine ⟨_, List.Sublist.cons₂ _ (List.drop_sublist 3 [_, _, _, _]), p3, _, s5, l5, r5, _, _, _, _, _, rfl, ?_, ⟨by have := cut2.1; omega, cut2.2⟩, okn⟩
        show [_, _] = _
        rw [cutq]
      · refine ⟨⟨1, _, rfl⟩, (by show 4 ≤ sizeLine; omega), fun p4 => ⟨2, _, _, rfl, rfl, 0, a, _, rfl, a, ns, s5, l5, r5, _, txts ["- a", "- b", "new", ""], rfl, rfl, ok5, by omega, (fun z => nomatch z), (by show 4 ≤ 1000000; decide), fun z hz s6 l6 r6 ok6 => ⟨_, [], rfl, ?_⟩⟩⟩
        obtain ⟨x, hx, rfl⟩ := List.mem_map.mp hz
        refine ⟨1, _, rfl, by rw [dl]; omega, ⟨by omega, by omega⟩, _, .refl _, pf, ls.take at_ ++ [x] ++ ls.drop at_, s6, l6, r6, _, _, _, _, _, rfl, ?_, ⟨?_, ?_⟩, ok6.more (by omega)⟩
        · unfold dats txts
          simp only [List.map_append, List.map_take, List.map_drop]
          rfl
        · simp only [List.length_append, List.length_take, List.length_drop, List.length_singleton]
          omega
        · intro y hy
          rcases List.mem_append.mp hy with hy | hy
          · rcases List.mem_append.mp hy with hy | hy
            · exact hp.2 y (List.mem_of_mem_take hy)
            · rw [List.mem_singleton.mp hy]
              exact four_ok x hx
          · exact hp.2 y (List.mem_of_mem_drop hy)
      · refine ite2 (fun g2 => ⟨1, _, rfl, ite2 (fun g3 => ?_) (fun g3 => ?_)⟩) (fun g2 => ?_)
        · have c3 : (at_ : Int) < ((dats (txts ls)).length : Int) := of_decide_eq_true g3
          rw [dl] at c3
          refine ⟨1, _, at_, rfl, ?_, _, .refl _, pf, ls.set at_ "turned", s5, l5, r5, _, _, _, _, _, rfl, ?_, ⟨by rw [List.length_set]; omega, ?_⟩, okn⟩
          · rw [dl]
            unfold ixN
            rw [if_pos (by omega), if_pos (by omega), Int.toNat_natCast]
          · unfold dats txts
            rw [List.map_set, List.map_set]
            rfl
          · intro y hy
            rcases List.mem_or_eq_of_mem_set hy with hy | rfl
            · exact hp.2 y hy
            · exact turned_ok
        all_goals
          refine ⟨1, _, rfl, fun p1 => ⟨1, _, rfl, fun p2 => ⟨1, _, rfl, fun p3 => ⟨_, _, .p 3 rfl, .p 4 rfl, cutl, fun p4 => ?_⟩⟩⟩⟩
          have e5 : cutG (dats (txts ls)) (some (at_ : Int)) (some ((at_ : Int) + 1)) = dats (txts (cutG ls (some (at_ : Int)) (some ((at_ : Int) + 1)))) := ec _ _
          have l5' := cut_one_len ls at_
          have l6 := cut2.1
          generalize ls.take at_ ++ cutG ls (some ((at_ : Int) + 1)) none = L1 at cut2 cutq l6
          have hg : ∀ x ∈ cutG ls (some (at_ : Int)) (some ((at_ : Int) + 1)), x.length ≤ 10 ∧ ∀ c ∈ x.cps.toList, c < 128 := fun x hx => hp.2 x (mem_cut hx)
          generalize cutG ls (some (at_ : Int)) (some ((at_ : Int) + 1)) = g at e5 l5' hg
          refine ⟨5, 2, to_, _, _, rfl, rfl, by decide, rfl, rfl, ?_, _, List.Sublist.cons₂ _ (List.drop_sublist 4 [_, _, _, _, _]), p4, L1.take to_ ++ g ++ L1.drop to_, s5, l5, r5, _, _, _, _, _, rfl, ?_, ⟨?_, ?_⟩, okn⟩
          · rw [cutq, e5, dats_len, dats_len]
            omega
          · show [_, _] = _
            rw [cutq, e5]
            unfold dats txts
            simp only [List.map_append, List.map_take, List.map_drop]
          · simp only [List.length_append, List.length_take, List.length_drop]
            omega
          · intro y hy
            rcases List.mem_append.mp hy with hy | hy
            · rcases List.mem_append.mp hy with hy | hy
              · exact cut2.2 y (List.mem_of_mem_take hy)
              · exact hg y hy
            · exact cut2.2 y (List.mem_of_mem_drop hy)
    · rintro ρ μ ⟨pf, ls, s, l, r, y3, y4, y5, y6, y7, rfl, rfl, hp, ok2⟩
      rw [rangeZ_len] at hp ok2
      have hp20 : Pg 20 ls := ⟨by have := hp.1; omega, hp.2⟩
      refine ⟨_, _, weak_fz 2 1 rfl rfl (datOf_dats _), ?_⟩
      refine ⟨0, a, _, rfl, a, ns, s, l, r, _, rfl, rfl, ok2, by omega, fun p2 ls2 s3 l3 r3 h2 h2l ok3 => ⟨_, _, rfl, ⟨1, _, _, rfl, datOf_dats _, fun p3 => ⟨1, _, _, rfl, datOf_map _, ?_⟩⟩⟩⟩
      refine ⟨Nat.zero_le _, fun p4 => ⟨1, _, _, rfl, rfl, (by show 5 ≤ sizeLine; omega), fun p5 => ⟨1, _, _, rfl, rfl, ?_⟩⟩⟩
      refine ⟨0, a, _, rfl, a, ns, s3, l3, r3, _, [.list (txts ls), .list (txts ls), .list (txts ls2), .list (txts old), .list (txts [])], rfl, rfl, ok3, by omega, (fun z => nomatch z), (by show 5 ≤ 1000000; decide), fun z hz s4 l4 r4 ok4 => ⟨_, [], rfl, _, .refl _, ?_⟩⟩
      have fin : ∀ g, Pg 20 g → z = .list (txts g) → Q (.dat z) [(a, diceN ns s4 l4 r4)] := fun g hg e => by
        rw [e]
        exact q g s4 l4 r4 hg (ok4.more (by omega))
      simp only [List.mem_cons, List.not_mem_nil, or_false] at hz
      rcases hz with rfl | rfl | rfl | rfl | rfl
      · exact fin ls hp20 rfl
      · exact fin ls hp20 rfl
      · exact fin ls2 ⟨by omega, h2.2⟩ rfl
      · exact fin old ⟨by have := hpo.1; omega, hpo.2⟩ rfl
      · exact fin [] ⟨Nat.zero_le _, fun x h => by cases h⟩ rfl
end
end Kr
namespace Kr
open PySem PySem.Spec PyProof.Rows L2 Lf Zl SX
theorem due_last (old new : List Str) : ∀ m, atI (dats (rowD (tabR old new 0) :: tabT old new m)) (-1) = some (.dat (rowD (tabR old new m)))
  | 0 => rfl
  | m + 1 => by
    rw [tabT_succ, ← List.cons_append]
    unfold dats
    rw [List.map_append]
    exact atI_last _ _
theorem row_end (old new : List Str) (i : Nat) : atI ((tabR old new i).map PyData.int) (-1) = some (.int (tabL old new i new.length)) := by
  have hl := tabR_len old new i
  have h1 : tabR old new i = (tabR old new i).take (new.length + 1) := by rw [List.take_of_length_le (by omega)]
  have h2 : (tabR old new i)[new.length]? = some (tabL old new i new.length) := by
    unfold tabL
    rw [List.getD, List.getElem?_eq_getElem (by omega)]
    rfl
  rw [List.take_succ, h2] at h1
  rw [h1, List.map_append]
  exact atI_last _ _
abbrev dueD (old new : List Str) : List PyData := rowD (tabR old new 0) :: tabT old new old.length
theorem lyn_row (l : List Int) : Lyn 1 (rowD l) := lyn_list fun d hd => by
  obtain ⟨i, _, rfl⟩ := List.mem_map.mp hd
  exact lyn_int i
theorem lyn_due (old new : List Str) : Lyn 2 (.list (dueD old new)) := lyn_list fun d hd => by
  rcases List.mem_cons.mp hd with rfl | hd
  · exact lyn_row _
  · unfold tabT at hd
    obtain ⟨k, _, rfl⟩ := List.mem_map.mp hd
    exact lyn_row _
theorem patF_nil {ops : List Op} {k : Nat} (h : PatF [] [] ops k) : ops = [] := by
  cases ops with
  | nil => rfl
  | cons o r =>
    exfalso
    have e := h.run
    have hok := h.ok o (List.mem_cons_self ..)
    have h2 := run_le [] r (Op.st [] (0, [], 0) o)
    have e2 : rn [] (Op.st [] (0, [], 0) o) r = (0, [], k) := e
    rw [e2] at h2
    cases o with
    | keep n =>
      have hok : 0 < n := hok
      have : 0 + n ≤ 0 := h2.1
      omega
    | cut n =>
      have hok : 0 < n := hok
      have : 0 + n ≤ 0 := h2.1
      omega
    | put ls =>
      have hok : ls ≠ [] := hok.1
      have : ls.length ≤ 0 := h2.2.1
      exact hok (List.length_eq_zero_iff.mp (by omega))
section
variable {P : Program} {w : World} {K : PySem.W.Frag} {mg : Str → Option Value} {base : Heap}
def fRight : DSp := fun xs μ Q => ∃ (old new : List Str), xs = [.dat (.list (txts old)), .dat (.list (txts new))] ∧ μ = [] ∧ Pg 20 old ∧ Pg 20 new ∧ Q (.dat (.bool true)) []
abbrev sRight : Stmt := topS 26
theorem scRight : FnScope ["_law_old", "_law_new", "_law_handed", "_law_due", "_law_told", "_law_line", "_law_rows", "_law_led_to", "_law_one"] ["_law_old", "_law_new"] (defScope sRight) := ⟨rfl, rfl, rfl, by decide +kernel, rfl, by decide +kernel, by decide +kernel⟩
theorem ok_right {f : Addr} {fd : FuncData} (F : Fun K "_law_right" "_law_right" sRight f fd) (T : Bs mg) (c__law_table : CalZ P w K mg base 1 "_law_table" ["_law_old", "_law_new"] fLTable) (c_table : CalZ P w K mg base 2 "table" ["old", "new"] fTable) (c_is_table : CalZ P w K mg base 5 "is_table" ["old", "new", "thing"] fIsTable) (c__law_whole : CalZ P w K mg base 1 "_law_whole" ["_law_thing"] fWhole) (c_patch : CalZ P w K mg base 4 "patch" ["old", "new"] fPatch) (c__law_form : CalZ P w K mg base 2 "_law_form" ["_law_rows"] fForm) (c__law_led : CalZ P w K mg base 1 "_law_led" ["_law_old", "_law_rows"] fLed) (c_is_patch : CalZ P w K mg base 4 "is_patch" ["old", "new", "thing"] fIsPatch) (c_put_on : CalZ P w K mg base 1 "put_on" ["lines", "patch"] fPutOn) : FnOk P w K mg base CX0 6 f fd ["_law_old", "_law_new"] (spZ w K fRight) := by
  refine Fun.okZ F scRight (fun xs μ Q h => ?_) (fun cdv A outer s H E hr => ?_)
  · obtain ⟨old, new, rfl, _⟩ := h
    rfl
  · have nd := scRight.nd
    refine ⟨_, (dss_cons (ds_set (i := 2) nd rfl (Or.inl rfl) (d_lst (da_cons (d_fz (d_callTy ca_list (by rfl) T.list (by decide +kernel) (da_cons (dv 0) da_nil))) (da_cons (d_fz (d_callTy ca_list (by rfl) T.list (by decide +kernel) (da_cons (dv 1) da_nil))) da_nil))))
  (dss_cons (ds_set (i := 3) nd rfl (Or.inl rfl) (d_own0 c__law_table (hr.mono (by omega)) (by rfl) (da_cons (dv 0) (da_cons (dv 1) da_nil))))
  (dss_cons (ds_set (i := 4) nd rfl (Or.inl rfl) (d_own0 c_table (hr.mono (by omega)) (by rfl) (da_cons (d_ix (dv 2) d_int (fun _ _ => rfl)) (da_cons (d_ix (dv 2) d_int (fun _ _ => rfl)) da_nil))))
  (dss_cut (ds_if (DW.dt (dw_or (dt_cmp (oz_neV hr.units) (dv 4) (dv 3) (nomark _)) (dw_or1 (dt_cmp oz_notB (d_ownLN c_is_table (hr.mono (by omega)) (by rfl) (da_cons (d_ix (dv 2) d_int (fun _ _ => rfl)) (da_cons (d_ix (dv 2) d_int (fun _ _ => rfl)) (da_cons (dv 4) da_nil)))) d_bl (nomark _)))))
  (dss_one (ds_ret d_bl))
  dss_nil)
  (dss_cut (ds_for PassesOwn.never rfl (di_seq (dv 4)) (dg_name (i := 5) nd rfl (Or.inl rfl))
  (dss_one (ds_if (DW.dt (dw_or (dt_not (dt_truth (d_isi (T := "list") (by rfl) T.isinstance (by rfl) T.list (by decide +kernel) (dv 5)))) (dw_or1 (dt_cmp (oz_ne hr.units) (d_lc (own := [("_law_one", 8)]) rfl nd (di_seq (dv 5)) (blkOk_by (own := [("_law_one", 8)]) (N := ["_law_old", "_law_new", "_law_handed", "_law_due", "_law_told", "_law_line", "_law_rows", "_law_led_to", "_law_one"]) (sc := defScope (topS 26)) (by decide +kernel)) (put_name (i := 8) (by decide)) (fun _ _ _ _ _ => (pg_name (i := 8) nd rfl (Or.inl rfl))) (fun _ _ _ _ _ => (dts_one (dt_not (dt_truth (d_own0 c__law_whole (hr.mono (by omega)) (by rfl) (da_cons (dv 8) da_nil)))))) (fun _ _ _ _ _ => (dv 8))) (d_lst da_nil) (nomark _)))))
  (dss_one (ds_ret d_bl))
  dss_nil)))
  (dss_cons (ds_set (i := 6) nd rfl (Or.inl rfl) (d_own0 c_patch (hr.mono (by omega)) (by rfl) (da_cons (d_ix (dv 2) d_int (fun _ _ => rfl)) (da_cons (d_ix (dv 2) d_int (fun _ _ => rfl)) da_nil))))
  (dss_cut (ds_if (DW.dt (dw_or (dt_not (dt_truth (d_ownL c__law_form (hr.mono (by omega)) (by rfl) (da_cons (dv 6) da_nil)))) (dw_or1 (dt_cmp (oz_neV hr.units) (d_ownL c__law_led (hr.mono (by omega)) (by rfl) (da_cons (dv 0) (da_cons (dv 6) da_nil))) (d_tup (da_cons (d_fz (d_callTy ca_list (by rfl) T.list (by decide +kernel) (da_cons (dv 1) da_nil))) (da_cons (d_ix (d_ix (dv 3) (d_neg d_int) (fun _ _ => rfl)) (d_neg d_int) (fun _ _ => rfl)) da_nil))) (nomark _)))))
  (dss_one (ds_ret d_bl))
  dss_nil)
  (dss_cut (ds_weak (ds_if (dt_cmp oz_notB (d_ownL c_is_patch (hr.mono (by omega)) (by rfl) (da_cons (d_ix (dv 2) d_int (fun _ _ => rfl)) (da_cons (d_ix (dv 2) d_int (fun _ _ => rfl)) (da_cons (dv 6) da_nil)))) d_bl (nomark _))
  (dss_one (ds_ret d_bl))
  dss_nil))
  (dss_cons (ds_weak (ds_set (i := 7) nd rfl (Or.inl rfl) (d_ownL c_put_on (hr.mono (by omega)) (by rfl) (da_cons (d_ix (dv 2) d_int (fun _ _ => rfl)) (da_cons (dv 6) da_nil)))))
  (dss_cut (ds_if (DW.dt (dw_or (dt_not (dt_truth (d_isi (T := "list") (by rfl) T.isinstance (by rfl) T.list (by decide +kernel) (dv 7)))) (dw_or1 (dt_cmp (oz_ne hr.units) (dv 7) (d_fz (d_callTy ca_list (by rfl) T.list (by decide +kernel) (da_cons (dv 1) da_nil))) (nomark _)))))
  (dss_one (ds_ret d_bl))
  dss_nil)
  (dss_cons (ds_weak (ds_expr (d_lm PySem.F.slot_list_append PySem.F.type_list_append me_append (dv 7) (da_cons d_str da_nil))))
  (dss_cons (ds_expr (d_lm PySem.F.slot_list_append PySem.F.type_list_append me_append (dv 6) (da_cons (d_tup (da_cons d_str (da_cons d_int da_nil))) da_nil)))
  (dss_cons (ds_expr (d_lm PySem.F.slot_list_append PySem.F.type_list_append me_append (d_ix (dv 4) d_int (fun _ _ => rfl)) (da_cons d_int da_nil)))
  (dss_cons (ds_if (dt_cmp (oz_ne hr.units) (d_slice (dv 4) (do_some d_int) do_none) (d_slice (dv 3) (do_some d_int) do_none) (nomark _))
  (dss_one (ds_ret d_bl))
  dss_nil)
  (dss_cons (ds_expr (d_lm PySem.F.slot_list_append PySem.F.type_list_append me_append (dv 4) (da_cons (d_lst da_nil) da_nil)))
  (dss_one (ds_ret (d_and (d_cmp (oz_eq hr.units) (dv 2) (d_lst (da_cons (dv 0) (da_cons (dv 1) da_nil))) (nomark _)) (d_one (d_cmp (oz_eq hr.units) (d_ownL c_put_on (hr.mono (by omega)) (by rfl) (da_cons (dv 0) (da_cons (d_own0 c_patch (hr.mono (by omega)) (by rfl) (da_cons (dv 0) (da_cons (dv 1) da_nil))) da_nil))) (dv 1) (nomark _))))))))))))))))))))), ?_⟩
    rintro xs μ Q ⟨old, new, rfl, rfl, hpo, hpn, q⟩
    have ez : sizeLine = 16777216 := by decide +kernel
    have ho : old.length ≤ 40 := Nat.le_trans hpo.1 (by decide)
    have hn : new.length ≤ 40 := Nat.le_trans hpn.1 (by decide)
    have hx : ∀ x ∈ new, ∀ c ∈ x.cps.toList, c < 128 := fun x h => (hpn.2 x h).2
    have lyo := lyn_txts (hpo.ls (by decide))
    have lyw := lyn_txts (hpn.ls (by decide))
    have lyd := lyn_due old new
    refine fun p1 => ⟨0, _, _, rfl, datOf_map _, fun p2 => ⟨0, _, _, rfl, datOf_map _, (by show 2 ≤ sizeLine; omega), fun ph => ?_⟩⟩
    refine ⟨old, new, rfl, rfl, ho, hn, fun pd => ?_⟩
    refine ⟨0, _, _, rfl, rfl, 0, _, _, rfl, rfl, old, new, rfl, rfl, ho, hn, fun p0 pt => ?_⟩
    refine ⟨fun ρ μ => ∃ y5 y6 y7 y8 : Option Val, ρ = [some (.dat (.list (txts old))), some (.dat (.list (txts new))), some (.ptr ph), some (.ptr pd), some (.ptr pt), y5, y6, y7, y8] ∧ μ = [(ph, .lst [.dat (.list (txts old)), .dat (.list (txts new))]), (pd, .lst (dats (dueD old new))), (p0, .lst (dats ((tabR old new 0).map .int))), (pt, .lst (.ptr p0 :: dats (tabT old new old.length)))], ?_, ?_⟩
    · refine ⟨_, _, .lst 3 rfl (.cons (.lst 2 rfl (DViews.dats _)) (DViews.dats _)), .lst 1 rfl (DViews.dats _), lyd.shaped (by decide), lyd.shaped (by decide), ?_⟩
      rw [show PyData.eqv (.list (PyData.list ((tabR old new 0).map .int) :: tabT old new old.length)) (.list (dueD old new)) = true from lyd.same]
      refine ⟨0, _, _, rfl, rfl, 0, _, _, rfl, rfl, _, .cons (.keep _) (.cons (.keep _) (.cons (.n (.lst 3 rfl (.cons (.lst 2 rfl (DViews.dats _)) (DViews.dats _)))) .nil)), old, new, rfl, rfl, ho, hn, ⟨rfl, fun p hp => by cases hp⟩, ?_⟩
      exact ⟨_, _, _, _, rfl, rfl⟩
    rintro ρ μ ⟨y5, y6, y7, y8, rfl, rfl⟩
    refine ⟨fun ρ μ => ∃ y5 y6 y7 y8 : Option Val, ρ = [some (.dat (.list (txts old))), some (.dat (.list (txts new))), some (.ptr ph), some (.ptr pd), some (.ptr pt), y5, y6, y7, y8] ∧ μ = [(ph, .lst [.dat (.list (txts old)), .dat (.list (txts new))]), (pd, .lst (dats (dueD old new))), (p0, .lst (dats ((tabR old new 0).map .int))), (pt, .lst (.ptr p0 :: dats (tabT old new old.length)))], ?_, ?_⟩
    · refine ⟨3, _, rfl, fun i ρ μ => ∃ y5 y6 y7 y8 : Option Val, ρ = [some (.dat (.list (txts old))), some (.dat (.list (txts new))), some (.ptr ph), some (.ptr pd), some (.ptr pt), y5, y6, y7, y8] ∧ μ = [(ph, .lst [.dat (.list (txts old)), .dat (.list (txts new))]), (pd, .lst (dats (dueD old new))), (p0, .lst (dats ((tabR old new 0).map .int))), (pt, .lst (.ptr p0 :: dats (tabT old new old.length)))], ⟨_, _, _, _, rfl, rfl⟩, ?_, ?_, ?_⟩
      · rintro i ρ μ hi ⟨y5, y6, y7, y8, rfl, rfl⟩
        exact ⟨3, rfl⟩
      · rintro i y ρ μ hy ⟨y5, y6, y7, y8, rfl, rfl⟩
        cases i with
        | zero =>
          cases hy
          refine ⟨_, true, .lst 2 rfl, kk.2.2.2.2.2.2, ?_⟩
          refine ⟨2, _, rfl, fun j acc μ => μ = [(ph, .lst [.dat (.list (txts old)), .dat (.list (txts new))]), (pd, .lst (dats (dueD old new))), (p0, .lst (dats ((tabR old new 0).map .int))), (pt, .lst (.ptr p0 :: dats (tabT old new old.length)))] ∧ acc = [], ⟨rfl, rfl⟩, fun _ _ _ _ h => ⟨2, by rw [h.1]; rfl⟩, ?_, ?_⟩
          · rintro j y acc μ hy ⟨rfl, rfl⟩
            unfold dats at hy
            rw [List.getElem?_map, List.getElem?_map] at hy
            obtain ⟨d, hd, rfl⟩ := Option.map_eq_some_iff.mp hy
            obtain ⟨m, hm, rfl⟩ := Option.map_eq_some_iff.mp hd
            exact ⟨_, rfl, m, rfl, rfl, _, .refl _, rfl, rfl⟩
          · rintro acc μ ⟨rfl, rfl⟩ p
            refine ⟨Nat.zero_le _, fun p2 => ⟨_, _, .p 4 rfl rfl, .p 5 rfl rfl, rfl, rfl, ?_⟩⟩
            exact ⟨_, List.sublist_append_left [_, _, _, _] [_, _], _, _, _, _, rfl, rfl⟩
        | succ i =>
          have hy2 : ∃ l : List Int, y = .dat (rowD l) := by
            have hy : (dats (tabT old new old.length))[i]? = some y := hy
            unfold dats tabT at hy
            rw [List.getElem?_map, List.getElem?_map] at hy
            obtain ⟨d, hd, rfl⟩ := Option.map_eq_some_iff.mp hy
            obtain ⟨m, hm, rfl⟩ := Option.map_eq_some_iff.mp hd
            exact ⟨_, rfl⟩
          obtain ⟨l, rfl⟩ := hy2
          refine ⟨_, true, .dat _, kk.2.2.2.2.2.2, ?_⟩
          refine ⟨fun j acc μ => μ = [(ph, .lst [.dat (.list (txts old)), .dat (.list (txts new))]), (pd, .lst (dats (dueD old new))), (p0, .lst (dats ((tabR old new 0).map .int))), (pt, .lst (.ptr p0 :: dats (tabT old new old.length)))] ∧ acc = [], ⟨rfl, rfl⟩, fun _ _ _ _ h => trivial, ?_, ?_⟩
          · rintro j y acc μ hy ⟨rfl, rfl⟩
            rw [List.getElem?_map, List.getElem?_map] at hy
            obtain ⟨d, hd, rfl⟩ := Option.map_eq_some_iff.mp hy
            obtain ⟨m, hm, rfl⟩ := Option.map_eq_some_iff.mp hd
            exact ⟨_, rfl, m, rfl, rfl, _, .refl _, rfl, rfl⟩
          · rintro acc μ ⟨rfl, rfl⟩ p
            refine ⟨Nat.zero_le _, fun p2 => ⟨_, _, .p 4 rfl rfl, .p 5 rfl rfl, rfl, rfl, ?_⟩⟩
            exact ⟨_, List.sublist_append_left [_, _, _, _] [_, _], _, _, _, _, rfl, rfl⟩
      · exact fun ρ μ h => h
    rintro ρ μ ⟨y5, y6, y7, y8, rfl, rfl⟩
    refine ⟨0, _, _, rfl, rfl, 0, _, _, rfl, rfl, old, new, rfl, rfl, ho, hn, hx, fun pr ops k pf hk => ?_⟩
    have fl : ∀ (z : Addr), ∀ e ∈ [(z, Node.lst (dats (txts new)))], flatN e.2 := fun z e he => by
      rw [List.mem_singleton.mp he]
      intro u hz
      obtain ⟨d, hd, rfl⟩ := List.mem_map.mp hz
      obtain ⟨x, _, rfl⟩ := List.mem_map.mp hd
      rfl
    have lyt : Lyn 2 (.tuple [.list (txts new), .int k]) := lyn_tup fun d hd => by
      simp only [List.mem_cons, List.not_mem_nil, or_false] at hd
      rcases hd with rfl | rfl
      · exact lyw
      · exact (lyn_int _).up (by decide)
    refine ⟨fun ρ μ => ∃ (J : Store) (y5 y7 y8 : Option Val), ρ = [some (.dat (.list (txts old))), some (.dat (.list (txts new))), some (.ptr ph), some (.ptr pd), some (.ptr pt), y5, some (.ptr pr), y7, y8] ∧ μ = (ph, .lst [.dat (.list (txts old)), .dat (.list (txts new))]) :: (pd, .lst (dats (dueD old new))) :: (p0, .lst (dats ((tabR old new 0).map .int))) :: (pt, .lst (.ptr p0 :: dats (tabT old new old.length))) :: (pr, .lst (dats (ops.map Op.dat))) :: J, ?_, ?_⟩
    · refine ⟨_, .cons (.p 4 rfl (datOf_dats _)) .nil, ops, rfl, rfl, pf.ok, pf.alt, pf.len, ⟨rfl, fun p hp => by cases hp⟩, ?_⟩
      refine ⟨_, .cons (.keep _) (.cons (.p 4 rfl (datOf_dats _)) .nil), old, new, ops, k, rfl, rfl, ho, hn, pf, fun pl => ⟨⟨?_, ?_⟩, ?_⟩⟩
      · intro d hd
        simp only [List.mem_cons, List.not_mem_nil, or_false, Sum.inl.injEq, reduceCtorEq, false_or] at hd
        rw [hd]
        rfl
      · exact fl pl
      · refine fun p9 => ⟨6, _, _, rfl, datOf_map _, 1, _, _, rfl, due_last old new _, _, row_end old new _, (by show 2 ≤ sizeLine; omega), ?_⟩
        rw [← hk]
        refine ⟨_, _, .tpl (.cons (.lst 5 rfl (DViews.dats _)) (.cons (.dat _) .nil)), .dat _, lyt.shaped (by decide), lyt.shaped (by decide), ?_⟩
        rw [lyt.same]
        exact ⟨_, _, _, _, rfl, rfl⟩
    rintro ρ μ ⟨J, y5, y7, y8, rfl, rfl⟩
    refine ⟨fun ρ μ => ∃ (y5 y7 y8 : Option Val), ρ = [some (.dat (.list (txts old))), some (.dat (.list (txts new))), some (.ptr ph), some (.ptr pd), some (.ptr pt), y5, some (.ptr pr), y7, y8] ∧ μ = [(ph, .lst [.dat (.list (txts old)), .dat (.list (txts new))]), (pd, .lst (dats (dueD old new))), (p0, .lst (dats ((tabR old new 0).map .int))), (pt, .lst (.ptr p0 :: dats (tabT old new old.length))), (pr, .lst (dats (ops.map Op.dat)))], ?_, ?_⟩
    · refine ⟨_, _, weak_sub (List.sublist_append_left [_, _, _, _, _] J), ?_⟩
      refine ⟨0, _, _, rfl, rfl, 0, _, _, rfl, rfl, _, .cons (.keep _) (.cons (.keep _) (.cons (.p 4 rfl (datOf_dats _)) .nil)), old, new, ops, k, rfl, rfl, hpn.ls (by decide), ho, hn, pf, hk, ⟨rfl, fun p hp => by cases hp⟩, ?_⟩
      exact ⟨_, _, _, rfl, rfl⟩
    rintro ρ μ ⟨y5, y7, y8, rfl, rfl⟩
    refine ⟨_, _, weak_sub (.refl _), 0, _, _, rfl, rfl, _, .cons (.keep _) (.cons (.p 4 rfl (datOf_dats _)) .nil), old, new, ops, k, rfl, rfl, ho, hn, pf, fun pu => ⟨⟨trivial, ?_⟩, ?_⟩⟩
    · exact fl _
    refine ⟨fun ρ μ => ∃ (J : Store) (y5 y8 : Option Val), ρ = [some (.dat (.list (txts old))), some (.dat (.list (txts new))), some (.ptr ph), some (.ptr pd), some (.ptr pt), y5, some (.ptr pr), some (.ptr pu), y8] ∧ μ = (ph, .lst [.dat (.list (txts old)), .dat (.list (txts new))]) :: (pd, .lst (dats (dueD old new))) :: (p0, .lst (dats ((tabR old new 0).map .int))) :: (pt, .lst (.ptr p0 :: dats (tabT old new old.length))) :: (pr, .lst (dats (ops.map Op.dat))) :: (pu, .lst (dats (txts new))) :: J, ?_, ?_⟩
    · refine ⟨_, true, .lst 5 rfl, kk.2.2.2.2.2.2, fun p9 => ⟨6, _, _, rfl, datOf_map _, _, _, .p 5 rfl (datOf_dats _), .d _, lyw.shaped (by decide), lyw.shaped (by decide), ?_⟩⟩
      rw [lyw.same]
      exact ⟨_, _, _, rfl, rfl⟩
    rintro ρ μ ⟨J, y5, y8, rfl, rfl⟩
    refine ⟨_, _, weak_sub (List.sublist_append_left [_, _, _, _, _, _] J), ?_⟩
    have l1 : (dats (txts new)).length < sizeLine := by
      rw [dats_len]
      omega
    have l2 : (dats (ops.map Op.dat)).length < sizeLine := by
      have := pf.len
      unfold dats
      rw [List.length_map, List.length_map]
      omega
    have l3 : (dats ((tabR old new 0).map .int)).length < sizeLine := by
      have := tabR_len old new 0
      unfold dats
      rw [List.length_map, List.length_map]
      omega
    have l4 : (Val.ptr p0 :: dats (tabT old new old.length)).length < sizeLine := by
      unfold dats
      rw [List.length_cons, List.length_map, tabT_len]
      omega
    refine ⟨⟨5, _, rfl⟩, 5, _, rfl, l1, ?_⟩
    refine ⟨⟨4, _, rfl⟩, (by show 2 ≤ sizeLine; omega), 4, _, rfl, l2, ?_⟩
    refine ⟨3, _, .ptr p0, rfl, atI_nat (j := 0) rfl, ⟨2, _, rfl⟩, 2, _, rfl, l3, ?_⟩
    have lyt2 : Lyn 2 (.list (tabT old new old.length)) := lyn_list fun d hd => by
      unfold tabT at hd
      obtain ⟨k, _, rfl⟩ := List.mem_map.mp hd
      exact lyn_row _
    have lyh : Lyn 2 (.list [.list (txts old), .list (txts new)]) := lyn_list fun d hd => by
      simp only [List.mem_cons, List.not_mem_nil, or_false] at hd
      rcases hd with rfl | rfl
      · exact lyo
      · exact lyw
    refine ⟨3, _, rfl, fun ps => ⟨1, _, rfl, fun pv => ⟨_, _, .p 6 rfl (by rw [cut_tail]; exact datOf_dats _), .p 7 rfl (by rw [cut_tail]; exact datOf_dats _), lyt2.shaped (by decide), lyt2.shaped (by decide), ?_⟩⟩⟩
    rw [lyt2.same]
    refine ⟨⟨3, _, rfl⟩, Nat.zero_le _, fun pe => ⟨3, _, rfl, l4, ?_⟩⟩
    refine ⟨(by show 2 ≤ sizeLine; omega), fun pz => ⟨_, _, .p 0 rfl rfl, .p 9 rfl rfl, lyh.shaped (by decide), lyh.shaped (by decide), ?_⟩⟩
    rw [lyh.same]
    refine ⟨old, new, rfl, rfl, ho, hn, hx, fun pq ops2 k2 pf2 hk2 => ⟨_, .cons (.keep _) (.cons (.p 10 rfl (datOf_dats _)) .nil), old, new, ops2, k2, rfl, rfl, ho, hn, pf2, fun pw => ⟨⟨trivial, ?_⟩, _, _, .p 11 rfl (datOf_dats _), .d _, lyw.shaped (by decide), lyw.shaped (by decide), ?_⟩⟩⟩
    · exact fl _
    · rw [lyw.same]
      exact ⟨[], List.nil_sublist _, q⟩
def fLaw : DSp := fun xs μ Q => ∃ ns, xs = [.scr ns] ∧ μ = [] ∧ Q (.dat (.bool true)) []
abbrev sLaw : Stmt := topS 27
theorem scLaw : FnScope ["_law_script", "_law_dice", "_law_turn", "_law_old", "_law_new"] ["_law_script"] (defScope sLaw) := ⟨rfl, rfl, rfl, by decide +kernel, rfl, by decide +kernel, by decide +kernel⟩
set_option maxHeartbeats 1000000 in
theorem run_law {f : Addr} {fd : FuncData} (F : Fun K "law" "law" sLaw f fd) (T : Bs mg) (c_table : CalZ P w K mg base 2 "table" ["old", "new"] fTable) (c_patch : CalZ P w K mg base 4 "patch" ["old", "new"] fPatch) (c_put_on : CalZ P w K mg base 1 "put_on" ["lines", "patch"] fPutOn) (c__law_lines_drawn : CalZ P w K mg base 3 "_law_lines_drawn" ["_law_dice"] fDrawn) (c__law_other : CalZ P w K mg base 4 "_law_other" ["_law_dice", "_law_old"] fOther) (c__law_right : CalZ P w K mg base 6 "_law_right" ["_law_old", "_law_new"] fRight) : Gd.RunAt callerA P w K mg base f fd ["_law_script"] (spZ w K fLaw) := by
  refine runZ (k := 7) F scLaw ⟨rfl, by decide, by decide⟩ (fun xs μ Q h => ?_) (fun cdv outer s H E hr => ?_)
  · obtain ⟨ns, rfl, _⟩ := h
    rfl
  · have nd := scLaw.nd
    refine ⟨_, (dss_cons (ds_if (DW.dt (dw_or (dt_cmp (oz_neV hr.units) (d_own0 c_table (hr.mono (by omega)) (by rfl) (da_cons (d_fz (d_lst da_nil)) (da_cons (d_fz (d_lst da_nil)) da_nil))) (d_lst (da_cons (d_lst (da_cons d_int da_nil)) da_nil)) (nomark _)) (dw_or (dt_cmp (oz_ne hr.units) (d_own0 c_patch (hr.mono (by omega)) (by rfl) (da_cons (d_fz (d_lst da_nil)) (da_cons (d_fz (d_lst da_nil)) da_nil))) (d_fz (d_lst da_nil)) (nomark _)) (dw_or1 (dt_cmp (oz_ne hr.units) (d_ownL c_put_on (hr.mono (by omega)) (by rfl) (da_cons (d_fz (d_lst da_nil)) (da_cons (d_fz (d_lst da_nil)) da_nil))) (d_fz (d_lst da_nil)) (nomark _))))))
  (dss_one (ds_ret d_bl))
  dss_nil)
  (dss_cons (ds_set (i := 1) nd rfl (Or.inl rfl) (d_lst (da_cons (d_fz (d_callTy ca_list (by rfl) T.list (by decide +kernel) (da_cons (d_slice (dv 0) do_none (do_some d_int)) da_nil))) (da_cons d_int (da_cons d_int (da_cons d_int da_nil))))))
  (dss_cons (ds_weak (ds_for PassesOwn.never rfl (di_range1 (by rfl) T.range (da_cons d_int da_nil)) (dg_name (i := 2) nd rfl (Or.inl rfl))
  (dss_cons (ds_set (i := 3) nd rfl (Or.inl rfl) (d_fz (d_own1 c__law_lines_drawn (hr.mono (by omega)) (by rfl) (da_cons (dv 1) da_nil))))
  (dss_cons (ds_set (i := 4) nd rfl (Or.inl rfl) (d_own1 c__law_other (hr.mono (by omega)) (by rfl) (da_cons (dv 1) (da_cons (dv 3) da_nil))))
  (dss_one (ds_if (DW.dt (dw_or (dt_not (dt_truth (d_own0 c__law_right (hr.mono (by omega)) (by rfl) (da_cons (dv 3) (da_cons (dv 4) da_nil))))) (dw_or (dt_not (dt_truth (d_own0 c__law_right (hr.mono (by omega)) (by rfl) (da_cons (dv 4) (da_cons (dv 3) da_nil))))) (dw_or1 (dt_not (dt_truth (d_own0 c__law_right (hr.mono (by omega)) (by rfl) (da_cons (dv 3) (da_cons (d_fz (d_callTy ca_list (by rfl) T.list (by decide +kernel) (da_cons (dv 3) da_nil))) da_nil)))))))))
  (dss_one (ds_ret d_bl))
  dss_nil))))))
  (dss_one (ds_ret d_bl))))), ?_⟩
    rintro xs μ Q ⟨ns, rfl, rfl, q⟩
    have ez : sizeLine = 16777216 := by decide +kernel
    have ed : ∀ l : List Int, datOf (l.map fun n => Val.dat (.int n)) = some (l.map .int) := fun l => by
      rw [← datOf_map (l.map .int), List.map_map]
      rfl
    have s1 : SeqAt.shaped (.list [.list [.int 0]]) = true := by decide +kernel
    have v1 : PyData.eqv (.list [.list [.int 0]]) (.list [.list [.int 0]]) = true := by decide +kernel
    refine ⟨Nat.zero_le _, fun a1 => ⟨0, _, _, rfl, rfl, Nat.zero_le _, fun a2 => ⟨0, _, _, rfl, rfl, [], [], rfl, rfl, Nat.zero_le _, Nat.zero_le _, fun q0 q1 => ?_⟩⟩⟩
    dsimp only [List.cons_append, List.nil_append, List.eraseIdx_cons_succ, List.eraseIdx_cons_zero]
    refine ⟨(by show 1 ≤ sizeLine; omega), fun a3 => ⟨(by show 1 ≤ sizeLine; omega), fun a4 => ?_⟩⟩
    dsimp only [List.cons_append, List.nil_append, List.eraseIdx_cons_succ, List.eraseIdx_cons_zero]
    refine ⟨.list [.list [.int 0]], .list [.list [.int 0]], .lst 1 rfl (.cons (.lst 0 rfl (.cons (.dat _) .nil)) .nil), .lst 3 rfl (.cons (.lst 2 rfl (.cons (.dat _) .nil)) .nil), s1, s1, ?_⟩
    rw [v1]
    refine ⟨Nat.zero_le _, fun a5 => ⟨4, _, _, rfl, rfl, Nat.zero_le _, fun a6 => ⟨4, _, _, rfl, rfl, ?_⟩⟩⟩
    dsimp only [List.cons_append, List.nil_append, List.eraseIdx_cons_succ, List.eraseIdx_cons_zero]
    refine ⟨[], [], rfl, rfl, Nat.zero_le _, Nat.zero_le _, (fun x h => by cases h), fun a7 ops k pf _ => ?_⟩
    have e := patF_nil pf
    subst e
    dsimp only [List.cons_append, List.nil_append, List.eraseIdx_cons_succ, List.eraseIdx_cons_zero]
    refine ⟨Nat.zero_le _, fun a8 => ⟨5, _, _, rfl, rfl, ?_⟩⟩
    dsimp only [List.cons_append, List.nil_append, List.eraseIdx_cons_succ, List.eraseIdx_cons_zero]
    refine ⟨_, _, .p 4 rfl rfl, .d _, rfl, rfl, ?_⟩
    refine ⟨Nat.zero_le _, fun a9 => ⟨5, _, _, rfl, rfl, Nat.zero_le _, fun a10 => ⟨5, _, _, rfl, rfl, ?_⟩⟩⟩
    dsimp only [List.cons_append, List.nil_append, List.eraseIdx_cons_succ, List.eraseIdx_cons_zero]
    refine ⟨_, .cons (.keep _) (.cons (.keep _) .nil), [], [], [], k, rfl, rfl, Nat.zero_le _, Nat.zero_le _, pf, fun a11 => ⟨⟨trivial, fun e he => ?_⟩, ?_⟩⟩
    · rw [List.mem_singleton.mp he]
      intro u hu
      cases hu
    dsimp only [List.cons_append, List.nil_append, List.eraseIdx_cons_succ, List.eraseIdx_cons_zero]
    refine ⟨Nat.zero_le _, fun a12 => ⟨6, _, _, rfl, rfl, ?_⟩⟩
    dsimp only [List.cons_append, List.nil_append, List.eraseIdx_cons_succ, List.eraseIdx_cons_zero]
    refine ⟨_, _, .p 5 rfl rfl, .d _, rfl, rfl, ?_⟩
    dsimp only [List.cons_append, List.nil_append, List.eraseIdx_cons_succ, List.eraseIdx_cons_zero]
    refine fun p8 => ⟨6, _, rfl, fun p9 => ⟨7, _, _, rfl, ed _, (by show 4 ≤ sizeLine; omega), fun pD => ?_⟩⟩
    generalize cutG ns none (some 63) = ms
    refine ⟨_, [(pD, diceN ms 0 0 0)], weak_sub (List.sublist_append_right _ _), ?_⟩
    refine ⟨by decide, by decide, fun i ρ μ => ∃ (s l r : Int) (y2 y3 y4 : Option Val), ρ = [some (.scr ns), some (.ptr pD), y2, y3, y4] ∧ μ = [(pD, diceN ms s l r)] ∧ DiceOk s l r (200 * i), ⟨_, _, _, _, _, _, rfl, rfl, ⟨by decide, by decide, by decide, by decide, by decide⟩⟩, fun _ _ _ _ _ => trivial, ?_, ?_⟩
    · rintro i y ρ μ hy ⟨s, l, r, y2, y3, y4, rfl, rfl, ok⟩
      have hi : i < 3 := by
        have := (List.getElem?_eq_some_iff.mp hy).1
        rw [rangeZ_len] at this
        exact this
      refine ⟨0, pD, _, rfl, pD, ms, s, l, r, _, rfl, rfl, ok, by omega, fun pl ls s2 l2 r2 hls hl14 ok2 => ⟨_, _, rfl, 1, _, _, rfl, datOf_dats _, ?_⟩⟩
      have po : Pg 14 ls := ⟨hl14, hls.one⟩
      have po2 : Pg 20 ls := ⟨by omega, hls.one⟩
      refine ⟨0, pD, _, rfl, pD, ms, s2, l2, r2, _, ls, rfl, rfl, ok2, by omega, po, fun ls2 s3 l3 r3 pn ok3 => ⟨_, [], rfl, ?_⟩⟩
      refine ⟨ls, ls2, rfl, rfl, po2, pn, ls2, ls, rfl, rfl, pn, po2, fun p3 => ⟨1, _, _, rfl, datOf_map _, ls, ls, rfl, rfl, po2, po2, ?_⟩⟩
      exact ⟨_, .refl _, s3, l3, r3, _, _, _, rfl, rfl, ok3.more (by omega)⟩
    · rintro ρ μ ⟨s, l, r, y2, y3, y4, rfl, rfl, ok⟩
      exact ⟨[], List.nil_sublist _, q⟩
end
end Kr
namespace Kr
open PySem PySem.Spec PyProof.Rows L2 Lf Zl
section
set_option maxHeartbeats 4000000 in
theorem all_mk {l : PySem.W.OpenLaw} {w : World} {K : PySem.W.Frag} {h : Heap} {mg : Str → Option Value} {fa  : Addr} (X : K.In h) (G : h.Ns mainGlobals mg) (hfa : mg "law" = some (.ref fa))
    {od0 an0 : Option Addr} {sl0 : Array (Option Value)} {oc0 kV0 dc0 pm0 cd0 ct0 : Value} {f0 : Addr}
    {od1 an1 : Option Addr} {sl1 : Array (Option Value)} {oc1 kV1 dc1 pm1 cd1 ct1 : Value} {f1 : Addr}
    {od2 an2 : Option Addr} {sl2 : Array (Option Value)} {oc2 kV2 dc2 pm2 cd2 ct2 : Value} {f2 : Addr}
    {od3 an3 : Option Addr} {sl3 : Array (Option Value)} {oc3 kV3 dc3 pm3 cd3 ct3 : Value} {f3 : Addr}
    {od4 an4 : Option Addr} {sl4 : Array (Option Value)} {oc4 kV4 dc4 pm4 cd4 ct4 : Value} {f4 : Addr}
    {od5 an5 : Option Addr} {sl5 : Array (Option Value)} {oc5 kV5 dc5 pm5 cd5 ct5 : Value} {f5 : Addr}
    {od6 an6 : Option Addr} {sl6 : Array (Option Value)} {oc6 kV6 dc6 pm6 cd6 ct6 : Value} {f6 : Addr}
    {od7 an7 : Option Addr} {sl7 : Array (Option Value)} {oc7 kV7 dc7 pm7 cd7 ct7 : Value} {f7 : Addr}
    {od8 an8 : Option Addr} {sl8 : Array (Option Value)} {oc8 kV8 dc8 pm8 cd8 ct8 : Value} {f8 : Addr}
    {od9 an9 : Option Addr} {sl9 : Array (Option Value)} {oc9 kV9 dc9 pm9 cd9 ct9 : Value} {f9 : Addr}
    {od10 an10 : Option Addr} {sl10 : Array (Option Value)} {oc10 kV10 dc10 pm10 cd10 ct10 : Value} {f10 : Addr}
    {od11 an11 : Option Addr} {sl11 : Array (Option Value)} {oc11 kV11 dc11 pm11 cd11 ct11 : Value} {f11 : Addr}
    {od12 an12 : Option Addr} {sl12 : Array (Option Value)} {oc12 kV12 dc12 pm12 cd12 ct12 : Value} {f12 : Addr}
    {od13 an13 : Option Addr} {sl13 : Array (Option Value)} {oc13 kV13 dc13 pm13 cd13 ct13 : Value} {f13 : Addr}
    {od14 an14 : Option Addr} {sl14 : Array (Option Value)} {oc14 kV14 dc14 pm14 cd14 ct14 : Value} {f14 : Addr}
    {od15 an15 : Option Addr} {sl15 : Array (Option Value)} {oc15 kV15 dc15 pm15 cd15 ct15 : Value} {f15 : Addr}
    {od16 an16 : Option Addr} {sl16 : Array (Option Value)} {oc16 kV16 dc16 pm16 cd16 ct16 : Value} {f16 : Addr}
    {od17 an17 : Option Addr} {sl17 : Array (Option Value)} {oc17 kV17 dc17 pm17 cd17 ct17 : Value} {f17 : Addr}
    {od18 an18 : Option Addr} {sl18 : Array (Option Value)} {oc18 kV18 dc18 pm18 cd18 ct18 : Value} {f18 : Addr}
    {od19 an19 : Option Addr} {sl19 : Array (Option Value)} {oc19 kV19 dc19 pm19 cd19 ct19 : Value} {f19 : Addr}
    {od20 an20 : Option Addr} {sl20 : Array (Option Value)} {oc20 kV20 dc20 pm20 cd20 ct20 : Value} {f20 : Addr}
    {od21 an21 : Option Addr} {sl21 : Array (Option Value)} {oc21 kV21 dc21 pm21 cd21 ct21 : Value} {f21 : Addr}
    (a0 : PySem.W.nsIn K mainGlobals "is_number" = some (some (.ref f0)))
    (l0 : K.lookup f0 = some ⟨oc0, od0, .func (PySem.W.fnOf "is_number" "is_number" (defArgs (topS 4)) (defBody (topS 4)) (defScope (topS 4)) .none kV0 dc0 pm0 an0 cd0 ct0), sl0⟩)
    (c0 : PySem.W.codeIn K cd0 "is_number" = true)
    (k0 : PySem.W.keepIn K (.ref f0) = true)
    (a1 : PySem.W.nsIn K mainGlobals "is_like" = some (some (.ref f1)))
    (l1 : K.lookup f1 = some ⟨oc1, od1, .func (PySem.W.fnOf "is_like" "is_like" (defArgs (topS 5)) (defBody (topS 5)) (defScope (topS 5)) .none kV1 dc1 pm1 an1 cd1 ct1), sl1⟩)
    (c1 : PySem.W.codeIn K cd1 "is_like" = true)
    (k1 : PySem.W.keepIn K (.ref f1) = true)
    (a2 : PySem.W.nsIn K mainGlobals "table" = some (some (.ref f2)))
    (l2 : K.lookup f2 = some ⟨oc2, od2, .func (PySem.W.fnOf "table" "table" (defArgs (topS 7)) (defBody (topS 7)) (defScope (topS 7)) .none kV2 dc2 pm2 an2 cd2 ct2), sl2⟩)
    (c2 : PySem.W.codeIn K cd2 "table" = true)
    (k2 : PySem.W.keepIn K (.ref f2) = true)
    (a3 : PySem.W.nsIn K mainGlobals "row_beneath" = some (some (.ref f3)))
    (l3 : K.lookup f3 = some ⟨oc3, od3, .func (PySem.W.fnOf "row_beneath" "row_beneath" (defArgs (topS 8)) (defBody (topS 8)) (defScope (topS 8)) .none kV3 dc3 pm3 an3 cd3 ct3), sl3⟩)
    (c3 : PySem.W.codeIn K cd3 "row_beneath" = true)
    (k3 : PySem.W.keepIn K (.ref f3) = true)
    (a4 : PySem.W.nsIn K mainGlobals "is_table" = some (some (.ref f4)))
    (l4 : K.lookup f4 = some ⟨oc4, od4, .func (PySem.W.fnOf "is_table" "is_table" (defArgs (topS 9)) (defBody (topS 9)) (defScope (topS 9)) .none kV4 dc4 pm4 an4 cd4 ct4), sl4⟩)
    (c4 : PySem.W.codeIn K cd4 "is_table" = true)
    (k4 : PySem.W.keepIn K (.ref f4) = true)
    (a5 : PySem.W.nsIn K mainGlobals "patch" = some (some (.ref f5)))
    (l5 : K.lookup f5 = some ⟨oc5, od5, .func (PySem.W.fnOf "patch" "patch" (defArgs (topS 10)) (defBody (topS 10)) (defScope (topS 10)) .none kV5 dc5 pm5 an5 cd5 ct5), sl5⟩)
    (c5 : PySem.W.codeIn K cd5 "patch" = true)
    (k5 : PySem.W.keepIn K (.ref f5) = true)
    (a6 : PySem.W.nsIn K mainGlobals "kept" = some (some (.ref f6)))
    (l6 : K.lookup f6 = some ⟨oc6, od6, .func (PySem.W.fnOf "kept" "kept" (defArgs (topS 11)) (defBody (topS 11)) (defScope (topS 11)) .none kV6 dc6 pm6 an6 cd6 ct6), sl6⟩)
    (c6 : PySem.W.codeIn K cd6 "kept" = true)
    (k6 : PySem.W.keepIn K (.ref f6) = true)
    (a7 : PySem.W.nsIn K mainGlobals "changes" = some (some (.ref f7)))
    (l7 : K.lookup f7 = some ⟨oc7, od7, .func (PySem.W.fnOf "changes" "changes" (defArgs (topS 12)) (defBody (topS 12)) (defScope (topS 12)) .none kV7 dc7 pm7 an7 cd7 ct7), sl7⟩)
    (c7 : PySem.W.codeIn K cd7 "changes" = true)
    (k7 : PySem.W.keepIn K (.ref f7) = true)
    (a8 : PySem.W.nsIn K mainGlobals "put_on" = some (some (.ref f8)))
    (l8 : K.lookup f8 = some ⟨oc8, od8, .func (PySem.W.fnOf "put_on" "put_on" (defArgs (topS 13)) (defBody (topS 13)) (defScope (topS 13)) .none kV8 dc8 pm8 an8 cd8 ct8), sl8⟩)
    (c8 : PySem.W.codeIn K cd8 "put_on" = true)
    (k8 : PySem.W.keepIn K (.ref f8) = true)
    (a9 : PySem.W.nsIn K mainGlobals "is_patch" = some (some (.ref f9)))
    (l9 : K.lookup f9 = some ⟨oc9, od9, .func (PySem.W.fnOf "is_patch" "is_patch" (defArgs (topS 14)) (defBody (topS 14)) (defScope (topS 14)) .none kV9 dc9 pm9 an9 cd9 ct9), sl9⟩)
    (c9 : PySem.W.codeIn K cd9 "is_patch" = true)
    (k9 : PySem.W.keepIn K (.ref f9) = true)
    (a10 : PySem.W.nsIn K mainGlobals "has_form" = some (some (.ref f10)))
    (l10 : K.lookup f10 = some ⟨oc10, od10, .func (PySem.W.fnOf "has_form" "has_form" (defArgs (topS 15)) (defBody (topS 15)) (defScope (topS 15)) .none kV10 dc10 pm10 an10 cd10 ct10), sl10⟩)
    (c10 : PySem.W.codeIn K cd10 "has_form" = true)
    (k10 : PySem.W.keepIn K (.ref f10) = true)
    (a11 : PySem.W.nsIn K mainGlobals "is_row" = some (some (.ref f11)))
    (l11 : K.lookup f11 = some ⟨oc11, od11, .func (PySem.W.fnOf "is_row" "is_row" (defArgs (topS 16)) (defBody (topS 16)) (defScope (topS 16)) .none kV11 dc11 pm11 an11 cd11 ct11), sl11⟩)
    (c11 : PySem.W.codeIn K cd11 "is_row" = true)
    (k11 : PySem.W.keepIn K (.ref f11) = true)
    (a12 : PySem.W.nsIn K mainGlobals "_law_roll" = some (some (.ref f12)))
    (l12 : K.lookup f12 = some ⟨oc12, od12, .func (PySem.W.fnOf "_law_roll" "_law_roll" (defArgs (topS 18)) (defBody (topS 18)) (defScope (topS 18)) .none kV12 dc12 pm12 an12 cd12 ct12), sl12⟩)
    (c12 : PySem.W.codeIn K cd12 "_law_roll" = true)
    (k12 : PySem.W.keepIn K (.ref f12) = true)
    (a13 : PySem.W.nsIn K mainGlobals "_law_pick" = some (some (.ref f13)))
    (l13 : K.lookup f13 = some ⟨oc13, od13, .func (PySem.W.fnOf "_law_pick" "_law_pick" (defArgs (topS 19)) (defBody (topS 19)) (defScope (topS 19)) .none kV13 dc13 pm13 an13 cd13 ct13), sl13⟩)
    (c13 : PySem.W.codeIn K cd13 "_law_pick" = true)
    (k13 : PySem.W.keepIn K (.ref f13) = true)
    (a14 : PySem.W.nsIn K mainGlobals "_law_whole" = some (some (.ref f14)))
    (l14 : K.lookup f14 = some ⟨oc14, od14, .func (PySem.W.fnOf "_law_whole" "_law_whole" (defArgs (topS 20)) (defBody (topS 20)) (defScope (topS 20)) .none kV14 dc14 pm14 an14 cd14 ct14), sl14⟩)
    (c14 : PySem.W.codeIn K cd14 "_law_whole" = true)
    (k14 : PySem.W.keepIn K (.ref f14) = true)
    (a15 : PySem.W.nsIn K mainGlobals "_law_lines_drawn" = some (some (.ref f15)))
    (l15 : K.lookup f15 = some ⟨oc15, od15, .func (PySem.W.fnOf "_law_lines_drawn" "_law_lines_drawn" (defArgs (topS 21)) (defBody (topS 21)) (defScope (topS 21)) .none kV15 dc15 pm15 an15 cd15 ct15), sl15⟩)
    (c15 : PySem.W.codeIn K cd15 "_law_lines_drawn" = true)
    (k15 : PySem.W.keepIn K (.ref f15) = true)
    (a16 : PySem.W.nsIn K mainGlobals "_law_other" = some (some (.ref f16)))
    (l16 : K.lookup f16 = some ⟨oc16, od16, .func (PySem.W.fnOf "_law_other" "_law_other" (defArgs (topS 22)) (defBody (topS 22)) (defScope (topS 22)) .none kV16 dc16 pm16 an16 cd16 ct16), sl16⟩)
    (c16 : PySem.W.codeIn K cd16 "_law_other" = true)
    (k16 : PySem.W.keepIn K (.ref f16) = true)
    (a17 : PySem.W.nsIn K mainGlobals "_law_table" = some (some (.ref f17)))
    (l17 : K.lookup f17 = some ⟨oc17, od17, .func (PySem.W.fnOf "_law_table" "_law_table" (defArgs (topS 23)) (defBody (topS 23)) (defScope (topS 23)) .none kV17 dc17 pm17 an17 cd17 ct17), sl17⟩)
    (c17 : PySem.W.codeIn K cd17 "_law_table" = true)
    (k17 : PySem.W.keepIn K (.ref f17) = true)
    (a18 : PySem.W.nsIn K mainGlobals "_law_led" = some (some (.ref f18)))
    (l18 : K.lookup f18 = some ⟨oc18, od18, .func (PySem.W.fnOf "_law_led" "_law_led" (defArgs (topS 24)) (defBody (topS 24)) (defScope (topS 24)) .none kV18 dc18 pm18 an18 cd18 ct18), sl18⟩)
    (c18 : PySem.W.codeIn K cd18 "_law_led" = true)
    (k18 : PySem.W.keepIn K (.ref f18) = true)
    (a19 : PySem.W.nsIn K mainGlobals "_law_form" = some (some (.ref f19)))
    (l19 : K.lookup f19 = some ⟨oc19, od19, .func (PySem.W.fnOf "_law_form" "_law_form" (defArgs (topS 25)) (defBody (topS 25)) (defScope (topS 25)) .none kV19 dc19 pm19 an19 cd19 ct19), sl19⟩)
    (c19 : PySem.W.codeIn K cd19 "_law_form" = true)
    (k19 : PySem.W.keepIn K (.ref f19) = true)
    (a20 : PySem.W.nsIn K mainGlobals "_law_right" = some (some (.ref f20)))
    (l20 : K.lookup f20 = some ⟨oc20, od20, .func (PySem.W.fnOf "_law_right" "_law_right" (defArgs (topS 26)) (defBody (topS 26)) (defScope (topS 26)) .none kV20 dc20 pm20 an20 cd20 ct20), sl20⟩)
    (c20 : PySem.W.codeIn K cd20 "_law_right" = true)
    (k20 : PySem.W.keepIn K (.ref f20) = true)
    (a21 : PySem.W.nsIn K mainGlobals "law" = some (some (.ref f21)))
    (l21 : K.lookup f21 = some ⟨oc21, od21, .func (PySem.W.fnOf "law" "law" (defArgs (topS 27)) (defBody (topS 27)) (defScope (topS 27)) .none kV21 dc21 pm21 an21 cd21 ct21), sl21⟩)
    (c21 : PySem.W.codeIn K cd21 "law" = true)
    (k21 : PySem.W.keepIn K (.ref f21) = true)
    (z0 : PySem.W.nsIn K mainGlobals "len" = some none)
    (z1 : PySem.W.nsIn K mainGlobals "range" = some none)
    (z2 : PySem.W.nsIn K mainGlobals "list" = some none)
    (z3 : PySem.W.nsIn K mainGlobals "tuple" = some none)
    (z4 : PySem.W.nsIn K mainGlobals "max" = some none)
    (z5 : PySem.W.nsIn K mainGlobals "min" = some none)
    (z6 : PySem.W.nsIn K mainGlobals "int" = some none)
    (z7 : PySem.W.nsIn K mainGlobals "str" = some none)
    (z8 : PySem.W.nsIn K mainGlobals "isinstance" = some none)
    (z9 : PySem.W.nsIn K mainGlobals "enumerate" = some none)
    (z10 : PySem.W.nsIn K mainGlobals "bool" = some none)
    (z11 : PySem.W.nsIn K mainGlobals "all" = some none)
    (z12 : PySem.W.nsIn K mainGlobals "sum" = some none)
    (z13 : PySem.W.nsIn K mainGlobals "zip" = some none)
    : ∃ fd : FuncData, (∀ (s : Shared) (v : Value), BindsTo s fd ⟨[v], []⟩ [("_law_script", v)]) ∧ ∀ base : Heap, K.In base → base.Ns mainGlobals mg → Gd.RunAt callerA l.prog w K mg base fa fd ["_law_script"] (spZ w K fLaw) := by
  have e := hfa.symm.trans (PySem.W.mg_of X G a21)
  cases e
  have TB : Bs mg := ⟨PySem.W.mg_none_of X G z0, PySem.W.mg_none_of X G z1, PySem.W.mg_none_of X G z2, PySem.W.mg_none_of X G z3, PySem.W.mg_none_of X G z4, PySem.W.mg_none_of X G z5, PySem.W.mg_none_of X G z6, PySem.W.mg_none_of X G z7, PySem.W.mg_none_of X G z8, PySem.W.mg_none_of X G z9, PySem.W.mg_none_of X G z10, PySem.W.mg_none_of X G z11, PySem.W.mg_none_of X G z12, PySem.W.mg_none_of X G z13⟩
  have T : Ts K mg  := { toBs := TB }
  have F_is_number := fun_mk (st := topS 4) l0 c0 k0
  have b_is_number := F_is_number.binds (ps := ["thing"]) fun _ _ _ _ _ _ us hl => match us, hl with | [_], _ => rfl
  have g_is_number := PySem.W.mg_of X G a0
  have F_is_like := fun_mk (st := topS 5) l1 c1 k1
  have b_is_like := F_is_like.binds (ps := ["thing", "due"]) fun _ _ _ _ _ _ us hl => match us, hl with | [_, _], _ => rfl
  have g_is_like := PySem.W.mg_of X G a1
  have F_table := fun_mk (st := topS 7) l2 c2 k2
  have b_table := F_table.binds (ps := ["old", "new"]) fun _ _ _ _ _ _ us hl => match us, hl with | [_, _], _ => rfl
  have g_table := PySem.W.mg_of X G a2
  have F_row_beneath := fun_mk (st := topS 8) l3 c3 k3
  have b_row_beneath := F_row_beneath.binds (ps := ["above", "line", "new"]) fun _ _ _ _ _ _ us hl => match us, hl with | [_, _, _], _ => rfl
  have g_row_beneath := PySem.W.mg_of X G a3
  have F_is_table := fun_mk (st := topS 9) l4 c4 k4
  have b_is_table := F_is_table.binds (ps := ["old", "new", "thing"]) fun _ _ _ _ _ _ us hl => match us, hl with | [_, _, _], _ => rfl
  have g_is_table := PySem.W.mg_of X G a4
  have F_patch := fun_mk (st := topS 10) l5 c5 k5
  have b_patch := F_patch.binds (ps := ["old", "new"]) fun _ _ _ _ _ _ us hl => match us, hl with | [_, _], _ => rfl
  have g_patch := PySem.W.mg_of X G a5
  have F_kept := fun_mk (st := topS 11) l6 c6 k6
  have b_kept := F_kept.binds (ps := ["old", "new"]) fun _ _ _ _ _ _ us hl => match us, hl with | [_, _], _ => rfl
  have g_kept := PySem.W.mg_of X G a6
  have F_changes := fun_mk (st := topS 12) l7 c7 k7
  have b_changes := F_changes.binds (ps := ["many", "lines"]) fun _ _ _ _ _ _ us hl => match us, hl with | [_, _], _ => rfl
  have g_changes := PySem.W.mg_of X G a7
  have F_put_on := fun_mk (st := topS 13) l8 c8 k8
  have b_put_on := F_put_on.binds (ps := ["lines", "patch"]) fun _ _ _ _ _ _ us hl => match us, hl with | [_, _], _ => rfl
  have g_put_on := PySem.W.mg_of X G a8
  have F_is_patch := fun_mk (st := topS 14) l9 c9 k9
  have b_is_patch := F_is_patch.binds (ps := ["old", "new", "thing"]) fun _ _ _ _ _ _ us hl => match us, hl with | [_, _, _], _ => rfl
  have g_is_patch := PySem.W.mg_of X G a9
  have F_has_form := fun_mk (st := topS 15) l10 c10 k10
  have b_has_form := F_has_form.binds (ps := ["thing"]) fun _ _ _ _ _ _ us hl => match us, hl with | [_], _ => rfl
  have g_has_form := PySem.W.mg_of X G a10
  have F_is_row := fun_mk (st := topS 16) l11 c11 k11
  have b_is_row := F_is_row.binds (ps := ["thing"]) fun _ _ _ _ _ _ us hl => match us, hl with | [_], _ => rfl
  have g_is_row := PySem.W.mg_of X G a11
  have F__law_roll := fun_mk (st := topS 18) l12 c12 k12
  have b__law_roll := F__law_roll.binds (ps := ["_law_dice", "_law_size"]) fun _ _ _ _ _ _ us hl => match us, hl with | [_, _], _ => rfl
  have g__law_roll := PySem.W.mg_of X G a12
  have F__law_pick := fun_mk (st := topS 19) l13 c13 k13
  have b__law_pick := F__law_pick.binds (ps := ["_law_dice", "_law_some"]) fun _ _ _ _ _ _ us hl => match us, hl with | [_, _], _ => rfl
  have g__law_pick := PySem.W.mg_of X G a13
  have F__law_whole := fun_mk (st := topS 20) l14 c14 k14
  have b__law_whole := F__law_whole.binds (ps := ["_law_thing"]) fun _ _ _ _ _ _ us hl => match us, hl with | [_], _ => rfl
  have g__law_whole := PySem.W.mg_of X G a14
  have F__law_lines_drawn := fun_mk (st := topS 21) l15 c15 k15
  have b__law_lines_drawn := F__law_lines_drawn.binds (ps := ["_law_dice"]) fun _ _ _ _ _ _ us hl => match us, hl with | [_], _ => rfl
  have g__law_lines_drawn := PySem.W.mg_of X G a15
  have F__law_other := fun_mk (st := topS 22) l16 c16 k16
  have b__law_other := F__law_other.binds (ps := ["_law_dice", "_law_old"]) fun _ _ _ _ _ _ us hl => match us, hl with | [_, _], _ => rfl
  have g__law_other := PySem.W.mg_of X G a16
  have F__law_table := fun_mk (st := topS 23) l17 c17 k17
  have b__law_table := F__law_table.binds (ps := ["_law_old", "_law_new"]) fun _ _ _ _ _ _ us hl => match us, hl with | [_, _], _ => rfl
  have g__law_table := PySem.W.mg_of X G a17
  have F__law_led := fun_mk (st := topS 24) l18 c18 k18
  have b__law_led := F__law_led.binds (ps := ["_law_old", "_law_rows"]) fun _ _ _ _ _ _ us hl => match us, hl with | [_, _], _ => rfl
  have g__law_led := PySem.W.mg_of X G a18
  have F__law_form := fun_mk (st := topS 25) l19 c19 k19
  have b__law_form := F__law_form.binds (ps := ["_law_rows"]) fun _ _ _ _ _ _ us hl => match us, hl with | [_], _ => rfl
  have g__law_form := PySem.W.mg_of X G a19
  have F__law_right := fun_mk (st := topS 26) l20 c20 k20
  have b__law_right := F__law_right.binds (ps := ["_law_old", "_law_new"]) fun _ _ _ _ _ _ us hl => match us, hl with | [_, _], _ => rfl
  have g__law_right := PySem.W.mg_of X G a20
  have F_law := fun_mk (st := topS 27) l21 c21 k21
  have b_law := F_law.binds (ps := ["_law_script"]) fun _ _ _ _ _ _ us hl => match us, hl with | [_], _ => rfl
  have g_law := PySem.W.mg_of X G a21
  refine ⟨PySem.W.fnOf "law" "law" (defArgs (topS 27)) (defBody (topS 27)) (defScope (topS 27)) .none kV21 dc21 pm21 an21 cd21 ct21, fun s v => .of_eq rfl, fun base _ _ => ?_⟩
  have C_roll : CalZ l.prog w K mg base 1 "_law_roll" ["_law_dice", "_law_size"] fRoll := ⟨_, _, ok_roll F__law_roll T.toBs, g__law_roll, F__law_roll.kp, b__law_roll⟩
  have C_pick : CalZ l.prog w K mg base 2 "_law_pick" ["_law_dice", "_law_some"] fPick := ⟨_, _, ok_pick F__law_pick T.toBs C_roll, g__law_pick, F__law_pick.kp, b__law_pick⟩
  have C_drawn : CalZ l.prog w K mg base 3 "_law_lines_drawn" ["_law_dice"] fDrawn := ⟨_, _, ok_drawn F__law_lines_drawn T.toBs C_roll C_pick, g__law_lines_drawn, F__law_lines_drawn.kp, b__law_lines_drawn⟩
  have C_other : CalZ l.prog w K mg base 4 "_law_other" ["_law_dice", "_law_old"] fOther := ⟨_, _, ok_other F__law_other T.toBs C_roll C_pick C_drawn, g__law_other, F__law_other.kp, b__law_other⟩
  have C_number : CalZ l.prog w K mg base 1 "is_number" ["thing"] fNumber := ⟨_, _, ok_number F_is_number T.toBs, g_is_number, F_is_number.kp, b_is_number⟩
  have C_changes : CalZ l.prog w K mg base 1 "changes" ["many", "lines"] fChanges := ⟨_, _, ok_changes F_changes T.toBs, g_changes, F_changes.kp, b_changes⟩
  have C_isrow : CalZ l.prog w K mg base 2 "is_row" ["thing"] fIsRow := ⟨_, _, ok_isrow F_is_row T.toBs C_number, g_is_row, F_is_row.kp, b_is_row⟩
  have C_beneath : CalZ l.prog w K mg base 1 "row_beneath" ["above", "line", "new"] fBeneath := ⟨_, _, ok_beneath F_row_beneath T.toBs, g_row_beneath, F_row_beneath.kp, b_row_beneath⟩
  have C_table : CalZ l.prog w K mg base 2 "table" ["old", "new"] fTable := ⟨_, _, ok_table F_table T.toBs C_beneath, g_table, F_table.kp, b_table⟩
  have C_ltable : CalZ l.prog w K mg base 1 "_law_table" ["_law_old", "_law_new"] fLTable := ⟨_, _, ok_ltable F__law_table T.toBs, g__law_table, F__law_table.kp, b__law_table⟩
  have C_like0 : CalZ l.prog w K mg base 1 "is_like" ["thing", "due"] (fLike 0) := ⟨_, _, ok_like0 F_is_like, g_is_like, F_is_like.kp, b_is_like⟩
  have C_like1 : CalZ l.prog w K mg base 2 "is_like" ["thing", "due"] (fLike 1) := ⟨_, _, ok_like1 F_is_like T.toBs C_like0, g_is_like, F_is_like.kp, b_is_like⟩
  have C_like2 : CalZ l.prog w K mg base 3 "is_like" ["thing", "due"] (fLike 2) := ⟨_, _, ok_like1 F_is_like T.toBs C_like1, g_is_like, F_is_like.kp, b_is_like⟩
  have C_like3 : CalZ l.prog w K mg base 4 "is_like" ["thing", "due"] (fLike 3) := ⟨_, _, ok_like1 F_is_like T.toBs C_like2, g_is_like, F_is_like.kp, b_is_like⟩
  have C_istable : CalZ l.prog w K mg base 5 "is_table" ["old", "new", "thing"] fIsTable := ⟨_, _, ok_istable F_is_table T.toBs C_table C_like3, g_is_table, F_is_table.kp, b_is_table⟩
  have C_kept : CalZ l.prog w K mg base 3 "kept" ["old", "new"] fKept := ⟨_, _, ok_kept F_kept T.toBs C_table, g_kept, F_kept.kp, b_kept⟩
  have C_patch : CalZ l.prog w K mg base 4 "patch" ["old", "new"] fPatch := ⟨_, _, ok_patch F_patch T.toBs C_kept C_changes, g_patch, F_patch.kp, b_patch⟩
  have C_puton : CalZ l.prog w K mg base 1 "put_on" ["lines", "patch"] fPutOn := ⟨_, _, ok_puton F_put_on T.toBs, g_put_on, F_put_on.kp, b_put_on⟩
  have C_hasform : CalZ l.prog w K mg base 3 "has_form" ["thing"] fHasForm := ⟨_, _, ok_hasform F_has_form T.toBs C_isrow, g_has_form, F_has_form.kp, b_has_form⟩
  have C_ispatch : CalZ l.prog w K mg base 4 "is_patch" ["old", "new", "thing"] fIsPatch := ⟨_, _, ok_ispatch F_is_patch T.toBs C_hasform C_puton C_table, g_is_patch, F_is_patch.kp, b_is_patch⟩
  have C_whole : CalZ l.prog w K mg base 1 "_law_whole" ["_law_thing"] fWhole := ⟨_, _, ok_whole F__law_whole T.toBs, g__law_whole, F__law_whole.kp, b__law_whole⟩
  have C_form : CalZ l.prog w K mg base 2 "_law_form" ["_law_rows"] fForm := ⟨_, _, ok_form F__law_form T.toBs C_whole, g__law_form, F__law_form.kp, b__law_form⟩
  have C_led : CalZ l.prog w K mg base 1 "_law_led" ["_law_old", "_law_rows"] fLed := ⟨_, _, ok_led F__law_led T.toBs, g__law_led, F__law_led.kp, b__law_led⟩
  have C_right : CalZ l.prog w K mg base 6 "_law_right" ["_law_old", "_law_new"] fRight := ⟨_, _, ok_right F__law_right T.toBs C_ltable C_table C_istable C_whole C_patch C_form C_led C_ispatch C_puton, g__law_right, F__law_right.kp, b__law_right⟩
  exact run_law F_law T.toBs C_table C_patch C_puton C_drawn C_other C_right
end
end Kr
open PySem PySem.W PyProof.Rows
set_option maxRecDepth 100000 in
set_option maxHeartbeats 0 in
theorem PySem.Challenge.cw_leafround_k88_patches_lead_over_holds : PySem.Challenge.rw_leafround_k88_patches_lead_over.Holds := by
  w_on; o_law; k_head; (case hw => w_witness2)
  k_fill
  refine Gd.walk_at (l := PySem.Challenge.rw_leafround_k88_patches_lead_over) (n := 63) (x := "_law_script") (sp := fun w => Zl.spZ w (_) Kr.fLaw) rfl (by decide) rfl (fun w h Y => PySem.W.kIn_of Y) ?F (fun _ _ a ns _ _ hS => Zl.law_sp ⟨ns, rfl, rfl, rfl⟩ hS)
  case F =>
    intro w mg fa h KX G hmg
    refine' Kr.all_mk KX G hmg ?a0 ?l0 ?c0 ?k0 ?a1 ?l1 ?c1 ?k1 ?a2 ?l2 ?c2 ?k2 ?a3 ?l3 ?c3 ?k3 ?a4 ?l4 ?c4 ?k4 ?a5 ?l5 ?c5 ?k5 ?a6 ?l6 ?c6 ?k6 ?a7 ?l7 ?c7 ?k7 ?a8 ?l8 ?c8 ?k8 ?a9 ?l9 ?c9 ?k9 ?a10 ?l10 ?c10 ?k10 ?a11 ?l11 ?c11 ?k11 ?a12 ?l12 ?c12 ?k12 ?a13 ?l13 ?c13 ?k13 ?a14 ?l14 ?c14 ?k14 ?a15 ?l15 ?c15 ?k15 ?a16 ?l16 ?c16 ?k16 ?a17 ?l17 ?c17 ?k17 ?a18 ?l18 ?c18 ?k18 ?a19 ?l19 ?c19 ?k19 ?a20 ?l20 ?c20 ?k20 ?a21 ?l21 ?c21 ?k21 ?z0 ?z1 ?z2 ?z3 ?z4 ?z5 ?z6 ?z7 ?z8 ?z9 ?z10 ?z11 ?z12 ?z13
    (case a0 => k_is); (case l0 => k_is); (case c0 => k_is); (case k0 => k_is); (case a1 => k_is); (case l1 => k_is); (case c1 => k_is); (case k1 => k_is); (case a2 => k_is); (case l2 => k_is); (case c2 => k_is); (case k2 => k_is); (case a3 => k_is); (case l3 => k_is); (case c3 => k_is); (case k3 => k_is); (case a4 => k_is); (case l4 => k_is); (case c4 => k_is); (case k4 => k_is); (case a5 => k_is); (case l5 => k_is); (case c5 => k_is); (case k5 => k_is); (case a6 => k_is); (case l6 => k_is); (case c6 => k_is); (case k6 => k_is); (case a7 => k_is); (case l7 => k_is); (case c7 => k_is); (case k7 => k_is); (case a8 => k_is); (case l8 => k_is); (case c8 => k_is); (case k8 => k_is); (case a9 => k_is); (case l9 => k_is); (case c9 => k_is); (case k9 => k_is); (case a10 => k_is); (case l10 => k_is); (case c10 => k_is); (case k10 => k_is); (case a11 => k_is); (case l11 => k_is); (case c11 => k_is); (case k11 => k_is); (case a12 => k_is); (case l12 => k_is); (case c12 => k_is); (case k12 => k_is); (case a13 => k_is); (case l13 => k_is); (case c13 => k_is); (case k13 => k_is); (case a14 => k_is); (case l14 => k_is); (case c14 => k_is); (case k14 => k_is); (case a15 => k_is); (case l15 => k_is); (case c15 => k_is); (case k15 => k_is); (case a16 => k_is); (case l16 => k_is); (case c16 => k_is); (case k16 => k_is); (case a17 => k_is); (case l17 => k_is); (case c17 => k_is); (case k17 => k_is); (case a18 => k_is); (case l18 => k_is); (case c18 => k_is); (case k18 => k_is); (case a19 => k_is); (case l19 => k_is); (case c19 => k_is); (case k19 => k_is); (case a20 => k_is); (case l20 => k_is); (case c20 => k_is); (case k20 => k_is); (case a21 => k_is); (case l21 => k_is); (case c21 => k_is); (case k21 => k_is); (case z0 => k_is); (case z1 => k_is); (case z2 => k_is); (case z3 => k_is); (case z4 => k_is); (case z5 => k_is); (case z6 => k_is); (case z7 => k_is); (case z8 => k_is); (case z9 => k_is); (case z10 => k_is); (case z11 => k_is); (case z12 => k_is); (case z13 => k_is)
