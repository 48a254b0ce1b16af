import PyProof.Rows.All
import Wide.All
import OpenK.AllK
import Wide.FinOn
import HandS.ForMost
import HandS.IsInst
import HandS.Wide
import HandS.Deep
import HandS.Zip
import HandS.SortRule
import HandS.More
import HandS.RaiseMore
import HandS.Flow
import HandS.OwnEq
import HandS.Defaults
import KE.GoesEnum
import HandS.Evl
import HandS.SortInts
import HandS.Star
import HandS.TupAny
import HandS.TupLe
import HandS.Style
import HandS.Conv
import HandS.Dict
import HandS.Iter
import HandS.Small
import HandS.Codes
import HandS.NoneIn
import PyProof.FactsAll.object_2
import PySem.Challenge.RW_swaykeep_k20_there_and_back
set_option Elab.async false
set_option linter.all false
set_option maxRecDepth 100000
set_option maxHeartbeats 8000000
namespace My
open PySem PySem.Spec PyProof.Rows L2

/-! ### a def, a method, a class with its maker: all that a caller wants -/
structure Dfn (P : Program) (w : World) (K : PySem.W.Frag) (mg : PySem.Str → Option Value) (base : Heap) (x : PySem.Str) (k : Nat) (ps : List PySem.Str) (sp : Sp) : Prop where
  ex : ∃ (f : Addr) (fd : FuncData), mg x = some (.ref f) ∧ PySem.W.keepIn K (.ref f) = true ∧ Binds K fd ps [] ∧ FnOk P w K mg base CX0 k f fd ps sp
structure Mtd (P : Program) (w : World) (K : PySem.W.Frag) (mg : PySem.Str → Option Value) (base : Heap) (C : Addr) (m : PySem.Str) (k : Nat) (ps : List PySem.Str) (sp : Sp) : Prop where
  ex : ∃ (f : Addr) (fd : FuncData), Meth K C m f ∧ Binds K fd ps [] ∧ FnOk P w K mg base CX0 k f fd ps sp
/-- a class whose __init__ has the parameters ps, the last ones with the defaults dvs -/
structure Mkd (P : Program) (w : World) (K : PySem.W.Frag) (mg : PySem.Str → Option Value) (base : Heap) (x : PySem.Str) (C : Addr) (k : Nat) (ps : List PySem.Str) (dvs : List V) (sp : Sp) : Prop where
  ex : ∃ (f : Addr) (fd : FuncData) (ds : List Value), mg x = some (.ref C) ∧ Mk K C f ∧ Binds K fd ps ds ∧ Vals dvs ds ∧ FnOk P w K mg base CX0 k f fd ps sp
section
variable {X : Cx} {x m : PySem.Str} {k j : Nat} {ps : List PySem.Str} {dvs : List V} {sp : Sp} {e o : Expr} {es : List Expr} {t : TA} {ta : TE} {p pos apos : Pos} {C : Addr}
theorem pe_def (D : Dfn X.prog X.w X.K X.mg X.base x k ps sp) (hr : Room k X.A) (hg : Gl X x) (ha : PA X (e :: es) t) (hdb : (x == ("__debug__" : PySem.Str)) = false := by decide)
    (he : starEach (e :: es) X.env = (false, eval e X.env) :: starEach es X.env := by rfl) (hpl : (backTo pos (starEach es X.env)).any (·.1) = false := by rfl) :
    PE X (.Call (.Name x p) (e :: es) [] pos) (tCall sp [] E0 t) := by
  obtain ⟨f, fd, h1, h2, h3, h4⟩ := D.ex
  exact pe_call h4 hr hg h1 h2 h3 .nil pass0 ha hdb he hpl
theorem pe_mth {pl : Sem Bool} (D : Mtd X.prog X.w X.K X.mg X.base C m k ps sp) (ho : PE X o ta) (c : Cls X.K C) (hr : Room k X.A) (ha : PA X (e :: es) t)
    (hst : starEach (e :: es) X.env = (false, eval e X.env) :: starEach es X.env := by rfl) (hpl : (backTo pos (starEach es X.env)).any (·.1) = false := by rfl)
    (ht : eval (.Call (.Attribute o m apos) (e :: es) [] pos) X.env = (do
      let ov ← eval o X.env
      standAt apos.atName
      let (f, first) ← holding [ov] (getMethod ov m pl)
      callWith pos f first (backTo pos (starEach (e :: es) X.env)) (backToKw pos (keywordEach [] X.env))) := by rfl) :
    PE X (.Call (.Attribute o m apos) (e :: es) [] pos) (tMeth C m sp [] E0 ta t) := by
  obtain ⟨f, fd, h1, h3, h4⟩ := D.ex
  exact pe_meth ho c h1 h4 hr h3 .nil pass0 ha hst hpl ht
theorem pe_mkd (D : Mkd X.prog X.w X.K X.mg X.base x C k ps dvs sp) (hr : Room (k + 1) X.A) (hg : Gl X x) (ha : PA X (e :: es) t) (hdb : (x == ("__debug__" : PySem.Str)) = false := by decide)
    (he : starEach (e :: es) X.env = (false, eval e X.env) :: starEach es X.env := by rfl) (hpl : (backTo pos (starEach es X.env)).any (·.1) = false := by rfl) :
    PE X (.Call (.Name x p) (e :: es) [] pos) (tMake C sp dvs E0 t) := by
  obtain ⟨f, fd, ds, h1, h2, h3, h5, h4⟩ := D.ex
  exact pe_make h2 h4 hr hg h1 h3 h5 pass0 ha hdb he hpl

/-! ### len of an instance with its own __len__ -/
def rLenOwn (C : Addr) (sp : Sp) : List V → Hp → VK → Prop := fun xs H Q => ∃ (a dx : Addr) (fs : List (PySem.Str × V)), xs = [.ref a] ∧ H a = some (.ins C dx fs) ∧
  sp [.ref a] H (fun v H' => ∃ n : Int, v = .int n ∧ (0 ≤ n ∧ n < 2 ^ 63) ∧ Q (.int n) H') E0
theorem call_lenOwn (D : Mtd X.prog X.w X.K X.mg X.base C "__len__" k ps sp) (hr : Room (k + 1) X.A) : CallR X (.builtin "len") (rLenOwn C sp) := by
  intro pins s σ H xs us Q I r h
  obtain ⟨a, dx, fs, rfl, ha, hsp⟩ := h
  obtain ⟨u, rfl, ru⟩ := vals1 r
  obtain rfl : u = Value.ref a := ru
  obtain ⟨f, fd, hm, hb, F⟩ := D.ex
  obtain ⟨mA, J, _⟩ := ins_get I.hok ha
  obtain ⟨od, J, _⟩ := J.look
  obtain ⟨m, hF⟩ := I.fr
  refine PySem.W.len_K hF I.ok.mod.kin J hm.at_ hm.fn ?_
  have hl := F.len _ _ _ _ hsp
  have r2 : Vals [V.ref a] [Value.ref a] := .cons rfl .nil
  refine wpAny_call (codeAny_mono (F.run X.A.in1 X.stack s H ⟨[.ref a], []⟩ [.ref a] [.ref a] _ E0 hr.in1 I.env0.in1 (by
    have := hb s [.ref a] I.kIn (by simpa using hl)
    simpa using this) r2 hsp) fun r s' hq => ?_)
  cases r with
  | error e => exact hq.elim
  | ok fl =>
    cases fl with
    | ret w =>
      obtain ⟨z, H', I', rz, n, ez, hn, q⟩ := I.after hq
      subst ez
      obtain ⟨t, rfl⟩ := rz
      exact ⟨hn, .int n, H', I'.tok _, ⟨_, rfl⟩, q⟩
    | next => exact False.elim hq
    | brk => exact False.elim hq
    | cont => exact False.elim hq
theorem pe_lenO (D : Mtd X.prog X.w X.K X.mg X.base C "__len__" k ps sp) (hr : Room (k + 1) X.A) (hg : Gl X "len") (hm : X.mg "len" = none) (ha : PA X (e :: es) t)
    (he : starEach (e :: es) X.env = (false, eval e X.env) :: starEach es X.env := by rfl) (hpl : (backTo pos (starEach es X.env)).any (·.1) = false := by rfl) :
    PE X (.Call (.Name "len" p) (e :: es) [] pos) (tCB (rLenOwn C sp) t) := pe_callB (call_lenOwn D hr) hg hm (by decide +kernel) ha (he := he) (hpl := hpl)

/-! ### powers of great ints -/
def CPowW (i j : Int) : Prop := 0 ≤ j ∧ j ≤ 100 ∧ i.natAbs < 2 ^ 100000
theorem op_powW : OpR X (binaryOp .Pow) (rI CPowW fun i j => .int (i ^ j.toNat)) := opI fun i j _ _ _ _ _ hc q => by
  refine pow_int hc.1 ?_ q
  have b : Builtin.Int.intBits i ≤ 100001 := by
    unfold Builtin.Int.intBits
    split
    · omega
    · have := PySem.Flt.log2_lt_of (by decide) hc.2.2
      omega
  have h1 := hc.1
  have h2 := hc.2.1
  have q1 : ((Builtin.Int.intBits i : Nat) : Int) * j ≤ 100001 * j := Int.mul_le_mul_of_nonneg_right (by omega) h1
  omega
end
end My
namespace SrtO
open PySem PyProof.Rows Srt
section
variable {prog : Program} {w : World} {A : Around} {E : Value → Shared → Prop} {s : Shared}
/-! ### sorted of triples of ints, any number of them -/
def IsTrip (h : Heap) (v : Value) (x : Int × Int × Int) : Prop := ∃ a o t u r n, v = .ref a ∧ h.get? a = some o ∧ o.cls = .type "tuple" ∧ o.data = .seq #[.int x.1 t, .int x.2.1 u, .int x.2.2 r] n
theorem IsTrip.keeps {h h' : Heap} {v : Value} {x : Int × Int × Int} (p : IsTrip h v x) (k : ∀ b o, h.get? b = some o → o.cls = .type "tuple" → h'.get? b = some o) : IsTrip h' v x := by
  obtain ⟨a, o, t, u, r, n, e, ho, hc, hd⟩ := p
  exact ⟨a, o, t, u, r, n, e, k _ _ ho hc, hc, hd⟩
def lex3 (p q : Int × Int × Int) : Bool := if p.1 = q.1 then (if p.2.1 = q.2.1 then decide (p.2.2 < q.2.2) else decide (p.2.1 < q.2.1)) else decide (p.1 < q.1)
theorem lex3_iff {p q : Int × Int × Int} : lex3 p q = true ↔ p.1 < q.1 ∨ (p.1 = q.1 ∧ (p.2.1 < q.2.1 ∨ (p.2.1 = q.2.1 ∧ p.2.2 < q.2.2))) := by
  unfold lex3
  by_cases e : p.1 = q.1
  · rw [if_pos e]
    by_cases e2 : p.2.1 = q.2.1
    · rw [if_pos e2, decide_eq_true_eq]
      omega
    · rw [if_neg e2, decide_eq_true_eq]
      omega
  · rw [if_neg e, decide_eq_true_eq]
    omega
theorem lex3_no {p q : Int × Int × Int} : lex3 p q = false ↔ ¬ (p.1 < q.1 ∨ (p.1 = q.1 ∧ (p.2.1 < q.2.1 ∨ (p.2.1 = q.2.1 ∧ p.2.2 < q.2.2)))) := by
  rw [← lex3_iff]
  cases lex3 p q <;> simp
theorem swo_lex3 {α : Type} (k : α → Int × Int × Int) : Swo fun v u => lex3 (k v) (k u) := by
  refine ⟨fun x y h => ?_, fun x y z h1 h2 => ?_⟩
  · have a := lex3_iff.mp h
    refine lex3_no.mpr ?_
    omega
  · have a := lex3_no.mp h1
    have b := lex3_no.mp h2
    refine lex3_no.mpr ?_
    omega
theorem trip_cmp {vs : List Value} {k : Value → Int × Int × Int} (hp : ∀ v ∈ vs, IsTrip s.heap v (k v)) : Cmp prog w A s (tuples' true) (fun p => p.1 ∈ vs) (lt2 fun v u => lex3 (k v) (k u)) := by
  intro p q hm hm'
  have h1 := hp _ hm
  have h2 := hp _ hm'
  show wpAny (model prog w) A (keyLt' (tuples' true) p.1 q.1) (fun r s' => s' = s ∧ r = lex3 (k p.1) (k q.1)) (fun _ _ => False) s
  unfold lex3
  generalize k p.1 = x at h1 ⊢
  generalize k q.1 = y at h2 ⊢
  obtain ⟨x1, x2, x3⟩ := x
  obtain ⟨y1, y2, y3⟩ := y
  obtain ⟨a, o, t, u, r, n, e, ho, hc, hd⟩ := h1
  obtain ⟨a', o', t', u', r', n', e', ho', hc', hd'⟩ := h2
  rw [e, e']
  refine PySem.W.kat_lt ho hd ho' hd' ?_
  show PySem.W.KatLex prog w A true (decide (3 < 3)) _ [(.int x1 t, .int y1 t'), (.int x2 u, .int y2 u'), (.int x3 r, .int y3 r')] 0 s
  show PySem.W.KatLex prog w A true (decide (3 < 3)) (fun r s' => s' = s ∧ r = (if x1 = y1 then (if x2 = y2 then decide (x3 < y3) else decide (x2 < y2)) else decide (x1 < y1))) [(.int x1 t, .int y1 t'), (.int x2 u, .int y2 u'), (.int x3 r, .int y3 r')] 0 s
  refine PySem.W.kat_cons (SeqAt.EqAt.int_int x1 t y1 t' prog w _ _ ?_)
  refine PySem.W.kat_go (fun e1 => ?_) (fun e1 => ?_)
  · have ex : x1 = y1 := by simpa using e1
    rw [if_pos ex]
    refine PySem.W.kat_yes (PySem.W.kat_cons (SeqAt.EqAt.int_int x2 u y2 u' prog w _ _ ?_))
    refine PySem.W.kat_go (fun e2 => ?_) (fun e2 => ?_)
    · have ey : x2 = y2 := by simpa using e2
      rw [if_pos ey]
      refine PySem.W.kat_yes (PySem.W.kat_cons (SeqAt.EqAt.int_int x3 r y3 r' prog w _ _ ?_))
      refine PySem.W.kat_go (fun e3 => ?_) (fun e3 => ?_)
      · have ez : x3 = y3 := by simpa using e3
        have e4 : decide (x3 < y3) = false := by rw [ez]; exact decide_eq_false (Int.lt_irrefl _)
        exact PySem.W.kat_yes (PySem.W.kat_nil ⟨rfl, e4.symm⟩)
      · refine PySem.W.kat_no (PySem.W.kat_one _ _ (PyProof.Rows.lt_int ?_))
        exact (show s = s ∧ decide (x3 < y3) = decide (x3 < y3) from ⟨rfl, rfl⟩)
    · have ey : ¬ x2 = y2 := by simpa using e2
      rw [if_neg ey]
      refine PySem.W.kat_no (PySem.W.kat_one _ _ (PyProof.Rows.lt_int ?_))
      exact (show s = s ∧ decide (x2 < y2) = decide (x2 < y2) from ⟨rfl, rfl⟩)
  · have ex : ¬ x1 = y1 := by simpa using e1
    rw [if_neg ex]
    exact PySem.W.kat_no (oneLt_int ⟨rfl, rfl⟩)
theorem firsts_of3 {h : Heap} : ∀ {vs : List Value}, (∀ v ∈ vs, ∃ x, IsTrip h v x) → ∃ fs : List Value, PySem.W.KatTups h vs fs ∧ fs.length = vs.length ∧ ∀ f ∈ fs, ∃ x t, f = Value.int x t
  | [], _ => ⟨[], PySem.W.KatTups.nil, rfl, fun _ hm => by simp at hm⟩
  | v :: vs, hp => by
    obtain ⟨fs, h1, h2, h3⟩ := firsts_of3 (vs := vs) fun v' hm => hp v' (List.mem_cons_of_mem _ hm)
    obtain ⟨x, a, o, t, u, r, n, e, ho, hc, hd⟩ := hp v (List.mem_cons_self ..)
    subst e
    refine ⟨.int x.1 t :: fs, PySem.W.KatTups.cons ho hc hd rfl h1, by rw [List.length_cons, List.length_cons, h2], fun f hm => ?_⟩
    rcases List.mem_cons.mp hm with rfl | hm
    · exact ⟨x.1, t, rfl⟩
    · exact h3 f hm
theorem trips_sortableO {a : Addr} {vs : List Value} {k : Value → Int × Int × Int} (h0 : 0 < vs.length) (hp : ∀ v ∈ vs, IsTrip s.heap v (k v)) (ha : ∀ o, s.heap.get? a = some o → o.cls ≠ .type "tuple") : SortableO prog w A s a vs fun v u => lex3 (k v) (k u) := by
  intro h' keep
  have hp' : ∀ v ∈ vs, IsTrip h' v (k v) := fun v hm => (hp v hm).keeps fun b o e c => keep b o (fun z => by subst z; exact ha o e c) e
  obtain ⟨fs, h1, h2, h3⟩ := firsts_of3 fun v hm => ⟨_, hp' v hm⟩
  refine ⟨tuples' true, fun Q E hq => ?_, trip_cmp hp'⟩
  refine PySem.W.kat_kind (T := .type "int") h1 (by omega) (fun f hm => ?_) (by rfl) ?_
  · obtain ⟨x, t, rfl⟩ := h3 f hm
    exact PySem.W.Looks.now
  · have e : (Value.type "int" != Value.type "tuple") = true := by first | decide +kernel | rfl | decide
    rw [e]
    exact hq
theorem sorted_tripsO {l : Addr} {vs : List Value} {k : Value → Int × Int × Int} {Q : Value → Shared → Prop} (hl : s.heap.IsList l vs.toArray) (hz : vs.length ≤ sizeLine) (hp : ∀ v ∈ vs, IsTrip s.heap v (k v))
    (h : ∀ (h' : Heap) (d : Addr) (out : List Value), Srtd (fun v u => lex3 (k v) (k u)) out → Stb (fun v u => lex3 (k v) (k u)) out vs → (∀ b o, s.heap.get? b = some o → h'.get? b = some o) → s.heap.objs.size ≤ d → (∃ n, h'.get? d = some (seqObj "list" out.toArray n)) → Q (.ref d) { s with heap := h' }) :
    wpAny (model prog w) A (call (.builtin "sorted") [.ref l]) Q E s := by
  refine sorted_ord (swo_lex3 k) hl hz (fun h2 h₁ a ha kk => ?_) fun out hs hb => ?_
  · refine trips_sortableO (s := { s with heap := h₁ }) (by omega) (fun v hm => (hp v hm).keeps fun b o e _ => (kk b o e).2) fun o e => ?_
    have e' : some o = some (seqObj "list" vs.toArray 0) := e.symm.trans ha
    cases e'
    intro c
    exact absurd (Value.type.inj c) (by decide)
  · exact h _ _ out hs hb (fun b o e => sortedAll_old e) (Nat.le_succ _) (sortedAll_at s.heap vs out.toArray)
end
end SrtO
namespace L2
open PySem PySem.Spec PyProof.Rows
/-- sorted(xs), xs a list of triples of ints: a new list, sorted, a rearrangement -/
def rSorted3 (K : PySem.W.Frag) : List V → Hp → VK → Prop := fun vs H Q => ∃ (a : Addr) (xs : List V) (k : V → Int × Int × Int), vs = [V.ref a] ∧ SqL K H a xs ∧ (∀ x ∈ xs, ∃ t, x = V.ref t ∧ H t = some (.tup [.int (k x).1, .int (k x).2.1, .int (k x).2.2])) ∧
  ∀ ys p, SrtO.Srtd (fun x y => SrtO.lex3 (k x) (k y)) ys → ys.Perm xs → H p = none → Q (.ref p) (upd H p (.lst ys))
section
variable {X : Cx}
theorem vals3' {x y z : V} {us : List Value} (r : Vals [x, y, z] us) : ∃ u w' t', us = [u, w', t'] ∧ RelV x u ∧ RelV y w' ∧ RelV z t' := by
  cases r with
  | cons a r => cases r with
    | cons b r => cases r with
      | cons c r => cases r; exact ⟨_, _, _, rfl, a, b, c⟩
theorem cr_sorted3 : CallR X (.builtin "sorted") (rSorted3 X.K) := by
  intro pins s σ H vs us Q I r h
  obtain ⟨a, xs, k, rfl, hs, hx, q⟩ := h
  obtain ⟨its, rv, hl, hz⟩ := I.list hs
  obtain ⟨u, rfl, ru⟩ := vals1 r
  obtain rfl : u = Value.ref a := ru
  obtain ⟨e1, e2⟩ := refs_back rv fun x m => by
    obtain ⟨t, e, _⟩ := hx x m
    exact ⟨t, e⟩
  refine SrtO.sorted_tripsO (k := fun u => k (backV u)) hl.isList (by rw [← rv.length]; exact hz) (fun v hv => ?_) fun h' d out h1 h2 kp hd hn => ?_
  · obtain ⟨t, rfl⟩ := e2 v hv
    have hm : V.ref t ∈ xs := by rw [e1]; exact List.mem_map.mpr ⟨_, hv, rfl⟩
    obtain ⟨t', e, ht⟩ := hx _ hm
    cases e
    obtain ⟨_, its2, r2, o, ho, hc, n, hd⟩ := I.hok _ _ ht
    obtain ⟨u1, u2, u3, rfl, ri, rj, rk⟩ := vals3' r2
    obtain ⟨t1, rfl⟩ := ri
    obtain ⟨t2, rfl⟩ := rj
    obtain ⟨t3, rfl⟩ := rk
    exact ⟨t, o, t1, t2, t3, n, rfl, ho, hc, hd⟩
  · have h3 : ∀ u ∈ out, ∃ a, u = Value.ref a := fun u hu => e2 u (h2.perm.mem_iff.mp hu)
    obtain ⟨n, hn⟩ := hn
    have hb : (out.map backV).Perm xs := by
      rw [e1]
      exact h2.perm.map backV
    refine ⟨.ref d, upd H d (.lst (out.map backV)), I.laid (t' := s.toks) kp hd ⟨?_, out, n, vals_back h3, hn⟩, rfl, q _ d (SrtO.srtd_map (lt := fun x y => SrtO.lex3 (k x) (k y)) h1) hb (I.hok.fresh hd)⟩
    rw [hb.length_eq]
    exact hz
end
end L2
namespace PySem
open Sem (wp)
theorem meets_enumerate_newT {v : Value} {o : Obj} {H : Heap → Prop} (B : Begins v o H) :
    Meets (Builtin.«enumerate.__new__» ⟨[.type "enumerate", v], []⟩) (fun _ R s => H s.heap ∧
      R (.ok (.ret (.ref (s.heap.push o).objs.size))) { s with heap := (s.heap.push o).push { cls := .type "enumerate", data := .fields #[.none, .bool false, .ref s.heap.objs.size, rawInt 0, .none, .none] } }) :=
  .of_wp fun prog w A R s h => by
    obtain ⟨hp, g, d, tk, os⟩ := s; obtain ⟨h1, h⟩ := h
    have hsub := sub_enumerate
    have q1 : ∀ {A' : Around} {E : Value → Shared → Prop} {Q : Value → Shared → Prop}, Q (.ref hp.objs.size) ⟨hp.push o, g, d, tk, os⟩ → wpAny (model prog w) A' (pyIter v) Q E ⟨hp, g, d, tk, os⟩ :=
      fun q => B.iter prog w _ _ ⟨hp, g, d, tk, os⟩ _ h1 q
    wp_walk using q1
    refine wpAny_stack_any fun st => wpAny_pure ?_
    split
    · rename_i c _ _ _ _ _
      cases (c == Value.type "enumerate")
      · wp_walk using q1
        exact ⟨_, rfl, h⟩
      · wp_walk using q1
        exact ⟨_, rfl, h⟩
    · wp_walk using q1
      exact ⟨_, rfl, h⟩
section
variable {prog : Program} {w : World} {A : Around} {E : Value → Shared → Prop} {s : Shared}
theorem enum_begins1 {v : Value} {o : Obj} {H : Heap → Prop} {Q : Value → Shared → Prop} (B : Begins v o H) (h1 : H s.heap)
    (h : ∀ h', IsEnum h' (s.heap.objs.size + 1) s.heap.objs.size 0 .none → h'.get? s.heap.objs.size = some o → h'.objs.size = s.heap.objs.size + 2 →
      (∀ b o, s.heap.get? b = some o → h'.get? b = some o) → Q (.ref (s.heap.objs.size + 1)) { s with heap := h' }) :
    wpAny (model prog w) A (call (.type "enumerate") [v]) Q E s := by
  refine callType_new F.called_enumerate (by decide) (F.typeCall_enumerate_1 _) (F.newCall_enumerate_1 _) (fun obj => F.args_object_init_2 obj _) F.entry_enumerate_new
    (meets_enumerate_newT B) ⟨h1, ?_⟩
  have hz : (s.heap.push o).objs.size = s.heap.objs.size + 1 := Heap.size_push ..
  show _ ∧ _
  rw [hz]
  have he : IsEnum ((s.heap.push o).push { cls := .type "enumerate", data := .fields #[.none, .bool false, .ref s.heap.objs.size, rawInt 0, .none, .none] }) (s.heap.objs.size + 1) s.heap.objs.size 0 .none := by
    have := Heap.get?_push_size (s.heap.push o) (o := { cls := .type "enumerate", data := .fields #[.none, .bool false, .ref s.heap.objs.size, rawInt 0, .none, .none] }) rfl
    rw [hz] at this; exact this
  refine ⟨⟨_, he, rfl⟩, h _ he (Heap.get?_push_of_some _ (Heap.get?_push_size _ B.free)) (by rw [Heap.size_push, hz]) fun b o x => Heap.get?_push_of_some _ (Heap.get?_push_of_some _ x)⟩
theorem wpAny_pyNext_enum_endT {e it l : Addr} {i : Nat} {items : Array Value} {old : Value} {Q : Option Value → Shared → Prop} (hh : A.handled = none)
    (he : IsEnum s.heap e it i old) (hit : s.heap.IsTupleIter it l i) (hl : s.heap.IsTuple l items) (hx : items[i]? = none)
    (hQ : ∀ h', Heap.ExtBut it s.heap h' → Q none { s with heap := h' }) : wpAny (model prog w) A (pyNext (.ref e)) Q E s := by
  have hT : s.TypeIs (.ref e) "enumerate" := ⟨_, he, rfl⟩
  unfold pyNext
  refine wpAny_bind (wpAny_attempt (wpAny_callSpecial?_slot (name := Str.ofString "__next__") hT F.slot_enumerate_next
    (wpAny_call_entry F.slot_enumerate_next hT F.entry_enumerate_next ?_ (F.args_enumerate_next_1 _))))
  show wpAny _ _ (field (.ref e) 2 >>= _) _ _ _
  refine wpAny_bind (wpAny_field he rfl (x := .ref it) rfl ?_)
  refine wpAny_bind (wpAny_nextOf_tuple_end hh hit hl hx fun h' x he' hx' => ?_)
  obtain ⟨o, ho, hc⟩ := hx'
  refine wpAny_bind (wpAny_isInstance (T := "StopIteration") (b := true) ⟨o, ho, hc⟩ isSubtype_stop ?_)
  exact wpAny_pure (hQ _ he')
end
end PySem
namespace L2
open PySem PySem.Spec PyProof.Rows
/-! ### enumerate(tuple) -/
def Itet (K : PySem.W.Frag) (a : Addr) : It :=
  ⟨fun i H => ∃ (xs : List V) (x : V), SqT K H a xs ∧ xs[i]? = some x, fun i H v H' => ∃ T x, v = .ref T ∧ H T = none ∧ H' = upd H T (.tup [.int (i : Nat), x]) ∧ ∀ xs, SqT K H a xs → xs[i]? = some x, fun i H => ∃ xs : List V, SqT K H a xs ∧ xs.length ≤ i⟩
theorem turn_enumT {P : Program} {w : World} {K : PySem.W.Frag} {elts : List Expr} {kk : Nat} {tpos : Pos} (a e it : Addr) (hai : a ≠ it) (hea : e ≠ a) :
    Turn P w K (.Tuple elts kk tpos) (Itet K a) [e, it] e (fun i h => (∃ old, IsEnum h e it ((i : Nat) : Int) old) ∧ h.IsTupleIter it a i ∧ e ≠ it) where
  mem := by simp
  obj := fun i h st b hb => by
    obtain ⟨⟨old, he⟩, ⟨o, ho, hc, hd⟩, _⟩ := st
    have e' : b = e ∨ b = it := by simpa using hb
    rcases e' with z | z
    · rw [z]; exact ⟨_, he, fun v q => nomatch q⟩
    · rw [z]; exact ⟨o, ho, fun v q => by rw [hd] at q; cases q⟩
  keep := fun i h h' st k => let ⟨⟨old, he⟩, hi, hne⟩ := st; ⟨⟨old, k e (by simp) _ he⟩, hi.at fun o q => k it (by simp) o q, hne⟩
  item := by
    intro X hP hw hK hc i pins s σ H E I hf st hg
    subst hP hw hK
    obtain ⟨⟨old, he⟩, hit, hne⟩ := st
    obtain ⟨xs, x, hq, hx⟩ := hg
    obtain ⟨its, rv, p, hz⟩ := I.tuple hq
    obtain ⟨u, hu, ru⟩ := rv.get hx
    have hel : e < s.heap.objs.size := Heap.lt_size he
    have hil : it < s.heap.objs.size := by obtain ⟨_, q, _⟩ := hit; exact Heap.lt_size q
    have hpt : s.heap.IsTuple a its.toArray := p
    have hlt : i < its.toArray.size := by
      have := (List.getElem?_eq_some_iff.mp hu).1
      simpa using this
    refine wpAny_pyNext_enum_itemC (Draws.tuple (prog := X.prog) (w := X.w) (A := X.A.in1) (I.ok.hd hc) it a hai its.toArray) he ⟨hit, hpt⟩ hlt hne (by simp [hne, hea]) fun x' h' tk hx' ho hst' hT hsz hk => ?_
    have ex : x' = u := by
      have h2 : its.toArray[i]? = some u := by simpa using hu
      exact Option.some.inj (hx'.symm.trans h2)
    subst ex
    refine ⟨_, rfl, wpAny_letOwnedTupleGo_enum (s := { s with heap := h', toks := tk + 1 }) ho fun h'' he' sb => ?_⟩
    have hT2 : h''.get? s.heap.objs.size = some { cls := .type "tuple", data := .seq #[.int i tk, x'] } := (sb.2 _ (Nat.ne_of_gt hel)).trans hT
    have new : ObjOk X.prog X.w (upd H s.heap.objs.size (.tup [.int (i : Nat), x])) h'' s.heap.objs.size (.tup [.int (i : Nat), x]) :=
      ⟨by show 2 ≤ sizeLine; decide, [.int i tk, x'], .cons ⟨_, rfl⟩ (.cons ru .nil), ⟨_, hT2, rfl, _, rfl⟩⟩
    have I1 : Inv X pins σ (upd H s.heap.objs.size (.tup [.int (i : Nat), x])) { s with heap := h'', toks := tk + 1 } :=
      I.turnedNew (ch := [e, it]) (fun b ob hb q => (sb.2 b (fun z => hb (by simp [z]))).trans (hk b ob (fun z => hb (by simp [z])) (fun z => hb (by simp [z])) q)) hf (Nat.le_refl _) new
    refine ⟨.ref s.heap.objs.size, _, I1, rfl, ⟨_, x, rfl, I.hok.fresh (Nat.le_refl _), rfl, fun ys hy => by rw [I.tuple_inj hy hq]; exact hx⟩, ⟨⟨x', ?_⟩, hst'.1.at fun o q => (sb.2 it (Ne.symm hne)).trans q, hne⟩, fun b hb => ?_⟩
    · have e1 : ((i + 1 : Nat) : Int) = (i : Int) + 1 := by omega
      rw [e1]; exact he'
    · have hb' : b < s.heap.objs.size := by
        have e' : b = e ∨ b = it := by simpa using hb
        rcases e' with z | z
        · rw [z]; exact hel
        · rw [z]; exact hil
      rw [upd_ne (Nat.ne_of_lt hb')]
      exact (hf b hb).1
  done := by
    intro X hP hw hK hc i pins s σ H E I hf st hg
    subst hP hw hK
    obtain ⟨⟨old, he⟩, hit, hne⟩ := st
    obtain ⟨xs, hq, hx⟩ := hg
    obtain ⟨its, rv, p, hz⟩ := I.tuple hq
    obtain ⟨f0, f1, f2, f3, f4, f5⟩ := hf it (by simp)
    have hl := rv.length
    have hpt : s.heap.IsTuple a its.toArray := p
    exact wpAny_pyNext_enum_endT (I.ok.hd hc) he hit hpt (by simp; omega) fun h' eb => ⟨rfl, I.turned (t' := s.toks) (fun b o hb q => eb b o hb q) f0 f1 f3 f4 f5⟩
  self := fun A i s Q E st h => let ⟨⟨_, he⟩, _⟩ := st; wpAny_pyIter_enum he h
def iEnumT (K : PySem.W.Frag) (ta : TA) : TI := fun σ H R => ta σ H fun vs H1 => ∃ a xs, vs = [.ref a] ∧ SqT K H1 a xs ∧ R (Itet K a) H1
theorem pi_enumT {X : Cx} {e : Expr} {ta : TA} {p pos tpos : Pos} {elts : List Expr} {kk : Nat} (hg : Gl X "enumerate") (hm : X.mg "enumerate" = none) (ha : PA X [e] ta) (hs : starEach [e] X.env = [(false, eval e X.env)] := by rfl) :
    PI X (.Tuple elts kk tpos) (.Call (.Name "enumerate" p) [e] [] pos) (iEnumT X.K ta) := by
  refine ⟨fun pins s σ H R I h => ?_⟩
  refine Call_ (ld_blt I hg hm boot_enumerate (PyProof.Rows.callWith_type1 (thn (ha.run pos pins s σ H _ I h) fun us s1 ⟨vs, H1, I1, r1, q1⟩ => ?_) hs rfl))
  obtain ⟨a, xs, ex, hq, q⟩ := q1
  subst ex
  cases r1 with
  | cons r rr =>
    cases rr
    cases r
    obtain ⟨its, rv, p', hz⟩ := I1.tuple hq
    have hpt : s1.heap.IsTuple a its.toArray := p'
    have hal : a < s1.heap.objs.size := by obtain ⟨o, ho, _⟩ := hpt; exact Heap.lt_size ho
    refine enum_begins1 (begins_tuple a its.toArray) hpt fun h' he hit hsz hk => wpAny_pyIter_enum he ?_
    have I2 : Inv X pins σ H1 { s1 with heap := h' } := I1.kept (t' := s1.toks) hk
    refine ⟨s1.heap.objs.size + 1, [s1.heap.objs.size + 1, s1.heap.objs.size], _, _, H1, rfl, I2, turn_enumT a (s1.heap.objs.size + 1) s1.heap.objs.size (Nat.ne_of_lt hal) (Nat.ne_of_gt (Nat.lt_succ_of_lt hal)), ⟨⟨.none, he⟩, ⟨_, hit, rfl, rfl⟩, Nat.succ_ne_self _⟩, fun b hb => ?_, q⟩
    have e' : b = s1.heap.objs.size + 1 ∨ b = s1.heap.objs.size := by simpa using hb
    have hle : s1.heap.objs.size ≤ b := by
      rcases e' with z | z
      · rw [z]; exact Nat.le_add_right _ _
      · rw [z]; exact Nat.le_refl _
    exact I1.fpOk hle (I1.hok.fresh hle)
end L2
namespace My
open PySem PySem.Spec PyProof.Rows L2

/-! ### heaps: all stands; all but one object stands; what never changes stands -/
def Ex (H H' : Hp) : Prop := ∀ b o, H b = some o → H' b = some o
def ExB (a : Addr) (H H' : Hp) : Prop := ∀ b o, b ≠ a → H b = some o → H' b = some o
def Imm : HO → Prop
  | .tup _ => True
  | .ins _ _ _ => True
  | .frz _ _ => True
  | _ => False
def Ki (H H' : Hp) : Prop := ∀ b o, Imm o → H b = some o → H' b = some o
theorem Ex.rfl {H : Hp} : Ex H H := fun _ _ h => h
theorem Ex.trans {H H1 H2 : Hp} (a : Ex H H1) (b : Ex H1 H2) : Ex H H2 := fun x o h => b x o (a x o h)
theorem Ex.new {H : Hp} {p : Addr} {o : HO} (h : H p = none) : Ex H (upd H p o) := fun a u e => by
  rw [upd_ne (ne_of_none e h)]
  exact e
theorem Ex.mut {H H' : Hp} {p : Addr} {o : HO} (e : Ex H H') (h : H p = none) : Ex H (upd H' p o) := fun a u ha => by
  rw [upd_ne (ne_of_none ha h)]
  exact e a u ha
theorem Ex.free {H H' : Hp} {p : Addr} (e : Ex H H') (h : H' p = none) : H p = none := by
  cases h1 : H p with
  | none => rfl
  | some o => rw [e p o h1] at h; cases h
theorem Ex.ki {H H' : Hp} (e : Ex H H') : Ki H H' := fun b o _ h => e b o h
theorem Ex.exB {H H' : Hp} {a : Addr} (e : Ex H H') : ExB a H H' := fun b o _ h => e b o h
theorem ExB.rfl {a : Addr} {H : Hp} : ExB a H H := fun _ _ _ h => h
theorem ExB.trans {a : Addr} {H H1 H2 : Hp} (x : ExB a H H1) (y : ExB a H1 H2) : ExB a H H2 := fun b o n h => y b o n (x b o n h)
theorem ExB.upd {a : Addr} {H : Hp} {o : HO} : ExB a H (upd H a o) := fun b u n h => by rw [upd_ne n]; exact h
theorem ExB.mut {a : Addr} {H H' : Hp} {p : Addr} {o : HO} (e : ExB a H H') (h : H p = none) : ExB a H (L2.upd H' p o) := fun b u n hb => by
  rw [upd_ne (ne_of_none hb h)]
  exact e b u n hb
theorem Ki.rfl {H : Hp} : Ki H H := fun _ _ _ h => h
theorem Ki.trans {H H1 H2 : Hp} (x : Ki H H1) (y : Ki H1 H2) : Ki H H2 := fun b o i h => y b o i (x b o i h)
theorem Ki.mut {H H' : Hp} {p : Addr} {o : HO} (e : Ki H H') (h : H p = none) : Ki H (L2.upd H' p o) := fun b u n hb => by
  rw [upd_ne (ne_of_none hb h)]
  exact e b u n hb
/-- a list is changed -/
theorem Ki.lst {H H' : Hp} {p : Addr} {xs : List V} {o : HO} (e : Ki H H') (h : H' p = some (.lst xs)) : Ki H (L2.upd H' p o) := fun b u n hb => by
  have h2 := e b u n hb
  have : b ≠ p := fun z => by
    subst z
    rw [h] at h2
    cases h2
    exact n
  rw [upd_ne this]
  exact h2
theorem ExB.ki {a : Addr} {H H' : Hp} {xs : List V} (e : ExB a H H') (h : H a = some (.lst xs)) : Ki H H' := fun b o i hb => e b o (fun z => by
  subst z
  rw [h] at hb
  cases hb
  exact i) hb
theorem ki_rd {H H' : Hp} {a : Addr} {xs : List V} (e : Ki H H') (h : Rd H a (.tup xs)) : Rd H' a (.tup xs) := by
  rcases h with h | ⟨o, h⟩
  · exact .inl (e a _ trivial h)
  · exact .inr ⟨o, e a _ trivial h⟩
theorem _root_.L2.SqT.ki {K : PySem.W.Frag} {H H' : Hp} {a : Addr} {xs : List V} (h : SqT K H a xs) (e : Ki H H') : SqT K H' a xs := by
  rcases h with h | h
  · exact .inl (ki_rd e h)
  · exact .inr h
theorem SqLex {K : PySem.W.Frag} {H H' : Hp} {a : Addr} {xs : List V} (h : SqL K H a xs) (e : Ex H H') : SqL K H' a xs := by
  rcases h with (h | ⟨o, h⟩) | h
  · exact .inl (.inl (e _ _ h))
  · exact .inl (.inr ⟨o, e _ _ h⟩)
  · exact .inr h

/-! ### items side by side -/
def Al {α : Type} (R : V → α → Prop) (xs : List V) (as : List α) : Prop := xs.length = as.length ∧ ∀ (i : Nat) (x : V) (a : α), xs[i]? = some x → as[i]? = some a → R x a
section
variable {α β : Type} {R R' : V → α → Prop} {xs ys : List V} {as bs : List α}
theorem Al.imp (h : Al R xs as) (f : ∀ x a, R x a → R' x a) : Al R' xs as := ⟨h.1, fun i x a h1 h2 => f x a (h.2 i x a h1 h2)⟩
theorem Al.nil : Al R [] [] := ⟨rfl, fun i x a h _ => by simp at h⟩
theorem Al.cons {x : V} {a : α} (h : R x a) (t : Al R xs as) : Al R (x :: xs) (a :: as) := by
  refine ⟨by simp [t.1], fun i y b h1 h2 => ?_⟩
  cases i with
  | zero => simp at h1 h2; subst h1 h2; exact h
  | succ i => simp at h1 h2; exact t.2 i y b h1 h2
theorem Al.inv {x : V} {a : α} (h : Al R (x :: xs) (a :: as)) : R x a ∧ Al R xs as :=
  ⟨h.2 0 x a rfl rfl, ⟨by have := h.1; simpa using this, fun i y b h1 h2 => h.2 (i + 1) y b (by simpa using h1) (by simpa using h2)⟩⟩
theorem Al.nil_inv (h : Al R [] as) : as = [] := by
  have := h.1
  exact List.length_eq_zero_iff.mp this.symm
theorem Al.snoc {x : V} {a : α} (t : Al R xs as) (h : R x a) : Al R (xs ++ [x]) (as ++ [a]) := by
  refine ⟨by simp [t.1], fun i y b h1 h2 => ?_⟩
  rcases Nat.lt_or_ge i xs.length with hi | hi
  · rw [List.getElem?_append_left hi] at h1
    rw [List.getElem?_append_left (by rw [← t.1]; exact hi)] at h2
    exact t.2 i y b h1 h2
  · rw [List.getElem?_append_right hi] at h1
    rw [List.getElem?_append_right (by rw [← t.1]; exact hi)] at h2
    have e : i - xs.length = 0 := by
      have := (List.getElem?_eq_some_iff.mp h1).1
      simp at this
      omega
    rw [e] at h1
    rw [← t.1, e] at h2
    simp at h1 h2
    subst h1 h2
    exact h
theorem Al.get (h : Al R xs as) {i : Nat} {x : V} (e : xs[i]? = some x) : ∃ a, as[i]? = some a ∧ R x a := by
  have h1 := (List.getElem?_eq_some_iff.mp e).1
  have h2 : i < as.length := by rw [← h.1]; exact h1
  exact ⟨as[i], List.getElem?_eq_getElem h2, h.2 i x _ e (List.getElem?_eq_getElem h2)⟩
theorem Al.get' (h : Al R xs as) {i : Nat} {a : α} (e : as[i]? = some a) : ∃ x, xs[i]? = some x ∧ R x a := by
  have h1 := (List.getElem?_eq_some_iff.mp e).1
  have h2 : i < xs.length := by rw [h.1]; exact h1
  exact ⟨xs[i], List.getElem?_eq_getElem h2, h.2 i _ a (List.getElem?_eq_getElem h2) e⟩
theorem Al.map {f : α → V} (h : Al (fun x a => x = f a) xs as) : xs = as.map f := by
  refine List.ext_getElem? fun i => ?_
  rw [List.getElem?_map]
  cases e : xs[i]? with
  | none =>
    have : as[i]? = none := by
      rw [List.getElem?_eq_none_iff] at e ⊢
      rw [← h.1]; exact e
    rw [this]; rfl
  | some x =>
    obtain ⟨a, h1, h2⟩ := h.get e
    rw [h1, h2]; rfl
theorem Al.of_map {f : α → V} {as : List α} (h : ∀ a, a ∈ as → R (f a) a) : Al R (as.map f) as := by
  refine ⟨by simp, fun i x a h1 h2 => ?_⟩
  rw [List.getElem?_map, h2] at h1
  cases h1
  exact h a (List.mem_of_getElem? h2)
end
theorem take_snoc {α : Type} : ∀ {l : List α} {i : Nat} {x : α}, l[i]? = some x → l.take (i + 1) = l.take i ++ [x]
  | [], i, x, h => by simp at h
  | a :: l, 0, x, h => by
    have e : a = x := Option.some.inj h
    subst e
    rfl
  | a :: l, i + 1, x, h => by
    have ih := take_snoc (l := l) (i := i) (x := x) h
    show a :: l.take (i + 1) = a :: l.take i ++ [x]
    rw [ih]
    rfl

/-! ### pure parts: whatever follows -/
def EvR (te : TE) (σ : L2.St) (H : Hp) (P : V → Hp → Prop) : Prop := ∀ Q : VK, (∀ v H', Ex H H' → P v H' → Q v H') → te σ H Q
def TvR (t : TT) (σ : L2.St) (H : Hp) (b : Bool) : Prop := ∀ Q : Bool → Hp → Prop, (∀ H', Ex H H' → Q b H') → t σ H Q
def GvR (g : TG) (x : V) (σ : L2.St) (H : Hp) (σ2 : L2.St) : Prop := ∀ Q : L2.St → Hp → Prop, (∀ H', Ex H H' → Q σ2 H') → g x σ H Q
theorem tv_yes {σ : L2.St} {H : Hp} : TvR tYes σ H true := fun Q q => q H Ex.rfl
theorem gv_name {i : Nat} {x : V} {σ : L2.St} {H : Hp} : GvR (gName i) x σ H (σ.set i (some x)) := fun Q q => q H Ex.rfl
section
variable {K : PySem.W.Frag} {α : Type} {as : List α} {kp : α → Bool} {RB : α → V → Hp → Prop} {g : TG} {tt : TT} {te : TE} {vs : List Nat} {σ : L2.St} {H : Hp} {D : Addr}
/-- what a pure comprehension keeps between two turns -/
def CW (H : Hp) (as : List α) (kp : α → Bool) (RB : α → V → Hp → Prop) (D : Addr) (i : Nat) (H1 : Hp) : Prop :=
  H D = none ∧ Ex H H1 ∧ ∃ ys, H1 D = some (.lst ys) ∧ Al (fun y a => RB a y H1) ys ((as.take i).filter kp)
/-- one turn's part of the lemma below -/
def Turns (H : Hp) (x : V) (a : α) (kp : α → Bool) (RB : α → V → Hp → Prop) (g : TG) (tt : TT) (te : TE) (vs : List Nat) (σ : L2.St) : Prop :=
  ∀ H1, Ex H H1 → ∃ σ2, GvR g x (wipe σ vs) H1 σ2 ∧ wipe σ2 vs = wipe σ vs ∧ (∀ H2, Ex H1 H2 → TvR tt σ2 H2 (kp a)) ∧ (kp a = true → ∀ H2, Ex H1 H2 → EvR te σ2 H2 (RB a))
theorem cw_turn {H0 : Hp} (mono : ∀ a y H1 H2, Ki H1 H2 → RB a y H1 → RB a y H2) (hl : as.length < 100000) {i : Nat} {a : α} {x : V} (hi : as[i]? = some a) (T : Turns H0 x a kp RB g tt te vs σ) {H1 : Hp} (e0 : Ex H0 H1) (p : CW H as kp RB D i H1) :
    g x (wipe σ vs) H1 fun σ2 H2 => wipe σ2 vs = wipe σ vs ∧ tt σ2 H2 fun b H3 =>
      if b = true then te σ2 H3 fun y H4 => ∃ acc, H4 D = some (.lst acc) ∧ acc.length < sizeLine ∧ CW H as kp RB D (i + 1) (upd H4 D (.lst (acc ++ [y]))) else CW H as kp RB D (i + 1) H3 := by
  obtain ⟨p1, p2, ys, p3, p4⟩ := p
  obtain ⟨σ2, hg, w, ht, he⟩ := T H1 e0
  refine hg _ fun H2 e2 => ⟨w, ht H2 e2 _ fun H3 e3 => ?_⟩
  have e13 := e2.trans e3
  cases hk : kp a with
  | false =>
    refine iteF ⟨p1, p2.trans e13, ys, e13 _ _ p3, ?_⟩
    rw [take_snoc hi, List.filter_append, List.filter_cons_of_neg (by rw [hk]; decide), List.filter_nil, List.append_nil]
    exact p4.imp fun y b => mono b y _ _ e13.ki
  | true =>
    refine iteT (he hk H3 e13 _ fun y H4 e4 hy => ?_)
    have e14 := e13.trans e4
    have hlen : ys.length ≤ as.length := by
      rw [p4.1]
      exact Nat.le_trans (List.length_filter_le _ _) (by rw [List.length_take]; omega)
    refine ⟨ys, e14 _ _ p3, Nat.lt_of_lt_of_le (Nat.lt_of_le_of_lt hlen hl) (by decide), p1, Ex.mut (p2.trans e14) p1, ys ++ [y], upd_same, ?_⟩
    rw [take_snoc hi, List.filter_append, List.filter_cons_of_pos hk, List.filter_nil]
    have kd : Ki H4 (upd H4 D (.lst (ys ++ [y]))) := Ki.lst Ki.rfl (e14 _ _ p3)
    exact (p4.imp fun y b h => mono b y _ _ (e14.ki.trans kd) h).snoc (mono a y _ _ kd hy)
/-- over a tuple -/
theorem lcT {xs : List V} {a : Addr} {Q : VK} (hx : SqT K H a xs) (hxa : xs.length = as.length) (hl : as.length < 100000) (mono : ∀ a y H1 H2, Ki H1 H2 → RB a y H1 → RB a y H2)
    (ht : ∀ (i : Nat) (x : V) (b : α), xs[i]? = some x → as[i]? = some b → Turns H x b kp RB g tt te vs σ)
    (k : ∀ p ys H1, H p = none → Ex H H1 → H1 p = some (.lst ys) → Al (fun y a => RB a y H1) ys (as.filter kp) → Q (.ref p) H1) :
    ∃ a', V.ref a = .ref a' ∧ (∃ xs, SqT K H a' xs) ∧ (fun (J : It) H1 => ∀ D, H1 D = none → ∃ W : Nat → Nat → Hp → Prop, (∃ m, W 0 m (upd H1 D (.lst []))) ∧ ∀ i m H, W i m H →
      (J.stop i H ∧ Q (.ref D) H) ∨ (J.go i H ∧ ∃ Nx : Hp → Prop, (∀ H', Nx H' → ∃ m', m' < m ∧ W (i + 1) m' H') ∧ ∀ x H', J.yld i H x H' → g x (wipe σ vs) H' fun σ2 H2 => wipe σ2 vs = wipe σ vs ∧ tt σ2 H2 fun b H3 =>
        if b = true then te σ2 H3 fun y H4 => ∃ acc, H4 D = some (.lst acc) ∧ acc.length < sizeLine ∧ Nx (upd H4 D (.lst (acc ++ [y]))) else Nx H3)) (Itt K a') H := by
  refine ⟨a, rfl, ⟨xs, hx⟩, fun D hD => ?_⟩
  refine lc_tup (K := K) (a := a) (xs := xs) (CW H as kp RB D) ⟨hD, Ex.new hD, [], upd_same, by simpa using Al.nil⟩ (fun i H' _ p => hx.ki p.2.1.ki) (fun i x H' hi p => ?_) fun H' p => ?_
  · have hi2 : i < as.length := by rw [← hxa]; exact (List.getElem?_eq_some_iff.mp hi).1
    exact cw_turn mono hl (List.getElem?_eq_getElem hi2) (ht i x _ hi (List.getElem?_eq_getElem hi2)) p.2.1 p
  · obtain ⟨p1, p2, ys, p3, p4⟩ := p
    rw [hxa, List.take_length] at p4
    exact k D ys H' p1 p2 p3 p4
/-- over a list -/
theorem lcL {xs : List V} {a : Addr} {Q : VK} (hx : SqL K H a xs) (hxa : xs.length = as.length) (hl : as.length < 100000) (mono : ∀ a y H1 H2, Ki H1 H2 → RB a y H1 → RB a y H2)
    (ht : ∀ (i : Nat) (x : V) (b : α), xs[i]? = some x → as[i]? = some b → Turns H x b kp RB g tt te vs σ)
    (k : ∀ p ys H1, H p = none → Ex H H1 → H1 p = some (.lst ys) → Al (fun y a => RB a y H1) ys (as.filter kp) → Q (.ref p) H1) :
    ∃ a', V.ref a = .ref a' ∧ (∃ xs, SqL K H a' xs) ∧ (fun (J : It) H1 => ∀ D, H1 D = none → ∃ W : Nat → Nat → Hp → Prop, (∃ m, W 0 m (upd H1 D (.lst []))) ∧ ∀ i m H, W i m H →
      (J.stop i H ∧ Q (.ref D) H) ∨ (J.go i H ∧ ∃ Nx : Hp → Prop, (∀ H', Nx H' → ∃ m', m' < m ∧ W (i + 1) m' H') ∧ ∀ x H', J.yld i H x H' → g x (wipe σ vs) H' fun σ2 H2 => wipe σ2 vs = wipe σ vs ∧ tt σ2 H2 fun b H3 =>
        if b = true then te σ2 H3 fun y H4 => ∃ acc, H4 D = some (.lst acc) ∧ acc.length < sizeLine ∧ Nx (upd H4 D (.lst (acc ++ [y]))) else Nx H3)) (Itl K a') H := by
  refine ⟨a, rfl, ⟨xs, hx⟩, fun D hD => ?_⟩
  refine lc_list (K := K) (a := a) (xs := xs) (CW H as kp RB D) ⟨hD, Ex.new hD, [], upd_same, by simpa using Al.nil⟩ (fun i H' _ p => SqLex hx p.2.1) (fun i x H' hi p => ?_) fun H' p => ?_
  · have hi2 : i < as.length := by rw [← hxa]; exact (List.getElem?_eq_some_iff.mp hi).1
    exact cw_turn mono hl (List.getElem?_eq_getElem hi2) (ht i x _ hi (List.getElem?_eq_getElem hi2)) p.2.1 p
  · obtain ⟨p1, p2, ys, p3, p4⟩ := p
    rw [hxa, List.take_length] at p4
    exact k D ys H' p1 p2 p3 p4
end
section
variable {n : Nat} {kp : Nat → Bool} {RB : Nat → V → Hp → Prop} {g : TG} {tt : TT} {te : TE} {vs : List Nat} {σ : L2.St} {H : Hp} {D : Addr}
/-- over range(n) -/
theorem lcR1 {j : Int} {Q : VK} (hj : j = (n : Int)) (hl : n < 100000) (mono : ∀ a y H1 H2, Ki H1 H2 → RB a y H1 → RB a y H2)
    (ht : ∀ (i : Nat), i < n → Turns H (.int (i : Int)) i kp RB g tt te vs σ)
    (k : ∀ p ys H1, H p = none → Ex H H1 → H1 p = some (.lst ys) → Al (fun y a => RB a y H1) ys ((List.range n).filter kp) → Q (.ref p) H1) :
    ∃ j' : Int, [V.int j] = [.int j'] ∧ -(2 ^ 62) ≤ j' ∧ j' < 2 ^ 62 ∧ (fun (J : It) H1 => ∀ D, H1 D = none → ∃ W : Nat → Nat → Hp → Prop, (∃ m, W 0 m (upd H1 D (.lst []))) ∧ ∀ i m H, W i m H →
      (J.stop i H ∧ Q (.ref D) H) ∨ (J.go i H ∧ ∃ Nx : Hp → Prop, (∀ H', Nx H' → ∃ m', m' < m ∧ W (i + 1) m' H') ∧ ∀ x H', J.yld i H x H' → g x (wipe σ vs) H' fun σ2 H2 => wipe σ2 vs = wipe σ vs ∧ tt σ2 H2 fun b H3 =>
        if b = true then te σ2 H3 fun y H4 => ∃ acc, H4 D = some (.lst acc) ∧ acc.length < sizeLine ∧ Nx (upd H4 D (.lst (acc ++ [y]))) else Nx H3)) (Itr 0 j'.toNat) H := by
  subst hj
  refine ⟨_, rfl, by omega, by omega, fun D hD => ?_⟩
  rw [Int.toNat_natCast]
  refine lc_range (lo := 0) (n := n) (CW H (List.range n) kp RB D) ⟨hD, Ex.new hD, [], upd_same, by simpa using Al.nil⟩ (fun i H' hi p => ?_) fun H' p => ?_
  · have hi2 : (List.range n)[i]? = some i := by rw [List.getElem?_range hi]
    have e0 : (0 : Int) + (i : Int) = (i : Int) := Int.zero_add _
    show g (.int ((0 : Int) + (i : Int))) _ _ _
    rw [e0]
    exact cw_turn mono (by simpa using hl) hi2 (ht i hi) p.2.1 p
  · obtain ⟨p1, p2, ys, p3, p4⟩ := p
    have e : (List.range n).take n = List.range n := List.take_of_length_le (by simp)
    rw [e] at p4
    exact k D ys H' p1 p2 p3 p4
end
end My
namespace My
open PySem PySem.Spec PyProof.Rows L2

/-! ### things of a known kind -/
inductive Sml (K : PySem.W.Frag) (H : Hp) : V → String → Prop where
  | non : Sml K H .non "NoneType"
  | bl (b : Bool) : Sml K H (.bl b) "bool"
  | int (i : Int) : Sml K H (.int i) "int"
  | str (x : PySem.Str) : Sml K H (.str x) "str"
  | lst {a : Addr} {xs : List V} (h : H a = some (.lst xs)) : Sml K H (.ref a) "list"
  | tup {a : Addr} {xs : List V} (h : SqT K H a xs) : Sml K H (.ref a) "tuple"
  | dic {a : Addr} {kvs : List (Key × V)} (h : H a = some (.dK kvs)) : Sml K H (.ref a) "dict"
theorem TyOf_tup {K : PySem.W.Frag} {H : Hp} {a : Addr} {xs : List V} (h : SqT K H a xs) : TyX K H (.ref a) (.type "tuple") := by
  rcases h with (h | ⟨o, h⟩) | ⟨o, its, n, hk, hc, hd, hz, r⟩
  · exact .base (.tup h)
  · exact .fTuple h
  · exact .kTuple hk hc
theorem Sml.ty {K : PySem.W.Frag} {H : Hp} {x : V} {n : String} (h : Sml K H x n) : TyX K H x (.type n) := by
  cases h with
  | non => exact .base .non
  | bl b => exact .base (.bl b)
  | int i => exact .base (.int i)
  | str x => exact .base (.str x)
  | lst h => exact .base (.lst h)
  | tup h => exact TyOf_tup h
  | dic h => exact .base (.dK h)
def wholeV : V → Bool
  | .int _ => true
  | _ => false
def kindN (n : String) : Prop := n = "NoneType" ∨ n = "bool" ∨ n = "int" ∨ n = "str" ∨ n = "list" ∨ n = "tuple" ∨ n = "dict"
theorem Sml.kind {K : PySem.W.Frag} {H : Hp} {x : V} {n : String} (h : Sml K H x n) : kindN n := by
  unfold kindN
  cases h <;> simp
theorem Sml.whole {K : PySem.W.Frag} {H : Hp} {x : V} {n : String} (h : Sml K H x n) : wholeV x = decide (n = "int") := by
  cases h <;> rfl
/-- isinstance(x, T): one class -/
theorem isi_of {K : PySem.W.Frag} {H : Hp} {x : V} {n T : String} {b : Bool} {Q : VK} (h : Sml K H x n) (e : kitB n T = some b) (q : Q (.bl b) H) : rIsi K [x, .ty T] H Q :=
  ⟨x, .ty T, .type n, .type T, b, rfl, .ty T, h.ty, kit_ty e, q⟩
theorem kit_int {n : String} (h : kindN n) : ∃ b, kitB n "int" = some b ∧ b = (decide (n = "int") || decide (n = "bool")) := by
  unfold kindN at h
  rcases h with h | h | h | h | h | h | h <;> subst h <;> exact ⟨(decide (_ = "int") || decide (_ = "bool")), by decide +kernel, rfl⟩
theorem kit_bool {n : String} (h : kindN n) : kitB n "bool" = some (decide (n = "bool")) := by
  unfold kindN at h
  rcases h with h | h | h | h | h | h | h <;> subst h <;> decide +kernel
theorem kit_tuple {n : String} (h : kindN n) : kitB n "tuple" = some (decide (n = "tuple")) := by
  unfold kindN at h
  rcases h with h | h | h | h | h | h | h <;> subst h <;> decide +kernel
theorem kit_str {n : String} (h : kindN n) : kitB n "str" = some (decide (n = "str")) := by
  unfold kindN at h
  rcases h with h | h | h | h | h | h | h <;> subst h <;> decide +kernel
theorem kit_list {n : String} (h : kindN n) : kitB n "list" = some (decide (n = "list")) := by
  unfold kindN at h
  rcases h with h | h | h | h | h | h | h <;> subst h <;> decide +kernel

/-! ### in: ints -/
theorem inV_int (l : Int) (st : List Int) : inV (.int l) (st.map V.int) = decide (l ∈ st) := by
  unfold inV
  induction st with
  | nil => simp
  | cons x r ih =>
    rw [List.map_cons, List.any_cons, ih]
    by_cases e : x = l
    · subst e; simp [eqV]
    · have : l ≠ x := fun z => e z.symm
      simp [eqV, e, this]
theorem flat_ints (st : List Int) : (st.map V.int).all flatV = true := by
  rw [List.all_eq_true]
  intro x hx
  obtain ⟨i, _, rfl⟩ := List.mem_map.mp hx
  rfl

/-! ### houses -/
def PairV (K : PySem.W.Frag) (H : Hp) (v : V) (p : Int × Int) : Prop := ∃ t, v = .ref t ∧ SqT K H t [.int p.1, .int p.2]
def TripV (K : PySem.W.Frag) (H : Hp) (v : V) (p : Int × Int × Int) : Prop := ∃ t, v = .ref t ∧ SqT K H t [.int p.1, .int p.2.1, .int p.2.2]
def LendV (K : PySem.W.Frag) (H : Hp) (v : V) (ps : List (Int × Int)) : Prop := ∃ t xs, v = .ref t ∧ SqT K H t xs ∧ Al (PairV K H) xs ps
theorem PairV.ki {K : PySem.W.Frag} {H H' : Hp} {v : V} {p : Int × Int} (h : PairV K H v p) (e : Ki H H') : PairV K H' v p := let ⟨t, h1, h2⟩ := h; ⟨t, h1, h2.ki e⟩
theorem TripV.ki {K : PySem.W.Frag} {H H' : Hp} {v : V} {p : Int × Int × Int} (h : TripV K H v p) (e : Ki H H') : TripV K H' v p := let ⟨t, h1, h2⟩ := h; ⟨t, h1, h2.ki e⟩
theorem LendV.ki {K : PySem.W.Frag} {H H' : Hp} {v : V} {p : List (Int × Int)} (h : LendV K H v p) (e : Ki H H') : LendV K H' v p := let ⟨t, xs, h1, h2, h3⟩ := h; ⟨t, xs, h1, h2.ki e, h3.imp fun _ _ z => z.ki e⟩
structure Hs where
  lat : List (Int × Int)
  hel : List (Int × Int × Int)
def lendOf (hel : List (Int × Int × Int)) (l : Int) : List (Int × Int) := (hel.filter fun h => decide (h.2.1 = l)).map fun h => (h.1, h.2.2)
def Hs.n (h : Hs) : Nat := h.lat.length
def Hs.lends (h : Hs) : List (List (Int × Int)) := (List.range h.n).map fun (l : Nat) => lendOf h.hel (l : Int)
structure HsOk (h : Hs) : Prop where
  n1 : 1 ≤ h.n
  n14 : h.n ≤ 14
  few : h.hel.length < 1000
def hfs (a b c : V) : List (PySem.Str × V) := putF "_lenders" c (putF "_helps" b (putF "_latches" a []))
theorem lh_ne : ¬ (("_latches" : PySem.Str) = "_helps") := by decide +kernel
theorem ll_ne : ¬ (("_latches" : PySem.Str) = "_lenders") := by decide +kernel
theorem hl_ne : ¬ (("_helps" : PySem.Str) = "_lenders") := by decide +kernel
theorem hfs_lat (a b c : V) : (hfs a b c).lookup ("_latches" : PySem.Str) = some a := by
  unfold hfs; rw [lookup_putF, if_neg ll_ne, lookup_putF, if_neg lh_ne, lookup_putF, if_pos rfl]
theorem hfs_hel (a b c : V) : (hfs a b c).lookup ("_helps" : PySem.Str) = some b := by
  unfold hfs; rw [lookup_putF, if_neg hl_ne, lookup_putF, if_pos rfl]
theorem hfs_len (a b c : V) : (hfs a b c).lookup ("_lenders" : PySem.Str) = some c := by
  unfold hfs; rw [lookup_putF, if_pos rfl]
theorem hfs_no (a b c : V) {m : PySem.Str} (h1 : ¬ m = "_lenders") (h2 : ¬ m = "_helps") (h3 : ¬ m = "_latches") : (hfs a b c).lookup m = none := by
  unfold hfs; rw [lookup_putF, if_neg h1, lookup_putF, if_neg h2, lookup_putF, if_neg h3]
  rfl
structure HouseV (K : PySem.W.Frag) (C : Addr) (H : Hp) (a : Addr) (h : Hs) : Prop where
  ob : ∃ dx tl th tn xl xh xn, H a = some (.ins C dx (hfs (.ref tl) (.ref th) (.ref tn))) ∧ SqT K H tl xl ∧ Al (PairV K H) xl h.lat ∧ SqT K H th xh ∧ Al (TripV K H) xh h.hel ∧ SqT K H tn xn ∧ Al (LendV K H) xn h.lends
  ok : HsOk h
theorem HouseV.ki {K : PySem.W.Frag} {C : Addr} {H H' : Hp} {a : Addr} {h : Hs} (x : HouseV K C H a h) (e : Ki H H') : HouseV K C H' a h := by
  obtain ⟨⟨dx, tl, th, tn, xl, xh, xn, h1, h2, h3, h4, h5, h6, h7⟩, ok⟩ := x
  exact ⟨⟨dx, tl, th, tn, xl, xh, xn, e _ _ trivial h1, h2.ki e, h3.imp fun _ _ z => z.ki e, h4.ki e, h5.imp fun _ _ z => z.ki e, h6.ki e, h7.imp fun _ _ z => z.ki e⟩, ok⟩
/-- a stand: rising latches of a house of n -/
structure StOk (n : Nat) (st : List Int) : Prop where
  up : st.Pairwise (· < ·)
  lo : ∀ x ∈ st, 0 ≤ x
  hi : ∀ x ∈ st, x < (n : Int)
/-! ### what a house and a stand come to -/
def Hs.up (h : Hs) (l : Nat) : Int := (h.lat.getD l (0, 0)).1
def Hs.dn (h : Hs) (l : Nat) : Int := (h.lat.getD l (0, 0)).2
def Hs.lent (h : Hs) (st : List Int) (l : Nat) : Int := (((lendOf h.hel (l : Int)).filter fun p => decide (p.1 ∈ st)).map (·.2)).sum
def Hs.goes (h : Hs) (st : List Int) (s : Int) (l : Nat) (up : Bool) : Bool := if up then decide (h.up l ≤ s + h.lent st l) else decide (s + h.lent st l ≤ h.dn l)
def Hs.mov (h : Hs) (st : List Int) (up : Bool) : List Nat := (List.range h.n).filter fun l => decide ((l : Int) ∈ st) != up
def Hs.want (h : Hs) (st : List Int) (s : Int) (up : Bool) : List Nat := (h.mov st up).filter fun l => h.goes st s l up
def nints (ls : List Nat) : List V := ls.map fun (l : Nat) => V.int (l : Int)
/-- rising from l on -/
def riseL : Int → List V → Bool
  | _, [] => true
  | l, .int i :: r => decide (l < i) && riseL i r
  | _, _ :: _ => false
theorem riseL_ints : ∀ (l : Int) (st : List Int), st.Pairwise (· < ·) → (∀ x ∈ st, l < x) → riseL l (st.map V.int) = true
  | _, [], _, _ => rfl
  | l, x :: r, hp, hl => by
    rw [List.map_cons]
    have h1 := List.pairwise_cons.mp hp
    show (decide (l < x) && riseL x (r.map V.int)) = true
    rw [riseL_ints x r h1.2 h1.1, decide_eq_true (hl x (List.mem_cons_self ..))]
    rfl
end My
namespace My
open PySem PySem.Spec PyProof.Rows L2
/-! ### from a reading to its first part -/
section
variable {σ : L2.St} {H : Hp} {D : Ends} {ta te : TE} {tr : TA} {t u : TT} {ts tu : TS} {Q : VK} {i : Nat} {g : TG}
theorem r_ret (h : te σ H D.rt) : tRet te D σ H := h
theorem r_cb {r : List V → Hp → VK → Prop} {ta : TA} (h : ta σ H fun vs H1 => r vs H1 Q) : tCB r ta σ H Q := h
theorem r_cons {Q : List V → Hp → Prop} (h : ta σ H fun x H1 => tr σ H1 fun vs H2 => Q (x :: vs) H2) : tCons ta tr σ H Q := h
theorem r_asg (h : te σ H fun x H1 => g x σ H1 D.nx) : tAsg te g D σ H := h
theorem r_seq (h : ts { D with nx := tu D } σ H) : tSeq ts tu D σ H := h
theorem r_op {r : R2} {tb : TE} (h : ta σ H fun x H1 => tb σ H1 fun y H2 => r x y H2 Q) : tOp r ta tb σ H Q := h
theorem r_ifs (h : t σ H fun b H1 => if b = true then ts D σ H1 else tu D σ H1) : tIfS t ts tu D σ H := h
theorem r_not {Q : Bool → Hp → Prop} (h : t σ H fun c H1 => Q (!c) H1) : tNot t σ H Q := h
theorem r_tB {Q : Bool → Hp → Prop} (h : te σ H fun x H1 => ∃ c, x = .bl c ∧ Q c H1) : tB te σ H Q := h
theorem r_call {sp : Sp} {E : XK} {ta : TA} (h : ta σ H fun vs H1 => sp (vs ++ []) H1 Q E) : tCall sp [] E ta σ H Q := h
theorem r_fld {K : PySem.W.Frag} {tv : TE} {f : PySem.Str} (h : tv σ H fun y H1 => ta σ H1 fun x H2 => ∃ a C dx fs, x = .ref a ∧ H2 a = some (.ins C dx fs) ∧ Cls K C ∧ NoAttr K C f ∧ fs.length < 1000 ∧ D.nx σ (upd H2 a (.ins C dx (putF f y fs)))) : sFld K ta tv f D σ H := h
end
theorem gv_tup2 {K : PySem.W.Frag} {i j : Nat} {x y : V} {t : Addr} {σ : L2.St} {H : Hp} (h : SqT K H t [x, y]) : GvR (gTup K 2 (gCons (gName i) (gCons (gName j) gNil))) (.ref t) σ H ((σ.set i (some x)).set j (some y)) :=
  fun Q q => ⟨t, _, rfl, h, rfl, _, _, rfl, _, _, rfl, rfl, q H Ex.rfl⟩
theorem gv_tup3 {K : PySem.W.Frag} {i j k : Nat} {x y z : V} {t : Addr} {σ : L2.St} {H : Hp} (h : SqT K H t [x, y, z]) : GvR (gTup K 3 (gCons (gName i) (gCons (gName j) (gCons (gName k) gNil)))) (.ref t) σ H (((σ.set i (some x)).set j (some y)).set k (some z)) :=
  fun Q q => ⟨t, _, rfl, h, rfl, _, _, rfl, _, _, rfl, _, _, rfl, rfl, q H Ex.rfl⟩
/-- a new list of what a comprehension gives -/
def NewL {α : Type} (H : Hp) (as : List α) (kp : α → Bool) (RB : α → V → Hp → Prop) (v : V) (H1 : Hp) : Prop := ∃ p ys, v = .ref p ∧ H p = none ∧ H1 p = some (.lst ys) ∧ Al (fun y a => RB a y H1) ys (as.filter kp)
section
variable {K : PySem.W.Frag} {α : Type} {as : List α} {kp : α → Bool} {RA : Hp → V → α → Prop} {RB : α → V → Hp → Prop} {g : TG} {tt : TT} {te tl : TE} {vs : List Nat} {σ : L2.St} {H : Hp}
theorem lcT_ev (htl : EvR tl σ H fun v H1 => ∃ a xs, v = .ref a ∧ SqT K H1 a xs ∧ Al (RA H1) xs as) (hl : as.length < 100000) (mono : ∀ a y H1 H2, Ki H1 H2 → RB a y H1 → RB a y H2)
    (ht : ∀ H1, Ex H H1 → ∀ (i : Nat) (x : V) (b : α), as[i]? = some b → RA H1 x b → Turns H1 x b kp RB g tt te vs σ) : EvR (tLc (iTup K tl) g tt te vs) σ H (NewL H as kp RB) := fun Q k =>
  htl _ fun v H1 e1 hh => by
    obtain ⟨a, xs, rfl, hx, hal⟩ := hh
    exact lcT (Q := Q) hx hal.1 hl mono (fun i x b h1 h2 => ht H1 e1 i x b h2 (hal.2 i x b h1 h2)) fun p ys H2 hp e2 hps hy => k _ H2 (e1.trans e2) ⟨p, ys, rfl, e1.free hp, hps, hy⟩
theorem lcL_ev (htl : EvR tl σ H fun v H1 => ∃ a xs, v = .ref a ∧ SqL K H1 a xs ∧ Al (RA H1) xs as) (hl : as.length < 100000) (mono : ∀ a y H1 H2, Ki H1 H2 → RB a y H1 → RB a y H2)
    (ht : ∀ H1, Ex H H1 → ∀ (i : Nat) (x : V) (b : α), as[i]? = some b → RA H1 x b → Turns H1 x b kp RB g tt te vs σ) : EvR (tLc (iList K tl) g tt te vs) σ H (NewL H as kp RB) := fun Q k =>
  htl _ fun v H1 e1 hh => by
    obtain ⟨a, xs, rfl, hx, hal⟩ := hh
    exact lcL (Q := Q) hx hal.1 hl mono (fun i x b h1 h2 => ht H1 e1 i x b h2 (hal.2 i x b h1 h2)) fun p ys H2 hp e2 hps hy => k _ H2 (e1.trans e2) ⟨p, ys, rfl, e1.free hp, hps, hy⟩
end
section
variable {n : Nat} {kp : Nat → Bool} {RB : Nat → V → Hp → Prop} {g : TG} {tt : TT} {te : TE} {ta : TA} {vs : List Nat} {σ : L2.St} {H : Hp}
theorem lcR_ev (hta : ∀ Q : List V → Hp → Prop, (∀ H', Ex H H' → Q [.int (n : Int)] H') → ta σ H Q) (hl : n < 100000) (mono : ∀ a y H1 H2, Ki H1 H2 → RB a y H1 → RB a y H2)
    (ht : ∀ H1, Ex H H1 → ∀ (i : Nat), i < n → Turns H1 (.int (i : Int)) i kp RB g tt te vs σ) : EvR (tLc (iRng1 ta) g tt te vs) σ H (NewL H (List.range n) kp RB) := fun Q k =>
  hta _ fun H1 e1 => lcR1 (Q := Q) rfl hl mono (fun i hi => ht H1 e1 i hi) fun p ys H2 hp e2 hps hy => k _ H2 (e1.trans e2) ⟨p, ys, rfl, e1.free hp, hps, hy⟩
end
theorem NewL.ints {α : Type} {H H1 : Hp} {as : List α} {kp : α → Bool} {f : α → Int} {v : V} (h : NewL H as kp (fun a y _ => y = .int (f a)) v H1) : ∃ p, v = .ref p ∧ H p = none ∧ H1 p = some (.lst (((as.filter kp).map f).map V.int)) := by
  obtain ⟨p, ys, rfl, hp, hps, hy⟩ := h
  refine ⟨p, rfl, hp, ?_⟩
  rw [hps, Al.map (f := fun a => V.int (f a)) hy, List.map_map]
  rfl
theorem NewL.vals {α : Type} {H H1 : Hp} {as : List α} {kp : α → Bool} {f : α → V} {v : V} (h : NewL H as kp (fun a y _ => y = f a) v H1) : ∃ p, v = .ref p ∧ H p = none ∧ H1 p = some (.lst ((as.filter kp).map f)) := by
  obtain ⟨p, ys, rfl, hp, hps, hy⟩ := h
  exact ⟨p, rfl, hp, by rw [hps, Al.map (f := f) hy]⟩
theorem lends_get {h : Hs} {l : Nat} (hl : l < h.n) : h.lends[l]? = some (lendOf h.hel (l : Int)) := by
  unfold Hs.lends
  rw [List.getElem?_map, List.getElem?_range hl]
  rfl
theorem lat_get {h : Hs} {l : Nat} (hl : l < h.n) : h.lat[l]? = some (h.up l, h.dn l) := by
  have h2 : l < h.lat.length := hl
  unfold Hs.up Hs.dn
  rw [List.getD_eq_getElem?_getD, List.getElem?_eq_getElem h2]
  rfl
theorem small_lend (hel : List (Int × Int × Int)) (l : Int) (h : hel.length < 100000) : (lendOf hel l).length < 100000 := by
  unfold lendOf
  rw [List.length_map]
  exact Nat.lt_of_le_of_lt (List.length_filter_le _ _) h
end My
namespace My
open PySem PySem.Spec PyProof.Rows L2
/-! ### rules that name the written part K itself (within a comprehension the context is another, K the same) -/
section
variable {X : Cx} {K : PySem.W.Frag}
theorem kOpIn (hK : X.K = K := by rfl) : OpR X (compareOp .In) (rIn K false) := by subst hK; exact op_in_seq
theorem kOpNotIn (hK : X.K = K := by rfl) : OpR X (compareOp .NotIn) (rIn K true) := by subst hK; exact op_notIn_seq
theorem kIxT (hK : X.K = K := by rfl) : IxR X (rIxT K) := by subst hK; exact ix_tup
theorem kIxL (hK : X.K = K := by rfl) : IxR X (rIxL K) := by subst hK; exact ix_list
def rLenS (K : PySem.W.Frag) : List V → Hp → VK → Prop := fun xs H Q => ∃ p ys, xs = [.ref p] ∧ (SqL K H p ys ∨ SqT K H p ys) ∧ Q (.int ys.length) H
theorem kLen (hK : X.K = K := by rfl) : CallR X (.builtin "len") (rLenS K) := by subst hK; exact call_len_seq
theorem kSum (hc : X.calm = true := by rfl) (hK : X.K = K := by rfl) : CallR X (.builtin "sum") (rSum K) := by subst hK; exact cr_sum hc
theorem kAll (hc : X.calm = true := by rfl) (hK : X.K = K := by rfl) : CallR X (.builtin "all") (rAll K) := by subst hK; exact cr_all hc
theorem kIsi (hK : X.K = K := by rfl) : CallR X (.builtin "isinstance") (rIsi K) := by subst hK; exact call_isi
theorem kIsiT (hK : X.K = K := by rfl) : CallR X (.builtin "isinstance") (rIsiT K) := by subst hK; exact call_isiT
theorem kEqD (hu : X.A.units + 64 < cLine) (hK : X.K = K := by rfl) : OpR X (compareOp .Eq) (rEqD K) := by subst hK; exact op_eqD hu
theorem kNeD (hu : X.A.units + 64 < cLine) (hK : X.K = K := by rfl) : OpR X (compareOp .NotEq) (rNeD K) := by subst hK; exact op_neD hu
theorem kInD (hu : X.A.units + 65 < cLine) (hK : X.K = K := by rfl) : OpR X (compareOp .In) (rInD K) := by subst hK; exact op_inD hu
def rTupleOf (K : PySem.W.Frag) : List V → Hp → VK → Prop := fun xs H Q => ∃ p ys, xs = [.ref p] ∧ ((SqL K H p ys ∧ ∀ l, H l = none → Q (.ref l) (upd H l (.tup ys))) ∨ (SqT K H p ys ∧ Q (.ref p) H))
theorem kTuple (hK : X.K = K := by rfl) : CallR X (.type "tuple") (rTupleOf K) := by subst hK; exact call_tuple_of
def rListOf (K : PySem.W.Frag) : List V → Hp → VK → Prop := fun xs H Q => ∃ p ys, xs = [.ref p] ∧ (SqL K H p ys ∨ SqT K H p ys) ∧ ∀ l, H l = none → Q (.ref l) (upd H l (.lst ys))
theorem kList (hK : X.K = K := by rfl) : CallR X (.type "list") (rListOf K) := by subst hK; exact call_list_of
theorem kSorted3 (hK : X.K = K := by rfl) : CallR X (.builtin "sorted") (rSorted3 K) := by subst hK; exact cr_sorted3
def rMax2 : List V → Hp → VK → Prop := fun xs H Q => ∃ i j, xs = [.int i, .int j] ∧ Q (.int (if j > i then j else i)) H
def rMin2 : List V → Hp → VK → Prop := fun xs H Q => ∃ i j, xs = [.int i, .int j] ∧ Q (.int (if j < i then j else i)) H
theorem kMax2 (hc : X.calm = true := by rfl) : CallR X (.builtin "max") rMax2 := call_max2 hc
theorem kMin2 (hc : X.calm = true := by rfl) : CallR X (.builtin "min") rMin2 := call_min2 hc
theorem kSlT (hK : X.K = K := by rfl) : SlR X (rSlT K) := by subst hK; exact sl_tup
theorem kSlL (hK : X.K = K := by rfl) : SlR X (rSlL K) := by subst hK; exact sl_list
def tFldK (K : PySem.W.Frag) (ta : TE) (f : PySem.Str) : TE := fun σ H Q => ta σ H fun x H1 => ∃ a C dx fs v, x = .ref a ∧ H1 a = some (.ins C dx fs) ∧ Cls K C ∧ NoAttr K C f ∧ fs.lookup f = some v ∧ Q v H1
theorem kFld {e : Expr} {f : PySem.Str} {pos : Pos} {ta : TE} (he : PE X e ta) (hb : attributeBase e f X.env (eval e X.env) = eval e X.env) (hK : X.K = K := by rfl) : PE X (.Attribute e f pos) (tFldK K ta f) := by subst hK; exact pe_fld he hb
def tTruK (K : PySem.W.Frag) (ta : TE) : TT := fun σ H Q => ta σ H fun x H' => ∃ k, TruV K x H' k ∧ Q k H'
theorem kTruth {a : Expr} {ta : TE} (h : PE X a ta) (he : ∀ whole, isTrue a X.env whole = (do let v ← whole; standAt a.pos; holding [v] (truthy v)) := by intro _; rfl) (hK : X.K = K := by rfl) : PT X a (tTruK K ta) := by subst hK; exact pt_truth h he
def rNotIn0 := 0
end
theorem units64 {X : Cx} {k : Nat} (hr : Room k X.A) : X.A.units + 64 < cLine := by have := hr.un; omega
theorem units65 {X : Cx} {k : Nat} (hr : Room k X.A) : X.A.units + 65 < cLine := by have := hr.un; omega
end My
namespace My
open PySem PySem.Spec PyProof.Rows L2
theorem for_enumT {K : PySem.W.Frag} {a : Addr} {xs : List V} {g : TG} {tb : TS} {D : Ends} {σ : L2.St} {H : Hp} (Pv : Nat → L2.St → Hp → Prop) (h0 : Pv 0 σ H) (hl : ∀ i σ H, i ≤ xs.length → Pv i σ H → SqT K H a xs)
    (hs : ∀ i x T σ H, xs[i]? = some x → Pv i σ H → H T = none → g (.ref T) σ (upd H T (.tup [.int (i : Nat), x])) fun σ2 H2 => tb { D with nx := Pv (i + 1), ct := Pv (i + 1), bk := D.nx } σ2 H2) (hd : ∀ σ H, Pv xs.length σ H → D.nx σ H) :
    ∃ W : Nat → Nat → L2.St → Hp → Prop, (∃ m, W 0 m σ H) ∧ ∀ i m σ H, W i m σ H →
      ((Itet K a).stop i H ∧ D.nx σ H) ∨ ((Itet K a).go i H ∧ ∃ N : L2.St → Hp → Prop, (∀ σ' H', N σ' H' → ∃ m', m' < m ∧ W (i + 1) m' σ' H') ∧ ∀ x H', (Itet K a).yld i H x H' → g x σ H' fun σ2 H2 => tb { D with nx := N, ct := N, bk := D.nx } σ2 H2) := by
  refine ⟨fun i m σ H => m = xs.length - i ∧ i ≤ xs.length ∧ Pv i σ H, ⟨xs.length, by simp, Nat.zero_le _, h0⟩, ?_⟩
  rintro i m σ H ⟨rfl, hi, p⟩
  have q := hl i σ H hi p
  by_cases hlt : i < xs.length
  · refine .inr ⟨⟨xs, xs[i], q, by simp [hlt]⟩, Pv (i + 1), fun σ' H' p' => ⟨xs.length - (i + 1), by omega, rfl, hlt, p'⟩, fun x H' y => ?_⟩
    obtain ⟨T, z, rfl, hT, rfl, hz⟩ := y
    exact hs i z T σ H (hz xs q) p hT
  · have e : i = xs.length := by omega
    subst e
    exact .inl ⟨⟨xs, q, Nat.le_refl _⟩, hd σ H p⟩
/-! ### pairs as data -/
def pd (p : Int × Int) : PyData := .tuple [.int p.1, .int p.2]
theorem pd_eqv (p q : Int × Int) : PyData.eqv (pd p) (pd q) = decide (p = q) := by
  obtain ⟨a, b⟩ := p
  obtain ⟨c, d⟩ := q
  show (((a == c) && ((b == d) && true)) : Bool) = decide ((a, b) = (c, d))
  by_cases h1 : a = c
  · subst h1
    by_cases h2 : b = d
    · subst h2; simp
    · simp [h2]
  · simp [h1]
theorem Dp.pair {K : PySem.W.Frag} {H : Hp} {v : V} {p : Int × Int} (h : PairV K H v p) : Dp K H v (pd p) := by
  obtain ⟨t, rfl, h⟩ := h
  exact .tup h (.cons (.int _) (.cons (.int _) .nil))
theorem DpAll.pairs {K : PySem.W.Frag} {H : Hp} : ∀ {xs : List V} {ps : List (Int × Int)}, Al (PairV K H) xs ps → DpAll K H xs (ps.map pd)
  | [], ps, h => by rw [h.nil_inv]; exact .nil
  | x :: xs, [], h => by have := h.1; simp at this
  | x :: xs, p :: ps, h => .cons (Dp.pair h.inv.1) (DpAll.pairs h.inv.2)
theorem pd_lay : ∀ (ps : List (Int × Int)), PyData.canLayAll0 (ps.map pd) = true ∧ PyData.depthAll (ps.map pd) ≤ 1
  | [] => by simp [PyData.canLayAll0, PyData.depthAll]
  | p :: r => by
    have ih := pd_lay r
    refine ⟨?_, ?_⟩
    · rw [List.map_cons]
      unfold PyData.canLayAll0
      rw [ih.1]
      simp [pd, PyData.canLay0, PyData.canLayAll0]
    · rw [List.map_cons]
      unfold PyData.depthAll
      have h1 : PyData.depth (pd p) = 1 := by simp [pd, PyData.depth, PyData.depthAll]
      rw [h1]
      omega
theorem pd_shaped (p : Int × Int) : SeqAt.shaped (pd p) = true := by
  unfold SeqAt.shaped
  simp [pd, PyData.canLay0, PyData.canLayAll0, PyData.depth, PyData.depthAll]
theorem pds_shaped (ps : List (Int × Int)) : SeqAt.shaped (.list (ps.map pd)) = true := by
  have h := pd_lay ps
  unfold SeqAt.shaped PyData.canLay0 PyData.depth
  rw [h.1]
  simp
  omega
theorem pds_any (ps : List (Int × Int)) (p : Int × Int) : ((ps.map pd).any fun z => PyData.eqv z (pd p)) = decide (p ∈ ps) := by
  induction ps with
  | nil => simp
  | cons q r ih =>
    rw [List.map_cons, List.any_cons, ih, pd_eqv]
    by_cases e : q = p
    · subst e; simp
    · have : p ≠ q := fun z => e z.symm
      simp [e, this]
/-- the first two of a triple -/
theorem cut2 (a b c : V) : cutV [a, b, c] none (some 2) = [a, b] := by rfl
theorem ncut2 (a b c : V) : ¬ (HT.sIx ([a, b, c] : List V).length 0 none = 0 ∧ HT.sIx ([a, b, c] : List V).length ([a, b, c] : List V).length (some 2) = ([a, b, c] : List V).length) := by
  show ¬ (HT.sIx 3 0 none = 0 ∧ HT.sIx 3 3 (some 2) = 3)
  decide
def fst2 (h : Int × Int × Int) : Int × Int := (h.1, h.2.1)
theorem take_nd {α : Type} {l : List α} {i : Nat} {x : α} (hn : l.Nodup) (h : l[i]? = some x) : x ∉ l.take i := by
  intro hm
  have h1 := (List.getElem?_eq_some_iff.mp h).1
  obtain ⟨j, hj, e⟩ := List.mem_take_iff_getElem.mp hm
  have e2 : l[j]? = some x := by
    rw [List.getElem?_eq_getElem (by omega), e]
  have := nd_ix hn e2 h
  omega
end My
namespace My
open PySem PySem.Spec PyProof.Rows L2
/-! ### tuples stand, whatever becomes of one instance -/
def Kt (H H' : Hp) : Prop := ∀ b o, Imm o → (∀ C dx fs, o ≠ .ins C dx fs) → H b = some o → H' b = some o
theorem Ki.kt {H H' : Hp} (e : Ki H H') : Kt H H' := fun b o i _ h => e b o i h
theorem Kt.trans {H H1 H2 : Hp} (x : Kt H H1) (y : Kt H1 H2) : Kt H H2 := fun b o i n h => y b o i n (x b o i n h)
theorem Kt.ins {H : Hp} {a C dx : Addr} {fs : List (PySem.Str × V)} {o : HO} (h : H a = some (.ins C dx fs)) : Kt H (upd H a o) := fun b u i n hb => by
  have : b ≠ a := fun z => by
    subst z
    rw [h] at hb
    cases hb
    exact n _ _ _ rfl
  rw [upd_ne this]
  exact hb
theorem exB_kt {a C dx : Addr} {fs : List (PySem.Str × V)} {H H' : Hp} (h : H a = some (.ins C dx fs)) (e : ExB a H H') : Kt H H' := fun b u i n hb => e b u (fun z => by
  subst z
  rw [h] at hb
  cases hb
  exact n _ _ _ rfl) hb
section
variable {K : PySem.W.Frag} {H H' : Hp}
theorem _root_.L2.SqT.kt {a : Addr} {xs : List V} (h : SqT K H a xs) (e : Kt H H') : SqT K H' a xs := by
  rcases h with (h | ⟨o, h⟩) | h
  · exact .inl (.inl (e _ _ trivial (fun _ _ _ z => by cases z) h))
  · exact .inl (.inr ⟨o, e _ _ trivial (fun _ _ _ z => by cases z) h⟩)
  · exact .inr h
theorem PairV.kt {v : V} {p : Int × Int} (h : PairV K H v p) (e : Kt H H') : PairV K H' v p := let ⟨t, h1, h2⟩ := h; ⟨t, h1, h2.kt e⟩
theorem TripV.kt {v : V} {p : Int × Int × Int} (h : TripV K H v p) (e : Kt H H') : TripV K H' v p := let ⟨t, h1, h2⟩ := h; ⟨t, h1, h2.kt e⟩
theorem LendV.kt {v : V} {p : List (Int × Int)} (h : LendV K H v p) (e : Kt H H') : LendV K H' v p := let ⟨t, xs, h1, h2, h3⟩ := h; ⟨t, xs, h1, h2.kt e, h3.imp fun _ _ z => z.kt e⟩
end
theorem Al.mapR {α β : Type} {R : V → β → Prop} {f : α → β} {xs : List V} {as : List α} (h : Al (fun x a => R x (f a)) xs as) : Al R xs (as.map f) := by
  refine ⟨by rw [List.length_map]; exact h.1, fun i x b h1 h2 => ?_⟩
  obtain ⟨a, h3, h4⟩ := h.get h1
  rw [List.getElem?_map, h3] at h2
  cases h2
  exact h4
theorem fTrue {α : Type} (l : List α) : l.filter (fun _ => true) = l := List.filter_eq_self.mpr fun _ _ => rfl
/-- a triple as it stands at a place -/
def tripOf (H : Hp) : V → Int × Int × Int
  | .ref t => match H t with
    | some (.tup [.int a, .int b, .int c]) => (a, b, c)
    | _ => (0, 0, 0)
  | _ => (0, 0, 0)
def TripT (H : Hp) (y : V) (p : Int × Int × Int) : Prop := ∃ t, y = .ref t ∧ H t = some (.tup [.int p.1, .int p.2.1, .int p.2.2])
theorem TripT.ki {H H' : Hp} {y : V} {p : Int × Int × Int} (h : TripT H y p) (e : Ki H H') : TripT H' y p := let ⟨t, h1, h2⟩ := h; ⟨t, h1, e _ _ trivial h2⟩
theorem TripT.of {H : Hp} {y : V} {p : Int × Int × Int} (h : TripT H y p) : tripOf H y = p := by
  obtain ⟨t, rfl, h⟩ := h
  unfold tripOf
  simp only [h]
theorem TripT.v {K : PySem.W.Frag} {H : Hp} {y : V} {p : Int × Int × Int} (h : TripT H y p) : TripV K H y p := let ⟨t, h1, h2⟩ := h; ⟨t, h1, .of h2⟩
theorem trips_map {H : Hp} {ys : List V} {hel : List (Int × Int × Int)} (h : Al (TripT H) ys hel) : ys.map (tripOf H) = hel := by
  refine List.ext_getElem? fun i => ?_
  rw [List.getElem?_map]
  cases e : ys[i]? with
  | none =>
    have : hel[i]? = none := by
      rw [List.getElem?_eq_none_iff] at e ⊢
      rw [← h.1]; exact e
    rw [this]; rfl
  | some x =>
    obtain ⟨a, h1, h2⟩ := h.get e
    rw [h1]
    exact congrArg some h2.of
theorem trips_perm {H : Hp} {ys zs : List V} {hel : List (Int × Int × Int)} (h : Al (TripT H) ys hel) (hp : zs.Perm ys) : Al (TripT H) zs (zs.map (tripOf H)) := by
  refine ⟨by rw [List.length_map], fun i x a h1 h2 => ?_⟩
  rw [List.getElem?_map, h1] at h2
  cases h2
  obtain ⟨j, hj⟩ := List.getElem?_of_mem (hp.mem_iff.mp (List.mem_of_getElem? h1))
  obtain ⟨p, _, h4⟩ := h.get hj
  rw [h4.of]
  exact h4
theorem putF_len (f : PySem.Str) (v : V) : ∀ fs : List (PySem.Str × V), (putF f v fs).length ≤ fs.length + 1
  | [] => Nat.le_refl _
  | (g, w) :: r => by
    show (if g = f then _ else _ : List (PySem.Str × V)).length ≤ _
    split
    · simp
    · have := putF_len f v r
      simp
      omega
theorem fs2_len (a b : V) : (putF "_helps" b (putF "_latches" a [])).length < 1000 := by
  have h1 := putF_len "_helps" b (putF "_latches" a [])
  have h2 := putF_len "_latches" a []
  simp at h2
  omega
def HelSorted (hel : List (Int × Int × Int)) : Prop := hel.Pairwise fun x y => SrtO.lex3 y x = false
end My
namespace My
open PySem PySem.Spec PyProof.Rows L2
/-! ### repr of a truth, of None; the jar of draws -/
def rReprF : List V → Hp → VK → Prop := fun xs H Q => (∃ b, xs = [.bl b] ∧ Q (.str (if b then "True" else "False")) H) ∨ (xs = [.non] ∧ Q (.str "None") H)
theorem kReprF {X : Cx} : CallR X (.builtin "repr") rReprF := by
  intro pins s σ H xs us Q I r h
  rcases h with ⟨b, rfl, q⟩ | ⟨rfl, q⟩
  · obtain ⟨u, rfl, ru⟩ := vals1 r
    cases (show u = Value.bool b from ru)
    exact PySem.P.repr_of_bool ⟨.str _, H, I.tok _, ⟨_, rfl⟩, q⟩
  · obtain ⟨u, rfl, ru⟩ := vals1 r
    cases (show u = Value.none from ru)
    exact PySem.P.repr_of_none ⟨.str _, H, I.tok _, ⟨_, rfl⟩, q⟩
theorem kReprG {X : Cx} : CallR X (.builtin "repr") (fun xs H Q => (∃ b, xs = [.bl b] ∧ Q (.str (if b then "True" else "False")) H) ∨ (xs = [.non] ∧ Q (.str "None") H) ∨ ∃ z : PySem.Str, xs = [.str z] ∧ (reprText z).length ≤ sizeLine ∧ Q (.str (reprText z)) H) := by
  intro pins s σ H xs us Q I r h
  rcases h with h | h | ⟨z, rfl, hz, q⟩
  · exact kReprF pins s σ H xs us Q I r (.inl h)
  · exact kReprF pins s σ H xs us Q I r (.inr h)
  · obtain ⟨u, rfl, t, rfl⟩ := vals1 r
    exact PySem.P.repr_of_str ⟨.str _, H, I.tok _, ⟨_, rfl⟩, q⟩ hz
def JarAt (H : Hp) (a : Addr) (n : Int) : Prop := ∃ x y z : Int, H a = some (.lst [.int x, .int y, .int z]) ∧ 0 ≤ x ∧ 0 ≤ y ∧ y < 2 ^ 201 ∧ 0 ≤ z ∧ z ≤ n
theorem JarAt.ex {H H' : Hp} {a : Addr} {n : Int} (h : JarAt H a n) (e : Ex H H') : JarAt H' a n := let ⟨x, y, z, h1, h2⟩ := h; ⟨x, y, z, e _ _ h1, h2⟩
theorem JarAt.le {H : Hp} {a : Addr} {n m : Int} (h : JarAt H a n) (e : n ≤ m) : JarAt H a m := let ⟨x, y, z, h1, h2, h3, h4, h5, h6⟩ := h; ⟨x, y, z, h1, h2, h3, h4, h5, by omega⟩
theorem JarAt.ki {H H' : Hp} {a : Addr} {n : Int} (h : JarAt H a n) (e : ExB a H H') : Ki H H' := let ⟨_, _, _, h1, _⟩ := h; e.ki h1
theorem JarAt.free {H : Hp} {a p : Addr} {n : Int} (h : JarAt H a n) (e : H p = none) : p ≠ a := fun z => by
  obtain ⟨_, _, _, h1, _⟩ := h
  rw [z, h1] at e
  cases e
theorem JarAt.upd {H : Hp} {a p : Addr} {n : Int} {o : HO} (h : JarAt H a n) (e : p ≠ a) : JarAt (L2.upd H p o) a n := let ⟨x, y, z, h1, h2⟩ := h; ⟨x, y, z, by rw [upd_ne e.symm]; exact h1, h2⟩
theorem ExB.updB {a p : Addr} {H H' : Hp} {o : HO} (e : ExB a H H') (h : H p = none) : ExB a H (L2.upd H' p o) := e.mut h
theorem two_big {i : Int} {n : Nat} (h : i.natAbs < 2 ^ n) (hn : n ≤ 100000) : i.natAbs < 2 ^ 100000 := Nat.lt_of_lt_of_le h (Nat.pow_le_pow_right (by decide) hn)
theorem powc (i j : Int) (hj : 0 ≤ j) (h1 : j ≤ 100) (hi : i.natAbs < 2 ^ 210) : CPowW i j := ⟨hj, h1, two_big hi (by decide)⟩
theorem fmod_r {x m : Int} (h : 0 < m) : 0 ≤ x.fmod m ∧ x.fmod m < m := by
  rw [Int.fmod_eq_emod_of_nonneg x (by omega)]
  exact ⟨Int.emod_nonneg _ (by omega), Int.emod_lt_of_pos _ h⟩
theorem Al.perm {α : Type} {R : V → α → Prop} {ys zs : List V} (h : ys.Perm zs) : ∀ {as : List α}, Al R ys as → ∃ bs, Al R zs bs ∧ as.Perm bs := by
  induction h with
  | nil => intro as ha; exact ⟨as, ha, List.Perm.refl _⟩
  | cons x _ ih =>
    intro as ha
    cases as with
    | nil => have := ha.1; simp at this
    | cons b r =>
      obtain ⟨h1, h2⟩ := ha.inv
      obtain ⟨bs, h3, h4⟩ := ih h2
      exact ⟨b :: bs, .cons h1 h3, h4.cons b⟩
  | swap x y l =>
    intro as ha
    match as, ha with
    | [], ha => have := ha.1; simp at this
    | [b], ha => have := ha.1; simp at this
    | b :: c :: r, ha =>
      obtain ⟨h1, h2⟩ := ha.inv
      obtain ⟨h3, h4⟩ := h2.inv
      exact ⟨c :: b :: r, .cons h3 (.cons h1 h4), List.Perm.swap _ _ _⟩
  | trans _ _ ih1 ih2 =>
    intro as ha
    obtain ⟨bs, h3, h4⟩ := ih1 ha
    obtain ⟨cs, h5, h6⟩ := ih2 h3
    exact ⟨cs, h5, h4.trans h6⟩
theorem tyes {σ : L2.St} {H : Hp} {A B : Hp → Prop} (h : A H) : tYes σ H (fun b H3 => if b = true then A H3 else B H3) := by
  show if true = true then A H else B H
  exact iteT h
theorem at0 (x y z : V) : atI [x, y, z] 0 = some x := rfl
theorem at1 (x y z : V) : atI [x, y, z] 1 = some y := rfl
theorem at2 (x y z : V) : atI [x, y, z] 2 = some z := rfl
section
variable {X : Cx} {K : PySem.W.Frag} {T : String} {name : PySem.Str} {id : String} {r : V → List V → Hp → VK → Prop} {o e : Expr} {es : List Expr} {to : TE} {t : TA} {cpos apos : Pos}
theorem kBm (pa : PlainAttrs T) (slot : Slot T name id) (hty : typeOf (.builtin id) = pure (.type "method_descriptor")) (hm : MtR X id r) (ho : PE X o to) (ha : PA X (e :: es) t)
    (hbase : attributeBase o name X.env (eval o X.env) = eval o X.env := by rfl)
    (hfew : ((backTo cpos (starEach (e :: es) X.env)).all (fun x => !x.1) && (backToKw cpos (keywordEach [] X.env)).all (fun x => x.1.isSome) && decide ((e :: es).length + ([] : List Keyword).length + (if ([] : List Keyword).isEmpty then 0 else 1) < 30)) = true := by rfl)
    (hline : (apos.endLine == cpos.line) = true := by rfl) (hs : starEach (e :: es) X.env = (false, eval e X.env) :: starEach es X.env := by rfl) (hplain : (backTo cpos (starEach es X.env)).any (·.1) = false := by rfl) (hK : X.K = K := by rfl) :
    PE X (.Call (.Attribute o name apos) (e :: es) [] cpos) (tBM K T r to t) := by subst hK; exact pe_bm pa slot hty hm ho ha hbase hfew hline hs hplain
theorem kBm0 (pa : PlainAttrs T) (slot : Slot T name id) (hty : typeOf (.builtin id) = pure (.type "method_descriptor")) (hm : MtR X id r) (ho : PE X o to)
    (hbase : attributeBase o name X.env (eval o X.env) = eval o X.env := by rfl) (hline : (apos.endLine == cpos.line) = true := by rfl) (hK : X.K = K := by rfl) : PE X (.Call (.Attribute o name apos) [] [] cpos) (tBM0 K T r to) := by subst hK; exact pe_bm0 pa slot hty hm ho hbase hline
end
end My
namespace My
open PySem PySem.Spec PyProof.Rows L2
/-! ### a comprehension over zip of two lists, of two tuples -/
section
variable {K : PySem.W.Frag} {kp : V × V → Bool} {RB : V × V → V → Hp → Prop} {g : TG} {tt : TT} {te : TE} {ta : TA} {vs : List Nat} {σ : L2.St} {H : Hp} {a b : Addr} {xs ys : List V}
theorem zip_get {i : Nat} {x y : V} (h1 : xs[i]? = some x) (h2 : ys[i]? = some y) : (xs.zip ys)[i]? = some (x, y) := by
  rw [List.getElem?_zip_eq_some]
  exact ⟨h1, h2⟩
theorem cw_new {α : Type} {as : List α} {kp : α → Bool} {RB : α → V → Hp → Prop} {H H1 : Hp} {D T : Addr} {i : Nat} {o : HO} (mono : ∀ a y H1 H2, Ki H1 H2 → RB a y H1 → RB a y H2) (p : CW H as kp RB D i H1) (hT : H1 T = none) : CW H as kp RB D i (upd H1 T o) := by
  obtain ⟨p1, p2, ys, p3, p4⟩ := p
  have e : Ex H1 (upd H1 T o) := Ex.new hT
  exact ⟨p1, p2.trans e, ys, e _ _ p3, p4.imp fun y b => mono b y _ _ e.ki⟩
theorem lcZ_ev (hta : ∀ Q : List V → Hp → Prop, (∀ H', Ex H H' → Q [.ref a, .ref b] H') → ta σ H Q) (hxy : (H a = some (.lst xs) ∧ H b = some (.lst ys)) ∨ (SqT K H a xs ∧ SqT K H b ys)) (hl : xs.length = ys.length) (hn : xs.length < 100000) (mono : ∀ a y H1 H2, Ki H1 H2 → RB a y H1 → RB a y H2)
    (ht : ∀ H1, Ex H H1 → ∀ (i : Nat) (x y : V), xs[i]? = some x → ys[i]? = some y → ∀ T, H1 T = some (.tup [x, y]) → Turns H1 (.ref T) (x, y) kp RB g tt te vs σ) : EvR (tLc (RZ.iZipA K ta) g tt te vs) σ H (NewL H (xs.zip ys) kp RB) := fun Q k => by
  refine hta _ fun H1 e1 => ⟨a, b, xs, ys, rfl, ?_⟩
  have hz : (xs.zip ys).length = xs.length := by rw [List.length_zip]; omega
  rcases hxy with ⟨ha, hb⟩ | ⟨ha, hb⟩
  · refine .inl ⟨.of (e1 _ _ ha), .of (e1 _ _ hb), fun D hD => ?_⟩
    refine ⟨fun i m H' => m = xs.length - i ∧ i ≤ xs.length ∧ CW H1 (xs.zip ys) kp RB D i H', ⟨xs.length, by simp, Nat.zero_le _, hD, Ex.new hD, [], upd_same, by simpa using Al.nil⟩, ?_⟩
    rintro i m H' ⟨rfl, hi, p⟩
    have qa : SqL K H' a xs := .of (p.2.1 _ _ (e1 _ _ ha))
    have qb : SqL K H' b ys := .of (p.2.1 _ _ (e1 _ _ hb))
    by_cases hlt : i < xs.length
    · have hlt2 : i < ys.length := by omega
      refine .inr ⟨⟨xs, ys, xs[i], ys[i], qa, qb, by simp [hlt], by simp [hlt2]⟩, CW H1 (xs.zip ys) kp RB D (i + 1), fun H2 p' => ⟨xs.length - (i + 1), by omega, rfl, hlt, p'⟩, fun v H2 y => ?_⟩
      obtain ⟨T, x, z, rfl, hT, rfl, hx, hy⟩ := y
      have p2 := cw_new (o := .tup [x, z]) mono p hT
      exact cw_turn (H0 := upd H' T (.tup [x, z])) mono (by omega) (zip_get (hx xs qa) (hy ys qb)) (ht _ ((e1.trans p.2.1).trans (Ex.new hT)) i x z (hx xs qa) (hy ys qb) T upd_same) Ex.rfl p2
    · have e : i = xs.length := by omega
      subst e
      obtain ⟨p1, p2, zs, p3, p4⟩ := p
      rw [← hz, List.take_length] at p4
      exact .inl ⟨⟨xs, ys, qa, qb, .inl (Nat.le_refl _)⟩, k _ _ (e1.trans p2) ⟨D, zs, rfl, e1.free p1, p3, p4⟩⟩
  · refine .inr ⟨ha.ki e1.ki, hb.ki e1.ki, fun D hD => ?_⟩
    refine ⟨fun i m H' => m = xs.length - i ∧ i ≤ xs.length ∧ CW H1 (xs.zip ys) kp RB D i H', ⟨xs.length, by simp, Nat.zero_le _, hD, Ex.new hD, [], upd_same, by simpa using Al.nil⟩, ?_⟩
    rintro i m H' ⟨rfl, hi, p⟩
    have qa : SqT K H' a xs := ha.ki (e1.trans p.2.1).ki
    have qb : SqT K H' b ys := hb.ki (e1.trans p.2.1).ki
    by_cases hlt : i < xs.length
    · have hlt2 : i < ys.length := by omega
      refine .inr ⟨⟨xs, ys, xs[i], ys[i], qa, qb, by simp [hlt], by simp [hlt2]⟩, CW H1 (xs.zip ys) kp RB D (i + 1), fun H2 p' => ⟨xs.length - (i + 1), by omega, rfl, hlt, p'⟩, fun v H2 y => ?_⟩
      obtain ⟨T, x, z, rfl, hT, rfl, hx, hy⟩ := y
      have p2 := cw_new (o := .tup [x, z]) mono p hT
      exact cw_turn (H0 := upd H' T (.tup [x, z])) mono (by omega) (zip_get (hx xs qa) (hy ys qb)) (ht _ ((e1.trans p.2.1).trans (Ex.new hT)) i x z (hx xs qa) (hy ys qb) T upd_same) Ex.rfl p2
    · have e : i = xs.length := by omega
      subst e
      obtain ⟨p1, p2, zs, p3, p4⟩ := p
      rw [← hz, List.take_length] at p4
      exact .inl ⟨⟨xs, ys, qa, qb, .inl (Nat.le_refl _)⟩, k _ _ (e1.trans p2) ⟨D, zs, rfl, e1.free p1, p3, p4⟩⟩
end
theorem kitAny2 {K : PySem.W.Frag} {n a b : String} {r1 r2 : Bool} (h1 : kitB n a = some r1) (h2 : kitB n b = some r2) : PySem.W.kitAny K (.type n) [.type a, .type b] = some (r1 || r2) := by
  refine kitAny_cons (kit_ty h1) (fun e => ?_) (fun e => by rw [e]; rfl)
  rw [e, Bool.false_or]
  refine kitAny_cons (kit_ty h2) (fun e2 => by rw [e2]; exact kitAny_nil) (fun e2 => e2)
/-! ### alike, as the laws' own look sees it -/
def Sm (K : PySem.W.Frag) : Nat → Hp → V → V → Prop
  | 0, _, _, _ => False
  | m + 1, H, x, y => (∃ i, x = .int i ∧ y = .int i) ∨ (∃ b, x = .bl b ∧ y = .bl b) ∨ (x = .non ∧ y = .non) ∨ (∃ z : PySem.Str, x = .str z ∧ y = .str z ∧ (reprText z).length ≤ sizeLine) ∨
    ∃ (a b : Addr) (xs ys : List V), x = .ref a ∧ y = .ref b ∧ ((H a = some (.lst xs) ∧ H b = some (.lst ys)) ∨ (SqT K H a xs ∧ SqT K H b ys)) ∧ xs.length = ys.length ∧ xs.length < 1000 ∧ ∀ (i : Nat) u v, xs[i]? = some u → ys[i]? = some v → Sm K m H u v
theorem Sm.ex {K : PySem.W.Frag} : ∀ {m : Nat} {H H' : Hp} {x y : V}, Sm K m H x y → Ex H H' → Sm K m H' x y
  | 0, _, _, _, _, h, _ => h.elim
  | m + 1, H, H', x, y, h, e => by
    rcases h with h | h | h | h | ⟨a, b, xs, ys, h1, h2, h3, h4, h5, h6⟩
    · exact .inl h
    · exact .inr (.inl h)
    · exact .inr (.inr (.inl h))
    · exact .inr (.inr (.inr (.inl h)))
    · refine .inr (.inr (.inr (.inr ⟨a, b, xs, ys, h1, h2, ?_, h4, h5, fun i u v hu hv => (h6 i u v hu hv).ex e⟩)))
      rcases h3 with ⟨p, q⟩ | ⟨p, q⟩
      · exact .inl ⟨e _ _ p, e _ _ q⟩
      · exact .inr ⟨p.ki e.ki, q.ki e.ki⟩
theorem Sm.int {K : PySem.W.Frag} {m : Nat} {H : Hp} {i : Int} : Sm K (m + 1) H (.int i) (.int i) := .inl ⟨i, rfl, rfl⟩
theorem Sm.bl {K : PySem.W.Frag} {m : Nat} {H : Hp} {b : Bool} : Sm K (m + 1) H (.bl b) (.bl b) := .inr (.inl ⟨b, rfl, rfl⟩)
theorem Sm.ints {K : PySem.W.Frag} {m : Nat} {H : Hp} {a b : Addr} {xs : List Int} (h1 : H a = some (.lst (xs.map V.int))) (h2 : H b = some (.lst (xs.map V.int))) (hl : xs.length < 1000) : Sm K (m + 2) H (.ref a) (.ref b) := by
  refine .inr (.inr (.inr (.inr ⟨a, b, _, _, rfl, rfl, .inl ⟨h1, h2⟩, rfl, by rw [List.length_map]; exact hl, fun i u v hu hv => ?_⟩)))
  rw [hu] at hv
  cases hv
  rw [List.getElem?_map] at hu
  cases e : xs[i]? with
  | none => rw [e] at hu; cases hu
  | some z => rw [e] at hu; cases hu; exact Sm.int
end My
namespace My
open PySem PySem.Spec PyProof.Rows L2
/-! ### stands: going one way, and where it ends -/
structure HsPos (h : Hs) : Prop where
  lend : ∀ x ∈ h.hel, 0 ≤ x.2.2
  gap : ∀ p ∈ h.lat, p.2 < p.1
def Lq (up : Bool) (A B : List Int) : Prop := if up = true then (∀ x ∈ A, x ∈ B) else (∀ x ∈ B, x ∈ A)
theorem Lq.rfl {up : Bool} {A : List Int} : Lq up A A := by unfold Lq; split <;> exact fun _ h => h
theorem Lq.trans {up : Bool} {A B C : List Int} (x : Lq up A B) (y : Lq up B C) : Lq up A C := by
  unfold Lq at *
  split at * <;> simp_all
theorem sorted_ext : ∀ (A B : List Int), A.Pairwise (· < ·) → B.Pairwise (· < ·) → (∀ x, x ∈ A ↔ x ∈ B) → A = B
  | [], [], _, _, _ => _root_.rfl
  | [], b :: B, _, _, h => absurd ((h b).mpr (List.mem_cons_self ..)) (by simp)
  | a :: A, [], _, _, h => absurd ((h a).mp (List.mem_cons_self ..)) (by simp)
  | a :: A, b :: B, hA, hB, h => by
    have hA' := List.pairwise_cons.mp hA
    have hB' := List.pairwise_cons.mp hB
    have e : a = b := by
      rcases List.mem_cons.mp ((h a).mp (List.mem_cons_self ..)) with e | e
      · exact e
      · rcases List.mem_cons.mp ((h b).mpr (List.mem_cons_self ..)) with e2 | e2
        · exact e2.symm
        · have := hA'.1 b e2
          have := hB'.1 a e
          omega
    subst e
    have : A = B := sorted_ext A B hA'.2 hB'.2 fun x => by
      constructor
      · intro hx
        rcases List.mem_cons.mp ((h x).mp (List.mem_cons_of_mem _ hx)) with e2 | e2
        · subst e2
          have := hA'.1 x hx
          omega
        · exact e2
      · intro hx
        rcases List.mem_cons.mp ((h x).mpr (List.mem_cons_of_mem _ hx)) with e2 | e2
        · subst e2
          have := hB'.1 x hx
          omega
        · exact e2
    rw [this]
theorem StOk.nat {n : Nat} {A : List Int} (a : StOk n A) {x : Int} (h : x ∈ A) : ∃ l : Nat, x = (l : Int) ∧ l < n := ⟨x.toNat, by have := a.lo x h; omega, by have := a.lo x h; have := a.hi x h; omega⟩
theorem StOk.ext {n : Nat} {A B : List Int} (a : StOk n A) (b : StOk n B) (h : ∀ l : Nat, (l : Int) ∈ A ↔ (l : Int) ∈ B) : A = B :=
  sorted_ext A B a.up b.up fun x => by
    constructor
    · intro hx
      obtain ⟨l, e, _⟩ := a.nat hx
      subst e
      exact (h l).mp hx
    · intro hx
      obtain ⟨l, e, _⟩ := b.nat hx
      subst e
      exact (h l).mpr hx
theorem Lq.eq {n : Nat} {up : Bool} {A B : List Int} (a : StOk n A) (b : StOk n B) (x : Lq up A B) (y : Lq up B A) : A = B := by
  unfold Lq at *
  cases up with
  | true => exact a.ext b fun l => ⟨x _, y _⟩
  | false => exact a.ext b fun l => ⟨y _, x _⟩
def canon (n : Nat) (P : Nat → Bool) : List Int := ((List.range n).filter P).map fun (l : Nat) => (l : Int)
theorem mem_canon {n : Nat} {P : Nat → Bool} {l : Nat} : (l : Int) ∈ canon n P ↔ l < n ∧ P l = true := by
  unfold canon
  rw [List.mem_map]
  constructor
  · rintro ⟨k, hk, e⟩
    have : k = l := by omega
    subst this
    have := List.mem_filter.mp hk
    exact ⟨List.mem_range.mp this.1, this.2⟩
  · rintro ⟨h1, h2⟩
    exact ⟨l, List.mem_filter.mpr ⟨List.mem_range.mpr h1, h2⟩, _root_.rfl⟩
theorem canon_ok (n : Nat) (P : Nat → Bool) : StOk n (canon n P) := by
  refine ⟨?_, ?_, ?_⟩
  · unfold canon
    rw [List.pairwise_map]
    have h : (List.range n).Pairwise (· < ·) := List.pairwise_lt_range
    exact ((h.filter P).imp fun {a b} hab => by omega)
  · intro x hx
    unfold canon at hx
    obtain ⟨l, _, e⟩ := List.mem_map.mp hx
    omega
  · intro x hx
    unfold canon at hx
    obtain ⟨l, h1, e⟩ := List.mem_map.mp hx
    have := List.mem_range.mp (List.mem_filter.mp h1).1
    omega
/-- a stand once latches have gone -/
def stepS (n : Nat) (st : List Int) (ls : List Nat) (up : Bool) : List Int := canon n fun l => if up = true then decide ((l : Int) ∈ st) || decide (l ∈ ls) else decide ((l : Int) ∈ st) && !decide (l ∈ ls)
theorem stepS_ok (n : Nat) (st : List Int) (ls : List Nat) (up : Bool) : StOk n (stepS n st ls up) := canon_ok _ _
theorem mem_up {n : Nat} {st : List Int} {ls : List Nat} {l : Nat} : (l : Int) ∈ stepS n st ls true ↔ l < n ∧ ((l : Int) ∈ st ∨ l ∈ ls) := by
  unfold stepS
  rw [mem_canon]
  simp
theorem mem_down {n : Nat} {st : List Int} {ls : List Nat} {l : Nat} : (l : Int) ∈ stepS n st ls false ↔ l < n ∧ ((l : Int) ∈ st ∧ l ∉ ls) := by
  unfold stepS
  rw [mem_canon]
  simp
theorem sum_mono (A B : List Int) (h : ∀ x ∈ A, x ∈ B) : ∀ ls : List (Int × Int), (∀ p ∈ ls, 0 ≤ p.2) → ((ls.filter fun p => decide (p.1 ∈ A)).map (·.2)).sum ≤ ((ls.filter fun p => decide (p.1 ∈ B)).map (·.2)).sum
  | [], _ => Int.le_refl _
  | p :: r, hp => by
    have ih := sum_mono A B h r fun q hq => hp q (List.mem_cons_of_mem _ hq)
    have h0 := hp p (List.mem_cons_self ..)
    by_cases ha : p.1 ∈ A
    · have hb := h _ ha
      rw [List.filter_cons_of_pos (by simpa using ha), List.filter_cons_of_pos (by simpa using hb), List.map_cons, List.map_cons, List.sum_cons, List.sum_cons]
      omega
    · rw [List.filter_cons_of_neg (by simpa using ha)]
      by_cases hb : p.1 ∈ B
      · rw [List.filter_cons_of_pos (by simpa using hb), List.map_cons, List.sum_cons]
        omega
      · rw [List.filter_cons_of_neg (by simpa using hb)]
        exact ih
theorem lent_mono {h : Hs} (hp : HsPos h) {A B : List Int} (ab : ∀ x ∈ A, x ∈ B) (l : Nat) : h.lent A l ≤ h.lent B l := by
  unfold Hs.lent
  refine sum_mono A B ab _ fun p hm => ?_
  unfold lendOf at hm
  obtain ⟨x, hx, e⟩ := List.mem_map.mp hm
  have := hp.lend x (List.mem_filter.mp hx).1
  rw [← e]
  exact this
theorem goes_mono {h : Hs} (hp : HsPos h) {up : Bool} {A B : List Int} (ab : Lq up A B) {s : Int} {l : Nat} (g : h.goes A s l up = true) : h.goes B s l up = true := by
  unfold Hs.goes at *
  unfold Lq at ab
  cases up with
  | true =>
    have := lent_mono hp (A := A) (B := B) ab l
    simp at g ⊢
    omega
  | false =>
    have := lent_mono hp (A := B) (B := A) ab l
    simp at g ⊢
    omega
/-- what goes the one way from less would not go the other way from more -/
theorem goes_not {h : Hs} (hp : HsPos h) {up : Bool} {A B : List Int} (ab : Lq up A B) {s : Int} {l : Nat} (hl : l < h.n) (g : h.goes A s l up = true) : h.goes B s l (!up) = false := by
  have g2 := goes_mono hp ab g
  have hm : (h.up l, h.dn l) ∈ h.lat := List.mem_of_getElem? (lat_get hl)
  have hg := hp.gap _ hm
  unfold Hs.goes at *
  cases up with
  | true => simp at g2 ⊢; omega
  | false => simp at g2 ⊢; omega
theorem mem_want {h : Hs} {st : List Int} {s : Int} {up : Bool} {l : Nat} : l ∈ h.want st s up ↔ l < h.n ∧ decide ((l : Int) ∈ st) = !up ∧ h.goes st s l up = true := by
  unfold Hs.want Hs.mov
  rw [List.mem_filter, List.mem_filter, List.mem_range]
  cases up <;> cases decide ((l : Int) ∈ st) <;> simp
structure Clo (h : Hs) (s : Int) (up : Bool) (st T : List Int) : Prop where
  ok : StOk h.n T
  ge : Lq up st T
  fin : h.want T s up = []
  least : ∀ U, StOk h.n U → Lq up st U → h.want U s up = [] → Lq up T U
theorem Clo.uniq {h : Hs} {s : Int} {up : Bool} {st T U : List Int} (a : Clo h s up st T) (b : Clo h s up st U) : T = U :=
  Lq.eq a.ok b.ok (a.least U b.ok b.ge b.fin) (b.least T a.ok a.ge a.fin)
theorem Clo.self {h : Hs} {s : Int} {up : Bool} {st : List Int} (o : StOk h.n st) (e : h.want st s up = []) : Clo h s up st st := ⟨o, .rfl, e, fun _ _ h _ => h⟩
theorem gone_in {h : Hs} (hp : HsPos h) {s : Int} {up : Bool} {A U : List Int} {l : Nat} (hl : l ∈ h.want A s up) (au : Lq up A U) (e : h.want U s up = []) : decide ((l : Int) ∈ U) = up := by
  obtain ⟨h1, h2, h3⟩ := mem_want.mp hl
  cases hd : decide ((l : Int) ∈ U) == !up with
  | false => cases up <;> cases hz : decide ((l : Int) ∈ U) <;> simp_all
  | true =>
    have : l ∈ h.want U s up := mem_want.mpr ⟨h1, by simpa using hd, goes_mono hp au h3⟩
    rw [e] at this
    simp at this
theorem step_ge {h : Hs} {up : Bool} {st : List Int} (o : StOk h.n st) (ls : List Nat) : Lq up st (stepS h.n st ls up) := by
  unfold Lq
  cases up with
  | true =>
    refine fun x hx => ?_
    obtain ⟨l, e, hl⟩ := o.nat hx
    subst e
    exact mem_up.mpr ⟨hl, .inl hx⟩
  | false =>
    refine fun x hx => ?_
    obtain ⟨l, e, hl⟩ := (stepS_ok _ _ _ _).nat hx
    subst e
    exact (mem_down.mp hx).2.1
theorem step_in {h : Hs} (hp : HsPos h) {s : Int} {up : Bool} {A U : List Int} {ls : List Nat} (oU : StOk h.n U) (hl : ∀ l ∈ ls, l ∈ h.want A s up) (au : Lq up A U) (e : h.want U s up = []) : Lq up (stepS h.n A ls up) U := by
  unfold Lq at au ⊢
  cases up with
  | true =>
    refine fun x hx => ?_
    obtain ⟨l, e2, _⟩ := (stepS_ok _ _ _ _).nat hx
    subst e2
    rcases (mem_up.mp hx).2 with h1 | h1
    · exact au _ h1
    · simpa using gone_in hp (hl l h1) (show Lq true A U from au) e
  | false =>
    refine fun x hx => ?_
    obtain ⟨l, e2, hl2⟩ := oU.nat hx
    subst e2
    refine mem_down.mpr ⟨hl2, au _ hx, fun h1 => ?_⟩
    have := gone_in hp (hl l h1) (show Lq false A U from au) e
    simp at this
    exact this hx
theorem Clo.step {h : Hs} (hp : HsPos h) {s : Int} {up : Bool} {st T : List Int} {ls : List Nat} (o : StOk h.n st) (hl : ∀ l ∈ ls, l ∈ h.want st s up) (c : Clo h s up (stepS h.n st ls up) T) : Clo h s up st T :=
  ⟨c.ok, (step_ge o ls).trans c.ge, c.fin, fun U oU hU e => c.least U oU (step_in hp oU hl hU e) e⟩
/-- the other way's step -/
theorem step_back {h : Hs} {up : Bool} {A Z : List Int} {ls : List Nat} (oZ : StOk h.n Z) (oA : StOk h.n A) (az : Lq up A Z) : Lq up (stepS h.n A ls (!up)) Z := by
  have h1 := step_ge (up := !up) oA ls
  unfold Lq at *
  cases up with
  | true => exact fun x hx => az x (h1 x hx)
  | false => exact fun x hx => h1 x (az x hx)
theorem inv_step {h : Hs} (hp : HsPos h) {s : Int} {up up' : Bool} {A Z : List Int} {l : Nat} (oZ : StOk h.n Z) (oA : StOk h.n A) (az : Lq up A Z) (e : h.want Z s up = []) (hl : l ∈ h.want A s up') : Lq up (stepS h.n A [l] up') Z := by
  by_cases hu : up' = up
  · subst hu
    exact step_in hp oZ (fun k hk => by rw [List.mem_singleton.mp hk]; exact hl) az e
  · have : up' = !up := by cases up <;> cases up' <;> simp_all
    subst this
    exact step_back oZ oA az
theorem lq_not {up : Bool} {A B : List Int} : Lq (!up) A B ↔ Lq up B A := by unfold Lq; cases up <;> simp
/-- behind both ways none goes the first way -/
theorem settle1 {h : Hs} (hp : HsPos h) {s : Int} {up : Bool} {S C E : List Int} (c : Clo h s up S C) (d : Clo h s (!up) C E) : h.want E s up = [] := by
  refine List.eq_nil_iff_forall_not_mem.mpr fun l hl => ?_
  obtain ⟨h1, h2, h3⟩ := mem_want.mp hl
  have ec : Lq up E C := lq_not.mp d.ge
  by_cases hc : decide ((l : Int) ∈ C) = !up
  · have : l ∈ h.want C s up := mem_want.mpr ⟨h1, hc, goes_mono hp ec h3⟩
    rw [c.fin] at this
    simp at this
  · -- E with l
    have hU : StOk h.n (stepS h.n E [l] up) := stepS_ok _ _ _ _
    have hEU : Lq up E (stepS h.n E [l] up) := step_ge d.ok [l]
    have hCU : Lq (!up) C (stepS h.n E [l] up) := by
      refine lq_not.mpr ?_
      unfold Lq at ec ⊢
      cases up with
      | true =>
        refine fun x hx => ?_
        obtain ⟨k, e, _⟩ := hU.nat hx
        subst e
        rcases (mem_up.mp hx).2 with h4 | h4
        · exact ec _ h4
        · rw [List.mem_singleton.mp h4]
          simpa using hc
      | false =>
        refine fun x hx => ?_
        obtain ⟨k, e, hk⟩ := c.ok.nat hx
        subst e
        refine mem_down.mpr ⟨hk, ec _ hx, fun h4 => ?_⟩
        rw [List.mem_singleton.mp h4] at hx
        simp [hx] at hc
    have hw : h.want (stepS h.n E [l] up) s (!up) = [] := by
      refine List.eq_nil_iff_forall_not_mem.mpr fun k hk => ?_
      obtain ⟨k1, k2, k3⟩ := mem_want.mp hk
      by_cases hkl : k = l
      · subst hkl
        have := goes_not hp hEU k1 h3
        rw [this] at k3
        cases k3
      · have kE : decide ((k : Int) ∈ E) = up := by
          rw [Bool.not_not] at k2
          cases up with
          | true =>
            have := (mem_up.mp (of_decide_eq_true k2)).2
            rcases this with h4 | h4
            · exact decide_eq_true h4
            · exact absurd (List.mem_singleton.mp h4) hkl
          | false =>
            have := of_decide_eq_false k2
            refine decide_eq_false fun h4 => this (mem_down.mpr ⟨k1, h4, fun h5 => hkl (List.mem_singleton.mp h5)⟩)
        have : k ∈ h.want E s (!up) := mem_want.mpr ⟨k1, by rw [Bool.not_not]; exact kE, goes_mono hp (lq_not.mpr hEU) k3⟩
        rw [d.fin] at this
        simp at this
    have hle := lq_not.mp (d.least _ hU hCU hw)
    unfold Lq at hle
    cases up with
    | true =>
      have h4 := hle _ (mem_up.mpr ⟨h1, .inr (List.mem_singleton.mpr _root_.rfl)⟩)
      simp at h2
      exact h2 h4
    | false =>
      simp at h2
      have h4 := hle _ h2
      exact (mem_down.mp h4).2.2 (List.mem_singleton.mpr _root_.rfl)
/-- sunk, then climbed, lies within climbed, then sunk -/
theorem low_high {h : Hs} (hp : HsPos h) {s : Int} {S C E D L : List Int} (c : Clo h s true S C) (e : Clo h s false C E) (d : Clo h s false S D) (l : Clo h s true D L) : ∀ x ∈ L, x ∈ E := by
  have hCD : Lq false C D := by
    have h1 := c.ge
    have h2 := d.ge
    unfold Lq at *
    exact fun x hx => h1 x (h2 x hx)
  have h1 := e.least D d.ok hCD d.fin
  have h2 : Lq true D E := lq_not.mp h1
  have := l.least E e.ok h2 (settle1 hp c e)
  exact this
/-- from a stand on the way -/
theorem mid_low {h : Hs} {s : Int} {up : Bool} {S D0 L0 D L : List Int} (o0 : StOk h.n D0) (e0 : h.want D0 s up = []) (l0 : Clo h s (!up) D0 L0) (az : Lq up S D0) (d : Clo h s up S D) (l : Clo h s (!up) D L) : Lq (!up) L0 L :=
  l0.least L l.ok ((lq_not.mpr (d.least D0 o0 az e0)).trans l.ge) l.fin
/-! ### waves -/
def foldS (n : Nat) (up : Bool) (st : List Int) (ws : List (List Nat)) : List Int := ws.foldl (fun c w => stepS n c w up) st
def RunOk (h : Hs) (s : Int) (up : Bool) (st : List Int) (ws : List (List Nat)) : Prop := ∀ i w, ws[i]? = some w → w = h.want (foldS h.n up st (ws.take i)) s up
theorem foldS_snoc (n : Nat) (up : Bool) (st : List Int) (ws : List (List Nat)) (w : List Nat) : foldS n up st (ws ++ [w]) = stepS n (foldS n up st ws) w up := by
  unfold foldS
  rw [List.foldl_append]
  rfl
theorem RunOk.snoc {h : Hs} {s : Int} {up : Bool} {st : List Int} {ws : List (List Nat)} (r : RunOk h s up st ws) : RunOk h s up st (ws ++ [h.want (foldS h.n up st ws) s up]) := by
  intro i w hi
  rcases Nat.lt_or_ge i ws.length with hl | hl
  · rw [List.getElem?_append_left hl] at hi
    rw [List.take_append_of_le_length (by omega)]
    exact r i w hi
  · rw [List.getElem?_append_right hl] at hi
    have e : i - ws.length = 0 := by
      have := (List.getElem?_eq_some_iff.mp hi).1
      simp at this
      omega
    rw [e] at hi
    simp at hi
    have e2 : i = ws.length := by omega
    subst e2
    rw [List.take_left' _root_.rfl]
    exact hi.symm
theorem foldS_ok {h : Hs} {up : Bool} : ∀ {ws : List (List Nat)} {st : List Int}, StOk h.n st → StOk h.n (foldS h.n up st ws)
  | [], st, o => o
  | w :: ws, st, o => foldS_ok (ws := ws) (stepS_ok h.n st w up)
theorem mov_step {h : Hs} {s : Int} {up : Bool} {st : List Int} {ls : List Nat} (hne : ls ≠ []) (hl : ∀ l ∈ ls, l ∈ h.want st s up) : (h.mov (stepS h.n st ls up) up).length + 1 ≤ (h.mov st up).length := by
  have e : h.mov (stepS h.n st ls up) up = (h.mov st up).filter fun l => !decide (l ∈ ls) := by
    unfold Hs.mov
    rw [List.filter_filter]
    refine List.filter_congr fun l hl2 => ?_
    have hl3 := List.mem_range.mp hl2
    cases up with
    | true =>
      have : decide ((l : Int) ∈ stepS h.n st ls true) = (decide ((l : Int) ∈ st) || decide (l ∈ ls)) := by
        rw [← Bool.decide_or]
        exact decide_eq_decide.mpr (by rw [mem_up]; simp [hl3])
      rw [this]
      cases decide ((l : Int) ∈ st) <;> cases decide (l ∈ ls) <;> rfl
    | false =>
      have : decide ((l : Int) ∈ stepS h.n st ls false) = (decide ((l : Int) ∈ st) && !decide (l ∈ ls)) := by
        rw [← decide_not, ← Bool.decide_and]
        exact decide_eq_decide.mpr (by rw [mem_down]; simp [hl3])
      rw [this]
      cases decide ((l : Int) ∈ st) <;> cases decide (l ∈ ls) <;> rfl
  rw [e]
  obtain ⟨l, r, rfl⟩ : ∃ l r, ls = l :: r := by
    cases ls with
    | nil => exact absurd _root_.rfl hne
    | cons l r => exact ⟨l, r, _root_.rfl⟩
  have hm : l ∈ h.mov st up := (List.mem_filter.mp (hl l (List.mem_cons_self ..))).1
  have := (List.length_filter_lt_length_iff_exists (p := fun k => !decide (k ∈ l :: r)) (l := h.mov st up)).mpr ⟨l, hm, by simp⟩
  omega
theorem want_lt {h : Hs} {st : List Int} {s : Int} {up : Bool} {l : Nat} (hl : l ∈ h.want st s up) : l < h.n := (mem_want.mp hl).1
theorem want_rise (h : Hs) (st : List Int) (s : Int) (up : Bool) : (h.want st s up).Pairwise (· < ·) := by
  unfold Hs.want Hs.mov
  have hr : (List.range h.n).Pairwise (· < ·) := List.pairwise_lt_range
  exact (hr.filter _).filter _
theorem want_len (h : Hs) (st : List Int) (s : Int) (up : Bool) : (h.want st s up).length ≤ h.n := by
  unfold Hs.want Hs.mov
  exact Nat.le_trans (List.length_filter_le _ _) (Nat.le_trans (List.length_filter_le _ _) (by simp))
/-- sorted of a stand with latches that were not in it -/
theorem sort_up {n : Nat} {st : List Int} {ls : List Nat} {ns : List Int} (o : StOk n st) (hp : ns.Perm (st ++ ls.map fun (l : Nat) => (l : Int))) (hs : ns.Pairwise (· ≤ ·)) (hn : ls.Nodup) (hl : ∀ l ∈ ls, l < n ∧ ¬ (l : Int) ∈ st) : ns = stepS n st ls true := by
  have hnd : ns.Nodup := by
    refine hp.nodup_iff.mpr ?_
    rw [List.nodup_append]
    refine ⟨o.up.imp fun {a b} h => by omega, ?_, ?_⟩
    · rw [List.nodup_iff_pairwise_ne] at hn ⊢
      rw [List.pairwise_map]
      exact hn.imp fun {a b} h => by omega
    · intro a ha b hb e
      obtain ⟨l, h1, h2⟩ := List.mem_map.mp hb
      subst h2 e
      exact (hl l h1).2 ha
  have hst : ns.Pairwise (· < ·) := by
    rw [List.nodup_iff_pairwise_ne] at hnd
    exact (List.pairwise_and_iff.mpr ⟨hs, hnd⟩).imp fun {a b} h => by have := h.1; have := h.2; omega
  refine sorted_ext _ _ hst (stepS_ok _ _ _ _).up fun x => ?_
  rw [hp.mem_iff, List.mem_append]
  constructor
  · rintro (h | h)
    · obtain ⟨l, e, h2⟩ := o.nat h
      subst e
      exact mem_up.mpr ⟨h2, .inl h⟩
    · obtain ⟨l, h1, h2⟩ := List.mem_map.mp h
      subst h2
      exact mem_up.mpr ⟨(hl l h1).1, .inr h1⟩
  · intro h
    obtain ⟨l, e, _⟩ := (stepS_ok _ _ _ _).nat h
    subst e
    rcases (mem_up.mp h).2 with h | h
    · exact .inl h
    · exact .inr (List.mem_map.mpr ⟨l, h, _root_.rfl⟩)
/-- a stand without latches -/
theorem filter_down {n : Nat} {st : List Int} (o : StOk n st) (ls : List Nat) : st.filter (fun x => !decide (x ∈ ls.map fun (l : Nat) => (l : Int))) = stepS n st ls false := by
  refine sorted_ext _ _ (o.up.filter _) (stepS_ok _ _ _ _).up fun x => ?_
  rw [List.mem_filter]
  have e : ∀ l : Nat, ((l : Int) ∈ ls.map fun (l : Nat) => (l : Int)) ↔ l ∈ ls := fun l => by
    rw [List.mem_map]
    constructor
    · rintro ⟨k, h1, h2⟩
      have : k = l := by omega
      subst this
      exact h1
    · intro h
      exact ⟨l, h, _root_.rfl⟩
  constructor
  · rintro ⟨h1, h2⟩
    obtain ⟨l, e2, h3⟩ := o.nat h1
    subst e2
    refine mem_down.mpr ⟨h3, h1, fun h4 => ?_⟩
    have := (e l).mpr h4
    simp [this] at h2
  · intro h
    obtain ⟨l, e2, _⟩ := (stepS_ok _ _ _ _).nat h
    subst e2
    have := mem_down.mp h
    refine ⟨this.2.1, ?_⟩
    rw [Bool.not_eq_true', decide_eq_false_iff_not]
    exact fun h5 => this.2.2 ((e l).mp h5)
theorem StOk.len {n : Nat} {st : List Int} (o : StOk n st) : st.length ≤ n := by
  have e : st = canon n fun l => decide ((l : Int) ∈ st) := o.ext (canon_ok _ _) fun l => by
    rw [mem_canon]
    constructor
    · intro h
      obtain ⟨k, e, hk⟩ := o.nat h
      have : l = k := by omega
      subst this
      exact ⟨hk, decide_eq_true h⟩
    · intro h
      exact of_decide_eq_true h.2
  rw [e]
  unfold canon
  rw [List.length_map]
  exact Nat.le_trans (List.length_filter_le _ _) (by simp)
end My
namespace SrtO
open PySem PyProof.Rows Srt
section
variable {prog : Program} {w : World} {A : Around} {E : Value → Shared → Prop} {s : Shared}
/-! ### sorted of a tuple of ints: its items are gathered, then a list of them is sorted -/
theorem sorted_tupI {l : Addr} {vs : List Value} {ns : List Int} {Q : Value → Shared → Prop} (hl : s.heap.IsTuple l vs.toArray) (hI : IntsAre vs ns) (hz : vs.length ≤ sizeLine)
    (q : ∀ (h1 h' : Heap) (d : Addr) (out : List Value) (ns' : List Int), IntsAre out ns' → ns'.Perm ns → ns'.Pairwise (· ≤ ·) → (∀ b o, s.heap.get? b = some o → h1.get? b = some o) → (∀ b o, h1.get? b = some o → h'.get? b = some o) → h1.objs.size ≤ d → (∃ e, h'.get? d = some (seqObj "list" out.toArray e)) → Q (.ref d) { s with heap := h' }) :
    wpAny (model prog w) A (call (.builtin "sorted") [.ref l]) Q E s := by
  obtain ⟨o, ho, hc, n, hd⟩ := id hl
  have go : wpAny (model prog w) A.in1 (Builtin.«sorted» ⟨[.ref l], []⟩) (fun f s' => ∃ v, f = .done (.ret v) ∧ Q v s') E s := by
    unfold Builtin.«sorted»
    refine wpAny_bind (wpAny_pure (?_ : wpAny _ _ _ _ _ _)) <;> try trivial
    refine wpAny_bind (PySem.wpAny_collect_seq l (.inr rfl) ho hc hd (fun h1 k1 => ?_) (by simpa using hz))
    refine wpAny_bind (wpAny_newList (?_ : wpAny _ _ _ _ _ { s with heap := h1.push (seqObj "list" vs.toArray 0) }) hz)
    have hob : (h1.push (seqObj "list" vs.toArray 0)).get? h1.objs.size = some (seqObj "list" vs.toArray 0) := Heap.get?_push_size _ rfl
    refine wpAny_bind (wpAny_holding (wpAny_call_entry slot_list_sort ⟨_, hob, rfl⟩ entry_list_sort (list_sort_ord swo_int hob hz (fun two => ints_sortable hI two) fun out a1 a2 => ⟨_, rfl, ?_⟩) (args_list_sort _)))
    obtain ⟨k2, k3, k4⟩ := ints_out hI a1 a2
    refine wpAny_pure ⟨_, rfl, q h1 _ _ out _ k2 k3 k4 k1 (fun b o2 hb1 => ?_) (Nat.le_refl _) (sortedHeap_at hob)⟩
    have hlt : b < h1.objs.size := Heap.lt_size hb1
    rw [sortedHeap_old (Nat.ne_of_lt hlt) (Nat.lt_trans hlt (Heap.lt_size hob))]
    exact Heap.get?_push_of_some _ hb1
  exact Calls.call_function_entry kind_sorted plain_sorted entry_sorted (args_sorted1 _) go
end
end SrtO
namespace L2
open PySem PySem.Spec PyProof.Rows
/-- sorted(t), t a tuple of ints: a new list -/
def rSortTI (K : PySem.W.Frag) : List V → Hp → VK → Prop := fun vs H Q => ∃ (a : Addr) (ns : List Int), vs = [V.ref a] ∧ SqT K H a (ns.map V.int) ∧ ∀ (ms : List Int) (p : Addr), ms.Perm ns → ms.Pairwise (· ≤ ·) → H p = none → Q (.ref p) (upd H p (.lst (ms.map V.int)))
theorem kSortTI {X : Cx} {K : PySem.W.Frag} (hK : X.K = K := by rfl) : CallR X (.builtin "sorted") (rSortTI K) := by
  subst hK
  intro pins s σ H vs us Q I r h
  obtain ⟨a, ns, rfl, hs, q⟩ := h
  obtain ⟨its, rv, hl, hz⟩ := I.tuple hs
  rw [Vals.ref1 r]
  refine SrtO.sorted_tupI hl rv.ints (by rw [← rv.length]; exact hz) fun h1 h' d out ms k1 k2 k3 kp1 kp hd hn => ?_
  obtain ⟨e, he⟩ := hn
  have hlen : (ms.map V.int).length ≤ sizeLine := by
    rw [List.length_map] at hz
    rw [List.length_map, k2.length_eq]
    exact hz
  have I1 : Inv X pins σ H { s with heap := h1 } := I.kept (t' := s.toks) kp1
  exact ⟨.ref d, upd H d (.lst (ms.map V.int)), I1.laid (t' := s.toks) kp hd ⟨hlen, out, e, vals_of_ints k1, he⟩, rfl, q _ _ k2 k3 (I1.hok.fresh hd)⟩
end L2
namespace My
open PySem PySem.Spec PyProof.Rows L2
/-! ### ints as data -/
theorem r_next {D : Ends} {σ : L2.St} {H : Hp} (h : D.nx σ H) : tNext D σ H := h
theorem dpa_ints {K : PySem.W.Frag} {H : Hp} : ∀ xs : List Int, DpAll K H (xs.map V.int) (xs.map PyData.int)
  | [] => .nil
  | x :: r => .cons (.int x) (dpa_ints r)
theorem lay_int : ∀ xs : List Int, PyData.canLayAll0 (xs.map PyData.int) = true ∧ PyData.depthAll (xs.map PyData.int) = 0
  | [] => by simp [PyData.canLayAll0, PyData.depthAll]
  | x :: r => by
    have := lay_int r
    rw [List.map_cons]
    unfold PyData.canLayAll0 PyData.depthAll
    rw [this.1, this.2]
    simp [PyData.canLay0, PyData.depth]
def dL (xs : List Int) : PyData := .list (xs.map PyData.int)
def dT (xs : List Int) : PyData := .tuple (xs.map PyData.int)
theorem dpL {K : PySem.W.Frag} {H : Hp} {p : Addr} {xs : List Int} (h : SqL K H p (xs.map V.int)) : Dp K H (.ref p) (dL xs) := .lst h (dpa_ints xs)
theorem dpT {K : PySem.W.Frag} {H : Hp} {p : Addr} {xs : List Int} (h : SqT K H p (xs.map V.int)) : Dp K H (.ref p) (dT xs) := .tup h (dpa_ints xs)
theorem shL (xs : List Int) : SeqAt.shaped (dL xs) = true := by
  have h1 := lay_int xs
  unfold SeqAt.shaped dL
  simp [PyData.canLay0, PyData.depth, h1.1, h1.2]
theorem shT (xs : List Int) : SeqAt.shaped (dT xs) = true := by
  have h1 := lay_int xs
  unfold SeqAt.shaped dT
  simp [PyData.canLay0, PyData.depth, h1.1, h1.2]
theorem eqL0 (xs : List Int) : PyData.eqv (dL xs) (dL []) = xs.isEmpty := by
  cases xs <;> simp [dL, PyData.eqv, PyData.eqvAll]
theorem eqvAll_ints : ∀ xs : List Int, PyData.eqvAll (xs.map PyData.int) (xs.map PyData.int) = true
  | [] => by simp [PyData.eqvAll]
  | x :: r => by
    rw [List.map_cons]
    unfold PyData.eqvAll
    rw [eqvAll_ints r]
    simp [PyData.eqv]
theorem eqT (xs : List Int) : PyData.eqv (dT xs) (dT xs) = true := by
  unfold dT PyData.eqv
  exact eqvAll_ints xs
theorem Ki.ofEx {H H' : Hp} (e : Ex H H') : Ki H H' := e.ki
theorem nints_ints (ls : List Nat) : nints ls = (ls.map fun (l : Nat) => (l : Int)).map V.int := by unfold nints; rw [List.map_map]; rfl
theorem nints_ne {ls : List Nat} : (nints ls).isEmpty = ls.isEmpty := by cases ls <;> rfl
theorem exB_p {H H' : Hp} {p a : Addr} {o : HO} (e : ExB p H H') (n : a ≠ p) (h : H a = some o) : H' a = some o := e a o n h
/-- lists of latches, none of them at p -/
def WavesV (p : Addr) (H : Hp) (rs : List V) (ws : List (List Nat)) : Prop := Al (fun x w => ∃ b, x = V.ref b ∧ b ≠ p ∧ H b = some (.lst (nints w))) rs ws
theorem WavesV.exB {p : Addr} {H H' : Hp} {rs : List V} {ws : List (List Nat)} (h : WavesV p H rs ws) (e : ExB p H H') : WavesV p H' rs ws := h.imp fun _ _ ⟨b, h1, h2, h3⟩ => ⟨b, h1, h2, e _ _ h2 h3⟩
def lenAt (H : Hp) (p : Addr) : Nat := match H p with
  | some (.lst xs) => 15 - xs.length
  | _ => 0
end My
namespace HT
open PySem PyProof.Rows
section
variable {prog : Program} {w : World} {A : Around} {E : Value → Shared → Prop} {s : Shared}
/-! ### t[::-1], t a tuple -/
theorem applied_rev {sl : Addr} {vs : Value} {n : Nat} {Q : Int × Int × Nat → Shared → Prop} (hs : s.heap.IsSliceOf sl .none .none vs) (ps : IsPart vs (some (-1))) (q : Q ((n : Int) - 1, -1, n) s) : wpAny (model prog w) A (Builtin.Slice.sliceApplied (.ref sl) (pure (n : Int))) Q E s := by
  obtain ⟨os, hos, _, hds⟩ := id hs
  unfold Builtin.Slice.sliceApplied Builtin.Slice.sliceFields
  refine wpAny_bind (wpAny_bind (wpAny_field hos hds (x := .none) rfl (wpAny_bind (wpAny_field hos hds (x := .none) rfl (wpAny_bind (wpAny_field hos hds (x := vs) rfl (wpAny_pure ?_)))))))
  refine wpAny_bind (slicePart_ ps ?_)
  show wpAny _ _ (if ((-1 : Int) == 0) = true then _ else _) _ _ s
  rw [if_neg (show ¬ ((-1 : Int) == 0) = true by decide)]
  refine wpAny_bind (slicePart_none (wpAny_bind (slicePart_none (wpAny_bind (wpAny_pure ?_)))))
  have e1 : Builtin.Slice.sliceAdjust none none (-1) (n : Int) = ((n : Int) - 1, -1) := by
    unfold Builtin.Slice.sliceAdjust
    simp
  have e2 : Builtin.Slice.slicePlaces ((n : Int) - 1) (-1) (-1) = n := by
    unfold Builtin.Slice.slicePlaces
    rw [if_neg (by omega)]
    by_cases h : (n : Int) - 1 > -1
    · rw [if_pos h, show (-(-1) : Int) = 1 by decide, Int.ediv_one]
      omega
    · rw [if_neg h]
      omega
  show wpAny _ _ (match Builtin.Slice.sliceAdjust none none (-1) (n : Int) with | (a, b) => pure (a, (-1 : Int), Builtin.Slice.slicePlaces a b (-1))) _ _ s
  rw [e1]
  show wpAny _ _ (pure ((n : Int) - 1, (-1 : Int), Builtin.Slice.slicePlaces ((n : Int) - 1) (-1) (-1))) _ _ s
  rw [e2]
  exact wpAny_pure q
theorem fm_map {α β : Type} {f : α → Option β} {g : α → β} : ∀ l : List α, (∀ k ∈ l, f k = some (g k)) → l.filterMap f = l.map g
  | [], _ => rfl
  | a :: l, h => by
    rw [List.filterMap_cons_some (h a (List.mem_cons_self ..)), List.map_cons, fm_map l fun k hk => h k (List.mem_cons_of_mem _ hk)]
theorem pick_rev (xs : Array Value) : ((List.range xs.size).filterMap fun (k : Nat) => xs[(((xs.size : Nat) : Int) - 1 + (k : Int) * -1).toNat]?).toArray = xs.toList.reverse.toArray := by
  have h := PySem.W.krv_pick xs
  have e : xs.toList.reverse = (List.range xs.size).filterMap fun (k : Nat) => xs[(((xs.size : Nat) : Int) - 1 + (k : Int) * -1).toNat]? := by
    refine List.ext_getElem? fun i => ?_
    have e3 : ((List.range xs.size).filterMap fun (k : Nat) => xs[(((xs.size : Nat) : Int) - 1 + (k : Int) * -1).toNat]?) = (List.range xs.size).map fun (k : Nat) => xs.toList.reverse.getD k .none := by
      refine fm_map _ fun k hk => ?_
      have hk2 := List.mem_range.mp hk
      have e4 : (((xs.size : Nat) : Int) - 1 + (k : Int) * -1).toNat = xs.size - 1 - k := by omega
      rw [e4]
      have hl : k < xs.toList.reverse.length := by rw [List.length_reverse, Array.length_toList]; exact hk2
      rw [List.getD_eq_getElem?_getD, List.getElem?_reverse (by rw [Array.length_toList]; exact hk2), Array.length_toList, Array.getElem?_toList]
      have hj : xs.size - 1 - k < xs.size := by omega
      rw [Array.getElem?_eq_getElem hj]
      rfl
    rw [e3, List.getElem?_map]
    rcases Nat.lt_or_ge i xs.size with hi | hi
    · rw [List.getElem?_range hi]
      have hl : i < xs.toList.reverse.length := by rw [List.length_reverse, Array.length_toList]; exact hi
      rw [List.getElem?_eq_getElem hl]
      show _ = some (xs.toList.reverse.getD i .none)
      rw [List.getD_eq_getElem?_getD, List.getElem?_eq_getElem hl]
      rfl
    · rw [List.getElem?_eq_none (by rw [List.length_reverse, Array.length_toList]; exact hi), List.getElem?_eq_none (by rw [List.length_range]; exact hi)]
      rfl
  rw [e]
theorem item_rev {t sl : Addr} {items : Array Value} {vs : Value} {Q : Value → Shared → Prop} (ht : IsTup s.heap t items) (hs : s.heap.IsSliceOf sl .none .none vs) (ps : IsPart vs (some (-1))) (hz : items.size ≤ sizeLine)
    (q : Q (.ref s.heap.objs.size) { s with heap := s.heap.push { cls := .type "tuple", data := .seq items.toList.reverse.toArray } }) : wpAny (model prog w) A (getItem (.ref t) (.ref sl)) Q E s := by
  have hrev : sizeOk (.seq items.toList.reverse.toArray) := by
    show items.toList.reverse.toArray.size ≤ sizeLine
    simpa using hz
  obtain ⟨os, hos, hcs, hds⟩ := id hs
  have hTs : s.TypeIs (.ref sl) "slice" := ⟨os, hos, hcs⟩
  unfold getItem
  try with_reducible refine wpAny_holding ?_
  first | refine wpAny_bind (wpAny_pure ?_) | skip
  refine wpAny_bind (wpAny_sequenceKey ht.typeIs (by decide) (wpAny_bind (wpAny_callSpecial?_slot (name := Str.ofString "__getitem__") ht.typeIs PyProof.Rows.slot_tuple_getitem (wpAny_call_entry PyProof.Rows.slot_tuple_getitem ht.typeIs entry_tuple_getitem ?_ (args_tuple_getitem _ _)))))
  show wpAny _ _ (Builtin.Tuple.tupleItemsOf (.ref t) >>= _) _ _ s
  refine wpAny_bind (tupleItemsOf_ ht (wpAny_bind (wpAny_typeOf hTs ?_)))
  rw [if_pos (by decide)]
  refine wpAny_bind (applied_rev hs ps ?_)
  show wpAny _ _ (if (((items.size : Int) - 1) == 0 && (-1 : Int) == 1 && items.size == items.size) = true then _ else _) _ _ s
  rw [if_neg (by rw [show ((-1 : Int) == 1) = false by decide, Bool.and_false, Bool.false_and]; exact Bool.false_ne_true), pick_rev]
  first
    | exact wpAny_bind (m := Builtin.Tuple.tupleExact _) (wpAny_newObj_type (wpAny_pure ⟨_, rfl, wpAny_pure q⟩) hrev)
    | exact wpAny_bind (m := Builtin.Tuple.tupleExact _) (wpAny_newObj_type (wpAny_bind (wpAny_pure (wpAny_pure ⟨_, rfl, wpAny_pure q⟩))) hrev)
    | exact wpAny_bind (wpAny_bind (m := Builtin.Tuple.tupleExact _) (wpAny_newObj_type (wpAny_pure (wpAny_pure ⟨_, rfl, wpAny_pure q⟩)) hrev))
    | exact wpAny_bind (wpAny_bind (m := Builtin.Tuple.tupleExact _) (wpAny_newObj_type (wpAny_pure ⟨_, rfl, wpAny_pure q⟩) hrev))
end
end HT
namespace L2
open PySem PySem.Spec PyProof.Rows
def tRevT (K : PySem.W.Frag) (te : TE) : TE := fun σ H Q => te σ H fun x H1 => ∃ a xs, x = .ref a ∧ SqT K H1 a xs ∧ ∀ p, H1 p = none → Q (.ref p) (upd H1 p (.tup xs.reverse))
section
variable {X : Cx}
theorem pe_revT {e : Expr} {te : TE} {k : Nat} {p1 p2 p3 pos : Pos} (he : PE X e te) : PE X (.Subscript e (.Slice none none (some (.UnaryOp .USub (.Constant (.int 1) k p1) p2)) p3) pos) (tRevT X.K te) := by
  refine ⟨fun pins s σ H Q I h => Subscript_ (thn (he.run pins s σ H _ I h) fun v s1 ⟨x, H1, I1, r1, q1⟩ => ?_)⟩
  obtain ⟨a, xs, rfl, hx, q⟩ := q1
  cases r1
  have one : PO X (some (.UnaryOp .USub (.Constant (.int 1) k p1) p2)) (tPart (tUn (rU fun i => .int (-i)) (tC (.int 1)))) := po_some (pe_un un_neg pe_int)
  refine wpAny_Slice (thn (po_none.run pins s1 σ H1 (fun o H2 => o = none ∧ H2 = H1) I1 ⟨rfl, rfl⟩) fun vl s2 ⟨_, _, I2, pl, e1, e2⟩ => ?_)
  subst e1 e2
  refine thn (po_none.run pins s2 σ _ (fun o H3 => o = none ∧ H3 = _) I2 ⟨rfl, rfl⟩) fun vu s3 ⟨_, _, I3, pu, e1, e2⟩ => ?_
  subst e1 e2
  refine thn (one.run pins s3 σ _ (fun o H4 => o = some (-1) ∧ H4 = _) I3 ⟨1, rfl, -1, rfl, rfl, rfl⟩) fun vs s4 ⟨_, _, I4, ps, e1, e2⟩ => ?_
  subst e1 e2
  cases pl
  cases pu
  have I5 : Inv X pins σ _ { s4 with heap := s4.heap.push { cls := .type "slice", data := .fields #[.none, .none, vs] } } := I4.kept (t' := s4.toks) fun b ob hb => Heap.get?_push_of_some _ hb
  obtain ⟨its, r, ht, hz⟩ := I5.tuple hx
  have hlen := r.length
  show wpAny (model X.prog X.w) X.A (subscriptTail e (.Slice none none (some (.UnaryOp .USub (.Constant (.int 1) k p1) p2)) p3) (.ref a) (.ref s4.heap.objs.size)) (EP X pins σ Q) X.xe { s4 with heap := s4.heap.push { cls := .type "slice", data := .fields #[.none, .none, vs] } }
  refine tail_any (ops := [.ref a, .ref s4.heap.objs.size]) ht.typeIs (PyProof.Rows.slot_tuple_getitem.lookup) (HT.item_rev ht (Heap.IsSliceOf.new _ .none .none vs) ps (by rw [List.size_toArray]; omega) ?_) (by with_unfolding_all rfl)
  exact ⟨.ref _, _, I5.laid (t' := s4.toks) (o := .tup xs.reverse) (fun b ob hb => Heap.get?_push_of_some _ hb) (Nat.le_refl _) ⟨by rw [List.length_reverse]; exact hz, _, r.reverse, IsTup.new _ _⟩, rfl, q _ (I5.hok.fresh (Nat.le_refl _))⟩
end
end L2
namespace My
open PySem PySem.Spec PyProof.Rows L2
theorem kIxSeq {X : Cx} {K : PySem.W.Frag} (hK : X.K = K := by rfl) : IxR X (rIx K) := by subst hK; exact ix_seq
theorem kCatA {X : Cx} {K : PySem.W.Frag} (hK : X.K = K := by rfl) : OpR X (binaryOp .Add) (rCatA K) := by subst hK; exact op_catA
theorem units1 {X : Cx} {k : Nat} (hr : Room k X.A) : X.A.units + 1 < cLine := by have := hr.un; omega
theorem r_notV {ta : TE} {σ : L2.St} {H : Hp} {Q : VK} (h : ta σ H fun x H1 => ∃ c, x = .bl c ∧ Q (.bl (!c)) H1) : tNotV ta σ H Q := h
theorem Al.rev {α : Type} {R : V → α → Prop} {xs : List V} {as : List α} (h : Al R xs as) : Al R xs.reverse as.reverse := by
  refine ⟨by rw [List.length_reverse, List.length_reverse]; exact h.1, fun i x a h1 h2 => ?_⟩
  have hi : i < xs.length := by
    have := (List.getElem?_eq_some_iff.mp h1).1
    rwa [List.length_reverse] at this
  rw [List.getElem?_reverse hi] at h1
  rw [List.getElem?_reverse (by rw [← h.1]; exact hi), ← h.1] at h2
  exact h.2 _ x a h1 h2
theorem for_enumL {K : PySem.W.Frag} {a : Addr} {xs : List V} {g : TG} {tb : TS} {D : Ends} {σ : L2.St} {H : Hp} (Pv : Nat → L2.St → Hp → Prop) (h0 : Pv 0 σ H) (hl : ∀ i σ H, i ≤ xs.length → Pv i σ H → SqL K H a xs)
    (hs : ∀ i x T σ H, xs[i]? = some x → Pv i σ H → H T = none → g (.ref T) σ (upd H T (.tup [.int (i : Nat), x])) fun σ2 H2 => tb { D with nx := Pv (i + 1), ct := Pv (i + 1), bk := D.nx } σ2 H2) (hd : ∀ σ H, Pv xs.length σ H → D.nx σ H) :
    ∃ W : Nat → Nat → L2.St → Hp → Prop, (∃ m, W 0 m σ H) ∧ ∀ i m σ H, W i m σ H →
      ((Ite K a).stop i H ∧ D.nx σ H) ∨ ((Ite K a).go i H ∧ ∃ N : L2.St → Hp → Prop, (∀ σ' H', N σ' H' → ∃ m', m' < m ∧ W (i + 1) m' σ' H') ∧ ∀ x H', (Ite K a).yld i H x H' → g x σ H' fun σ2 H2 => tb { D with nx := N, ct := N, bk := D.nx } σ2 H2) := by
  refine ⟨fun i m σ H => m = xs.length - i ∧ i ≤ xs.length ∧ Pv i σ H, ⟨xs.length, by simp, Nat.zero_le _, h0⟩, ?_⟩
  rintro i m σ H ⟨rfl, hi, p⟩
  have q := hl i σ H hi p
  by_cases hlt : i < xs.length
  · refine .inr ⟨⟨xs, xs[i], q, by simp [hlt]⟩, Pv (i + 1), fun σ' H' p' => ⟨xs.length - (i + 1), by omega, rfl, hlt, p'⟩, fun x H' y => ?_⟩
    obtain ⟨T, z, rfl, hT, rfl, hz⟩ := y
    exact hs i z T σ H (hz xs q) p hT
  · have e : i = xs.length := by omega
    subst e
    exact .inl ⟨⟨xs, q, Nat.le_refl _⟩, hd σ H p⟩
theorem for_zipN {K : PySem.W.Frag} {a b : Addr} {xs ys : List V} {g : TG} {tb : TS} {D : Ends} {σ : L2.St} {H : Hp} (hl : ys.length ≤ xs.length) (Pv : Nat → L2.St → Hp → Prop) (h0 : Pv 0 σ H) (hq : ∀ i σ H, Pv i σ H → SqL K H a xs ∧ SqL K H b ys)
    (hs : ∀ (i : Nat) (x y : V) (T : Addr) (σ : L2.St) (H : Hp), xs[i]? = some x → ys[i]? = some y → Pv i σ H → H T = none → g (.ref T) σ (upd H T (.tup [x, y])) fun σ2 H2 => tb { D with nx := Pv (i + 1), ct := Pv (i + 1), bk := D.nx } σ2 H2) (hd : ∀ σ H, Pv ys.length σ H → D.nx σ H) :
    ∃ W : Nat → Nat → L2.St → Hp → Prop, (∃ m, W 0 m σ H) ∧ ∀ i m σ H, W i m σ H →
      ((Itz K a b).stop i H ∧ D.nx σ H) ∨ ((Itz K a b).go i H ∧ ∃ N : L2.St → Hp → Prop, (∀ σ' H', N σ' H' → ∃ m', m' < m ∧ W (i + 1) m' σ' H') ∧ ∀ x H', (Itz K a b).yld i H x H' → g x σ H' fun σ2 H2 => tb { D with nx := N, ct := N, bk := D.nx } σ2 H2) := by
  refine ⟨fun i m σ H => m = ys.length - i ∧ i ≤ ys.length ∧ Pv i σ H, ⟨ys.length, by simp, Nat.zero_le _, h0⟩, ?_⟩
  rintro i m σ H ⟨rfl, hi, p⟩
  obtain ⟨qa, qb⟩ := hq i σ H p
  by_cases hlt : i < ys.length
  · have hlx : i < xs.length := by omega
    refine .inr ⟨⟨xs, ys, xs[i], ys[i], qa, qb, by simp [hlx], by simp [hlt]⟩, Pv (i + 1), fun σ' H' p' => ⟨ys.length - (i + 1), by omega, rfl, hlt, p'⟩, fun v H' w => ?_⟩
    obtain ⟨T, x, z, rfl, hT, rfl, hx, hy⟩ := w
    exact hs i x z T σ H (hx xs qa) (hy ys qb) p hT
  · have e : i = ys.length := by omega
    subst e
    exact .inl ⟨⟨xs, ys, qa, qb, .inr (Nat.le_refl _)⟩, hd σ H p⟩
/-! ### rows of latches that go one by one -/
def endR (n : Nat) (up : Bool) (st : List Int) (row : List Nat) : List Int := row.foldl (fun c l => stepS n c [l] up) st
def AnyR (h : Hs) (s : Int) (up : Bool) (st : List Int) (row : List Nat) : Prop := ∀ i l, row[i]? = some l → l ∈ h.want (endR h.n up st (row.take i)) s up
def HdR (h : Hs) (s : Int) (up : Bool) (st : List Int) (row : List Nat) : Prop := ∀ i l, row[i]? = some l → (h.want (endR h.n up st (row.take i)) s up).head? = some l
def pulR (h : Hs) (s : Int) (up : Bool) : List Int → List Nat → List (Int × Int)
  | _, [] => []
  | c, l :: r => ((l : Int), s + h.lent c l) :: pulR h s up (stepS h.n c [l] up) r
def stayR (h : Hs) (s : Int) (up : Bool) (e : List Int) : List (Int × Int) := (h.mov e up).map fun (l : Nat) => ((l : Int), s + h.lent e l)
theorem HdR.any {h : Hs} {s : Int} {up : Bool} {st : List Int} {row : List Nat} (x : HdR h s up st row) : AnyR h s up st row := fun i l e => List.mem_of_mem_head? (by rw [x i l e]; rfl)
theorem endR_snoc (n : Nat) (up : Bool) (st : List Int) (row : List Nat) (l : Nat) : endR n up st (row ++ [l]) = stepS n (endR n up st row) [l] up := by
  unfold endR
  rw [List.foldl_append]
  rfl
theorem endR_ok {h : Hs} {up : Bool} : ∀ {row : List Nat} {st : List Int}, StOk h.n st → StOk h.n (endR h.n up st row)
  | [], _, o => o
  | l :: r, st, _ => endR_ok (row := r) (stepS_ok h.n st [l] up)
theorem snocI {P : List Nat → Nat → Prop} {row : List Nat} {x : Nat} (a : ∀ i l, row[i]? = some l → P (row.take i) l) (b : P row x) : ∀ i l, (row ++ [x])[i]? = some l → P ((row ++ [x]).take i) l := by
  intro i l hi
  rcases Nat.lt_or_ge i row.length with hl | hl
  · rw [List.getElem?_append_left hl] at hi
    rw [List.take_append_of_le_length (by omega)]
    exact a i l hi
  · rw [List.getElem?_append_right hl] at hi
    have e : i - row.length = 0 := by
      have := (List.getElem?_eq_some_iff.mp hi).1
      simp at this
      omega
    rw [e] at hi
    simp at hi
    have e2 : i = row.length := by omega
    subst e2 hi
    rw [List.take_left' rfl]
    exact b
theorem AnyR.snoc {h : Hs} {s : Int} {up : Bool} {st : List Int} {row : List Nat} {x : Nat} (a : AnyR h s up st row) (b : x ∈ h.want (endR h.n up st row) s up) : AnyR h s up st (row ++ [x]) := snocI (P := fun r l => l ∈ h.want (endR h.n up st r) s up) a b
theorem HdR.snoc {h : Hs} {s : Int} {up : Bool} {st : List Int} {row : List Nat} {x : Nat} (a : HdR h s up st row) (b : (h.want (endR h.n up st row) s up).head? = some x) : HdR h s up st (row ++ [x]) := snocI (P := fun r l => (h.want (endR h.n up st r) s up).head? = some l) a b
theorem AnyR.nil {h : Hs} {s : Int} {up : Bool} {st : List Int} : AnyR h s up st [] := fun i l e => by simp at e
theorem HdR.nil {h : Hs} {s : Int} {up : Bool} {st : List Int} : HdR h s up st [] := fun i l e => by simp at e
theorem AnyR.tail {h : Hs} {s : Int} {up : Bool} {st : List Int} {l : Nat} {r : List Nat} (a : AnyR h s up st (l :: r)) : l ∈ h.want st s up ∧ AnyR h s up (stepS h.n st [l] up) r := ⟨a 0 l rfl, fun i k e => a (i + 1) k e⟩
theorem HdR.tail {h : Hs} {s : Int} {up : Bool} {st : List Int} {l : Nat} {r : List Nat} (a : HdR h s up st (l :: r)) : (h.want st s up).head? = some l ∧ HdR h s up (stepS h.n st [l] up) r := ⟨a 0 l rfl, fun i k e => a (i + 1) k e⟩
theorem HdR.uniq {h : Hs} {s : Int} {up : Bool} : ∀ {r r' : List Nat} {st : List Int}, HdR h s up st r → HdR h s up st r' → h.want (endR h.n up st r) s up = [] → h.want (endR h.n up st r') s up = [] → r = r'
  | [], [], _, _, _, _, _ => rfl
  | [], l :: r', st, _, b, e, _ => by
    have := b.tail.1
    rw [show h.want st s up = [] from e] at this
    cases this
  | l :: r, [], st, a, _, _, e => by
    have := a.tail.1
    rw [show h.want st s up = [] from e] at this
    cases this
  | l :: r, l' :: r', st, a, b, e, e' => by
    have h1 := a.tail.1
    rw [b.tail.1] at h1
    cases h1
    rw [HdR.uniq a.tail.2 b.tail.2 e e']
theorem AnyR.clo {h : Hs} (hp : HsPos h) {s : Int} {up : Bool} : ∀ {r : List Nat} {st : List Int}, StOk h.n st → AnyR h s up st r → h.want (endR h.n up st r) s up = [] → Clo h s up st (endR h.n up st r)
  | [], _, o, _, e => Clo.self o e
  | l :: r, st, o, a, e => Clo.step hp o (ls := [l]) (fun k hk => by rw [List.mem_singleton.mp hk]; exact a.tail.1) (AnyR.clo hp (stepS_ok _ _ _ _) a.tail.2 e)
theorem AnyR.len {h : Hs} {s : Int} {up : Bool} : ∀ {r : List Nat} {st : List Int}, AnyR h s up st r → r.length + (h.mov (endR h.n up st r) up).length ≤ (h.mov st up).length
  | [], _, _ => by
    show 0 + _ ≤ _
    rw [Nat.zero_add]
    exact Nat.le_refl _
  | l :: r, st, a => by
    have h1 := AnyR.len a.tail.2
    have h2 := mov_step (h := h) (s := s) (up := up) (st := st) (ls := [l]) (by simp) fun k hk => by rw [List.mem_singleton.mp hk]; exact a.tail.1
    show r.length + 1 + (h.mov (endR h.n up (stepS h.n st [l] up) r) up).length ≤ _
    omega
theorem pulR_snoc (h : Hs) (s : Int) (up : Bool) (l : Nat) : ∀ (row : List Nat) (st : List Int), pulR h s up st (row ++ [l]) = pulR h s up st row ++ [((l : Int), s + h.lent (endR h.n up st row) l)]
  | [], _ => rfl
  | k :: r, st => by
    show _ :: pulR h s up (stepS h.n st [k] up) (r ++ [l]) = _ :: (pulR h s up (stepS h.n st [k] up) r ++ [_])
    rw [pulR_snoc h s up l r]
    rfl
theorem pulR_get (h : Hs) (s : Int) (up : Bool) : ∀ {row : List Nat} {st : List Int} {i : Nat} {p : Int × Int}, (pulR h s up st row)[i]? = some p → ∃ l, row[i]? = some l ∧ p = ((l : Int), s + h.lent (endR h.n up st (row.take i)) l)
  | [], _, _, _, e => by simp [pulR] at e
  | l :: r, st, 0, p, e => ⟨l, rfl, by
      have : some ((l : Int), s + h.lent st l) = some p := e
      exact (Option.some.inj this).symm⟩
  | l :: r, st, i + 1, p, e => by
    obtain ⟨k, h1, h2⟩ := pulR_get h s up (row := r) (st := stepS h.n st [l] up) (i := i) (p := p) e
    exact ⟨k, h1, h2⟩
theorem pulR_len (h : Hs) (s : Int) (up : Bool) : ∀ (row : List Nat) (st : List Int), (pulR h s up st row).length = row.length
  | [], _ => rfl
  | l :: r, st => by
    show (pulR h s up (stepS h.n st [l] up) r).length + 1 = r.length + 1
    rw [pulR_len h s up r]
/-! ### all numbers in their order -/
def ordI (n : Nat) : List Int := (List.range n).map fun (l : Nat) => (l : Int)
theorem rgV_ord (n : Nat) : rgV 0 (n : Int) = (ordI n).map V.int := by
  unfold rgV ordI
  rw [List.map_map, show ((n : Int) - 0).toNat = n by omega]
  refine List.map_congr_left fun i _ => ?_
  show V.int (0 + (i : Int)) = V.int (i : Int)
  rw [Int.zero_add]
theorem ordI_up (n : Nat) : (ordI n).Pairwise (· < ·) := by
  unfold ordI
  rw [List.pairwise_map]
  have h : (List.range n).Pairwise (· < ·) := List.pairwise_lt_range
  exact h.imp fun {a b} hab => by omega
theorem ordI_sorted {n : Nat} {ms : List Int} (hp : ms.Perm (ordI n)) (hs : ms.Pairwise (· ≤ ·)) : ms = ordI n := by
  have hn : ms.Nodup := hp.nodup_iff.mpr (List.nodup_iff_pairwise_ne.mpr ((ordI_up n).imp fun {a b} h => by omega))
  have hst : ms.Pairwise (· < ·) := (List.pairwise_and_iff.mpr ⟨hs, List.nodup_iff_pairwise_ne.mp hn⟩).imp fun {a b} h => by have := h.1; have := h.2; omega
  exact sorted_ext _ _ hst (ordI_up n) fun x => hp.mem_iff
theorem want_ord (h : Hs) (st : List Int) (s : Int) (up : Bool) : (List.range h.n).filter (fun l => decide (l ∈ h.want st s up)) = h.want st s up := by
  have e : h.want st s up = (List.range h.n).filter fun (l : Nat) => (decide ((l : Int) ∈ st) != up) && h.goes st s l up := by
    unfold Hs.want Hs.mov
    rw [List.filter_filter]
    refine List.filter_congr fun l _ => ?_
    rw [Bool.and_comm]
  refine Eq.trans ?_ e.symm
  refine List.filter_congr fun l hl => ?_
  rw [e]
  cases hq : ((decide ((l : Int) ∈ st) != up) && h.goes st s l up) with
  | true => exact decide_eq_true (List.mem_filter.mpr ⟨hl, hq⟩)
  | false => exact decide_eq_false fun z => by rw [(List.mem_filter.mp z).2] at hq; cases hq
theorem eqvAll_dec : ∀ xs ys : List Int, PyData.eqvAll (xs.map PyData.int) (ys.map PyData.int) = decide (xs = ys)
  | [], [] => by simp [PyData.eqvAll]
  | [], y :: r => by simp [PyData.eqvAll]
  | x :: r, [] => by simp [PyData.eqvAll]
  | x :: r, y :: q => by
    rw [List.map_cons, List.map_cons]
    unfold PyData.eqvAll
    rw [eqvAll_dec r q]
    by_cases h1 : x = y
    · by_cases h2 : r = q
      · simp [PyData.eqv, h1, h2]
      · simp [PyData.eqv, h1, h2]
    · simp [PyData.eqv, h1]
theorem eqT_dec (xs ys : List Int) : PyData.eqv (dT xs) (dT ys) = decide (xs = ys) := by
  unfold dT PyData.eqv
  exact eqvAll_dec xs ys
theorem eqL_dec (xs ys : List Int) : PyData.eqv (dL xs) (dL ys) = decide (xs = ys) := by
  unfold dL PyData.eqv
  exact eqvAll_dec xs ys
end My
/-! ### != of instances with an own __eq__ -/
namespace My
open PySem PySem.Spec PySem.W PyProof.Rows L2
section
variable {prog : Program} {w : World} {M : Model} {A : Around} {E : Value → Shared → Prop} {s : Shared} {K : Frag} {x C f L : Addr} {ox : Obj} {od : Option Obj} {h₀ : Heap} {m : Str → Option Value} {b tb : Value}
theorem ifBound_B {name : Str} {id : String} {args : List Value} {Q : Option Value → Shared → Prop} (X : K.In s.heap) (I : InstAt s.heap x ox C od) (hs : findIn K (.ref C) name = some (some (.builtin id)))
    (hb : ∀ self, bindSpecial (.builtin id) self = pure (.builtin id, [self]))
    (h : wpAny M A (call (.builtin id) (.ref x :: args)) (fun v => Q (some v)) E s) : wpAny M A (callSpecialIfBound? (.ref x) name args) Q E s := by
  simp only [callSpecialIfBound?, bindSpecialIfBound?]
  refine wpAny_holding (wpAny_bind (wpAny_bind (wpAny_bind (I.type.here ((looks_findIn X hs).here ?_)))))
  refine wpAny_bind (wpAny_askSetting (wpAny_ite ?_))
  have fin : wpAny M A (call (.builtin id) ([.ref x] ++ args) >>= fun v => pure (some v)) Q E s := wpAny_bind (wpAny_mono h (fun v s' h' => wpAny_pure h') fun _ _ h' => h')
  split
  · exact wpAny_bind ((Looks.of_pure (hb _)).here (wpAny_pure (by exact fin)))
  · exact wpAny_tryCatch (wpAny_bind ((Looks.of_pure (hb _)).here (wpAny_pure (by exact fin))))
open Builtin in
theorem one_ne {Q : Value → Shared → Prop} (hu : A.in1.units < cLine) (X : K.In s.heap) (I : InstAt s.heap x ox C od) (hm : mroIn K C (.type "object") = some true) (hr : findIn K (.ref C) "__eq__" = some (some (.ref f))) (hf : isFn K (.ref f) = true)
    (h : wpAny (model prog w) A.in1 (call (.ref f) [.ref x, b]) (fun v s' => ∃ r, v = .bool r ∧ Q (.bool (!r)) s') E s) : wpAny (model prog w) A (call (.builtin "object.__ne__") [.ref x, b]) Q E s := by
  refine wpAny_call (codeAny_call_builtin PySem.F.slot_object_ne.plain PySem.F.entry_object_ne (check_slot (i := "object.__ne__") (owner := "object") (n := "__ne__") (by decide +kernel) (by decide +kernel) (I.type.andThen (looks_mroIn X hm)) (PySem.F.args_object_ne_2 _ _) ?_))
  unfold Builtin.«object.__ne__»
  refine wpAny_bind (m := slotArgs "__ne__" 1 _) (wpAny_pure ?_)
  refine wpAny_bind (m := cRoomFor _ _) (wpAny_cRoomFor hu ?_)
  refine wpAny_bind (m := callSpecialIfBound? (.ref x) (Str.ofString "__eq__") _) (ifBound_K X I hr hf (wpAny_mono h (fun r s' hq => ?_) fun _ _ y => y))
  obtain ⟨r, rfl, hq⟩ := hq
  refine wpAny_bind (m := truthy (.bool _)) (wpAny_truthy_bool ?_)
  exact wpAny_pure hq
theorem cmp_neK {Q : Value → Shared → Prop} (hu : A.units < cLine) (hu1 : A.in1.units < cLine) (F : Fr h₀ L s.heap m) (X₀ : K.In h₀) (I : InstAt s.heap x ox C od) (hb : Looks (model prog w) s.heap (typeOf b) tb) (hn : notFirst K C tb = true)
    (hne : findIn K (.ref C) "__ne__" = some (some (.builtin "object.__ne__"))) (hm : mroIn K C (.type "object") = some true) (hs : findIn K (.ref C) "__eq__" = some (some (.ref f))) (hf : isFn K (.ref f) = true)
    (h : wpAny (model prog w) A.in1 (call (.ref f) [.ref x, b]) (fun v s' => ∃ r, v = .bool r ∧ Q (.bool (!r)) s') E s) : wpAny (model prog w) A (richCompare .NotEq (.ref x) b) Q E s := by
  have X := X₀.keeps F.keep
  have one : wpAny (model prog w) A (tryCompare (.ref x) (cmpInfo .NotEq).2.1 b) (fun r s' => ∃ v, r = some v ∧ Q v s') E s := by
    unfold tryCompare
    refine wpAny_bind (ifBound_B X I hne PySem.F.slot_object_ne.bind (one_ne hu1 X I hm hs hf (wpAny_mono h (fun v s' hv => ?_) fun _ _ e => e)))
    obtain ⟨r, rfl, hq⟩ := hv
    exact ⟨r, rfl, wpAny_pure ⟨_, rfl, hq⟩⟩
  unfold richCompare
  simp only [oneThing_ref]
  refine wpAny_holding (wpAny_bind (wpAny_cRoomFor hu ?_))
  refine wpAny_bind (I.type.here (wpAny_bind (hb.here ?_)))
  split
  · rename_i q
    have e : subIn K tb (.ref C) = some false := by
      rcases Bool.or_eq_true_iff.mp hn with e | e
      · rw [beq_iff_eq.mp e] at q; simp at q
      · exact beq_iff_eq.mp e
    refine wpAny_bind ((looks_subIn X e).here ?_)
    simp only [Bool.false_eq_true, if_false]
    refine wpAny_bind (wpAny_mono one (fun r s' z => ?_) fun _ _ e => e)
    obtain ⟨v, rfl, hq⟩ := z
    exact wpAny_pure hq
  · refine wpAny_bind (wpAny_pure ?_)
    simp only [Bool.false_eq_true, if_false]
    refine wpAny_bind (wpAny_mono one (fun r s' z => ?_) fun _ _ e => e)
    obtain ⟨v, rfl, hq⟩ := z
    exact wpAny_pure hq
end
section
variable {X : Cx} {C : Addr} {k : Nat} {ps : List Str} {sp : Sp}
def rNeO (C : Addr) (sp : Sp) : R2 := fun x y H Q => ∃ (a b dx dy : Addr) (fs gs : List (PySem.Str × V)), x = .ref a ∧ y = .ref b ∧ H a = some (.ins C dx fs) ∧ H b = some (.ins C dy gs) ∧
  sp [.ref a, .ref b] H (fun v H' => ∃ r : Bool, v = .bl r ∧ Q (.bl (!r)) H') E0
theorem op_neO (D : Mtd X.prog X.w X.K X.mg X.base C "__eq__" k ps sp) (hne : findIn X.K (.ref C) "__ne__" = some (some (.builtin "object.__ne__"))) (hm : mroIn X.K C (.type "object") = some true) (hr : Room (k + 1) X.A) : OpR X (compareOp .NotEq) (rNeO C sp) := by
  intro pins s σ H x y v u Q I rx ry hq
  obtain ⟨a, b, dx, dy, fs, gs, rfl, rfl, ha, hb', hsp⟩ := hq
  cases rx
  cases ry
  obtain ⟨f, fd, hmm, hb, F⟩ := D.ex
  obtain ⟨mA, J, _⟩ := ins_get I.hok ha
  obtain ⟨mB, J', _⟩ := ins_get I.hok hb'
  obtain ⟨od, J, _⟩ := J.look
  obtain ⟨od', J', _⟩ := J'.look
  obtain ⟨m, hF⟩ := I.fr
  show wpAny (model X.prog X.w) X.A (richCompare .NotEq (.ref a) (.ref b)) (EP X pins σ Q) X.xe s
  refine cmp_neK (tb := .ref C) hr.units0 hr.in1.units0 hF I.ok.mod.kin J J'.type (by simp [PySem.W.notFirst]) hne hm hmm.at_ hmm.fn ?_
  have hl := F.len _ _ _ _ hsp
  have r2 : Vals [V.ref a, V.ref b] [Value.ref a, Value.ref b] := .cons rfl (.cons rfl .nil)
  refine wpAny_call (codeAny_mono (F.run X.A.in1 X.stack s H ⟨[.ref a, .ref b], []⟩ [.ref a, .ref b] [.ref a, .ref b] _ E0 hr.in1 I.env0.in1 (by
    have := hb s [.ref a, .ref b] I.kIn (by simpa using hl)
    simpa using this) r2 hsp) fun r s' hq => ?_)
  cases r with
  | error e => exact hq.elim
  | ok fl =>
    cases fl with
    | ret w =>
      obtain ⟨z, H', I', rz, r, ez, q⟩ := I.after hq
      subst ez
      cases rz
      exact ⟨r, rfl, .bl (!r), H', I', rfl, q⟩
    | next => exact False.elim hq
    | brk => exact False.elim hq
    | cont => exact False.elim hq
end
section
variable {X : Cx} {C : Addr} {K : PySem.W.Frag}
theorem kIsC (c : C8.InsC K C) (hK : X.K = K := by rfl) : CallR X (.builtin "isinstance") (fun xs H Q => ∃ a dx fs, xs = [.ref a, .ref C] ∧ H a = some (.ins C dx fs) ∧ Q (.bl true) H) := by subst hK; exact C8.call_isC c
def td (p : Int × Int × Int) : PyData := .tuple [.int p.1, .int p.2.1, .int p.2.2]
theorem Dp.trip {H : Hp} {v : V} {p : Int × Int × Int} (h : TripV K H v p) : Dp K H v (td p) := by
  obtain ⟨t, rfl, h⟩ := h
  exact .tup h (.cons (.int _) (.cons (.int _) (.cons (.int _) .nil)))
theorem DpAll.trips {H : Hp} : ∀ {xs : List V} {ps : List (Int × Int × Int)}, Al (TripV K H) xs ps → DpAll K H xs (ps.map td)
  | [], ps, h => by rw [h.nil_inv]; exact .nil
  | x :: xs, [], h => by have := h.1; simp at this
  | x :: xs, p :: ps, h => .cons (Dp.trip h.inv.1) (DpAll.trips h.inv.2)
theorem td_lay : ∀ (ps : List (Int × Int × Int)), PyData.canLayAll0 (ps.map td) = true ∧ PyData.depthAll (ps.map td) ≤ 1
  | [] => by simp [PyData.canLayAll0, PyData.depthAll]
  | p :: r => by
    have ih := td_lay r
    refine ⟨?_, ?_⟩
    · rw [List.map_cons]
      unfold PyData.canLayAll0
      rw [ih.1]
      simp [td, PyData.canLay0, PyData.canLayAll0]
    · rw [List.map_cons]
      unfold PyData.depthAll
      have : PyData.depth (td p) ≤ 1 := by simp [td, PyData.depth, PyData.depthAll]
      omega
theorem pdsT_shaped (ps : List (Int × Int)) : SeqAt.shaped (.tuple (ps.map pd)) = true := by
  have h := pd_lay ps
  unfold SeqAt.shaped PyData.canLay0 PyData.depth
  rw [h.1]
  simp
  omega
theorem tdsT_shaped (ps : List (Int × Int × Int)) : SeqAt.shaped (.tuple (ps.map td)) = true := by
  have h := td_lay ps
  unfold SeqAt.shaped PyData.canLay0 PyData.depth
  rw [h.1]
  simp
  omega
theorem td_self : ∀ ps : List (Int × Int × Int), PyData.eqvAll (ps.map td) (ps.map td) = true
  | [] => by simp [PyData.eqvAll]
  | p :: r => by
    rw [List.map_cons]
    unfold PyData.eqvAll
    rw [td_self r]
    simp [td, PyData.eqv, PyData.eqvAll]
theorem pd_self : ∀ ps : List (Int × Int), PyData.eqvAll (ps.map pd) (ps.map pd) = true
  | [] => by simp [PyData.eqvAll]
  | p :: r => by
    rw [List.map_cons]
    unfold PyData.eqvAll
    rw [pd_self r]
    simp [pd, PyData.eqv, PyData.eqvAll]
end
end My
namespace My
open PySem PySem.Spec PyProof.Rows L2
/-! ### the text by places -/
def top (i : Nat) : Stmt := PySem.Challenge.pw_swaykeep_k20_there_and_back.main.body.getD i (.Pass ⟨0, 0, 0, 0⟩)
abbrev s_House___eq__ : Stmt := inClass (top 41) 7
theorem sc_House___eq__ : FnScope ["self", "other"] ["self", "other"] (defScope s_House___eq__) := ⟨rfl, rfl, rfl, by decide +kernel, rfl, by decide +kernel, by decide +kernel⟩
abbrev s__law_pull : Stmt := top 47
theorem sc__law_pull : FnScope ["plan", "stand", "swell", "latch", "one"] ["plan", "stand", "swell", "latch"] (defScope s__law_pull) := ⟨rfl, rfl, rfl, by decide +kernel, rfl, by decide +kernel, by decide +kernel⟩
abbrev s__law_ends : Stmt := top 52
theorem sc__law_ends : FnScope ["plan", "stand", "lows", "highs", "k", "pair"] ["plan", "stand"] (defScope s__law_ends) := ⟨rfl, rfl, rfl, by decide +kernel, rfl, by decide +kernel, by decide +kernel⟩
abbrev s__law_gone : Stmt := top 49
theorem sc__law_gone : FnScope ["stand", "latch", "one"] ["stand", "latch"] (defScope s__law_gone) := ⟨rfl, rfl, rfl, by decide +kernel, rfl, by decide +kernel, by decide +kernel⟩
abbrev s__law_may : Stmt := top 48
theorem sc__law_may : FnScope ["plan", "stand", "swell", "rising", "found", "latch", "pair", "number", "good"] ["plan", "stand", "swell", "rising"] (defScope s__law_may) := ⟨rfl, rfl, rfl, by decide +kernel, rfl, by decide +kernel, by decide +kernel⟩
abbrev s__law_pick : Stmt := top 44
theorem sc__law_pick : FnScope ["jar", "many", "found", "mixed"] ["jar", "many"] (defScope s__law_pick) := ⟨rfl, rfl, rfl, by decide +kernel, rfl, by decide +kernel, by decide +kernel⟩
abbrev s__law_on : Stmt := top 50
theorem sc__law_on : FnScope ["jar", "plan", "stand", "swell", "far", "some"] ["jar", "plan", "stand", "swell", "far"] (defScope s__law_on) := ⟨rfl, rfl, rfl, by decide +kernel, rfl, by decide +kernel, by decide +kernel⟩
abbrev s__law_swell : Stmt := top 51
theorem sc__law_swell : FnScope ["jar", "plan", "pair", "way"] ["jar", "plan"] (defScope s__law_swell) := ⟨rfl, rfl, rfl, by decide +kernel, rfl, by decide +kernel, by decide +kernel⟩
abbrev s__law_begun : Stmt := top 53
theorem sc__law_begun : FnScope ["jar", "plan", "stand", "edges", "swell", "turn", "far", "k"] ["jar", "plan"] (defScope s__law_begun) := ⟨rfl, rfl, rfl, by decide +kernel, rfl, by decide +kernel, by decide +kernel⟩
abbrev s_is_whole : Stmt := top 9
theorem sc_is_whole : FnScope ["thing"] ["thing"] (defScope s_is_whole) := ⟨rfl, rfl, rfl, by decide +kernel, rfl, by decide +kernel, by decide +kernel⟩
abbrev s_is_lending : Stmt := top 37
theorem sc_is_lending : FnScope ["thing", "many_latches", "one", "other", "many", "part"] ["thing", "many_latches"] (defScope s_is_lending) := ⟨rfl, rfl, rfl, by decide +kernel, rfl, by decide +kernel, by decide +kernel⟩
abbrev s_check_helps : Stmt := top 39
theorem sc_check_helps : FnScope ["helps", "many_latches", "pairs", "place", "lending"] ["helps", "many_latches"] (defScope s_check_helps) := ⟨rfl, rfl, rfl, by decide +kernel, rfl, by decide +kernel, by decide +kernel⟩
abbrev s_is_pair : Stmt := top 36
theorem sc_is_pair : FnScope ["thing", "up", "down"] ["thing"] (defScope s_is_pair) := ⟨rfl, rfl, rfl, by decide +kernel, rfl, by decide +kernel, by decide +kernel⟩
abbrev s_check_latches : Stmt := top 38
theorem sc_check_latches : FnScope ["latches", "number", "pair"] ["latches"] (defScope s_check_latches) := ⟨rfl, rfl, rfl, by decide +kernel, rfl, by decide +kernel, by decide +kernel⟩
abbrev s_lenders_to : Stmt := top 40
theorem sc_lenders_to : FnScope ["latch", "helps", "one", "other", "many"] ["latch", "helps"] (defScope s_lenders_to) := ⟨rfl, rfl, rfl, by decide +kernel, rfl, by decide +kernel, by decide +kernel⟩
abbrev s_House___init__ : Stmt := inClass (top 41) 0
theorem sc_House___init__ : FnScope ["self", "latches", "helps", "up", "down", "latch", "one", "other", "many"] ["self", "latches", "helps"] (defScope s_House___init__) := ⟨rfl, rfl, rfl, by decide +kernel, rfl, by decide +kernel, by decide +kernel⟩
abbrev s__law_house : Stmt := top 46
theorem sc__law_house : FnScope ["plan", "pair"] ["plan"] (defScope s__law_house) := ⟨rfl, rfl, rfl, by decide +kernel, rfl, by decide +kernel, by decide +kernel⟩
abbrev s__law_jar : Stmt := top 43
theorem sc__law_jar : FnScope ["script", "k", "cell"] ["script", "k"] (defScope s__law_jar) := ⟨rfl, rfl, rfl, by decide +kernel, rfl, by decide +kernel, by decide +kernel⟩
abbrev s__law_plan : Stmt := top 45
theorem sc__law_plan : FnScope ["jar", "most", "far", "pairs", "k", "high", "rare", "lent", "one", "other"] ["jar", "most"] (defScope s__law_plan) := ⟨rfl, rfl, rfl, by decide +kernel, rfl, by decide +kernel, by decide +kernel⟩
abbrev s__law_between : Stmt := top 55
theorem sc__law_between : FnScope ["jar", "one", "other", "low", "high", "far"] ["jar", "one", "other"] (defScope s__law_between) := ⟨rfl, rfl, rfl, by decide +kernel, rfl, by decide +kernel, by decide +kernel⟩
abbrev s__law_same : Stmt := top 54
theorem sc__law_same : FnScope ["found", "due", "k"] ["found", "due"] (defScope s__law_same) := ⟨rfl, rfl, rfl, by decide +kernel, rfl, by decide +kernel, by decide +kernel⟩
abbrev s_gone : Stmt := top 24
theorem sc_gone : FnScope ["stand", "latches", "up", "latch"] ["stand", "latches", "up"] (defScope s_gone) := ⟨rfl, rfl, rfl, by decide +kernel, rfl, by decide +kernel, by decide +kernel⟩
abbrev s_House___len__ : Stmt := inClass (top 41) 8
theorem sc_House___len__ : FnScope ["self"] ["self"] (defScope s_House___len__) := ⟨rfl, rfl, rfl, by decide +kernel, rfl, by decide +kernel, by decide +kernel⟩
abbrev s_movable : Stmt := top 19
theorem sc_movable : FnScope ["house", "stand", "up", "latch"] ["house", "stand", "up"] (defScope s_movable) := ⟨rfl, rfl, rfl, by decide +kernel, rfl, by decide +kernel, by decide +kernel⟩
abbrev s_is_latch : Stmt := top 10
theorem sc_is_latch : FnScope ["house", "thing"] ["house", "thing"] (defScope s_is_latch) := ⟨rfl, rfl, rfl, by decide +kernel, rfl, by decide +kernel, by decide +kernel⟩
abbrev s_check_latch : Stmt := top 13
theorem sc_check_latch : FnScope ["house", "latch"] ["house", "latch"] (defScope s_check_latch) := ⟨rfl, rfl, rfl, by decide +kernel, rfl, by decide +kernel, by decide +kernel⟩
abbrev s_House_down_at : Stmt := inClass (top 41) 4
theorem sc_House_down_at : FnScope ["self", "latch"] ["self", "latch"] (defScope s_House_down_at) := ⟨rfl, rfl, rfl, by decide +kernel, rfl, by decide +kernel, by decide +kernel⟩
abbrev s_House_up_at : Stmt := inClass (top 41) 3
theorem sc_House_up_at : FnScope ["self", "latch"] ["self", "latch"] (defScope s_House_up_at) := ⟨rfl, rfl, rfl, by decide +kernel, rfl, by decide +kernel, by decide +kernel⟩
abbrev s_House_lenders : Stmt := inClass (top 41) 5
theorem sc_House_lenders : FnScope ["self", "latch"] ["self", "latch"] (defScope s_House_lenders) := ⟨rfl, rfl, rfl, by decide +kernel, rfl, by decide +kernel, by decide +kernel⟩
abbrev s_lent_in : Stmt := top 18
theorem sc_lent_in : FnScope ["house", "stand", "latch", "one", "many"] ["house", "stand", "latch"] (defScope s_lent_in) := ⟨rfl, rfl, rfl, by decide +kernel, rfl, by decide +kernel, by decide +kernel⟩
abbrev s_would_go : Stmt := top 20
theorem sc_would_go : FnScope ["house", "stand", "swell", "latch", "up", "pulled"] ["house", "stand", "swell", "latch", "up"] (defScope s_would_go) := ⟨rfl, rfl, rfl, by decide +kernel, rfl, by decide +kernel, by decide +kernel⟩
abbrev s_wanting : Stmt := top 21
theorem sc_wanting : FnScope ["house", "stand", "swell", "up", "latch"] ["house", "stand", "swell", "up"] (defScope s_wanting) := ⟨rfl, rfl, rfl, by decide +kernel, rfl, by decide +kernel, by decide +kernel⟩
abbrev s_waves_of : Stmt := top 25
theorem sc_waves_of : FnScope ["house", "stand", "swell", "up", "waves", "going"] ["house", "stand", "swell", "up"] (defScope s_waves_of) := ⟨rfl, rfl, rfl, by decide +kernel, rfl, by decide +kernel, by decide +kernel⟩
abbrev s_end_of : Stmt := top 26
theorem sc_end_of : FnScope ["house", "stand", "swell", "up", "wave"] ["house", "stand", "swell", "up"] (defScope s_end_of) := ⟨rfl, rfl, rfl, by decide +kernel, rfl, by decide +kernel, by decide +kernel⟩
abbrev s_carried : Stmt := top 28
theorem sc_carried : FnScope ["house", "stand", "start", "end"] ["house", "stand", "start", "end"] (defScope s_carried) := ⟨rfl, rfl, rfl, by decide +kernel, rfl, by decide +kernel, by decide +kernel⟩
abbrev s_is_rising : Stmt := top 11
theorem sc_is_rising : FnScope ["thing", "last", "latch"] ["thing"] (defScope s_is_rising) := ⟨rfl, rfl, rfl, by decide +kernel, rfl, by decide +kernel, by decide +kernel⟩
abbrev s_is_rising_below : Stmt := top 12
theorem sc_is_rising_below : FnScope ["thing", "many"] ["thing", "many"] (defScope s_is_rising_below) := ⟨rfl, rfl, rfl, by decide +kernel, rfl, by decide +kernel, by decide +kernel⟩
abbrev s_check_stand : Stmt := top 14
theorem sc_check_stand : FnScope ["house", "stand"] ["house", "stand"] (defScope s_check_stand) := ⟨rfl, rfl, rfl, by decide +kernel, rfl, by decide +kernel, by decide +kernel⟩
abbrev s_check_swell : Stmt := top 15
theorem sc_check_swell : FnScope ["swell"] ["swell"] (defScope s_check_swell) := ⟨rfl, rfl, rfl, by decide +kernel, rfl, by decide +kernel, by decide +kernel⟩
abbrev s_check_moment : Stmt := top 16
theorem sc_check_moment : FnScope ["house", "stand", "swell"] ["house", "stand", "swell"] (defScope s_check_moment) := ⟨rfl, rfl, rfl, by decide +kernel, rfl, by decide +kernel, by decide +kernel⟩
abbrev s_check_settled : Stmt := top 22
theorem sc_check_settled : FnScope ["house", "stand", "swell", "going"] ["house", "stand", "swell"] (defScope s_check_settled) := ⟨rfl, rfl, rfl, by decide +kernel, rfl, by decide +kernel, by decide +kernel⟩
abbrev s_check_leg : Stmt := top 29
theorem sc_check_leg : FnScope ["house", "stand", "start", "end"] ["house", "stand", "start", "end"] (defScope s_check_leg) := ⟨rfl, rfl, rfl, by decide +kernel, rfl, by decide +kernel, by decide +kernel⟩
abbrev s_leg : Stmt := top 30
theorem sc_leg : FnScope ["house", "stand", "start", "end"] ["house", "stand", "start", "end"] (defScope s_leg) := ⟨rfl, rfl, rfl, by decide +kernel, rfl, by decide +kernel, by decide +kernel⟩
abbrev s_there_and_back : Stmt := top 31
theorem sc_there_and_back : FnScope ["house", "stand", "swell", "far", "there"] ["house", "stand", "swell", "far"] (defScope s_there_and_back) := ⟨rfl, rfl, rfl, by decide +kernel, rfl, by decide +kernel, by decide +kernel⟩
abbrev s_bears : Stmt := top 32
theorem sc_bears : FnScope ["house", "stand", "swell", "far", "there_again"] ["house", "stand", "swell", "far"] (defScope s_bears) := ⟨rfl, rfl, rfl, by decide +kernel, rfl, by decide +kernel, by decide +kernel⟩
abbrev s__law_right : Stmt := top 56
theorem sc__law_right : FnScope ["jar", "plan", "house", "stand", "swell", "far", "there", "back", "turn", "near"] ["jar", "plan", "house", "stand", "swell", "far"] (defScope s__law_right) := ⟨rfl, rfl, rfl, by decide +kernel, rfl, by decide +kernel, by decide +kernel⟩
abbrev s_law : Stmt := top 57
theorem sc_law : FnScope ["script", "k", "jar", "plan", "house", "turn", "stand", "swell", "time", "edges", "far"] ["script"] (defScope s_law) := ⟨rfl, rfl, rfl, by decide +kernel, rfl, by decide +kernel, by decide +kernel⟩
/-! ### what each def promises -/
def sp_House___len__ (K : PySem.W.Frag) (C : Addr) : Sp := fun vs H Q _ => ∃ (a : Addr) (h : Hs), vs = [.ref a] ∧ HouseV K C H a h ∧ Q (.int (h.n : Int)) H
def sp_is_whole (K : PySem.W.Frag) (C : Addr) : Sp := fun vs H Q _ => ∃ (x : V) (n : String), vs = [x] ∧ Sml K H x n ∧ Q (.bl (wholeV x)) H
def latchB (n : Nat) : V → Bool
  | .int i => decide (0 ≤ i) && decide (i < (n : Int))
  | _ => false
def sp_is_latch (K : PySem.W.Frag) (C : Addr) : Sp := fun vs H Q _ => ∃ (a : Addr) (h : Hs) (x : V) (n : String), vs = [.ref a, x] ∧ HouseV K C H a h ∧ Sml K H x n ∧ Q (.bl (latchB h.n x)) H
def sp_is_rising (K : PySem.W.Frag) (C : Addr) : Sp := fun vs H Q _ => (∃ (a : Addr) (xs : List V), vs = [.ref a] ∧ SqT K H a xs ∧ (∀ y ∈ xs, ∃ n, Sml K H y n) ∧ Q (.bl (riseL (-1) xs)) H) ∨
  ∃ (x : V) (n : String), vs = [x] ∧ Sml K H x n ∧ n ≠ "tuple" ∧ Q (.bl false) H
def lastB (n : Int) (xs : List V) : Bool := match xs.getLast? with
  | none => true
  | some (.int i) => decide (i < n)
  | some _ => false
def sp_is_rising_below (K : PySem.W.Frag) (C : Addr) : Sp := fun vs H Q _ => (∃ (a : Addr) (xs : List V) (n : Int), vs = [.ref a, .int n] ∧ SqT K H a xs ∧ (∀ y ∈ xs, ∃ n, Sml K H y n) ∧ Q (.bl (riseL (-1) xs && lastB n xs)) H) ∨
  ∃ (x : V) (n : String) (m : Int), vs = [x, .int m] ∧ Sml K H x n ∧ n ≠ "tuple" ∧ Q (.bl false) H
theorem riseL_last : ∀ (l : Int) (xs : List V), riseL l xs = true → ∀ y, xs.getLast? = some y → ∃ i, y = .int i
  | _, [], _, y, h => by simp at h
  | l, x :: r, hr, y, h => by
    cases x with
    | int i =>
      have h2 : (decide (l < i) && riseL i r) = true := hr
      rw [Bool.and_eq_true] at h2
      cases r with
      | nil => simp at h; exact ⟨i, h.symm⟩
      | cons z r' => exact riseL_last i (z :: r') h2.2 y (by rw [List.getLast?_cons_cons] at h; exact h)
    | _ => exact absurd hr (by simp [riseL])
def sp_check_latch (K : PySem.W.Frag) (C : Addr) : Sp := fun vs H Q _ => ∃ (a : Addr) (h : Hs) (l : Nat), vs = [.ref a, .int (l : Int)] ∧ HouseV K C H a h ∧ l < h.n ∧ Q .non H
def sp_check_stand (K : PySem.W.Frag) (C : Addr) : Sp := fun vs H Q _ => ∃ (a : Addr) (h : Hs) (t : Addr) (st : List Int), vs = [.ref a, .ref t] ∧ HouseV K C H a h ∧ SqT K H t (st.map V.int) ∧ StOk h.n st ∧ Q .non H
theorem lastB_st {n : Nat} {st : List Int} (h : ∀ x ∈ st, x < (n : Int)) : lastB (n : Int) (st.map V.int) = true := by
  unfold lastB
  rw [List.getLast?_map]
  cases e : st.getLast? with
  | none => rfl
  | some x => exact decide_eq_true (h x (List.mem_of_getLast? e))
theorem rise_st {n : Nat} {st : List Int} (h : StOk n st) : (riseL (-1) (st.map V.int) && lastB (n : Int) (st.map V.int)) = true := by
  rw [riseL_ints (-1) st h.up (fun x hx => by have := h.lo x hx; omega), lastB_st h.hi]; rfl
theorem sml_ints {K : PySem.W.Frag} {H : Hp} (st : List Int) : ∀ y ∈ st.map V.int, ∃ n, Sml K H y n := fun y hy => by
  obtain ⟨i, _, rfl⟩ := List.mem_map.mp hy
  exact ⟨_, .int i⟩
def sp_check_swell (K : PySem.W.Frag) (C : Addr) : Sp := fun vs H Q _ => ∃ (s : Int), vs = [.int s] ∧ Q .non H
def sp_check_moment (K : PySem.W.Frag) (C : Addr) : Sp := fun vs H Q _ => ∃ (a : Addr) (h : Hs) (t : Addr) (st : List Int) (s : Int), vs = [.ref a, .ref t, .int s] ∧ HouseV K C H a h ∧ SqT K H t (st.map V.int) ∧ StOk h.n st ∧ Q .non H
def sp_House_lenders (K : PySem.W.Frag) (C : Addr) : Sp := fun vs H Q _ => ∃ (a : Addr) (h : Hs) (l : Nat), vs = [.ref a, .int (l : Int)] ∧ HouseV K C H a h ∧ l < h.n ∧ ∀ t xs, SqT K H t xs → Al (PairV K H) xs (lendOf h.hel (l : Int)) → Q (.ref t) H
def sp_House_up_at (K : PySem.W.Frag) (C : Addr) : Sp := fun vs H Q _ => ∃ (a : Addr) (h : Hs) (l : Nat), vs = [.ref a, .int (l : Int)] ∧ HouseV K C H a h ∧ l < h.n ∧ Q (.int (h.up l)) H
def sp_House_down_at (K : PySem.W.Frag) (C : Addr) : Sp := fun vs H Q _ => ∃ (a : Addr) (h : Hs) (l : Nat), vs = [.ref a, .int (l : Int)] ∧ HouseV K C H a h ∧ l < h.n ∧ Q (.int (h.dn l)) H
def sp_lent_in (K : PySem.W.Frag) (C : Addr) : Sp := fun vs H Q _ => ∃ (a : Addr) (h : Hs) (t : Addr) (st : List Int) (l : Nat), vs = [.ref a, .ref t, .int (l : Int)] ∧ HouseV K C H a h ∧ SqT K H t (st.map V.int) ∧ l < h.n ∧ ∀ H', Ex H H' → Q (.int (h.lent st l)) H'
def sp_movable (K : PySem.W.Frag) (C : Addr) : Sp := fun vs H Q _ => ∃ (a : Addr) (h : Hs) (t : Addr) (st : List Int) (up : Bool), vs = [.ref a, .ref t, .bl up] ∧ HouseV K C H a h ∧ SqT K H t (st.map V.int) ∧ ∀ p H', H p = none → Ex H H' → H' p = some (.lst (nints (h.mov st up))) → Q (.ref p) H'
def sp_would_go (K : PySem.W.Frag) (C : Addr) : Sp := fun vs H Q _ => ∃ (a : Addr) (h : Hs) (t : Addr) (st : List Int) (s : Int) (l : Nat) (up : Bool), vs = [.ref a, .ref t, .int s, .int (l : Int), .bl up] ∧ HouseV K C H a h ∧ SqT K H t (st.map V.int) ∧ l < h.n ∧ ∀ H', Ex H H' → Q (.bl (h.goes st s l up)) H'
def sp_wanting (K : PySem.W.Frag) (C : Addr) : Sp := fun vs H Q _ => ∃ (a : Addr) (h : Hs) (t : Addr) (st : List Int) (s : Int) (up : Bool), vs = [.ref a, .ref t, .int s, .bl up] ∧ HouseV K C H a h ∧ SqT K H t (st.map V.int) ∧ ∀ p H', H p = none → Ex H H' → H' p = some (.lst (nints (h.want st s up))) → Q (.ref p) H'
theorem mov_lt {h : Hs} {st : List Int} {up : Bool} {l : Nat} (hl : l ∈ h.mov st up) : l < h.n := by
  unfold Hs.mov at hl
  exact List.mem_range.mp (List.mem_filter.mp hl).1
theorem mov_len (h : Hs) (st : List Int) (up : Bool) : (h.mov st up).length ≤ h.n := by
  unfold Hs.mov
  exact Nat.le_trans (List.length_filter_le _ _) (by simp)
theorem nints_al (ls : List Nat) : Al (fun x (l : Nat) => x = .int (l : Int)) (nints ls) ls := Al.of_map (R := fun x (l : Nat) => x = .int (l : Int)) (f := fun (l : Nat) => V.int (l : Int)) fun _ _ => rfl
def sp_is_pair (K : PySem.W.Frag) (C : Addr) : Sp := fun vs H Q _ => ∃ (v : V) (p : Int × Int), vs = [v] ∧ PairV K H v p ∧ Q (.bl (decide (p.2 < p.1))) H
/-- a help of a house of n -/
def helpB (n : Int) (p : Int × Int × Int) : Bool := decide (0 ≤ p.1) && decide (p.1 < n) && (decide (0 ≤ p.2.1) && decide (p.2.1 < n)) && (!decide (p.1 = p.2.1) && (decide (1 ≤ p.2.2) && decide (p.2.2 ≤ 9)))
def sp_is_lending (K : PySem.W.Frag) (C : Addr) : Sp := fun vs H Q _ => ∃ (v : V) (p : Int × Int × Int) (n : Int), vs = [v, .int n] ∧ TripV K H v p ∧ ∀ H', Ex H H' → Q (.bl (helpB n p)) H'
def sp_check_latches (K : PySem.W.Frag) (C : Addr) : Sp := fun vs H Q _ => ∃ (t : Addr) (xs : List V) (lat : List (Int × Int)), vs = [.ref t] ∧ SqT K H t xs ∧ Al (PairV K H) xs lat ∧ 1 ≤ lat.length ∧ lat.length ≤ 14 ∧ (∀ p ∈ lat, p.2 < p.1) ∧ ∀ H', Ex H H' → Q .non H'
def sp_check_helps (K : PySem.W.Frag) (C : Addr) : Sp := fun vs H Q _ => ∃ (t : Addr) (xs : List V) (hel : List (Int × Int × Int)) (n : Int), vs = [.ref t, .int n] ∧ SqT K H t xs ∧ Al (TripV K H) xs hel ∧ hel.length < 1000 ∧ (∀ p ∈ hel, helpB n p = true) ∧ (hel.map fst2).Nodup ∧ ∀ H', Ex H H' → Q .non H'
def sp_lenders_to (K : PySem.W.Frag) (C : Addr) : Sp := fun vs H Q _ => ∃ (t : Addr) (xs : List V) (hel : List (Int × Int × Int)) (l : Int), vs = [.int l, .ref t] ∧ SqT K H t xs ∧ Al (TripV K H) xs hel ∧ hel.length < 1000 ∧ ∀ v H', Ex H H' → LendV K H' v (lendOf hel l) → Q v H'
structure LatOk (lat : List (Int × Int)) : Prop where
  n1 : 1 ≤ lat.length
  n14 : lat.length ≤ 14
  lt : ∀ p ∈ lat, p.2 < p.1
structure HelOk (n : Int) (hel : List (Int × Int × Int)) : Prop where
  few : hel.length < 1000
  ok : ∀ p ∈ hel, helpB n p = true
  nd : (hel.map fst2).Nodup
theorem nodup_snoc {α β : Type} {f : α → β} {l : List α} {x : α} (h : (l.map f).Nodup) (hx : ∀ y ∈ l, f y ≠ f x) : ((l ++ [x]).map f).Nodup := by
  rw [List.map_append, List.nodup_append]
  refine ⟨h, by simp, fun a ha b hb => ?_⟩
  obtain ⟨y, hy, rfl⟩ := List.mem_map.mp ha
  simp at hb
  rw [hb]
  exact hx y hy
/-- what the helps drawn so far are: ahead of (i, j) -/
structure GoodH (m : Int) (i j : Int) (sm : List (Int × Int × Int)) : Prop where
  ok : ∀ h ∈ sm, helpB m h = true ∧ (h.1 < i ∨ (h.1 = i ∧ h.2.1 < j))
  nd : (sm.map fst2).Nodup
  len : (sm.length : Int) ≤ 14 * i + j
theorem GoodH.next {m i j : Int} {sm : List (Int × Int × Int)} (g : GoodH m i j sm) : GoodH m i (j + 1) sm := ⟨fun h hh => ⟨(g.ok h hh).1, by have := (g.ok h hh).2; omega⟩, g.nd, by have := g.len; omega⟩
theorem GoodH.row {m i j : Int} {sm : List (Int × Int × Int)} (g : GoodH m i j sm) (hj : j ≤ 14) : GoodH m (i + 1) 0 sm := ⟨fun h hh => ⟨(g.ok h hh).1, by have := (g.ok h hh).2; omega⟩, g.nd, by have := g.len; omega⟩
theorem GoodH.add {m i j : Int} {sm : List (Int × Int × Int)} (g : GoodH m i j sm) {x : Int × Int × Int} (hx : helpB m x = true) (h1 : x.1 = i) (h2 : x.2.1 = j) : GoodH m i (j + 1) (sm ++ [x]) := by
  refine ⟨fun h hh => ?_, nodup_snoc g.nd fun y hy e => ?_, by have := g.len; rw [List.length_append]; simp; omega⟩
  · rcases List.mem_append.mp hh with hh | hh
    · exact ⟨(g.ok h hh).1, by have := (g.ok h hh).2; omega⟩
    · rw [List.mem_singleton.mp hh]
      exact ⟨hx, by omega⟩
  · have := (g.ok y hy).2
    have e1 : y.1 = x.1 := (congrArg Prod.fst e : (fst2 y).1 = (fst2 x).1)
    have e2 : y.2.1 = x.2.1 := (congrArg Prod.snd e : (fst2 y).2 = (fst2 x).2)
    omega
theorem helpB_of {m a b c : Int} (h1 : 0 ≤ a) (h2 : a < m) (h3 : 0 ≤ b) (h4 : b < m) (h5 : a ≠ b) (h6 : 1 ≤ c) (h7 : c ≤ 9) : helpB m (a, b, c) = true := by
  show (decide (0 ≤ a) && decide (a < m) && (decide (0 ≤ b) && decide (b < m)) && (!decide (a = b) && (decide (1 ≤ c) && decide (c ≤ 9)))) = true
  rw [decide_eq_true h1, decide_eq_true h2, decide_eq_true h3, decide_eq_true h4, decide_eq_false h5, decide_eq_true h6, decide_eq_true h7]
  rfl
def sp_House___init__ (K : PySem.W.Frag) (C : Addr) : Sp := fun vs H Q _ => ∃ (self dx tl th : Addr) (xs : List V) (lat : List (Int × Int)) (ys : List V) (hel : List (Int × Int × Int)), vs = [.ref self, .ref tl, .ref th] ∧ H self = some (.ins C dx []) ∧ SqT K H tl xs ∧ Al (PairV K H) xs lat ∧
  SqT K H th ys ∧ Al (TripV K H) ys hel ∧ LatOk lat ∧ HelOk (lat.length : Int) hel ∧ ∀ h H', ExB self H H' → HouseV K C H' self h → h.lat = lat → h.hel.Perm hel → HelSorted h.hel → Q .non H'
def sp_gone (K : PySem.W.Frag) (C : Addr) : Sp := fun vs H Q _ => ∃ (t p : Addr) (st : List Int) (ls : List Nat) (n : Nat) (up : Bool), vs = [.ref t, .ref p, .bl up] ∧ SqT K H t (st.map V.int) ∧ SqL K H p (nints ls) ∧ n ≤ 14 ∧ ls.length ≤ 14 ∧ StOk n st ∧ (up = true → ls.Nodup ∧ ∀ l ∈ ls, l < n ∧ ¬ (l : Int) ∈ st) ∧
  ∀ t' H', Ex H H' → H' t' = some (.tup ((stepS n st ls up).map V.int)) → Q (.ref t') H'
def sp_waves_of (K : PySem.W.Frag) (C : Addr) : Sp := fun vs H Q _ => ∃ (a : Addr) (h : Hs) (t : Addr) (st : List Int) (s : Int) (up : Bool), vs = [.ref a, .ref t, .int s, .bl up] ∧ HouseV K C H a h ∧ SqT K H t (st.map V.int) ∧ StOk h.n st ∧ HsPos h ∧
  ∀ p rs ws H', H p = none → Ex H H' → H' p = some (.lst rs) → WavesV p H' rs ws → RunOk h s up st ws → Clo h s up st (foldS h.n up st ws) → ws.length ≤ 14 → Q (.ref p) H'
def sp_end_of (K : PySem.W.Frag) (C : Addr) : Sp := fun vs H Q _ => ∃ (a : Addr) (h : Hs) (t : Addr) (st : List Int) (s : Int) (up : Bool), vs = [.ref a, .ref t, .int s, .bl up] ∧ HouseV K C H a h ∧ SqT K H t (st.map V.int) ∧ StOk h.n st ∧ HsPos h ∧
  ∀ t' T H', Ex H H' → SqT K H' t' (T.map V.int) → (H t = some (.tup (st.map V.int)) → H' t' = some (.tup (T.map V.int))) → Clo h s up st T → Q (.ref t') H'
def sp__law_jar (K : PySem.W.Frag) (C : Addr) : Sp := fun vs H Q _ => ∃ (s : Addr) (ns : List Int) (k : Int), vs = [.ref s, .int k] ∧ SqL K H s (ns.map V.int) ∧ 0 ≤ k ∧ k ≤ 63 ∧ ∀ p H', H p = none → Ex H H' → JarAt H' p 0 → Q (.ref p) H'
def sp__law_pick (K : PySem.W.Frag) (C : Addr) : Sp := fun vs H Q _ => ∃ (a : Addr) (n m : Int), vs = [.ref a, .int m] ∧ JarAt H a n ∧ 1 ≤ m ∧ m < 1000000 ∧ n < 1000000 ∧ ∀ (d : Int) H', 0 ≤ d → d < m → ExB a H H' → JarAt H' a (n + 1) → Q (.int d) H'
def dOf (hel : List (Int × Int × Int)) : List (List Key × V) := hel.map fun x => ([Sum.inl x.1, Sum.inl x.2.1], V.int x.2.2)
def getH : List (Int × Int × Int) → Int → Int → Int
  | [], _, _ => 0
  | x :: r, a, b => if x.1 = a ∧ x.2.1 = b then x.2.2 else getH r a b
theorem valV_getH (a b : Int) : ∀ hel : List (Int × Int × Int), (valV (dOf hel) [Sum.inl a, Sum.inl b]).getD (.int 0) = .int (getH hel a b)
  | [] => rfl
  | x :: r => by
    have ih := valV_getH a b r
    unfold getH
    unfold valV dOf at ih ⊢
    rw [List.map_cons, List.find?_cons]
    by_cases h : x.1 = a ∧ x.2.1 = b
    · rw [if_pos h]
      have : decide ((([Sum.inl x.1, Sum.inl x.2.1], V.int x.2.2) : List Key × V).1 = [Sum.inl a, Sum.inl b]) = true := decide_eq_true (by rw [h.1, h.2])
      rw [this]
      try rfl
    · rw [if_neg h]
      have : decide ((([Sum.inl x.1, Sum.inl x.2.1], V.int x.2.2) : List Key × V).1 = [Sum.inl a, Sum.inl b]) = false := decide_eq_false (fun z => h (by
        have z1 := List.cons.inj z
        have z2 := List.cons.inj z1.2
        exact ⟨Sum.inl.inj z1.1, Sum.inl.inj z2.1⟩))
      rw [this]
      try exact ih
theorem getH_none {a b : Int} : ∀ {hel : List (Int × Int × Int)}, (a, b) ∉ hel.map fst2 → getH hel a b = 0
  | [], _ => rfl
  | x :: r, h => by
    unfold getH
    rw [List.map_cons, List.mem_cons, not_or] at h
    rw [if_neg (fun z => h.1 (by unfold fst2; rw [z.1, z.2]))]
    exact getH_none h.2
theorem sum_hit (f : Int → Int) (a v : Int) (h0 : f a = 0) : ∀ st : List Int, st.Nodup → (st.map fun x => if x = a then v else f x).sum = (if a ∈ st then v else 0) + (st.map f).sum
  | [], _ => by simp
  | x :: r, hn => by
    have hn' := List.nodup_cons.mp hn
    rw [List.map_cons, List.map_cons, List.sum_cons, List.sum_cons, sum_hit f a v h0 r hn'.2]
    by_cases h : x = a
    · subst h
      rw [if_pos rfl, if_neg hn'.1, if_pos (List.mem_cons_self ..), h0]
      try omega
    · rw [if_neg h]
      by_cases h2 : a ∈ r
      · rw [if_pos h2, if_pos (List.mem_cons_of_mem _ h2)]
        omega
      · rw [if_neg h2, if_neg (by rw [List.mem_cons, not_or]; exact ⟨fun z => h z.symm, h2⟩)]
        omega
theorem pull_sum (st : List Int) (l : Int) (hst : st.Nodup) : ∀ hel : List (Int × Int × Int), (hel.map fst2).Nodup → (st.map fun one => getH hel one l).sum = ((hel.filter fun h => decide (h.2.1 = l) && decide (h.1 ∈ st)).map (·.2.2)).sum
  | [], _ => by
    have : (st.map fun one => getH [] one l) = st.map fun _ => (0 : Int) := rfl
    rw [this]
    clear this hst
    induction st with
    | nil => rfl
    | cons x r ih => rw [List.map_cons, List.sum_cons, ih]; rfl
  | x :: r, hn => by
    have hn' := List.nodup_cons.mp (show (fst2 x :: r.map fst2).Nodup from hn)
    have ih := pull_sum st l hst r hn'.2
    by_cases hl : x.2.1 = l
    · have e : (st.map fun one => getH (x :: r) one l) = st.map fun one => if one = x.1 then x.2.2 else getH r one l := by
        refine List.map_congr_left fun one _ => ?_
        show (if x.1 = one ∧ x.2.1 = l then x.2.2 else getH r one l) = _
        by_cases h : one = x.1
        · rw [if_pos h, if_pos ⟨h.symm, hl⟩]
        · rw [if_neg h, if_neg (fun z => h z.1.symm)]
      rw [e, sum_hit (fun one => getH r one l) x.1 x.2.2 (getH_none (by rw [← hl]; exact hn'.1)) st hst, ih]
      by_cases hm : x.1 ∈ st
      · rw [if_pos hm, List.filter_cons_of_pos (by simp [hl, hm]), List.map_cons, List.sum_cons]
      · rw [if_neg hm, List.filter_cons_of_neg (by simp [hm]), Int.zero_add]
    · have e : (st.map fun one => getH (x :: r) one l) = st.map fun one => getH r one l := by
        refine List.map_congr_left fun one _ => ?_
        show (if x.1 = one ∧ x.2.1 = l then x.2.2 else getH r one l) = _
        rw [if_neg (fun z => hl z.2)]
      rw [e, ih, List.filter_cons_of_neg (by simp [hl])]
theorem lentF_perm {h : Hs} {hel : List (Int × Int × Int)} (hp : h.hel.Perm hel) (st : List Int) (l : Nat) : h.lent st l = ((hel.filter fun x => decide (x.2.1 = (l : Int)) && decide (x.1 ∈ st)).map (·.2.2)).sum := by
  have e1 : ∀ hs : List (Int × Int × Int), (((lendOf hs (l : Int)).filter fun p => decide (p.1 ∈ st)).map (·.2)).sum = ((hs.filter fun x => decide (x.2.1 = (l : Int)) && decide (x.1 ∈ st)).map (·.2.2)).sum := fun hs => by
    unfold lendOf
    rw [List.filter_map, List.map_map, List.filter_filter]
    have : (fun x : Int × Int × Int => ((fun p : Int × Int => decide (p.1 ∈ st)) ∘ fun x => (x.1, x.2.2)) x && decide (x.2.1 = (l : Int))) = fun x => decide (x.2.1 = (l : Int)) && decide (x.1 ∈ st) := by
      funext x
      rw [Bool.and_comm]
      rfl
    rw [this]
    rfl
  have e2 : ∀ {a b : List Int}, a.Perm b → a.sum = b.sum := fun {a b} p => by
    induction p with
    | nil => rfl
    | cons x _ ih => rw [List.sum_cons, List.sum_cons, ih]
    | swap x y l => rw [List.sum_cons, List.sum_cons, List.sum_cons, List.sum_cons]; omega
    | trans _ _ h1 h2 => exact h1.trans h2
  unfold Hs.lent
  rw [e1]
  exact e2 ((hp.filter _).map _)
structure LawP (K : PySem.W.Frag) (H : Hp) (p : Addr) (h : Hs) : Prop where
  plan : ∃ tp dd xs hel, SqT K H p [.ref tp, .ref dd] ∧ SqT K H tp xs ∧ Al (PairV K H) xs h.lat ∧ H dd = some (.dT (dOf hel)) ∧ h.hel.Perm hel ∧ (hel.map fst2).Nodup
  ok : HsOk h
  pos : HsPos h
theorem LawP.ex {K : PySem.W.Frag} {H H' : Hp} {p : Addr} {h : Hs} (x : LawP K H p h) (e : Ex H H') : LawP K H' p h := by
  obtain ⟨⟨tp, dd, xs, hel, h1, h2, h3, h4, h5⟩, ok, pos⟩ := x
  exact ⟨⟨tp, dd, xs, hel, h1.ki e.ki, h2.ki e.ki, h3.imp fun _ _ z => z.ki e.ki, e _ _ h4, h5⟩, ok, pos⟩
theorem LawP.jar {K : PySem.W.Frag} {H H' : Hp} {p j : Addr} {n : Int} {h : Hs} (x : LawP K H p h) (hj : JarAt H j n) (e : ExB j H H') : LawP K H' p h := by
  obtain ⟨⟨tp, dd, xs, hel, h1, h2, h3, h4, h5⟩, ok, pos⟩ := x
  have k := hj.ki e
  have hne : dd ≠ j := fun z => by
    obtain ⟨_, _, _, h6, _⟩ := hj
    rw [z, h6] at h4
    cases h4
  exact ⟨⟨tp, dd, xs, hel, h1.ki k, h2.ki k, h3.imp fun _ _ z => z.ki k, e _ _ hne h4, h5⟩, ok, pos⟩
def sp__law_pull (K : PySem.W.Frag) (C : Addr) : Sp := fun vs H Q _ => ∃ (p t : Addr) (h : Hs) (st : List Int) (s : Int) (l : Nat), vs = [.ref p, .ref t, .int s, .int (l : Int)] ∧ LawP K H p h ∧ SqT K H t (st.map V.int) ∧ StOk h.n st ∧ ∀ H', Ex H H' → Q (.int (s + h.lent st l)) H'
def sp__law_may (K : PySem.W.Frag) (C : Addr) : Sp := fun vs H Q _ => ∃ (p t : Addr) (h : Hs) (st : List Int) (s : Int) (up : Bool), vs = [.ref p, .ref t, .int s, .bl up] ∧ LawP K H p h ∧ SqT K H t (st.map V.int) ∧ StOk h.n st ∧ ∀ r H', H r = none → Ex H H' → H' r = some (.lst (nints (h.want st s up))) → Q (.ref r) H'
def wantN (h : Hs) (st : List Int) (s : Int) (up : Bool) (n : Nat) : List Nat := (List.range n).filter fun (l : Nat) => h.goes st s l up && (decide ((l : Int) ∈ st) != up)
theorem wantN_all (h : Hs) (st : List Int) (s : Int) (up : Bool) : wantN h st s up h.n = h.want st s up := by
  unfold wantN Hs.want Hs.mov
  rw [List.filter_filter]
theorem wantN_succ (h : Hs) (st : List Int) (s : Int) (up : Bool) (n : Nat) : wantN h st s up (n + 1) = wantN h st s up n ++ (if (h.goes st s n up && (decide ((n : Int) ∈ st) != up)) = true then [n] else []) := by
  unfold wantN
  rw [List.range_succ, List.filter_append]
  cases hq : (h.goes st s n up && (decide ((n : Int) ∈ st) != up)) <;> simp [hq]
theorem nints_one (ls : List Nat) (n : Nat) : nints (ls ++ [n]) = nints ls ++ [V.int (n : Int)] := by unfold nints; rw [List.map_append]; rfl
def sp__law_gone (K : PySem.W.Frag) (C : Addr) : Sp := fun vs H Q _ => ∃ (t : Addr) (st : List Int) (l n : Nat), vs = [.ref t, .int (l : Int)] ∧ SqT K H t (st.map V.int) ∧ n ≤ 14 ∧ StOk n st ∧ l < n ∧ ∀ t' H', Ex H H' → H' t' = some (.tup ((stepS n st [l] (!decide ((l : Int) ∈ st))).map V.int)) → Q (.ref t') H'
def intsOf (xs : List V) : List Int := xs.filterMap fun v => match v with
  | .int i => some i
  | _ => none
theorem intsOf_map (st : List Int) : intsOf (st.map V.int) = st := by
  unfold intsOf
  rw [List.filterMap_map]
  induction st with
  | nil => rfl
  | cons x r ih => rw [List.filterMap_cons]; exact congrArg (x :: ·) ih
def movAt (h : Hs) (up : Bool) (σ : L2.St) (H : Hp) : Nat := match σ[2]? with
  | some (some (V.ref t)) => match H t with
    | some (.tup xs) => (h.mov (intsOf xs) up).length
    | _ => 0
  | _ => 0
def sp__law_on (K : PySem.W.Frag) (C : Addr) : Sp := fun vs H Q _ => ∃ (j p t : Addr) (n : Int) (h : Hs) (st : List Int) (s f : Int), vs = [.ref j, .ref p, .ref t, .int s, .int f] ∧ JarAt H j n ∧ n < 900000 ∧ LawP K H p h ∧ H t = some (.tup (st.map V.int)) ∧ StOk h.n st ∧
  ∀ t' T H', ExB j H H' → JarAt H' j (n + 14) → H' t' = some (.tup (T.map V.int)) → Clo h f (decide (s ≤ f)) st T → Q (.ref t') H'
def sp_carried (K : PySem.W.Frag) (C : Addr) : Sp := fun vs H Q _ => ∃ (a : Addr) (h : Hs) (t : Addr) (st : List Int) (s f : Int), vs = [.ref a, .ref t, .int s, .int f] ∧ HouseV K C H a h ∧ SqT K H t (st.map V.int) ∧ StOk h.n st ∧ HsPos h ∧ ∀ t' T H', Ex H H' → SqT K H' t' (T.map V.int) → (H t = some (.tup (st.map V.int)) → H' t' = some (.tup (T.map V.int))) → Clo h f (decide (s ≤ f)) st T → Q (.ref t') H'
def sp_check_settled (K : PySem.W.Frag) (C : Addr) : Sp := fun vs H Q _ => ∃ (a : Addr) (h : Hs) (t : Addr) (st : List Int) (s : Int), vs = [.ref a, .ref t, .int s] ∧ HouseV K C H a h ∧ SqT K H t (st.map V.int) ∧ h.want st s true = [] ∧ h.want st s false = [] ∧ ∀ H', Ex H H' → Q .non H'
def sp_check_leg (K : PySem.W.Frag) (C : Addr) : Sp := fun vs H Q _ => ∃ (a : Addr) (h : Hs) (t : Addr) (st : List Int) (s f : Int), vs = [.ref a, .ref t, .int s, .int f] ∧ HouseV K C H a h ∧ SqT K H t (st.map V.int) ∧ StOk h.n st ∧ h.want st s true = [] ∧ h.want st s false = [] ∧ ∀ H', Ex H H' → Q .non H'
def sp_leg (K : PySem.W.Frag) (C : Addr) : Sp := fun vs H Q _ => ∃ (a : Addr) (h : Hs) (t : Addr) (st : List Int) (s f : Int), vs = [.ref a, .ref t, .int s, .int f] ∧ HouseV K C H a h ∧ SqT K H t (st.map V.int) ∧ StOk h.n st ∧ HsPos h ∧ h.want st s true = [] ∧ h.want st s false = [] ∧ ∀ t' T H', Ex H H' → SqT K H' t' (T.map V.int) → (H t = some (.tup (st.map V.int)) → H' t' = some (.tup (T.map V.int))) → Clo h f (decide (s ≤ f)) st T → Q (.ref t') H'
def sp__law_swell (K : PySem.W.Frag) (C : Addr) : Sp := fun vs H Q _ => ∃ (j p : Addr) (n : Int) (h : Hs), vs = [.ref j, .ref p] ∧ JarAt H j n ∧ n < 900000 ∧ LawP K H p h ∧ ∀ s H', ExB j H H' → JarAt H' j (n + 6) → Q (.int s) H'
theorem atJ (ns : List Int) {d : Int} (h0 : 0 ≤ d) (h1 : d < (ns.length : Int)) : ∃ w, w ∈ ns ∧ atI (ns.map V.int) d = some (V.int w) := by
  obtain ⟨k, rfl⟩ : ∃ k : Nat, d = (k : Int) := ⟨d.toNat, by omega⟩
  have hk : k < ns.length := by omega
  exact ⟨ns[k], List.getElem_mem hk, atI_nat (by rw [List.getElem?_map, List.getElem?_eq_getElem hk]; rfl)⟩
def sp__law_ends (K : PySem.W.Frag) (C : Addr) : Sp := fun vs H Q _ => ∃ (p t : Addr) (h : Hs) (st : List Int), vs = [.ref p, .ref t] ∧ LawP K H p h ∧ SqT K H t (st.map V.int) ∧ StOk h.n st ∧
  ∀ v H', Ex H H' → ((v = .non ∧ st ≠ [] ∧ ∀ s, ¬ (h.want st s true = [] ∧ h.want st s false = [])) ∨ ∃ e lo hi, v = .ref e ∧ H' e = some (.tup [.int lo, .int hi]) ∧ lo ≤ hi ∧ ∀ s, lo ≤ s → s ≤ hi → h.want st s true = [] ∧ h.want st s false = []) → Q v H'
def lowsF (h : Hs) (st : List Int) : List Int := st.map fun k => h.dn k.toNat + 1 - (0 + h.lent st k.toNat)
def highsF (h : Hs) (st : List Int) (n : Nat) : List Int := ((List.range n).filter fun (k : Nat) => !decide ((k : Int) ∈ st)).map fun (k : Nat) => h.up k - 1 - (0 + h.lent st k)
theorem highsF_succ (h : Hs) (st : List Int) (n : Nat) : highsF h st (n + 1) = highsF h st n ++ (if (!decide ((n : Int) ∈ st)) = true then [h.up n - 1 - (0 + h.lent st n)] else []) := by
  unfold highsF
  rw [List.range_succ, List.filter_append, List.map_append]
  cases hq : (!decide ((n : Int) ∈ st)) <;> simp [hq]
theorem ends_torn {h : Hs} {st : List Int} {m m2 : Int} (ho : StOk h.n st) (hm : m ∈ lowsF h st) (hm2 : m2 ∈ highsF h st h.n) (hc : m2 < m) : ∀ s, ¬ (h.want st s true = [] ∧ h.want st s false = []) := by
  intro s ⟨w1, w2⟩
  obtain ⟨k, hk, e1⟩ := List.mem_map.mp hm
  obtain ⟨l, rfl, hl⟩ := ho.nat hk
  rw [Int.toNat_natCast] at e1
  obtain ⟨l2, hl2, e2⟩ := List.mem_map.mp hm2
  obtain ⟨hr, hn⟩ := List.mem_filter.mp hl2
  have hr' := List.mem_range.mp hr
  rcases (show s < m ∨ m ≤ s by omega) with hs | hs
  · have : l ∈ h.want st s false := mem_want.mpr ⟨hl, by rw [decide_eq_true hk]; rfl, by unfold Hs.goes; simp; omega⟩
    rw [w2] at this
    simp at this
  · have : l2 ∈ h.want st s true := mem_want.mpr ⟨hr', by simpa using hn, by unfold Hs.goes; simp; omega⟩
    rw [w1] at this
    simp at this
theorem ends_settled {h : Hs} {st : List Int} {lo hi s : Int} (ho : StOk h.n st) (hl : ∀ x ∈ lowsF h st, x ≤ lo) (hh : ∀ x ∈ highsF h st h.n, hi ≤ x) (h1 : lo ≤ s) (h2 : s ≤ hi) : h.want st s true = [] ∧ h.want st s false = [] := by
  constructor
  · refine List.eq_nil_iff_forall_not_mem.mpr fun l hm => ?_
    obtain ⟨m1, m2, m3⟩ := mem_want.mp hm
    have hx : h.up l - 1 - (0 + h.lent st l) ∈ highsF h st h.n := List.mem_map.mpr ⟨l, List.mem_filter.mpr ⟨List.mem_range.mpr m1, by rw [m2]; rfl⟩, rfl⟩
    have := hh _ hx
    unfold Hs.goes at m3
    simp at m3
    omega
  · refine List.eq_nil_iff_forall_not_mem.mpr fun l hm => ?_
    obtain ⟨m1, m2, m3⟩ := mem_want.mp hm
    have hin : (l : Int) ∈ st := of_decide_eq_true m2
    have hx : h.dn (l : Int).toNat + 1 - (0 + h.lent st (l : Int).toNat) ∈ lowsF h st := List.mem_map.mpr ⟨(l : Int), hin, rfl⟩
    rw [Int.toNat_natCast] at hx
    have := hl _ hx
    unfold Hs.goes at m3
    simp at m3
    omega
def SetAt (h : Hs) (st : List Int) (s : Int) : Prop := h.want st s true = [] ∧ h.want st s false = []
theorem SetAt.w {h : Hs} {st : List Int} {s : Int} (x : SetAt h st s) : ∀ up, h.want st s up = []
  | true => x.1
  | false => x.2
theorem leg_settled {h : Hs} (hp : HsPos h) {st T : List Int} {s f : Int} (x : SetAt h st s) (c : Clo h f (decide (s ≤ f)) st T) : SetAt h T f := by
  generalize hup : decide (s ≤ f) = up at c
  have other : h.want T f (!up) = [] := by
    refine List.eq_nil_iff_forall_not_mem.mpr fun l hl => ?_
    obtain ⟨m1, m2, m3⟩ := mem_want.mp hl
    rw [Bool.not_not] at m2
    by_cases hin : decide ((l : Int) ∈ st) = up
    · -- it stood so before
      have hle : Lq (!up) T st := lq_not.mpr c.ge
      have g := goes_mono hp hle m3
      have g2 : h.goes st s l (!up) = true := by
        unfold Hs.goes at g ⊢
        cases up with
        | true => have := of_decide_eq_true hup; simp at g ⊢; omega
        | false => have := of_decide_eq_false hup; simp at g ⊢; omega
      have : l ∈ h.want st s (!up) := mem_want.mpr ⟨m1, by rw [Bool.not_not]; exact hin, g2⟩
      rw [x.w] at this
      cases this
    · -- T without its going
      have oU : StOk h.n (stepS h.n T [l] (!up)) := stepS_ok _ _ _ _
      have hUT : Lq up (stepS h.n T [l] (!up)) T := lq_not.mp (step_ge (up := !up) c.ok [l])
      have hSU : Lq up st (stepS h.n T [l] (!up)) := by
        have hg := c.ge
        unfold Lq at hg ⊢
        cases up with
        | true =>
          refine fun y hy => ?_
          obtain ⟨k, rfl, hk⟩ := c.ok.nat (hg y hy)
          exact mem_down.mpr ⟨hk, hg _ hy, fun z => by rw [List.mem_singleton.mp z] at hy; simp [hy] at hin⟩
        | false =>
          refine fun y hy => ?_
          obtain ⟨k, rfl, hk⟩ := oU.nat hy
          rcases (mem_up.mp hy).2 with z | z
          · exact hg _ z
          · rw [List.mem_singleton.mp z]
            simpa using hin
      have hw : h.want (stepS h.n T [l] (!up)) f up = [] := by
        refine List.eq_nil_iff_forall_not_mem.mpr fun k hk => ?_
        obtain ⟨k1, k2, k3⟩ := mem_want.mp hk
        by_cases hkl : k = l
        · subst hkl
          have := goes_not (up := !up) hp (step_ge (up := !up) c.ok [k]) k1 m3
          rw [Bool.not_not] at this
          rw [this] at k3
          cases k3
        · have kT : decide ((k : Int) ∈ T) = !up := by
            cases up with
            | true =>
              have z := of_decide_eq_false k2
              exact decide_eq_false fun z2 => z (mem_down.mpr ⟨k1, z2, fun z3 => hkl (List.mem_singleton.mp z3)⟩)
            | false =>
              rcases (mem_up.mp (of_decide_eq_true k2)).2 with z | z
              · exact decide_eq_true z
              · exact absurd (List.mem_singleton.mp z) hkl
          have : k ∈ h.want T f up := mem_want.mpr ⟨k1, kT, goes_mono hp hUT k3⟩
          rw [c.fin] at this
          cases this
      have hle := c.least _ oU hSU hw
      unfold Lq at hle
      cases up with
      | true => exact (mem_down.mp (hle _ (of_decide_eq_true m2))).2.2 (List.mem_singleton.mpr rfl)
      | false =>
        have := hle _ (mem_up.mpr ⟨m1, .inr (List.mem_singleton.mpr rfl)⟩)
        simp at m2
        exact m2 this
  cases up with
  | true => exact ⟨c.fin, other⟩
  | false => exact ⟨other, c.fin⟩
def sp__law_begun (K : PySem.W.Frag) (C : Addr) : Sp := fun vs H Q _ => ∃ (j p : Addr) (n : Int) (h : Hs), vs = [.ref j, .ref p] ∧ JarAt H j n ∧ n < 800000 ∧ LawP K H p h ∧ ∀ r t st s H', ExB j H H' → JarAt H' j (n + 200) → H' r = some (.tup [.ref t, .int s]) → H' t = some (.tup (st.map V.int)) → StOk h.n st → SetAt h st s → Q (.ref r) H'
theorem dOf_put {hel : List (Int × Int × Int)} {a b : Int} {c : Int} (h : ∀ x ∈ hel, fst2 x ≠ (a, b)) : putK (dOf hel) [Sum.inl a, Sum.inl b] (V.int c) = dOf (hel ++ [(a, b, c)]) := by
  have e : ((dOf hel).any fun kv => decide (kv.1 = [Sum.inl a, Sum.inl b])) = false := by
    rw [List.any_eq_false]
    intro kv hkv
    unfold dOf at hkv
    obtain ⟨x, hx, rfl⟩ := List.mem_map.mp hkv
    intro z
    have z2 := of_decide_eq_true z
    have z3 := List.cons.inj z2
    have z4 := List.cons.inj z3.2
    exact h x hx (by unfold fst2; rw [Sum.inl.inj z3.1, Sum.inl.inj z4.1])
  unfold putK
  rw [e, if_neg Bool.false_ne_true]
  unfold dOf
  rw [List.map_append]
  rfl
theorem GoodH.fresh {m i j : Int} {sm : List (Int × Int × Int)} (g : GoodH m i j sm) : ∀ x ∈ sm, fst2 x ≠ (i, j) := fun x hx e => by
  have := (g.ok x hx).2
  have e1 : x.1 = i := (congrArg Prod.fst e : (fst2 x).1 = i)
  have e2 : x.2.1 = j := (congrArg Prod.snd e : (fst2 x).2 = j)
  omega
def sp__law_plan (K : PySem.W.Frag) (C : Addr) : Sp := fun vs H Q _ => ∃ (j : Addr) (n m : Int), vs = [.ref j, .int m] ∧ JarAt H j n ∧ 1 ≤ m ∧ m ≤ 14 ∧ n < 800000 ∧
  ∀ r tp dd xs lat hel H', ExB j H H' → JarAt H' j (n + 800) → H' r = some (.tup [.ref tp, .ref dd]) → H' tp = some (.tup xs) → Al (PairV K H') xs lat → H' dd = some (.dT (dOf hel)) → 1 ≤ lat.length → (lat.length : Int) ≤ m → (∀ x ∈ lat, x.2 < x.1) → HelOk (lat.length : Int) hel → hel.length ≤ 200 → Q (.ref r) H'
def spSame (K : PySem.W.Frag) (m : Nat) : Sp := fun vs H Q _ => ∃ x y, vs = [x, y] ∧ Sm K m H x y ∧ (∀ z, x ≠ .str z) ∧ x ≠ .non ∧ ∀ H', Ex H H' → Q (.bl true) H'
def SmF (K : PySem.W.Frag) : Nat → Hp → V → V → Prop
  | 0, _, _, _ => False
  | m + 1, H, x, y => (∃ i, x = .int i ∧ y = .int i) ∨ (∃ b, x = .bl b ∧ y = .bl b) ∨
    ∃ (a b : Addr) (xs ys : List V), x = .ref a ∧ y = .ref b ∧ ((H a = some (.lst xs) ∧ H b = some (.lst ys)) ∨ (SqT K H a xs ∧ SqT K H b ys)) ∧ xs.length = ys.length ∧ xs.length < 1000 ∧ ∀ (i : Nat) u v, xs[i]? = some u → ys[i]? = some v → SmF K m H u v
theorem SmF.ex {K : PySem.W.Frag} : ∀ {m : Nat} {H H' : Hp} {x y : V}, SmF K m H x y → Ex H H' → SmF K m H' x y
  | 0, _, _, _, _, h, _ => h.elim
  | m + 1, H, H', x, y, h, e => by
    rcases h with h | h | ⟨a, b, xs, ys, h1, h2, h3, h4, h5, h6⟩
    · exact .inl h
    · exact .inr (.inl h)
    · refine .inr (.inr ⟨a, b, xs, ys, h1, h2, ?_, h4, h5, fun i u v hu hv => (h6 i u v hu hv).ex e⟩)
      rcases h3 with ⟨p, q⟩ | ⟨p, q⟩
      · exact .inl ⟨e _ _ p, e _ _ q⟩
      · exact .inr ⟨p.ki e.ki, q.ki e.ki⟩
def spSameF (K : PySem.W.Frag) (m : Nat) : Sp := fun vs H Q _ => ∃ x y, vs = [x, y] ∧ SmF K m H x y ∧ ∀ H', Ex H H' → Q (.bl true) H'
def sp__law_same (K : PySem.W.Frag) (C : Addr) : Sp := spSameF K 4
theorem sq_upd {K : PySem.W.Frag} {H : Hp} {a dd : Addr} {xs : List V} {o0 o : HO} (h : SqT K H a xs) (hd : H dd = some o0) (n1 : o0 ≠ .tup xs) (n2 : ∀ od, o0 ≠ .frz od (.tup xs)) : SqT K (upd H dd o) a xs := by
  rcases h with (h | ⟨od, h⟩) | h
  · refine .inl (.inl ?_)
    rw [upd_ne (fun z => by subst z; rw [h] at hd; cases hd; exact n1 rfl)]
    exact h
  · refine .inl (.inr ⟨od, ?_⟩)
    rw [upd_ne (fun z => by subst z; rw [h] at hd; cases hd; exact n2 _ rfl)]
    exact h
  · exact .inr h
theorem valV_mem : ∀ {hel : List (Int × Int × Int)} {x : Int × Int × Int}, (hel.map fst2).Nodup → x ∈ hel → valV (dOf hel) [Sum.inl x.1, Sum.inl x.2.1] = some (.int x.2.2)
  | y :: r, x, hn, hx => by
    have hn' := List.nodup_cons.mp (show (fst2 y :: r.map fst2).Nodup from hn)
    rcases List.mem_cons.mp hx with rfl | hx
    · exact valV_pos rfl
    · have hne : ¬ ([Sum.inl y.1, Sum.inl y.2.1] : List Key) = [Sum.inl x.1, Sum.inl x.2.1] := fun z => by
        have z1 := List.cons.inj z
        have z2 := List.cons.inj z1.2
        refine hn'.1 (List.mem_map.mpr ⟨x, hx, ?_⟩)
        unfold fst2
        rw [Sum.inl.inj z1.1, Sum.inl.inj z2.1]
      exact (valV_neg (p := (([Sum.inl y.1, Sum.inl y.2.1], V.int y.2.2) : List Key × V)) hne).trans (valV_mem hn'.2 hx)
def sp__law_house (K : PySem.W.Frag) (C : Addr) : Sp := fun vs H Q _ => ∃ (p tp dd : Addr) (xs : List V) (lat : List (Int × Int)) (hel : List (Int × Int × Int)), vs = [.ref p] ∧ SqT K H p [.ref tp, .ref dd] ∧ SqT K H tp xs ∧ Al (PairV K H) xs lat ∧ H dd = some (.dT (dOf hel)) ∧ LatOk lat ∧ HelOk (lat.length : Int) hel ∧
  ∀ a h H', H a = none → Ex H H' → HouseV K C H' a h → h.lat = lat → h.hel.Perm hel → HelSorted h.hel → Q (.ref a) H'
theorem perm_sorted {α : Type} {R : α → α → Prop} (anti : ∀ x y, R x y → R y x → x = y) : ∀ {A B : List α}, A.Pairwise R → B.Pairwise R → A.Perm B → A = B
  | [], B, _, _, p => p.nil_eq
  | x :: A, [], _, _, p => by have := p.length_eq; simp at this
  | x :: A, y :: B, hA, hB, p => by
    have hA' := List.pairwise_cons.mp hA
    have hB' := List.pairwise_cons.mp hB
    have e : x = y := by
      rcases List.mem_cons.mp (p.mem_iff.mp (List.mem_cons_self ..)) with e | e
      · exact e
      · rcases List.mem_cons.mp (p.mem_iff.mpr (List.mem_cons_self ..)) with e2 | e2
        · exact e2.symm
        · exact anti _ _ (hA'.1 y e2) (hB'.1 x e)
    subst e
    rw [perm_sorted anti hA'.2 hB'.2 p.cons_inv]
theorem hels_eq {A B : List (Int × Int × Int)} (a : HelSorted A) (b : HelSorted B) (p : A.Perm B) : A = B :=
  perm_sorted (fun x y h1 h2 => by
    have g1 := mt SrtO.lex3_iff.mpr (by rw [h1]; exact Bool.false_ne_true)
    have g2 := mt SrtO.lex3_iff.mpr (by rw [h2]; exact Bool.false_ne_true)
    have e1 : x.1 = y.1 := by omega
    have e2 : x.2.1 = y.2.1 := by omega
    have e3 : x.2.2 = y.2.2 := by omega
    exact Prod.ext e1 (Prod.ext e2 e3)) a b p
theorem smf_tup {K : PySem.W.Frag} {H : Hp} {m : Nat} {a b : Addr} {T : List Int} (h1 : SqT K H a (T.map V.int)) (h2 : SqT K H b (T.map V.int)) (hl : T.length < 1000) : SmF K (m + 2) H (.ref a) (.ref b) :=
  .inr (.inr ⟨a, b, _, _, rfl, rfl, .inr ⟨h1, h2⟩, rfl, by rw [List.length_map]; exact hl, fun i u v hu hv => by
    rw [hu] at hv
    cases hv
    obtain ⟨z, _, rfl⟩ := List.mem_map.mp (List.mem_of_getElem? hu)
    exact .inl ⟨z, rfl, rfl⟩⟩)
theorem exB_free {a p : Addr} {H H' : Hp} (e : ExB a H H') (n : p ≠ a) (h : H' p = none) : H p = none := by
  cases hq : H p with
  | none => rfl
  | some o => rw [e p o n hq] at h; cases h
theorem eqLs (xs : List Int) : PyData.eqv (dL xs) (dL xs) = true := by
  show PyData.eqvAll (xs.map PyData.int) (xs.map PyData.int) = true
  induction xs with
  | nil => simp [PyData.eqvAll]
  | cons x r ih => rw [List.map_cons]; unfold PyData.eqvAll; rw [ih]; simp [PyData.eqv]
theorem atZ {xs : List V} {i : Nat} {v : V} (h : xs[i]? = some v) : atI xs (0 + (i : Int)) = some v := by rw [Int.zero_add]; exact atI_nat h
theorem atZ1 {xs : List V} {i : Nat} {v : V} (h : xs[i + 1]? = some v) : atI xs (0 + (i : Int) + 1) = some v := by rw [Int.zero_add]; exact atI_nat h
theorem hspos_of {h : Hs} {lat : List (Int × Int)} {hel : List (Int × Int × Int)} {n : Int} (hlat : h.lat = lat) (hpm : h.hel.Perm hel) (hlt : ∀ p ∈ lat, p.2 < p.1) (hho : HelOk n hel) : HsPos h := by
  refine ⟨fun y hy => ?_, fun y hy => hlt y (by rw [← hlat]; exact hy)⟩
  have := hho.ok y (hpm.mem_iff.mp hy)
  unfold helpB at this
  simp at this
  omega
def sp_House___eq__ (K : PySem.W.Frag) (C : Addr) : Sp := fun vs H Q _ => ∃ (a b : Addr) (h g : Hs), vs = [.ref a, .ref b] ∧ HouseV K C H a h ∧ HouseV K C H b g ∧ h.lat = g.lat ∧ h.hel = g.hel ∧ Q (.bl true) H
def swLe (up : Bool) (a b : Int) : Prop := if up = true then a ≤ b else b ≤ a
theorem want_weak {h : Hs} {A : List Int} {s n : Int} {up : Bool} (w : h.want A s up = []) (le : swLe up n s) : h.want A n up = [] := by
  refine List.eq_nil_iff_forall_not_mem.mpr fun l hl => ?_
  obtain ⟨m1, m2, m3⟩ := mem_want.mp hl
  have : l ∈ h.want A s up := mem_want.mpr ⟨m1, m2, by
    unfold Hs.goes at m3 ⊢
    unfold swLe at le
    cases up <;> simp at m3 le ⊢ <;> omega⟩
  rw [w] at this
  simp at this
theorem lq_flip {up : Bool} {A B : List Int} (h : Lq up A B) : Lq (!up) B A := lq_not.mpr h
theorem lq_flip' {up : Bool} {A B : List Int} (h : Lq (!up) A B) : Lq up B A := lq_not.mp h
/-- what lies between two swells -/
def Btw (s n f : Int) : Prop := (s ≤ n ∧ n ≤ f) ∨ (f ≤ n ∧ n ≤ s)
/-- from behind a leg it goes back part of the way, and comes again -/
theorem back_again {h : Hs} {s n f : Int} {st T N T2 : List Int} (ho : StOk h.n st) (x : SetAt h st s) (c : Clo h f (decide (s ≤ f)) st T) (y : SetAt h T f) (b : Btw s n f)
    (c1 : Clo h n (decide (f ≤ n)) T N) (c2 : Clo h f (decide (n ≤ f)) N T2) : T2 = T := by
  by_cases e : n = f
  · subst e
    have e1 : N = T := c1.uniq (Clo.self c.ok (y.w _))
    subst e1
    exact c2.uniq (Clo.self c.ok (y.w _))
  · generalize hup : decide (s ≤ f) = up at c
    have d1 : decide (f ≤ n) = !up := by
      cases up with
      | true => have := of_decide_eq_true hup; unfold Btw at b; exact decide_eq_false (by omega)
      | false => have := of_decide_eq_false hup; unfold Btw at b; exact decide_eq_true (by omega)
    have d2 : decide (n ≤ f) = up := by
      cases up with
      | true => have := of_decide_eq_true hup; unfold Btw at b; exact decide_eq_true (by omega)
      | false => have := of_decide_eq_false hup; unfold Btw at b; exact decide_eq_false (by omega)
    rw [d1] at c1
    rw [d2] at c2
    have le : swLe (!up) n s := by
      unfold swLe
      unfold Btw at b
      cases up with
      | true => have := of_decide_eq_true hup; simp; omega
      | false => have := of_decide_eq_false hup; simp; omega
    have sN : Lq up st N := lq_flip' (c1.least st ho (lq_flip c.ge) (want_weak (x.w _) le))
    have NT : Lq up N T := lq_flip' c1.ge
    exact Lq.eq c2.ok c.ok (c2.least T c.ok NT c.fin) (c.least T2 c2.ok (sN.trans c2.ge) c2.fin)
/-- where it bears a swell it bears what lies between -/
theorem near_too {h : Hs} {s n f : Int} {st T N B : List Int} (ho : StOk h.n st) (x : SetAt h st s) (c : Clo h f (decide (s ≤ f)) st T) (y : Clo h s (decide (f ≤ s)) T st) (b : Btw s n f)
    (c1 : Clo h n (decide (s ≤ n)) st N) (c2 : Clo h s (decide (n ≤ s)) N B) : B = st := by
  by_cases e : n = s
  · subst e
    have e1 : N = st := c1.uniq (Clo.self ho (x.w _))
    subst e1
    exact c2.uniq (Clo.self ho (x.w _))
  · generalize hup : decide (s ≤ f) = up at c
    have d1 : decide (s ≤ n) = up := by
      cases up with
      | true => have := of_decide_eq_true hup; unfold Btw at b; exact decide_eq_true (by omega)
      | false => have := of_decide_eq_false hup; unfold Btw at b; exact decide_eq_false (by omega)
    have d2 : decide (n ≤ s) = !up := by
      cases up with
      | true => have := of_decide_eq_true hup; unfold Btw at b; exact decide_eq_false (by omega)
      | false => have := of_decide_eq_false hup; unfold Btw at b; exact decide_eq_true (by omega)
    have d3 : decide (f ≤ s) = !up := by
      cases up with
      | true => have := of_decide_eq_true hup; unfold Btw at b; exact decide_eq_false (by omega)
      | false => have := of_decide_eq_false hup; unfold Btw at b; exact decide_eq_true (by omega)
    rw [d1] at c1
    rw [d2] at c2
    rw [d3] at y
    have le : swLe up n f := by
      unfold swLe
      unfold Btw at b
      cases up with
      | true => have := of_decide_eq_true hup; simp; omega
      | false => have := of_decide_eq_false hup; simp; omega
    have NT : Lq up N T := c1.least T c.ok c.ge (want_weak c.fin le)
    exact Lq.eq c2.ok ho (c2.least st ho (lq_flip c1.ge) (x.w _)) (y.least B c2.ok ((lq_flip NT).trans c2.ge) c2.fin)
theorem eqT2 (xs ys : List Int) : PyData.eqv (dT xs) (dT ys) = decide (xs = ys) := eqvAll_dec xs ys
def sp_there_and_back (K : PySem.W.Frag) (C : Addr) : Sp := fun vs H Q _ => ∃ (a : Addr) (h : Hs) (t : Addr) (st : List Int) (s f : Int), vs = [.ref a, .ref t, .int s, .int f] ∧ HouseV K C H a h ∧ SqT K H t (st.map V.int) ∧ StOk h.n st ∧ HsPos h ∧ h.want st s true = [] ∧ h.want st s false = [] ∧
  ∀ p t1 t2 T B H', Ex H H' → H' p = some (.tup [.ref t1, .ref t2]) → SqT K H' t1 (T.map V.int) → SqT K H' t2 (B.map V.int) → Clo h f (decide (s ≤ f)) st T → Clo h s (decide (f ≤ s)) T B → Q (.ref p) H'
def sp_bears (K : PySem.W.Frag) (C : Addr) : Sp := fun vs H Q _ => ∃ (a : Addr) (h : Hs) (t : Addr) (st : List Int) (s f : Int), vs = [.ref a, .ref t, .int s, .int f] ∧ HouseV K C H a h ∧ SqT K H t (st.map V.int) ∧ StOk h.n st ∧ HsPos h ∧ h.want st s true = [] ∧ h.want st s false = [] ∧
  ∀ T B H', Ex H H' → Clo h f (decide (s ≤ f)) st T → Clo h s (decide (f ≤ s)) T B → Q (.bl (decide (B = st))) H'
theorem sort2 {ns : List Int} {a b : Int} (p : ns.Perm [a, b]) (s : ns.Pairwise (· ≤ ·)) : ∃ lo hi, ns = [lo, hi] ∧ lo ≤ hi ∧ ((lo = a ∧ hi = b) ∨ (lo = b ∧ hi = a)) := by
  have hl := p.length_eq
  match ns, hl with
  | [x, y], _ =>
    have h1 : x ≤ y := by simpa using s
    have hx : x ∈ [a, b] := p.mem_iff.mp (by simp)
    refine ⟨x, y, rfl, h1, ?_⟩
    by_cases e : x = a
    · subst e
      have := List.perm_singleton.mp p.cons_inv
      simp at this
      exact .inl ⟨rfl, this⟩
    · have e2 : x = b := by simp at hx; omega
      subst e2
      have := List.perm_singleton.mp (p.trans (List.Perm.swap x a [])).cons_inv
      simp at this
      exact .inr ⟨rfl, this⟩
def sp__law_between (K : PySem.W.Frag) (C : Addr) : Sp := fun vs H Q _ => ∃ (j : Addr) (n s f : Int), vs = [.ref j, .int s, .int f] ∧ JarAt H j n ∧ n < 900000 ∧ ∀ d H', ExB j H H' → JarAt H' j (n + 3) → Btw s d f → Q (.int d) H'
theorem smf_two {K : PySem.W.Frag} {H : Hp} {m : Nat} {p r a1 a2 b1 b2 : Addr} {T B : List Int} (hp : SqT K H p [.ref a1, .ref a2]) (hr : SqT K H r [.ref b1, .ref b2]) (h1 : SqT K H a1 (T.map V.int)) (h2 : SqT K H b1 (T.map V.int)) (h3 : SqT K H a2 (B.map V.int)) (h4 : SqT K H b2 (B.map V.int)) (l1 : T.length < 1000) (l2 : B.length < 1000) : SmF K (m + 3) H (.ref p) (.ref r) :=
  .inr (.inr ⟨p, r, _, _, rfl, rfl, .inr ⟨hp, hr⟩, rfl, by simp, fun i u v hu hv => by
    match i, hu, hv with
    | 0, hu, hv => cases hu; cases hv; exact smf_tup h1 h2 l1
    | 1, hu, hv => cases hu; cases hv; exact smf_tup h3 h4 l2
    | i + 2, hu, _ => simp at hu⟩)
def sp__law_right (K : PySem.W.Frag) (C : Addr) : Sp := fun vs H Q _ => ∃ (j p a t : Addr) (n : Int) (h : Hs) (st : List Int) (s f : Int), vs = [.ref j, .ref p, .ref a, .ref t, .int s, .int f] ∧ JarAt H j n ∧ n < 800000 ∧ LawP K H p h ∧ HouseV K C H a h ∧ H t = some (.tup (st.map V.int)) ∧ StOk h.n st ∧ SetAt h st s ∧ ∀ H', ExB j H H' → JarAt H' j (n + 40) → Q (.bl true) H'
def sp_law (K : PySem.W.Frag) (C : Addr) : Sp := fun vs H Q _ => ∃ (a : Addr) (ns : List Int), vs = [.ref a] ∧ SqL K H a (ns.map V.int) ∧ ns.length ≤ 63 ∧ ∀ H', Q (.bl true) H'
/-! ### what the top has written -/
structure Txt (K : PySem.W.Frag) (mg : PySem.Str → Option Value) (C : Addr) : Prop where
  cls : Cls K C
  mgC : mg "House" = some (.ref C)
  n_latches : NoAttr K C "_latches"
  n_helps : NoAttr K C "_helps"
  n_lenders : NoAttr K C "_lenders"
  isc : C8.InsC K C
  neC : PySem.W.findIn K (.ref C) "__ne__" = some (some (.builtin "object.__ne__"))
  f_House___eq__ : ∃ (f : Addr) (fd : FuncData), Fun K "__eq__" "House.__eq__" s_House___eq__ f fd ∧ Meth K C "__eq__" f
  f__law_pull : ∃ (f : Addr) (fd : FuncData), Fun K "_law_pull" "_law_pull" s__law_pull f fd ∧ mg "_law_pull" = some (.ref f)
  f__law_ends : ∃ (f : Addr) (fd : FuncData), Fun K "_law_ends" "_law_ends" s__law_ends f fd ∧ mg "_law_ends" = some (.ref f)
  f__law_gone : ∃ (f : Addr) (fd : FuncData), Fun K "_law_gone" "_law_gone" s__law_gone f fd ∧ mg "_law_gone" = some (.ref f)
  f__law_may : ∃ (f : Addr) (fd : FuncData), Fun K "_law_may" "_law_may" s__law_may f fd ∧ mg "_law_may" = some (.ref f)
  f__law_pick : ∃ (f : Addr) (fd : FuncData), Fun K "_law_pick" "_law_pick" s__law_pick f fd ∧ mg "_law_pick" = some (.ref f)
  f__law_on : ∃ (f : Addr) (fd : FuncData), Fun K "_law_on" "_law_on" s__law_on f fd ∧ mg "_law_on" = some (.ref f)
  f__law_swell : ∃ (f : Addr) (fd : FuncData), Fun K "_law_swell" "_law_swell" s__law_swell f fd ∧ mg "_law_swell" = some (.ref f)
  f__law_begun : ∃ (f : Addr) (fd : FuncData), Fun K "_law_begun" "_law_begun" s__law_begun f fd ∧ mg "_law_begun" = some (.ref f)
  f_is_whole : ∃ (f : Addr) (fd : FuncData), Fun K "is_whole" "is_whole" s_is_whole f fd ∧ mg "is_whole" = some (.ref f)
  f_is_lending : ∃ (f : Addr) (fd : FuncData), Fun K "is_lending" "is_lending" s_is_lending f fd ∧ mg "is_lending" = some (.ref f)
  f_check_helps : ∃ (f : Addr) (fd : FuncData), Fun K "check_helps" "check_helps" s_check_helps f fd ∧ mg "check_helps" = some (.ref f)
  f_is_pair : ∃ (f : Addr) (fd : FuncData), Fun K "is_pair" "is_pair" s_is_pair f fd ∧ mg "is_pair" = some (.ref f)
  f_check_latches : ∃ (f : Addr) (fd : FuncData), Fun K "check_latches" "check_latches" s_check_latches f fd ∧ mg "check_latches" = some (.ref f)
  f_lenders_to : ∃ (f : Addr) (fd : FuncData), Fun K "lenders_to" "lenders_to" s_lenders_to f fd ∧ mg "lenders_to" = some (.ref f)
  f_House___init__ : ∃ (f : Addr) (fd : FuncData) (dT : Addr), FunD K "__init__" "House.__init__" (defArgs s_House___init__) (defBody s_House___init__) (defScope s_House___init__) [.ref dT] [] f fd ∧ Mk K C f
  f__law_house : ∃ (f : Addr) (fd : FuncData), Fun K "_law_house" "_law_house" s__law_house f fd ∧ mg "_law_house" = some (.ref f)
  f__law_jar : ∃ (f : Addr) (fd : FuncData), Fun K "_law_jar" "_law_jar" s__law_jar f fd ∧ mg "_law_jar" = some (.ref f)
  f__law_plan : ∃ (f : Addr) (fd : FuncData), Fun K "_law_plan" "_law_plan" s__law_plan f fd ∧ mg "_law_plan" = some (.ref f)
  f__law_between : ∃ (f : Addr) (fd : FuncData), Fun K "_law_between" "_law_between" s__law_between f fd ∧ mg "_law_between" = some (.ref f)
  f__law_same : ∃ (f : Addr) (fd : FuncData), Fun K "_law_same" "_law_same" s__law_same f fd ∧ mg "_law_same" = some (.ref f)
  f_gone : ∃ (f : Addr) (fd : FuncData), Fun K "gone" "gone" s_gone f fd ∧ mg "gone" = some (.ref f)
  f_House___len__ : ∃ (f : Addr) (fd : FuncData), Fun K "__len__" "House.__len__" s_House___len__ f fd ∧ Meth K C "__len__" f
  f_movable : ∃ (f : Addr) (fd : FuncData), Fun K "movable" "movable" s_movable f fd ∧ mg "movable" = some (.ref f)
  f_is_latch : ∃ (f : Addr) (fd : FuncData), Fun K "is_latch" "is_latch" s_is_latch f fd ∧ mg "is_latch" = some (.ref f)
  f_check_latch : ∃ (f : Addr) (fd : FuncData), Fun K "check_latch" "check_latch" s_check_latch f fd ∧ mg "check_latch" = some (.ref f)
  f_House_down_at : ∃ (f : Addr) (fd : FuncData), Fun K "down_at" "House.down_at" s_House_down_at f fd ∧ Meth K C "down_at" f
  f_House_up_at : ∃ (f : Addr) (fd : FuncData), Fun K "up_at" "House.up_at" s_House_up_at f fd ∧ Meth K C "up_at" f
  f_House_lenders : ∃ (f : Addr) (fd : FuncData), Fun K "lenders" "House.lenders" s_House_lenders f fd ∧ Meth K C "lenders" f
  f_lent_in : ∃ (f : Addr) (fd : FuncData), Fun K "lent_in" "lent_in" s_lent_in f fd ∧ mg "lent_in" = some (.ref f)
  f_would_go : ∃ (f : Addr) (fd : FuncData), Fun K "would_go" "would_go" s_would_go f fd ∧ mg "would_go" = some (.ref f)
  f_wanting : ∃ (f : Addr) (fd : FuncData), Fun K "wanting" "wanting" s_wanting f fd ∧ mg "wanting" = some (.ref f)
  f_waves_of : ∃ (f : Addr) (fd : FuncData), Fun K "waves_of" "waves_of" s_waves_of f fd ∧ mg "waves_of" = some (.ref f)
  f_end_of : ∃ (f : Addr) (fd : FuncData), Fun K "end_of" "end_of" s_end_of f fd ∧ mg "end_of" = some (.ref f)
  f_carried : ∃ (f : Addr) (fd : FuncData), Fun K "carried" "carried" s_carried f fd ∧ mg "carried" = some (.ref f)
  f_is_rising : ∃ (f : Addr) (fd : FuncData), Fun K "is_rising" "is_rising" s_is_rising f fd ∧ mg "is_rising" = some (.ref f)
  f_is_rising_below : ∃ (f : Addr) (fd : FuncData), Fun K "is_rising_below" "is_rising_below" s_is_rising_below f fd ∧ mg "is_rising_below" = some (.ref f)
  f_check_stand : ∃ (f : Addr) (fd : FuncData), Fun K "check_stand" "check_stand" s_check_stand f fd ∧ mg "check_stand" = some (.ref f)
  f_check_swell : ∃ (f : Addr) (fd : FuncData), Fun K "check_swell" "check_swell" s_check_swell f fd ∧ mg "check_swell" = some (.ref f)
  f_check_moment : ∃ (f : Addr) (fd : FuncData), Fun K "check_moment" "check_moment" s_check_moment f fd ∧ mg "check_moment" = some (.ref f)
  f_check_settled : ∃ (f : Addr) (fd : FuncData), Fun K "check_settled" "check_settled" s_check_settled f fd ∧ mg "check_settled" = some (.ref f)
  f_check_leg : ∃ (f : Addr) (fd : FuncData), Fun K "check_leg" "check_leg" s_check_leg f fd ∧ mg "check_leg" = some (.ref f)
  f_leg : ∃ (f : Addr) (fd : FuncData), Fun K "leg" "leg" s_leg f fd ∧ mg "leg" = some (.ref f)
  f_there_and_back : ∃ (f : Addr) (fd : FuncData), Fun K "there_and_back" "there_and_back" s_there_and_back f fd ∧ mg "there_and_back" = some (.ref f)
  f_bears : ∃ (f : Addr) (fd : FuncData), Fun K "bears" "bears" s_bears f fd ∧ mg "bears" = some (.ref f)
  f__law_right : ∃ (f : Addr) (fd : FuncData), Fun K "_law_right" "_law_right" s__law_right f fd ∧ mg "_law_right" = some (.ref f)
  f_law : ∃ (f : Addr) (fd : FuncData), Fun K "law" "law" s_law f fd ∧ mg "law" = some (.ref f)
  b_all : mg "all" = none
  b_bool : mg "bool" = none
  b_enumerate : mg "enumerate" = none
  b_int : mg "int" = none
  b_isinstance : mg "isinstance" = none
  b_len : mg "len" = none
  b_list : mg "list" = none
  b_max : mg "max" = none
  b_min : mg "min" = none
  b_range : mg "range" = none
  b_sorted : mg "sorted" = none
  b_sum : mg "sum" = none
  b_tuple : mg "tuple" = none
  g_MOST_LATCHES : ∃ t, mg "MOST_LATCHES" = some (.int 14 t)
  g_MOST_HELP : ∃ t, mg "MOST_HELP" = some (.int 9 t)
end My
namespace My
open PySem PySem.Spec PyProof.Rows L2
theorem d_House___eq__ {P : Program} {w : World} {K : PySem.W.Frag} {mg : PySem.Str → Option Value} {base : Heap} {C : Addr} (T : Txt K mg C) : Mtd P w K mg base C "__eq__" 1 ["self", "other"] (sp_House___eq__ K C) := by
  obtain ⟨f, fd, F, hm⟩ := T.f_House___eq__
  refine ⟨f, fd, hm, F.binds (ps := ["self", "other"]) (fun _ _ _ _ _ _ us hl => match us, hl with | [_, _], _ => rfl), F.ok sc_House___eq__ (fun vs H Q E h => ?_) (fun cdv A outer s H vs Q E hr h => ?_)⟩
  · unfold sp_House___eq__ at h
    repeat (obtain ⟨_, h⟩ := h)
    subst_vars
    rfl
  · obtain ⟨a, b, h, g, rfl, hv, gv, e1, e2, q⟩ := h
    obtain ⟨dx, tl, th, tn, xl, xh, xn, h1, h2, h3, h4, h5, h6, h7⟩ := hv.ob
    obtain ⟨dy, ul, uh, un, yl, yh, yn, g1, g2, g3, g4, g5, g6, g7⟩ := gv.ob
    rw [← e1] at g3
    rw [← e2] at g5
    refine ⟨_, (pss_one (ps_ret (pe_and (pe_callB (kIsC (K := K) T.isc) (by rfl) T.b_isinstance (by decide +kernel) (pa_cons (pv 1) (pa_cons (pe_glob (v := .ref C) (by rfl) T.mgC rfl) pa_nil))) (pe_and (pe_cmpR (kEqD (K := K) (units64 hr)) (kFld (K := K) (pv 0) rfl) (kFld (K := K) (pv 1) rfl) (nomark _)) (pe_one (pe_cmpR (kEqD (K := K) (units64 hr)) (kFld (K := K) (pv 0) rfl) (kFld (K := K) (pv 1) rfl) (nomark _))))))), ?_⟩
    refine ⟨_, rfl, b, dy, _, rfl, g1, _, rfl, iteT ?_⟩
    refine ⟨_, rfl, a, C, dx, _, _, rfl, h1, T.cls, T.n_latches, hfs_lat _ _ _, _, rfl, b, C, dy, _, _, rfl, g1, T.cls, T.n_latches, hfs_lat _ _ _, _, _, .tup h2 (DpAll.pairs h3), .tup g2 (DpAll.pairs g3), pdsT_shaped _, pdsT_shaped _, _, rfl, ?_⟩
    rw [show PyData.eqv (.tuple (h.lat.map pd)) (.tuple (h.lat.map pd)) = true from pd_self _]
    refine iteT ⟨_, rfl, a, C, dx, _, _, rfl, h1, T.cls, T.n_helps, hfs_hel _ _ _, _, rfl, b, C, dy, _, _, rfl, g1, T.cls, T.n_helps, hfs_hel _ _ _, _, _, .tup h4 (DpAll.trips h5), .tup g4 (DpAll.trips g5), tdsT_shaped _, tdsT_shaped _, ?_⟩
    rw [show PyData.eqv (.tuple (h.hel.map td)) (.tuple (h.hel.map td)) = true from td_self _]
    exact q

theorem d__law_pull {P : Program} {w : World} {K : PySem.W.Frag} {mg : PySem.Str → Option Value} {base : Heap} {C : Addr} (T : Txt K mg C) : Dfn P w K mg base "_law_pull" 1 ["plan", "stand", "swell", "latch"] (sp__law_pull K C) := by
  obtain ⟨f, fd, F, hm⟩ := T.f__law_pull
  refine ⟨f, fd, hm, F.kp, F.binds (ps := ["plan", "stand", "swell", "latch"]) (fun _ _ _ _ _ _ us hl => match us, hl with | [_, _, _, _], _ => rfl), F.ok sc__law_pull (fun vs H Q E h => ?_) (fun cdv A outer s H vs Q E hr h => ?_)⟩
  · unfold sp__law_pull at h
    repeat (obtain ⟨_, h⟩ := h)
    subst_vars
    rfl
  · obtain ⟨p, t, h, st, s, l, rfl, hP, hst, ho, q⟩ := h
    have hn14 := hP.ok.n14
    have hsl := ho.len
    obtain ⟨tp, dd, xs, hel, h1, h2, h3, h4, h5, h6⟩ := hP.plan
    refine ⟨_, (pss_one (ps_ret (pe_op op_add (pv 2) (pe_callB (kSum (K := K)) (by rfl) T.b_sum (by decide +kernel) (pa_cons (pe_lc (own := [("one", 4)]) (g := (gName 4)) (tt := tYes)  rfl sc__law_pull.nd (pi_tup (pv 1)) (blkOk_by (own := [("one", 4)]) (N := ["plan", "stand", "swell", "latch", "one"]) (sc := defScope s__law_pull) (by decide +kernel)) (fun _ _ _ _ _ => (pg_name (i := 4) sc__law_pull.nd rfl (by first | exact Or.inl rfl | exact Or.inr rfl))) (fun _ _ _ _ _ => pts_nil) (fun _ _ _ _ _ => (pe_dget2 (units1 hr) (pe_ix (kIxT (K := K)) (pv 0) pe_int (fun _ _ => rfl)) (pe_tup (pa_cons (pv 4) (pa_cons (pv 3) pa_nil))) pe_int ⟨rfl, rfl, rfl, rfl⟩))) pa_nil))))), ?_⟩
    refine r_ret (r_op ⟨_, rfl, ?_⟩)
    refine r_cb (r_cons (lcT_ev (K := K) (as := st) (kp := fun _ => true) (RA := fun _ x (z : Int) => x = .int z) (RB := fun one y _ => y = .int (getH hel one (l : Int))) ?_ (by omega) (fun _ _ _ _ _ e => e) ?_ _ fun v H1 e1 hn => ?_))
    · exact fun Q k => ⟨_, rfl, k _ _ Ex.rfl ⟨t, _, rfl, hst, Al.of_map (R := fun x (z : Int) => x = .int z) (f := V.int) fun _ _ => rfl⟩⟩
    · rintro H1 e1 i x one hi rfl H2 e2
      refine ⟨_, gv_name, rfl, fun H3 e3 => tv_yes, fun _ H3 e3 Q k => ?_⟩
      have e13 := (e1.trans e2).trans e3
      have hd := e13 _ _ h4
      refine ⟨_, rfl, p, _, _, _, rfl, rfl, h1.ki e13.ki, atI_nat (j := 1) rfl, dd, rfl, .inr ⟨_, .inl hd⟩, _, rfl, _, rfl, by show 2 ≤ sizeLine; decide, fun q1 nq1 => ?_⟩
      have x4 : Ex H3 (upd H3 q1 (.tup [V.int one, V.int (l : Int)])) := Ex.new nq1
      refine ⟨_, DGet.t (k := [Sum.inl one, Sum.inl (l : Int)]) (x4 _ _ hd) upd_same, ?_⟩
      rw [valV_getH]
      exact k _ _ x4 rfl
    · obtain ⟨p2, rfl, hp2, hps⟩ := hn.ints
      rw [fTrue] at hps
      refine ⟨p2, _, rfl, .of hps, _, _, rfl, rfl, ?_⟩
      rw [pull_sum st (l : Int) (ho.up.imp fun {a b} h => by omega) hel h6, ← lentF_perm h5]
      exact q _ e1

theorem d__law_ends {P : Program} {w : World} {K : PySem.W.Frag} {mg : PySem.Str → Option Value} {base : Heap} {C : Addr} (T : Txt K mg C) : Dfn P w K mg base "_law_ends" 2 ["plan", "stand"] (sp__law_ends K C) := by
  have D__law_pull := d__law_pull (P := P) (w := w) (base := base) T
  obtain ⟨f, fd, F, hm⟩ := T.f__law_ends
  refine ⟨f, fd, hm, F.kp, F.binds (ps := ["plan", "stand"]) (fun _ _ _ _ _ _ us hl => match us, hl with | [_, _], _ => rfl), F.ok sc__law_ends (fun vs H Q E h => ?_) (fun cdv A outer s H vs Q E hr h => ?_)⟩
  · unfold sp__law_ends at h
    repeat (obtain ⟨_, h⟩ := h)
    subst_vars
    rfl
  · obtain ⟨p, t, h, st, rfl, hP, hst, ho, q0⟩ := h
    have q1 := fun (hne : st ≠ []) (hun : ∀ s, ¬ (h.want st s true = [] ∧ h.want st s false = [])) (H' : Hp) (e : Ex H H') => q0 .non H' e (.inl ⟨rfl, hne, hun⟩)
    have q2 := fun (e : Addr) (lo hi : Int) (H' : Hp) (x : Ex H H') (a : H' e = some (.tup [.int lo, .int hi])) (b : lo ≤ hi) (c : ∀ s, lo ≤ s → s ≤ hi → h.want st s true = [] ∧ h.want st s false = []) => q0 (.ref e) H' x (.inr ⟨e, lo, hi, rfl, a, b, c⟩)
    have hn14 := hP.ok.n14
    have hn1 := hP.ok.n1
    have hsl := ho.len
    obtain ⟨tp, dd, xs, hel, h1, h2, h3, h4, h5, h6⟩ := hP.plan
    have hxl : xs.length = h.n := h3.1
    refine ⟨_, (pss_cons (ps_setLc (i := 2) (own := [("k", 4)]) (g := (gName 4)) (tt := tYes)  rfl sc__law_ends.nd rfl rfl (sw_true rfl rfl rfl (by decide +kernel)) (pi_tup (pv 1)) (blkOk_by (own := [("k", 4)]) (N := ["plan", "stand", "lows", "highs", "k", "pair"]) (sc := defScope s__law_ends) (by decide +kernel)) (fun _ _ _ _ _ => (pg_name (i := 4) sc__law_ends.nd rfl (by first | exact Or.inl rfl | exact Or.inr rfl))) (fun _ _ _ _ _ => pts_nil) (fun _ _ _ _ _ => (pe_op op_sub (pe_op op_add (pe_ix (kIxT (K := K)) (pe_ix (kIxT (K := K)) (pe_ix (kIxT (K := K)) (pv 0) pe_int (fun _ _ => rfl)) (pv 4) (fun _ _ => rfl)) pe_int (fun _ _ => rfl)) pe_int) (pe_def D__law_pull (hr.mono (by first | decide | omega)) (by rfl) (pa_cons (pv 0) (pa_cons (pv 1) (pa_cons pe_int (pa_cons (pv 4) pa_nil))))))))
      (pss_cons (ps_set (i := 3) sc__law_ends.nd rfl (by first | exact Or.inl rfl | exact Or.inr rfl) (pe_lst pa_nil))
      (pss_cons (ps_for PassesOwn.never rfl (pi_enumT (by rfl) T.b_enumerate (pa_cons (pe_ix (kIxT (K := K)) (pv 0) pe_int (fun _ _ => rfl)) pa_nil)) (pg_tup rfl (pgs_cons (pg_name (i := 4) sc__law_ends.nd rfl (by first | exact Or.inl rfl | exact Or.inr rfl)) (pgs_cons (pg_name (i := 5) sc__law_ends.nd rfl (by first | exact Or.inl rfl | exact Or.inr rfl)) pgs_nil))) (pss_one (ps_if (pt_cmpR (kOpNotIn (K := K)) (pv 4) (pv 1) (by first | exact nomark _ | rfl)) (pss_one (ps_expr (kBm (K := K) PySem.F.plainAttrs_list PySem.F.slot_list_append PySem.F.type_list_append mt_append (pv 3) (pa_cons (pe_op op_sub (pe_op op_sub (pe_ix (kIxT (K := K)) (pv 5) pe_int (fun _ _ => rfl)) pe_int) (pe_def D__law_pull (hr.mono (by first | decide | omega)) (by rfl) (pa_cons (pv 0) (pa_cons (pv 1) (pa_cons pe_int (pa_cons (pv 4) pa_nil)))))) pa_nil)))) pss_nil)))
      (pss_cons (ps_if (pt_cmpR (kEqD (K := K) (units64 hr)) (pv 2) (pe_lst pa_nil) (nomark _)) (pss_one (ps_ret (pe_tup (pa_cons (pe_op op_sub (pe_callB (cr_min rfl) (by rfl) T.b_min (by decide +kernel) (pa_cons (pv 3) pa_nil)) pe_int) (pa_cons (pe_callB (cr_min rfl) (by rfl) T.b_min (by decide +kernel) (pa_cons (pv 3) pa_nil)) pa_nil))))) pss_nil)
      (pss_cons (ps_if (pt_cmpR (kEqD (K := K) (units64 hr)) (pv 3) (pe_lst pa_nil) (nomark _)) (pss_one (ps_ret (pe_tup (pa_cons (pe_callB (cr_max rfl) (by rfl) T.b_max (by decide +kernel) (pa_cons (pv 2) pa_nil)) (pa_cons (pe_op op_add (pe_callB (cr_max rfl) (by rfl) T.b_max (by decide +kernel) (pa_cons (pv 2) pa_nil)) pe_int) pa_nil))))) pss_nil)
      (pss_one (ps_ret (pe_ifExp (pt_cmpR op_gt (pe_callB (cr_max rfl) (by rfl) T.b_max (by decide +kernel) (pa_cons (pv 2) pa_nil)) (pe_callB (cr_min rfl) (by rfl) T.b_min (by decide +kernel) (pa_cons (pv 3) pa_nil)) (nomark _)) pe_non (pe_tup (pa_cons (pe_callB (cr_max rfl) (by rfl) T.b_max (by decide +kernel) (pa_cons (pv 2) pa_nil)) (pa_cons (pe_callB (cr_min rfl) (by rfl) T.b_min (by decide +kernel) (pa_cons (pv 3) pa_nil)) pa_nil))))))))))), ?_⟩
    refine r_seq (r_asg (lcT_ev (K := K) (as := st) (kp := fun _ => true) (RA := fun _ x (z : Int) => x = .int z) (RB := fun z y _ => y = .int (h.dn z.toNat + 1 - (0 + h.lent st z.toNat))) ?_ (by omega) (fun _ _ _ _ _ e => e) ?_ _ fun v H1 e1 hnew => ?_))
    · exact fun Q k => ⟨_, rfl, k _ _ Ex.rfl ⟨t, _, rfl, hst, Al.of_map (R := fun x (z : Int) => x = .int z) (f := V.int) fun _ _ => rfl⟩⟩
    · rintro G1 f1 i x z hi rfl G2 f2
      refine ⟨_, gv_name, rfl, fun G3 f3 => tv_yes, fun _ G3 f3 Q k => ?_⟩
      have f13 := (f1.trans f2).trans f3
      obtain ⟨l, rfl, hl⟩ := ho.nat (List.mem_of_getElem? hi)
      obtain ⟨x, hx, tx, rfl, htx⟩ := h3.get' (lat_get hl)
      refine ⟨_, rfl, p, _, _, _, rfl, rfl, h1.ki f13.ki, atI_nat (j := 0) rfl, _, rfl, tp, xs, _, _, rfl, rfl, h2.ki f13.ki, atI_nat hx, tx, _, _, _, rfl, rfl, htx.ki f13.ki, atI_nat (j := 1) rfl, _, _, rfl, rfl, ?_⟩
      refine ⟨_, rfl, _, rfl, _, rfl, p, t, h, st, 0, l, rfl, hP.ex f13, hst.ki f13.ki, ho, fun G4 f4 => ⟨_, _, rfl, rfl, ?_⟩⟩
      exact k _ _ f4 rfl
    obtain ⟨pl, rfl, hpl, hpls⟩ := hnew.ints (f := fun (z : Int) => h.dn z.toNat + 1 - (0 + h.lent st z.toNat))
    rw [fTrue] at hpls
    have hpls' : H1 pl = some (.lst ((lowsF h st).map V.int)) := hpls
    clear hpls
    dsimp only
    refine ⟨by show 0 ≤ sizeLine; decide, fun r nr => ?_⟩
    have x1 : Ex H1 (upd H1 r (.lst [])) := Ex.new nr
    have sr : (upd H1 r (.lst [])) r = some (.lst []) := upd_same
    generalize upd H1 r (.lst []) = H2 at *
    have e2 := e1.trans x1
    have nr0 : H r = none := e1.free nr
    refine ⟨_, rfl, p, _, _, _, rfl, rfl, h1.ki e2.ki, atI_nat (j := 0) rfl, tp, xs, rfl, h2.ki e2.ki, for_enumT (K := K) (a := tp) (xs := xs) (fun i σ H' => ∃ (v5 v6 : Option V), σ = [some (.ref p), some (.ref t), some (.ref pl), some (.ref r), v5, v6] ∧ Ex H H' ∧ H' pl = some (.lst ((lowsF h st).map V.int)) ∧ H' r = some (.lst ((highsF h st i).map V.int))) ⟨none, none, rfl, e2, x1 _ _ hpls', sr⟩ (fun i σ H' _ ⟨_, _, _, e, _⟩ => h2.ki e.ki) ?_ ?_⟩
    · rintro i x T σ G hi ⟨v5, v6, rfl, g0, gl, gr⟩ nT
      obtain ⟨pr, hpr, tx, rfl, htx⟩ := h3.get hi
      have hil : i < h.n := by have := (List.getElem?_eq_some_iff.mp hi).1; omega
      have elat := lat_get hil
      rw [hpr] at elat
      cases elat
      have y1 : Ex G (upd G T (.tup [V.int (i : Int), V.ref tx])) := Ex.new nT
      have sT : SqT K (upd G T (.tup [V.int ((i : Nat) : Int), V.ref tx])) T [V.int (i : Int), V.ref tx] := .of upd_same
      have gr1 := y1 _ _ gr
      have gl1 := y1 _ _ gl
      generalize upd G T (.tup [V.int (i : Int), V.ref tx]) = G1 at *
      have g1 := g0.trans y1
      have hsu := highsF_succ h st i
      refine ⟨T, _, rfl, sT, rfl, _, _, rfl, _, _, rfl, rfl, ?_⟩
      refine ⟨_, rfl, _, rfl, t, _, rfl, .inr (hst.ki g1.ki), rfl, flat_ints st, _, rfl, ?_⟩
      show if (!inV (V.int (i : Int)) (st.map V.int)) = true then _ else _
      rw [inV_int]
      cases hm : decide ((i : Int) ∈ st) with
      | true =>
        rw [hm] at hsu
        refine iteF ⟨_, _, rfl, g1, gl1, ?_⟩
        rw [hsu]
        simpa using gr1
      | false =>
        rw [hm] at hsu
        refine iteT ⟨_, rfl, .inl ⟨rfl, _, .of gr1⟩, _, rfl, tx, _, _, _, rfl, rfl, htx.ki g1.ki, atI_nat (j := 0) rfl, _, _, rfl, rfl, _, rfl, _, rfl, _, rfl, p, t, h, st, 0, i, rfl, hP.ex g1, hst.ki g1.ki, ho, fun G2 e2' => ⟨_, _, rfl, rfl, ?_⟩⟩
        have gr2 := e2' _ _ gr1
        have hlen : ((highsF h st i).map V.int).length ≤ 14 := by
          unfold highsF
          rw [List.length_map, List.length_map]
          exact Nat.le_trans (List.length_filter_le _ _) (by rw [List.length_range]; omega)
        refine ⟨r, _, _, rfl, rfl, gr2, Nat.lt_of_le_of_lt hlen (by decide), ?_⟩
        have hpr2 : pl ≠ r := ne_of_none hpls' nr
        refine ⟨_, _, rfl, (g1.trans e2').mut nr0, by rw [upd_ne hpr2]; exact e2' _ _ gl1, ?_⟩
        rw [upd_same, hsu, if_pos (show (!false) = true from rfl), List.map_append]
        rfl
    · rintro σ G ⟨v5, v6, rfl, g0, gl, gr⟩
      rw [hxl] at gr
      have hset := fun lo hi s a b c d => ends_settled (h := h) (st := st) (lo := lo) (hi := hi) (s := s) ho a b c d
      refine ⟨_, rfl, by show 0 ≤ sizeLine; decide, fun l1 n1 => ?_⟩
      have y1 : Ex G (upd G l1 (.lst [])) := Ex.new n1
      refine ⟨_, _, dpL (.of (y1 _ _ gl)), dpL (xs := []) (.of upd_same), shL _, shL _, _, rfl, ?_⟩
      rw [eqL0]
      have gl1 := y1 _ _ gl
      have gr1 := y1 _ _ gr
      have g1 := g0.trans y1
      generalize upd G l1 (.lst []) = G1 at *
      by_cases hE : st = []
      · have el : lowsF h st = [] := by rw [hE]; rfl
        rw [el]
        refine iteT ?_
        have hpos : 0 < (highsF h st h.n).length := by
          unfold highsF
          rw [hE, List.length_map]
          have e0 : (List.range h.n).filter (fun (k : Nat) => !decide ((k : Int) ∈ ([] : List Int))) = List.range h.n := List.filter_eq_self.mpr fun k _ => by simp
          rw [e0, List.length_range]
          exact hn1
        refine ⟨_, rfl, r, _, rfl, .of gr1, hpos, fun m hm hle => ⟨_, _, rfl, rfl, _, rfl, r, _, rfl, .of gr1, hpos, fun m2 hm2 hle2 => ⟨by show 2 ≤ sizeLine; decide, fun e ne => ?_⟩⟩⟩
        have : m = m2 := Int.le_antisymm (hle _ hm2) (hle2 _ hm)
        subst this
        exact q2 e _ _ _ (g1.trans (Ex.new ne)) upd_same (by omega) (fun s a b => hset _ _ s (by rw [el]; simp) hle a b)
      · have el : (lowsF h st).isEmpty = false := by
          cases hz : st with
          | nil => exact absurd hz hE
          | cons _ _ => rfl
        rw [el]
        refine iteF ?_
        have hposl : 0 < (lowsF h st).length := by
          unfold lowsF
          rw [List.length_map]
          exact List.length_pos_iff.mpr hE
        refine ⟨_, rfl, by show 0 ≤ sizeLine; decide, fun l2 n2 => ?_⟩
        have y2 : Ex G1 (upd G1 l2 (.lst [])) := Ex.new n2
        refine ⟨_, _, dpL (.of (y2 _ _ gr1)), dpL (xs := []) (.of upd_same), shL _, shL _, _, rfl, ?_⟩
        rw [eqL0]
        have gl2 := y2 _ _ gl1
        have gr2 := y2 _ _ gr1
        have g2 := g1.trans y2
        generalize upd G1 l2 (.lst []) = G2 at *
        cases hH : (highsF h st h.n).isEmpty with
        | true =>
          have eh : highsF h st h.n = [] := List.isEmpty_iff.mp hH
          refine iteT ⟨_, rfl, pl, _, rfl, .of gl2, hposl, fun m hm hle => ⟨_, rfl, pl, _, rfl, .of gl2, hposl, fun m2 hm2 hle2 => ⟨_, _, rfl, rfl, by show 2 ≤ sizeLine; decide, fun e ne => ?_⟩⟩⟩
          have : m = m2 := Int.le_antisymm (hle2 _ hm) (hle _ hm2)
          subst this
          exact q2 e _ _ _ (g2.trans (Ex.new ne)) upd_same (by omega) (fun s a b => hset _ _ s hle (by rw [eh]; simp) a b)
        | false =>
          have hposh : 0 < (highsF h st h.n).length := by
            cases hz : highsF h st h.n with
            | nil => rw [hz] at hH; cases hH
            | cons _ _ => simp
          refine iteF ⟨_, rfl, pl, _, rfl, .of gl2, hposl, fun m hm hle => ⟨_, rfl, r, _, rfl, .of gr2, hposh, fun m2 hm2 hle2 => ⟨_, _, rfl, rfl, _, rfl, ?_⟩⟩⟩
          by_cases hc : m2 < m
          · rw [decide_eq_true hc]
            exact iteT (q1 hE (ends_torn ho hm hm2 hc) _ g2)
          · rw [decide_eq_false hc]
            refine iteF ⟨_, rfl, pl, _, rfl, .of gl2, hposl, fun m3 hm3 hle3 => ⟨_, rfl, r, _, rfl, .of gr2, hposh, fun m4 hm4 hle4 => ⟨by show 2 ≤ sizeLine; decide, fun e ne => ?_⟩⟩⟩
            have e3 : m = m3 := Int.le_antisymm (hle3 _ hm) (hle _ hm3)
            have e4 : m2 = m4 := Int.le_antisymm (hle2 _ hm4) (hle4 _ hm2)
            subst e3 e4
            exact q2 e _ _ _ (g2.trans (Ex.new ne)) upd_same (by omega) (fun s a b => hset _ _ s hle hle2 a b)

theorem d__law_gone {P : Program} {w : World} {K : PySem.W.Frag} {mg : PySem.Str → Option Value} {base : Heap} {C : Addr} (T : Txt K mg C) : Dfn P w K mg base "_law_gone" 1 ["stand", "latch"] (sp__law_gone K C) := by
  obtain ⟨f, fd, F, hm⟩ := T.f__law_gone
  refine ⟨f, fd, hm, F.kp, F.binds (ps := ["stand", "latch"]) (fun _ _ _ _ _ _ us hl => match us, hl with | [_, _], _ => rfl), F.ok sc__law_gone (fun vs H Q E h => ?_) (fun cdv A outer s H vs Q E hr h => ?_)⟩
  · unfold sp__law_gone at h
    repeat (obtain ⟨_, h⟩ := h)
    subst_vars
    rfl
  · obtain ⟨t, st, l, n, rfl, hst, hn, ho, hl, q⟩ := h
    have hsl := ho.len
    refine ⟨_, (pss_cons (ps_if (pt_cmpR (kOpIn (K := K)) (pv 1) (pv 0) (by first | exact nomark _ | rfl)) (pss_one (ps_ret (pe_callTy (kTuple (K := K)) (by rfl) T.b_tuple (by decide +kernel) (pa_cons (pe_lc (own := [("one", 2)]) (g := (gName 2)) (tt := _)  rfl sc__law_gone.nd (pi_tup (pv 0)) (blkOk_by (own := [("one", 2)]) (N := ["stand", "latch", "one"]) (sc := defScope s__law_gone) (by decide +kernel)) (fun _ _ _ _ _ => (pg_name (i := 2) sc__law_gone.nd rfl (by first | exact Or.inl rfl | exact Or.inr rfl))) (fun _ _ _ _ _ => (pts_one (pt_cmpR op_ne (pv 2) (pv 1) (nomark _)))) (fun _ _ _ _ _ => (pv 2))) pa_nil)))) pss_nil)
      (pss_one (ps_ret (pe_callTy (kTuple (K := K)) (by rfl) T.b_tuple (by decide +kernel) (pa_cons (pe_callB (kSortTI (K := K)) (by rfl) T.b_sorted (by decide +kernel) (pa_cons (pe_op op_catA (pv 0) (pe_tup (pa_cons (pv 1) pa_nil))) pa_nil)) pa_nil))))), ?_⟩
    refine ⟨_, rfl, _, rfl, t, _, rfl, .inr hst, rfl, flat_ints st, _, rfl, ?_⟩
    show if inV (V.int (l : Int)) (st.map V.int) = true then _ else _
    rw [inV_int]
    cases hm : decide ((l : Int) ∈ st) with
    | true =>
      rw [hm] at q
      refine iteT ?_
      refine r_ret (r_cb (r_cons (lcT_ev (K := K) (as := st) (kp := fun x => !decide (x ∈ [l].map fun (l : Nat) => (l : Int))) (RA := fun _ x (z : Int) => x = .int z) (RB := fun z y _ => y = .int z) ?_ (by omega) (fun _ _ _ _ _ e => e) ?_ _ fun v G1 e1 hnew => ?_)))
      · exact fun Q k => ⟨_, rfl, k _ _ Ex.rfl ⟨t, _, rfl, hst, Al.of_map (R := fun x (z : Int) => x = .int z) (f := V.int) fun _ _ => rfl⟩⟩
      · rintro G1 f1 k x z hk rfl G2 f2
        refine ⟨_, gv_name, rfl, fun G3 f3 Q k => ?_, fun _ G3 f3 Q k => ⟨_, rfl, k _ _ Ex.rfl rfl⟩⟩
        refine ⟨_, rfl, _, rfl, rfl, _, rfl, ?_⟩
        have e4 : (!decide (V.int z = V.int (l : Int))) = !decide (z ∈ [l].map fun (l : Nat) => (l : Int)) := by
          by_cases w : z = (l : Int)
          · rw [w, decide_eq_true rfl, decide_eq_true (by simp)]
          · rw [decide_eq_false (fun y => w (V.int.inj y)), decide_eq_false (by simpa using w)]
        rw [e4]
        exact k _ Ex.rfl
      · obtain ⟨pl, rfl, hpl, hpls⟩ := hnew.vals (f := V.int)
        rw [filter_down ho [l]] at hpls
        exact ⟨pl, _, rfl, .inl ⟨.of hpls, fun t' nt' => q t' _ (e1.trans (Ex.new nt')) upd_same⟩⟩
    | false =>
      rw [hm] at q
      refine iteF ?_
      have hnot : ¬ (l : Int) ∈ st := of_decide_eq_false hm
      have fin : ∀ (a' : Addr) (G : Hp), Ex H G → SqT K G a' ((st ++ [l].map fun (l : Nat) => (l : Int)).map V.int) → rSortTI K [.ref a'] G fun v G' => rTupleOf K [v] G' Q := fun a' G e hs => by
        refine ⟨a', _, rfl, hs, fun ms p hpm hpw np => ?_⟩
        rw [sort_up ho hpm hpw (by simp) (fun k hk => by rw [List.mem_singleton.mp hk]; exact ⟨hl, hnot⟩)]
        exact ⟨p, _, rfl, .inl ⟨.of upd_same, fun t' nt' => q t' _ ((e.trans (Ex.new np)).trans (Ex.new nt')) upd_same⟩⟩
      refine ⟨_, rfl, _, rfl, by show 1 ≤ sizeLine; decide, fun p1 n1 => ?_⟩
      have x1 : Ex H (upd H p1 (.tup [V.int (l : Int)])) := Ex.new n1
      have s1 : SqT K (upd H p1 (.tup [V.int (l : Int)])) p1 [V.int (l : Int)] := .of upd_same
      refine ⟨t, p1, _, _, rfl, rfl, hst.ki x1.ki, s1, ?_, fun e => ?_, fun _ e => absurd e (by simp), fun _ _ p2 np2 => ?_⟩
      · refine Nat.le_trans (show _ ≤ 15 from ?_) (by decide)
        rw [List.length_map, List.length_singleton]
        omega
      · have : st = [] := List.map_eq_nil_iff.mp e
        subst this
        exact fin p1 _ x1 s1
      · refine fin p2 _ (x1.trans (Ex.new np2)) (.of ?_)
        rw [upd_same, List.map_append]
        rfl

theorem d__law_may {P : Program} {w : World} {K : PySem.W.Frag} {mg : PySem.Str → Option Value} {base : Heap} {C : Addr} (T : Txt K mg C) : Dfn P w K mg base "_law_may" 2 ["plan", "stand", "swell", "rising"] (sp__law_may K C) := by
  have D__law_pull := d__law_pull (P := P) (w := w) (base := base) T
  obtain ⟨f, fd, F, hm⟩ := T.f__law_may
  refine ⟨f, fd, hm, F.kp, F.binds (ps := ["plan", "stand", "swell", "rising"]) (fun _ _ _ _ _ _ us hl => match us, hl with | [_, _, _, _], _ => rfl), F.ok sc__law_may (fun vs H Q E h => ?_) (fun cdv A outer s H vs Q E hr h => ?_)⟩
  · unfold sp__law_may at h
    repeat (obtain ⟨_, h⟩ := h)
    subst_vars
    rfl
  · obtain ⟨p, t, h, st, s, up, rfl, hP, hst, ho, q⟩ := h
    have hn14 := hP.ok.n14
    obtain ⟨tp, dd, xs, hel, h1, h2, h3, h4, h5, h6⟩ := hP.plan
    refine ⟨_, (pss_cons (ps_set (i := 4) sc__law_may.nd rfl (by first | exact Or.inl rfl | exact Or.inr rfl) (pe_lst pa_nil))
      (pss_cons (ps_for PassesOwn.never rfl (pi_enumT (by rfl) T.b_enumerate (pa_cons (pe_ix (kIxT (K := K)) (pv 0) pe_int (fun _ _ => rfl)) pa_nil)) (pg_tup rfl (pgs_cons (pg_name (i := 5) sc__law_may.nd rfl (by first | exact Or.inl rfl | exact Or.inr rfl)) (pgs_cons (pg_name (i := 6) sc__law_may.nd rfl (by first | exact Or.inl rfl | exact Or.inr rfl)) pgs_nil))) (pss_cons (ps_set (i := 7) sc__law_may.nd rfl (by first | exact Or.inl rfl | exact Or.inr rfl) (pe_def D__law_pull (hr.mono (by first | decide | omega)) (by rfl) (pa_cons (pv 0) (pa_cons (pv 1) (pa_cons (pv 2) (pa_cons (pv 5) pa_nil))))))
      (Evl.pss_cut (ps_set (i := 8) sc__law_may.nd rfl (by first | exact Or.inl rfl | exact Or.inr rfl) (pe_ifExp (pt_val (pv 3)) (pe_cmpR op_ge (pv 7) (pe_ix (kIxT (K := K)) (pv 6) pe_int (fun _ _ => rfl)) (nomark _)) (pe_cmpR op_le (pv 7) (pe_ix (kIxT (K := K)) (pv 6) pe_int (fun _ _ => rfl)) (nomark _))))
      (pss_one (ps_if (PW.pt (pw_and (pt_val (pv 8)) (pw_and1 (pt_cmpR op_ne (pe_cmpR (kOpIn (K := K)) (pv 5) (pv 1) (by first | exact nomark _ | rfl)) (pv 3) (nomark _))))) (pss_one (ps_expr (kBm (K := K) PySem.F.plainAttrs_list PySem.F.slot_list_append PySem.F.type_list_append mt_append (pv 4) (pa_cons (pv 5) pa_nil)))) pss_nil)))))
      (pss_one (ps_ret (pv 4))))), ?_⟩
    refine ⟨by show 0 ≤ sizeLine; decide, fun r nr => ?_⟩
    have x0 : Ex H (upd H r (.lst [])) := Ex.new nr
    have sr : (upd H r (.lst [])) r = some (.lst []) := upd_same
    generalize upd H r (.lst []) = H1 at *
    have hxl : xs.length = h.n := h3.1
    refine ⟨_, rfl, p, _, _, _, rfl, rfl, h1.ki x0.ki, atI_nat (j := 0) rfl, tp, xs, rfl, h2.ki x0.ki, for_enumT (K := K) (a := tp) (xs := xs) (fun i σ H' => ∃ (v5 v6 v7 v8 : Option V), σ = [some (.ref p), some (.ref t), some (.int s), some (.bl up), some (.ref r), v5, v6, v7, v8] ∧ Ex H H' ∧ H' r = some (.lst (nints (wantN h st s up i)))) ⟨none, none, none, none, rfl, x0, sr⟩ (fun i σ H' _ ⟨_, _, _, _, _, e, _⟩ => h2.ki e.ki) ?_ ?_⟩
    · rintro i x T σ G hi ⟨v5, v6, v7, v8, rfl, g0, gr⟩ nT
      obtain ⟨pr, hpr, tx, rfl, htx⟩ := h3.get hi
      have hil : i < h.n := by have := (List.getElem?_eq_some_iff.mp hi).1; omega
      have elat := lat_get hil
      rw [hpr] at elat
      cases elat
      have x1 : Ex G (upd G T (.tup [V.int (i : Int), V.ref tx])) := Ex.new nT
      have sT : SqT K (upd G T (.tup [V.int ((i : Nat) : Int), V.ref tx])) T [V.int (i : Int), V.ref tx] := .of upd_same
      have gr1 := x1 _ _ gr
      generalize upd G T (.tup [V.int (i : Int), V.ref tx]) = G1 at *
      have g1 := g0.trans x1
      refine ⟨T, _, rfl, sT, rfl, _, _, rfl, _, _, rfl, rfl, ?_⟩
      refine ⟨_, rfl, _, rfl, _, rfl, _, rfl, p, t, h, st, s, i, rfl, hP.ex g1, hst.ki g1.ki, ho, fun G2 e2 => ?_⟩
      have g2 := g1.trans e2
      have htx2 := htx.ki g2.ki
      have gr2 := e2 _ _ gr1
      have wl : (nints (wantN h st s up i)).length ≤ 14 := by
        unfold nints wantN
        rw [List.length_map]
        exact Nat.le_trans (List.length_filter_le _ _) (by rw [List.length_range]; omega)
      refine ⟨fun σ H' => σ = [some (.ref p), some (.ref t), some (.int s), some (.bl up), some (.ref r), some (.int (i : Int)), some (.ref tx), some (.int (s + h.lent st i)), some (.bl (h.goes st s i up))] ∧ H' = G2, ?_, ?_⟩
      · refine ⟨_, rfl, _, rfl, ?_⟩
        cases up with
        | true => exact iteT ⟨_, rfl, _, rfl, tx, _, _, _, rfl, rfl, htx2, atI_nat (j := 0) rfl, _, _, rfl, rfl, rfl, rfl⟩
        | false => exact iteF ⟨_, rfl, _, rfl, tx, _, _, _, rfl, rfl, htx2, atI_nat (j := 1) rfl, _, _, rfl, rfl, rfl, rfl⟩
      · rintro σ H' ⟨rfl, rfl⟩
        have hsu := wantN_succ h st s up i
        refine ⟨_, rfl, _, rfl, ?_⟩
        cases hg : h.goes st s i up with
        | false =>
          rw [hg, Bool.false_and] at hsu
          refine iteF (iteF ⟨_, _, _, _, rfl, g2, ?_⟩)
          rw [hsu]
          simpa using gr2
        | true =>
          rw [hg, Bool.true_and] at hsu
          refine iteT ⟨_, rfl, _, rfl, t, _, rfl, .inr (hst.ki g2.ki), rfl, flat_ints st, _, rfl, rfl, _, rfl, ?_⟩
          show if (!decide (V.bl (inV (V.int (i : Int)) (st.map V.int)) = V.bl up)) = true then _ else _
          rw [inV_int]
          have e : (!decide (V.bl (decide ((i : Int) ∈ st)) = V.bl up)) = (decide ((i : Int) ∈ st) != up) := by
            cases decide ((i : Int) ∈ st) <;> cases up <;> rfl
          rw [e]
          cases hm : (decide ((i : Int) ∈ st) != up) with
          | false =>
            rw [hm] at hsu
            refine iteF ⟨_, _, _, _, rfl, g2, ?_⟩
            rw [hsu]
            simpa using gr2
          | true =>
            rw [hm] at hsu
            refine iteT ⟨_, rfl, .inl ⟨rfl, _, .of gr2⟩, _, rfl, r, _, _, rfl, rfl, gr2, Nat.lt_of_le_of_lt wl (by decide), _, _, _, _, rfl, g2.mut nr, ?_⟩
            rw [hsu, if_pos rfl, nints_one]
            exact upd_same
    · rintro σ G ⟨v5, v6, v7, v8, rfl, g0, gr⟩
      rw [hxl, wantN_all] at gr
      exact ⟨_, rfl, q r G nr g0 gr⟩

theorem d__law_pick {P : Program} {w : World} {K : PySem.W.Frag} {mg : PySem.Str → Option Value} {base : Heap} {C : Addr} (T : Txt K mg C) : Dfn P w K mg base "_law_pick" 1 ["jar", "many"] (sp__law_pick K C) := by
  obtain ⟨f, fd, F, hm⟩ := T.f__law_pick
  refine ⟨f, fd, hm, F.kp, F.binds (ps := ["jar", "many"]) (fun _ _ _ _ _ _ us hl => match us, hl with | [_, _], _ => rfl), F.ok sc__law_pick (fun vs H Q E h => ?_) (fun cdv A outer s H vs Q E hr h => ?_)⟩
  · unfold sp__law_pick at h
    repeat (obtain ⟨_, h⟩ := h)
    subst_vars
    rfl
  · obtain ⟨a, n, m, rfl, ⟨x, y, z, hj, hx, hy, hyb, hz, hzn⟩, hm, hmb, hn, q⟩ := h
    refine ⟨_, (pss_cons (ps_if (pt_cmpR op_gt (pe_ix (kIxL (K := K)) (pv 0) pe_int (fun _ _ => rfl)) pe_int (nomark _)) (pss_cons (ps_set (i := 2) sc__law_pick.nd rfl (by first | exact Or.inl rfl | exact Or.inr rfl) (pe_op op_modN (pe_ix (kIxL (K := K)) (pv 0) pe_int (fun _ _ => rfl)) (pv 1)))
      (pss_cons (ps_asg (pe_op op_fdivN (pe_ix (kIxL (K := K)) (pv 0) pe_int (fun _ _ => rfl)) (pv 1)) (pg_sub (pv 0) pe_int set_list))
      (pss_one (ps_ret (pv 2))))) pss_nil)
      (pss_cons (ps_asg (pe_op op_add (pe_ix (kIxL (K := K)) (pv 0) pe_int (fun _ _ => rfl)) pe_int) (pg_sub (pv 0) pe_int set_list))
      (pss_cons (ps_set (i := 3) sc__law_pick.nd rfl (by first | exact Or.inl rfl | exact Or.inr rfl) (pe_op op_modN (pe_op op_powW (pe_op op_add (pe_ix (kIxL (K := K)) (pv 0) pe_int (fun _ _ => rfl)) (pe_op op_mul pe_int (pe_ix (kIxL (K := K)) (pv 0) pe_int (fun _ _ => rfl)))) pe_int) (pe_op op_add (pe_op op_powW pe_int pe_int) pe_int)))
      (pss_cons (ps_set (i := 3) sc__law_pick.nd rfl (by first | exact Or.inl rfl | exact Or.inr rfl) (pe_op op_modN (pe_op op_powW (pe_op op_add (pv 3) (pe_op op_mul pe_int (pe_ix (kIxL (K := K)) (pv 0) pe_int (fun _ _ => rfl)))) pe_int) (pe_op op_add (pe_op op_powW pe_int pe_int) pe_int)))
      (pss_one (ps_ret (pe_op op_modN (pe_op op_fdivN (pv 3) pe_int) (pv 1)))))))), ?_⟩
    refine ⟨_, rfl, a, _, _, _, rfl, rfl, .of hj, at0 _ _ _, _, _, rfl, rfl, _, rfl, ?_⟩
    have b37 : (0 : Int) < (10 : Int) ^ (37 : Int).toNat + 43 ∧ (10 : Int) ^ (37 : Int).toNat + 43 < 2 ^ 200 := by decide +kernel
    have b35 : (0 : Int) < (10 : Int) ^ (35 : Int).toNat + 69 ∧ (10 : Int) ^ (35 : Int).toNat + 69 < 2 ^ 200 := by decide +kernel
    by_cases h0 : 0 < x
    · rw [decide_eq_true h0]
      have hf := fmod_r (x := x) (m := m) (by omega)
      refine iteT ⟨_, rfl, a, _, _, _, rfl, rfl, .of hj, at0 _ _ _, _, rfl, _, _, rfl, rfl, (by omega), ?_⟩
      refine ⟨_, rfl, a, _, _, _, rfl, rfl, .of hj, at0 _ _ _, _, rfl, _, _, rfl, rfl, ⟨by omega, by omega⟩, ?_⟩
      refine ⟨_, rfl, a, _, _, 0, rfl, rfl, hj, rfl, ?_⟩
      refine ⟨_, rfl, ?_⟩
      refine q _ _ hf.1 hf.2 ExB.upd ⟨x.fdiv m, y, z, upd_same, ?_, hy, hyb, hz, by omega⟩
      rw [Int.fdiv_eq_ediv_of_nonneg x (by omega)]
      exact Int.ediv_nonneg hx (by omega)
    · rw [decide_eq_false h0]
      refine iteF ⟨_, rfl, a, _, _, _, rfl, rfl, .of hj, at2 _ _ _, _, _, rfl, rfl, ?_⟩
      refine ⟨_, rfl, a, _, _, 2, rfl, rfl, hj, rfl, ?_⟩
      have hj2 : (upd H a (.lst [V.int x, V.int y, V.int (z + 1)])) a = some (.lst [V.int x, V.int y, V.int (z + 1)]) := upd_same
      refine ⟨_, rfl, a, _, _, _, rfl, rfl, .of hj2, at1 _ _ _, _, rfl, a, _, _, _, rfl, rfl, .of hj2, at2 _ _ _, _, _, rfl, rfl, .inl ⟨by decide, by decide⟩, _, _, rfl, rfl, _, _, rfl, rfl, powc _ _ (by decide) (by decide) (by omega), _, _, rfl, rfl, powc _ _ (by decide) (by decide) (by decide), _, _, rfl, rfl, _, _, rfl, rfl, (show (10 : Int) ^ (37 : Int).toNat + 43 ≠ 0 by omega), ?_⟩
      dsimp only
      have hf := fmod_r (x := (y + 69621 * (z + 1)) ^ (3 : Int).toNat) (m := (10 : Int) ^ (37 : Int).toNat + 43) b37.1
      generalize ((y + 69621 * (z + 1)) ^ (3 : Int).toNat).fmod ((10 : Int) ^ (37 : Int).toNat + 43) = mx at hf ⊢
      refine ⟨_, rfl, _, rfl, a, _, _, _, rfl, rfl, .of hj2, at2 _ _ _, _, _, rfl, rfl, .inl ⟨by decide, by decide⟩, _, _, rfl, rfl, _, _, rfl, rfl, powc _ _ (by decide) (by decide) (by omega), _, _, rfl, rfl, powc _ _ (by decide) (by decide) (by decide), _, _, rfl, rfl, _, _, rfl, rfl, (show (10 : Int) ^ (35 : Int).toNat + 69 ≠ 0 by omega), ?_⟩
      dsimp only
      generalize ((mx + 40507 * (z + 1)) ^ (3 : Int).toNat).fmod ((10 : Int) ^ (35 : Int).toNat + 69) = my
      refine ⟨_, rfl, _, _, rfl, rfl, ⟨by decide, by decide⟩, _, rfl, _, _, rfl, rfl, (by omega), ?_⟩
      have hg := fmod_r (x := my.fdiv 65537) (m := m) (by omega)
      exact q _ _ hg.1 hg.2 ExB.upd ⟨x, y, z + 1, hj2, hx, hy, hyb, by omega, by omega⟩

theorem d__law_on {P : Program} {w : World} {K : PySem.W.Frag} {mg : PySem.Str → Option Value} {base : Heap} {C : Addr} (T : Txt K mg C) : Dfn P w K mg base "_law_on" 3 ["jar", "plan", "stand", "swell", "far"] (sp__law_on K C) := by
  have D__law_gone := d__law_gone (P := P) (w := w) (base := base) T
  have D__law_may := d__law_may (P := P) (w := w) (base := base) T
  have D__law_pick := d__law_pick (P := P) (w := w) (base := base) T
  obtain ⟨f, fd, F, hm⟩ := T.f__law_on
  refine ⟨f, fd, hm, F.kp, F.binds (ps := ["jar", "plan", "stand", "swell", "far"]) (fun _ _ _ _ _ _ us hl => match us, hl with | [_, _, _, _, _], _ => rfl), F.ok sc__law_on (fun vs H Q E h => ?_) (fun cdv A outer s H vs Q E hr h => ?_)⟩
  · unfold sp__law_on at h
    repeat (obtain ⟨_, h⟩ := h)
    subst_vars
    rfl
  · obtain ⟨j, p, t, n, h, st, s, f, rfl, hj, hn, hP, hst, ho, q⟩ := h
    have hn14 := hP.ok.n14
    have hpos := hP.pos
    generalize hup : decide (s ≤ f) = up at q
    refine ⟨_, (pss_cons (ps_set (i := 5) sc__law_on.nd rfl (by first | exact Or.inl rfl | exact Or.inr rfl) (pe_def D__law_may (hr.mono (by first | decide | omega)) (by rfl) (pa_cons (pv 1) (pa_cons (pv 2) (pa_cons (pv 4) (pa_cons (pe_cmpR op_ge (pv 4) (pv 3) (nomark _)) pa_nil))))))
      (pss_cons (ps_while PassesOwn.never (pt_cmpR (kNeD (K := K) (units64 hr)) (pv 5) (pe_lst pa_nil) (nomark _)) (pss_cons (ps_set (i := 2) sc__law_on.nd rfl (by first | exact Or.inl rfl | exact Or.inr rfl) (pe_def D__law_gone (hr.mono (by first | decide | omega)) (by rfl) (pa_cons (pv 2) (pa_cons (pe_ix (kIxL (K := K)) (pv 5) (pe_def D__law_pick (hr.mono (by first | decide | omega)) (by rfl) (pa_cons (pv 0) (pa_cons (pe_callB (kLen (K := K)) (by rfl) T.b_len (by decide +kernel) (pa_cons (pv 5) pa_nil)) pa_nil))) (fun _ _ => rfl)) pa_nil))))
      (pss_one (ps_set (i := 5) sc__law_on.nd rfl (by first | exact Or.inl rfl | exact Or.inr rfl) (pe_def D__law_may (hr.mono (by first | decide | omega)) (by rfl) (pa_cons (pv 1) (pa_cons (pv 2) (pa_cons (pv 4) (pa_cons (pe_cmpR op_ge (pv 4) (pv 3) (nomark _)) pa_nil)))))))))
      (pss_one (ps_ret (pv 2))))), ?_⟩
    refine ⟨_, rfl, _, rfl, _, rfl, _, rfl, _, rfl, _, _, rfl, rfl, p, t, h, st, f, up, congrArg (fun z => [V.ref p, V.ref t, V.int f, V.bl z]) hup, hP, .of hst, ho, fun b H1 nb e1 hb => ?_⟩
    refine while_by (fun σ H' => ∃ (c : List Int) (t' b : Addr) (m : Nat), σ = [some (.ref j), some (.ref p), some (.ref t'), some (.int s), some (.int f), some (.ref b)] ∧ ExB j H H' ∧ JarAt H' j (n + (m : Int)) ∧ H' t' = some (.tup (c.map V.int)) ∧ StOk h.n c ∧ H' b = some (.lst (nints (h.want c f up))) ∧ b ≠ j ∧ (∀ T, Clo h f up c T → Clo h f up st T) ∧ m + (h.mov c up).length ≤ h.n) (fun σ H' => movAt h up σ H') ?_ ?_ ?_
    · exact ⟨st, t, b, 0, rfl, e1.exB, (hj.ex e1).le (by simp), e1 _ _ hst, ho, hb, hj.free nb, fun T hT => hT, by rw [Nat.zero_add]; exact mov_len h st up⟩
    · rintro σ G ⟨c, t', b, m, rfl, g0, gj, gst, go, gb, gbj, gcl, glen⟩
      refine ⟨_, rfl, by show 0 ≤ sizeLine; decide, fun l nl => ?_⟩
      have x1 : Ex G (upd G l (.lst [])) := Ex.new nl
      have sl : (upd G l (.lst [])) l = some (.lst []) := upd_same
      generalize upd G l (.lst []) = G1 at *
      have gb1 := x1 _ _ gb
      rw [nints_ints] at gb1
      refine ⟨_, _, dpL (.of gb1), dpL (xs := []) (.of sl), shL _, shL _, _, rfl, ?_⟩
      rw [eqL0]
      cases hw : (h.want c f up).isEmpty with
      | true =>
        have hw' : h.want c f up = [] := List.isEmpty_iff.mp hw
        rw [hw']
        refine iteF ⟨_, rfl, ?_⟩
        exact q t' c _ (g0.trans x1.exB) ((gj.ex x1).le (by omega)) (x1 _ _ gst) (gcl _ (Clo.self go hw'))
      | false =>
        have hne : h.want c f up ≠ [] := fun z => by rw [z] at hw; cases hw
        have hwl := want_len h c f up
        have hpos1 : 1 ≤ (h.want c f up).length := by
          cases hz : h.want c f up with
          | nil => exact absurd hz hne
          | cons _ _ => simp
        have hemp : ((h.want c f up).map fun (l : Nat) => (l : Int)).isEmpty = false := by
          cases hz : h.want c f up with
          | nil => exact absurd hz hne
          | cons _ _ => rfl
        rw [hemp]
        refine iteT ?_
        rw [← nints_ints] at gb1
        have hnl : (nints (h.want c f up)).length = (h.want c f up).length := by unfold nints; rw [List.length_map]
        refine ⟨_, rfl, _, rfl, _, rfl, _, rfl, b, _, rfl, .inl (.of gb1), j, _, _, rfl, gj.ex x1, by rw [hnl]; omega, by rw [hnl]; omega, by omega, fun d G2 d0 d1 e3 j2 => ?_⟩
        rw [hnl] at d1
        obtain ⟨k, rfl⟩ : ∃ k : Nat, d = (k : Int) := ⟨d.toNat, by omega⟩
        have hk : k < (h.want c f up).length := by omega
        have hget : (nints (h.want c f up))[k]? = some (.int (((h.want c f up)[k] : Nat) : Int)) := by
          unfold nints
          rw [List.getElem?_map, List.getElem?_eq_getElem hk]
          rfl
        have hmem : (h.want c f up)[k] ∈ h.want c f up := List.getElem_mem hk
        generalize hlt : (h.want c f up)[k] = lt at *
        have k13 := (gj.ex x1).ki e3
        have gst2 : SqT K G2 t' (c.map V.int) := (SqT.of gst).ki (x1.ki.trans k13)
        have eB := (g0.trans x1.exB).trans e3
        refine ⟨b, _, _, _, rfl, rfl, .of (e3 _ _ gbj gb1), atI_nat hget, t', c, lt, h.n, rfl, gst2, hn14, go, want_lt hmem, fun t2 G4 f4 ht2 => ?_⟩
        have hdir : (!decide ((lt : Int) ∈ c)) = up := by rw [(mem_want.mp hmem).2.1, Bool.not_not]
        rw [hdir] at ht2
        have hP4 := (hP.jar hj eB).ex f4
        refine ⟨_, rfl, _, rfl, _, rfl, _, rfl, _, rfl, _, _, rfl, rfl, p, t2, h, _, f, up, congrArg (fun z => [V.ref p, V.ref t2, V.int f, V.bl z]) hup, hP4, .of ht2, stepS_ok _ _ _ _, fun b2 G5 nb2 e5 hb2 => ?_⟩
        have hin : ∀ l ∈ [lt], l ∈ h.want c f up := fun l hl => by rw [List.mem_singleton.mp hl]; exact hmem
        have hms := mov_step (h := h) (s := f) (up := up) (st := c) (ls := [lt]) (by simp) hin
        have j5 := (j2.ex f4).ex e5
        refine ⟨⟨stepS h.n c [lt] up, t2, b2, m + 1, rfl, eB.trans (f4.trans e5).exB, j5.le (by omega), e5 _ _ ht2, stepS_ok _ _ _ _, hb2, (j2.ex f4).free nb2, fun T hT => gcl T (hT.step hpos go hin), by omega⟩, ?_⟩
        show movAt h up [some (.ref j), some (.ref p), some (.ref t2), some (.int s), some (.int f), some (.ref b2)] G5 < movAt h up [some (.ref j), some (.ref p), some (.ref t'), some (.int s), some (.int f), some (.ref b)] G
        have m1 : movAt h up [some (.ref j), some (.ref p), some (.ref t2), some (.int s), some (.int f), some (.ref b2)] G5 = (h.mov (stepS h.n c [lt] up) up).length := by
          show (match G5 t2 with | some (.tup xs) => (h.mov (intsOf xs) up).length | _ => 0) = _
          rw [e5 _ _ ht2]
          show (h.mov (intsOf _) up).length = _
          rw [intsOf_map]
        have m2 : movAt h up [some (.ref j), some (.ref p), some (.ref t'), some (.int s), some (.int f), some (.ref b)] G = (h.mov c up).length := by
          show (match G t' with | some (.tup xs) => (h.mov (intsOf xs) up).length | _ => 0) = _
          rw [gst]
          show (h.mov (intsOf _) up).length = _
          rw [intsOf_map]
        rw [m1, m2]
        omega
    · rintro σ G Q Q' im ⟨v, e, hz, k⟩
      exact ⟨v, e, hz, fun l nl => let ⟨d1, d2, a1, a2, a3, a4, z, a5, a6⟩ := k l nl; ⟨d1, d2, a1, a2, a3, a4, z, a5, im _ _ a6⟩⟩

theorem d__law_swell {P : Program} {w : World} {K : PySem.W.Frag} {mg : PySem.Str → Option Value} {base : Heap} {C : Addr} (T : Txt K mg C) : Dfn P w K mg base "_law_swell" 2 ["jar", "plan"] (sp__law_swell K C) := by
  have D__law_pick := d__law_pick (P := P) (w := w) (base := base) T
  obtain ⟨f, fd, F, hm⟩ := T.f__law_swell
  refine ⟨f, fd, hm, F.kp, F.binds (ps := ["jar", "plan"]) (fun _ _ _ _ _ _ us hl => match us, hl with | [_, _], _ => rfl), F.ok sc__law_swell (fun vs H Q E h => ?_) (fun cdv A outer s H vs Q E hr h => ?_)⟩
  · unfold sp__law_swell at h
    repeat (obtain ⟨_, h⟩ := h)
    subst_vars
    rfl
  · obtain ⟨j, p, n, h, rfl, hj, hn, hP, q⟩ := h
    have hn14 := hP.ok.n14
    have hn1 := hP.ok.n1
    obtain ⟨tp, dd, xs, hel, h1, h2, h3, h4, h5, h6⟩ := hP.plan
    have hxl : xs.length = h.n := h3.1
    refine ⟨_, (pss_cons (ps_set (i := 2) sc__law_swell.nd rfl (by first | exact Or.inl rfl | exact Or.inr rfl) (pe_ix (kIxT (K := K)) (pe_ix (kIxT (K := K)) (pv 1) pe_int (fun _ _ => rfl)) (pe_def D__law_pick (hr.mono (by first | decide | omega)) (by rfl) (pa_cons (pv 0) (pa_cons (pe_callB (kLen (K := K)) (by rfl) T.b_len (by decide +kernel) (pa_cons (pe_ix (kIxT (K := K)) (pv 1) pe_int (fun _ _ => rfl)) pa_nil)) pa_nil))) (fun _ _ => rfl)))
      (pss_cons (ps_set (i := 3) sc__law_swell.nd rfl (by first | exact Or.inl rfl | exact Or.inr rfl) (pe_def D__law_pick (hr.mono (by first | decide | omega)) (by rfl) (pa_cons (pv 0) (pa_cons pe_int pa_nil))))
      (pss_cons (ps_if (pt_cmpR op_eq (pv 3) pe_int (nomark _)) (pss_one (ps_ret (pe_ix (kIxL (K := K)) (pe_lst (pa_cons (pe_op op_powW pe_int pe_int) (pa_cons (pe_op op_sub pe_int (pe_op op_powW pe_int pe_int)) (pa_cons pe_int (pa_cons (pe_un un_neg pe_int) pa_nil))))) (pe_def D__law_pick (hr.mono (by first | decide | omega)) (by rfl) (pa_cons (pv 0) (pa_cons pe_int pa_nil))) (fun _ _ => rfl)))) pss_nil)
      (pss_one (ps_ret (pe_op op_sub (pe_op op_add (pe_op op_sub (pe_ix (kIxT (K := K)) (pv 2) (pe_op op_modN (pv 3) pe_int) (fun _ _ => rfl)) (pe_ix (kIxL (K := K)) (pe_lst (pa_cons pe_int (pa_cons (pe_def D__law_pick (hr.mono (by first | decide | omega)) (by rfl) (pa_cons (pv 0) (pa_cons pe_int pa_nil))) pa_nil))) (pe_def D__law_pick (hr.mono (by first | decide | omega)) (by rfl) (pa_cons (pv 0) (pa_cons pe_int pa_nil))) (fun _ _ => rfl))) (pe_def D__law_pick (hr.mono (by first | decide | omega)) (by rfl) (pa_cons (pv 0) (pa_cons pe_int pa_nil)))) pe_int)))))), ?_⟩
    refine ⟨_, rfl, p, _, _, _, rfl, rfl, h1, atI_nat (j := 0) rfl, _, rfl, _, rfl, p, _, _, _, rfl, rfl, h1, atI_nat (j := 0) rfl, tp, xs, rfl, .inr h2, j, n, _, rfl, hj, by omega, by omega, by omega, fun d1 H1 d10 d11 e1 j1 => ?_⟩
    have k1 := hj.ki e1
    obtain ⟨k, rfl⟩ : ∃ k : Nat, d1 = (k : Int) := ⟨d1.toNat, by omega⟩
    have hk : k < xs.length := by omega
    obtain ⟨pr, hpr, tx, etx, htx⟩ := h3.get (List.getElem?_eq_getElem hk)
    refine ⟨tp, xs, _, _, rfl, rfl, h2.ki k1, atI_nat (List.getElem?_eq_getElem hk), ?_⟩
    rw [etx]
    refine ⟨_, rfl, j, _, 9, rfl, j1, by decide, by decide, by omega, fun d2 H2 d20 d21 e2 j2 => ?_⟩
    have k2 := k1.trans (j1.ki e2)
    refine ⟨_, rfl, rfl, _, rfl, ?_⟩
    by_cases h8 : d2 = 8
    · rw [decide_eq_true (show V.int d2 = V.int 8 by rw [h8])]
      refine iteT ⟨_, _, rfl, rfl, powc _ _ (by decide) (by decide) (by decide), _, _, rfl, rfl, powc _ _ (by decide) (by decide) (by decide), _, _, rfl, rfl, _, rfl, by show 4 ≤ sizeLine; decide, fun l nl => ?_⟩
      have x3 : Ex H2 (upd H2 l (.lst [V.int ((10 : Int) ^ (20 : Int).toNat), V.int (0 - (10 : Int) ^ (20 : Int).toNat), V.int 300, V.int (-300)])) := Ex.new nl
      refine ⟨_, rfl, j, _, 4, rfl, j2.ex x3, by decide, by decide, by omega, fun d3 H3 d30 d31 e3 j3 => ?_⟩
      obtain ⟨w, _, hw⟩ := atJ [(10 : Int) ^ (20 : Int).toNat, 0 - (10 : Int) ^ (20 : Int).toNat, 300, -300] d30 d31
      refine ⟨l, _, d3, .int w, rfl, rfl, .of (e3 _ _ (j2.free nl) upd_same), hw, ?_⟩
      exact q w H3 (((e1.trans e2).trans x3.exB).trans e3) (j3.le (by omega))
    · rw [decide_eq_false (fun z => h8 (V.int.inj z))]
      refine iteF ?_
      refine ⟨_, rfl, _, rfl, _, _, rfl, rfl, (show (2 : Int) ≠ 0 by decide), ?_⟩
      have hf := fmod_r (x := d2) (m := 2) (by decide)
      obtain ⟨w1, _, hw1⟩ := atJ [pr.1, pr.2] hf.1 hf.2
      refine ⟨tx, _, _, .int w1, rfl, rfl, htx.ki k2, hw1, ?_⟩
      refine ⟨_, rfl, j, _, 20, rfl, j2, by decide, by decide, by omega, fun d3 H3 d30 d31 e3 j3 => ⟨by show 2 ≤ sizeLine; decide, fun l nl => ?_⟩⟩
      have x4 : Ex H3 (upd H3 l (.lst [V.int 0, V.int d3])) := Ex.new nl
      refine ⟨_, rfl, j, _, 2, rfl, j3.ex x4, by decide, by decide, by omega, fun d4 H4 d40 d41 e4 j4 => ?_⟩
      obtain ⟨w2, _, hw2⟩ := atJ [0, d3] d40 d41
      refine ⟨l, _, d4, .int w2, rfl, rfl, .of (e4 _ _ (j3.free nl) upd_same), hw2, _, _, rfl, rfl, ?_⟩
      refine ⟨_, rfl, j, _, 3, rfl, j4, by decide, by decide, by omega, fun d5 H5 d50 d51 e5 j5 => ⟨_, _, rfl, rfl, _, _, rfl, rfl, ?_⟩⟩
      exact q _ H5 (((((e1.trans e2).trans e3).trans x4.exB).trans e4).trans e5) (j5.le (by omega))

theorem d__law_begun {P : Program} {w : World} {K : PySem.W.Frag} {mg : PySem.Str → Option Value} {base : Heap} {C : Addr} (T : Txt K mg C) : Dfn P w K mg base "_law_begun" 4 ["jar", "plan"] (sp__law_begun K C) := by
  have D__law_ends := d__law_ends (P := P) (w := w) (base := base) T
  have D__law_on := d__law_on (P := P) (w := w) (base := base) T
  have D__law_pick := d__law_pick (P := P) (w := w) (base := base) T
  have D__law_swell := d__law_swell (P := P) (w := w) (base := base) T
  obtain ⟨f, fd, F, hm⟩ := T.f__law_begun
  refine ⟨f, fd, hm, F.kp, F.binds (ps := ["jar", "plan"]) (fun _ _ _ _ _ _ us hl => match us, hl with | [_, _], _ => rfl), F.ok sc__law_begun (fun vs H Q E h => ?_) (fun cdv A outer s H vs Q E hr h => ?_)⟩
  · unfold sp__law_begun at h
    repeat (obtain ⟨_, h⟩ := h)
    subst_vars
    rfl
  · obtain ⟨j, p, n, h, rfl, hj, hn, hP, q⟩ := h
    have hn14 := hP.ok.n14
    have hpos := hP.pos
    obtain ⟨tp, dd, xs, hel, h1, h2, h3, h4, h5, h6⟩ := hP.plan
    have hxl : xs.length = h.n := h3.1
    refine ⟨_, (pss_cons (ps_set (i := 2) sc__law_begun.nd rfl (by first | exact Or.inl rfl | exact Or.inr rfl) (pe_callTy (kTuple (K := K)) (by rfl) T.b_tuple (by decide +kernel) (pa_cons (pe_lc (own := [("k", 7)]) (g := (gName 7)) (tt := _)  rfl sc__law_begun.nd (pi_range1 (by rfl) T.b_range (pa_cons (pe_callB (kLen (K := K)) (by rfl) T.b_len (by decide +kernel) (pa_cons (pe_ix (kIxT (K := K)) (pv 1) pe_int (fun _ _ => rfl)) pa_nil)) pa_nil)) (blkOk_by (own := [("k", 7)]) (N := ["jar", "plan", "stand", "edges", "swell", "turn", "far", "k"]) (sc := defScope s__law_begun) (by decide +kernel)) (fun _ _ _ _ _ => (pg_name (i := 7) sc__law_begun.nd rfl (by first | exact Or.inl rfl | exact Or.inr rfl))) (fun _ _ _ _ _ => (pts_one (pt_cmpR op_eq (pe_def D__law_pick (hr.mono (by first | decide | omega)) (by rfl) (pa_cons (pv 0) (pa_cons pe_int pa_nil))) pe_int (nomark _)))) (fun _ _ _ _ _ => (pv 7))) pa_nil)))
      (pss_cons (ps_set (i := 3) sc__law_begun.nd rfl (by first | exact Or.inl rfl | exact Or.inr rfl) (pe_def D__law_ends (hr.mono (by first | decide | omega)) (by rfl) (pa_cons (pv 1) (pa_cons (pv 2) pa_nil))))
      (Evl.pss_cut (ps_if (pt_cmpR op_isN (pv 3) pe_non (nomark _)) (pss_cons (ps_set (i := 2) sc__law_begun.nd rfl (by first | exact Or.inl rfl | exact Or.inr rfl) (pe_tup pa_nil))
      (pss_one (ps_set (i := 3) sc__law_begun.nd rfl (by first | exact Or.inl rfl | exact Or.inr rfl) (pe_def D__law_ends (hr.mono (by first | decide | omega)) (by rfl) (pa_cons (pv 1) (pa_cons (pv 2) pa_nil)))))) pss_nil)
      (pss_cons (ps_set (i := 4) sc__law_begun.nd rfl (by first | exact Or.inl rfl | exact Or.inr rfl) (pe_op op_add (pe_ix (kIxT (K := K)) (pv 3) pe_int (fun _ _ => rfl)) (pe_def D__law_pick (hr.mono (by first | decide | omega)) (by rfl) (pa_cons (pv 0) (pa_cons (pe_callB kMin2 (by rfl) T.b_min (by decide +kernel) (pa_cons pe_int (pa_cons (pe_op op_add (pe_op op_sub (pe_ix (kIxT (K := K)) (pv 3) pe_int (fun _ _ => rfl)) (pe_ix (kIxT (K := K)) (pv 3) pe_int (fun _ _ => rfl))) pe_int) pa_nil))) pa_nil)))))
      (pss_cons (ps_for PassesOwn.never rfl (pi_range1 (by rfl) T.b_range (pa_cons (pe_def D__law_pick (hr.mono (by first | decide | omega)) (by rfl) (pa_cons (pv 0) (pa_cons pe_int pa_nil))) pa_nil)) (pg_name (i := 5) sc__law_begun.nd rfl (by first | exact Or.inl rfl | exact Or.inr rfl)) (pss_cons (ps_set (i := 6) sc__law_begun.nd rfl (by first | exact Or.inl rfl | exact Or.inr rfl) (pe_def D__law_swell (hr.mono (by first | decide | omega)) (by rfl) (pa_cons (pv 0) (pa_cons (pv 1) pa_nil))))
      (pss_cons (ps_set (i := 2) sc__law_begun.nd rfl (by first | exact Or.inl rfl | exact Or.inr rfl) (pe_def D__law_on (hr.mono (by first | decide | omega)) (by rfl) (pa_cons (pv 0) (pa_cons (pv 1) (pa_cons (pv 2) (pa_cons (pv 4) (pa_cons (pv 6) pa_nil)))))))
      (pss_one (ps_set (i := 4) sc__law_begun.nd rfl (by first | exact Or.inl rfl | exact Or.inr rfl) (pv 6))))))
      (pss_one (ps_ret (pe_tup (pa_cons (pv 2) (pa_cons (pv 4) pa_nil)))))))))), ?_⟩
    refine ⟨_, rfl, p, _, _, _, rfl, rfl, h1, atI_nat (j := 0) rfl, tp, xs, rfl, .inr h2, _, rfl, by omega, by omega, fun D hD => ?_⟩
    rw [hxl, Int.toNat_natCast]
    have hDj := hj.free hD
    have xD : Ex H (upd H D (.lst [])) := Ex.new hD
    refine lc_range (lo := 0) (n := h.n) (fun i H' => ∃ st : List Int, H' D = some (.lst (st.map V.int)) ∧ st.Pairwise (· < ·) ∧ (∀ x ∈ st, 0 ≤ x ∧ x < (i : Int)) ∧ st.length ≤ i ∧ ExB j H H' ∧ JarAt H' j (n + (i : Int))) ⟨[], upd_same, by simp, by simp, by simp, xD.exB, (hj.ex xD).le (by omega)⟩ (fun i H' hi p => ?_) (fun H' p => ?_)
    · obtain ⟨st, g1, g2, g3, g4, g5, g6⟩ := p
      refine ⟨rfl, ?_⟩
      refine ⟨_, rfl, j, _, 2, rfl, g6, by decide, by decide, by omega, fun d3 H4 d30 d34 e4 j4 => ⟨rfl, _, rfl, ?_⟩⟩
      by_cases hd : V.int d3 = V.int 0
      · rw [decide_eq_true hd]
        refine iteT ⟨_, rfl, _, e4 _ _ hDj g1, ?_, st ++ [0 + (i : Int)], ?_, ?_, ?_, by simp; omega, (g5.trans e4).mut hD, (j4.upd hDj).le (by omega)⟩
        · rw [List.length_map]
          exact Nat.lt_of_le_of_lt (show st.length ≤ 14 by omega) (by decide)
        · rw [upd_same, List.map_append]; rfl
        · rw [List.pairwise_append]
          exact ⟨g2, by simp, fun x hx y hy => by rw [List.mem_singleton.mp hy]; have := (g3 x hx).2; omega⟩
        · intro x hx
          rcases List.mem_append.mp hx with hx | hx
          · have := g3 x hx; omega
          · rw [List.mem_singleton.mp hx]; omega
      · rw [decide_eq_false hd]
        exact iteF ⟨st, e4 _ _ hDj g1, g2, fun x hx => by have := g3 x hx; omega, by omega, g5.trans e4, j4.le (by omega)⟩
    · obtain ⟨st0, g1, g2, g3, g4, g5, g6⟩ := p
      refine ⟨D, _, rfl, .inl ⟨.of g1, fun t0 nt0 => ?_⟩⟩
      have y1 : Ex H' (upd H' t0 (.tup (st0.map V.int))) := Ex.new nt0
      have s0 : (upd H' t0 (.tup (st0.map V.int))) t0 = some (.tup (st0.map V.int)) := upd_same
      have o0 : StOk h.n st0 := ⟨g2, fun x hx => (g3 x hx).1, fun x hx => (g3 x hx).2⟩
      have b1 := g5.trans y1.exB
      have j1 := (g6.ex y1).le (show n + (h.n : Int) ≤ n + 14 by omega)
      generalize upd H' t0 (.tup (st0.map V.int)) = G at *
      have P1 := hP.jar hj b1
      refine ⟨_, rfl, _, rfl, p, t0, h, st0, rfl, P1, .of s0, o0, fun v G1 g1 hv => ?_⟩
      have b2 := b1.trans g1.exB
      have j2 := j1.ex g1
      have P2 := P1.ex g1
      refine ⟨fun σ H' => ∃ (t : Addr) (st : List Int) (e : Addr) (lo hi : Int), σ = [some (.ref j), some (.ref p), some (.ref t), some (.ref e), none, none, none, none] ∧ ExB j H H' ∧ JarAt H' j (n + 14) ∧ H' t = some (.tup (st.map V.int)) ∧ StOk h.n st ∧ H' e = some (.tup [.int lo, .int hi]) ∧ lo ≤ hi ∧ ∀ s, lo ≤ s → s ≤ hi → h.want st s true = [] ∧ h.want st s false = [], ?_, ?_⟩
      · refine ⟨_, rfl, rfl, _, rfl, ?_⟩
        rcases hv with ⟨rfl, hne, _⟩ | ⟨e, lo, hi, rfl, he, hle, hset⟩
        · rw [decide_eq_true rfl]
          refine iteT ⟨by show 0 ≤ sizeLine; decide, fun t1 nt1 => ?_⟩
          have y2 : Ex G1 (upd G1 t1 (.tup [])) := Ex.new nt1
          have s1 : (upd G1 t1 (.tup [])) t1 = some (.tup (([] : List Int).map V.int)) := upd_same
          have o1 : StOk h.n [] := ⟨by simp, by simp, by simp⟩
          generalize upd G1 t1 (.tup []) = G2 at *
          refine ⟨_, rfl, _, rfl, p, t1, h, [], rfl, P2.ex y2, .of s1, o1, fun v G3 g3 hv => ?_⟩
          rcases hv with ⟨_, hne2, _⟩ | ⟨e, lo, hi, rfl, he, hle, hset⟩
          · exact absurd rfl hne2
          · exact ⟨t1, [], e, lo, hi, rfl, b2.trans (y2.trans g3).exB, j2.ex (y2.trans g3), g3 _ _ s1, o1, he, hle, hset⟩
        · rw [decide_eq_false (fun z => by cases z)]
          exact iteF ⟨t0, st0, e, lo, hi, rfl, b2, j2, g1 _ _ s0, o0, he, hle, hset⟩
      · rintro σ G2 ⟨t, st, e, lo, hi, rfl, b3, j3, ht, o, he, hle, hset⟩
        have many : ∃ m : Int, (if hi - lo + 1 < 4 then hi - lo + 1 else 4) = m ∧ 1 ≤ m ∧ m ≤ 4 ∧ m ≤ hi - lo + 1 := ⟨_, rfl, by split <;> omega, by split <;> omega, by split <;> omega⟩
        obtain ⟨m, em, m1, m4, mh⟩ := many
        refine ⟨_, rfl, e, _, _, _, rfl, rfl, .of he, atI_nat (j := 0) rfl, _, rfl, _, rfl, e, _, _, _, rfl, rfl, .of he, atI_nat (j := 1) rfl, _, rfl, e, _, _, _, rfl, rfl, .of he, atI_nat (j := 0) rfl, _, _, rfl, rfl, _, _, rfl, rfl, _, _, rfl, j, _, m, congrArg (fun z => [V.ref j, V.int z]) em, j3, m1, by omega, by omega, fun d H4 d0 d1 e4 j4 => ⟨_, _, rfl, rfl, ?_⟩⟩
        have b4 := b3.trans e4
        have k4 := j3.ki e4
        have ht4 := k4 t (.tup (st.map V.int)) trivial ht
        have hs4 : SetAt h st (lo + d) := hset _ (by omega) (by omega)
        refine ⟨_, rfl, j, _, 5, rfl, j4, by decide, by decide, by omega, fun d5 H5 d50 d55 e5 j5 => ⟨_, rfl, by omega, by omega, ?_⟩⟩
        have ht5 := (j4.ki e5) t (.tup (st.map V.int)) trivial ht4
        refine for_range (lo := 0) (n := d5.toNat) (fun i σ H' => ∃ (t : Addr) (st : List Int) (s : Int) (v5 v6 : Option V), σ = [some (.ref j), some (.ref p), some (.ref t), some (.ref e), some (.int s), v5, v6, none] ∧ ExB j H H' ∧ JarAt H' j (n + 16 + 22 * (i : Int)) ∧ H' t = some (.tup (st.map V.int)) ∧ StOk h.n st ∧ SetAt h st s) ⟨t, st, lo + d, none, none, rfl, b4.trans e5, j5.le (by omega), ht5, o, hs4⟩ ?_ ?_
        · rintro i σ G3 hi ⟨t, st, s, v5, v6, rfl, bI, jI, htI, oI, sI⟩
          refine ⟨_, rfl, _, rfl, j, p, _, h, rfl, jI, by omega, hP.jar hj bI, fun f G4 e4 j4 => ?_⟩
          have ht4 := (jI.ki e4) t (.tup (st.map V.int)) trivial htI
          refine ⟨_, rfl, _, rfl, _, rfl, _, rfl, _, rfl, j, p, t, _, h, st, s, f, rfl, j4, by omega, hP.jar hj (bI.trans e4), ht4, oI, fun t' T G5 e5 j5 ht5 cT => ?_⟩
          exact ⟨_, rfl, t', T, f, _, _, rfl, (bI.trans e4).trans e5, j5.le (by omega), ht5, cT.ok, leg_settled hpos sI cT⟩
        · rintro σ G3 ⟨t, st, s, v5, v6, rfl, bI, jI, htI, oI, sI⟩
          refine ⟨_, rfl, _, rfl, by show 2 ≤ sizeLine; decide, fun r nr => ?_⟩
          have y9 := Ex.new (o := .tup [V.ref t, V.int s]) nr
          exact q r t st s _ (bI.trans y9.exB) ((jI.ex y9).le (by omega)) upd_same (y9 _ _ htI) oI sI

theorem d_is_whole {P : Program} {w : World} {K : PySem.W.Frag} {mg : PySem.Str → Option Value} {base : Heap} {C : Addr} (T : Txt K mg C) : Dfn P w K mg base "is_whole" 1 ["thing"] (sp_is_whole K C) := by
  obtain ⟨f, fd, F, hm⟩ := T.f_is_whole
  refine ⟨f, fd, hm, F.kp, F.binds (ps := ["thing"]) (fun _ _ _ _ _ _ us hl => match us, hl with | [_], _ => rfl), F.ok sc_is_whole (fun vs H Q E h => ?_) (fun cdv A outer s H vs Q E hr h => ?_)⟩
  · unfold sp_is_whole at h
    repeat (obtain ⟨_, h⟩ := h)
    subst_vars
    rfl
  · obtain ⟨x, n, rfl, hs, q⟩ := h
    refine ⟨_, (pss_one (ps_ret (pe_and (pe_callB (kIsi (K := K)) (by rfl) T.b_isinstance (by decide +kernel) (pa_cons (pv 0) (pa_cons (pe_bltn (v := .ty "int") (u := .type "int") (by rfl) T.b_int (by decide +kernel) rfl) pa_nil))) (pe_one (pe_not (pe_callB (kIsi (K := K)) (by rfl) T.b_isinstance (by decide +kernel) (pa_cons (pv 0) (pa_cons (pe_bltn (v := .ty "bool") (u := .type "bool") (by rfl) T.b_bool (by decide +kernel) rfl) pa_nil)))))))), ?_⟩
    obtain ⟨b, e, eb⟩ := kit_int hs.kind
    refine ⟨_, rfl, _, _, _, _, _, rfl, .ty _, hs.ty, kit_ty e, b, rfl, ?_⟩
    rw [hs.whole] at q
    cases b with
    | true =>
      refine iteT ⟨_, rfl, _, _, _, _, _, rfl, .ty _, hs.ty, kit_ty (kit_bool hs.kind), _, rfl, ?_⟩
      have ez : (!decide (n = "bool")) = decide (n = "int") := by
        by_cases hn : n = "int"
        · subst hn; decide
        · rw [decide_eq_false hn, Bool.false_or] at eb
          rw [← eb, decide_eq_false hn]; rfl
      rw [ez]
      exact q
    | false =>
      refine iteF ?_
      have ez : decide (n = "int") = false := by
        cases e1 : decide (n = "int") with
        | false => rfl
        | true => rw [e1] at eb; cases eb
      rw [ez] at q
      exact q

theorem d_is_lending {P : Program} {w : World} {K : PySem.W.Frag} {mg : PySem.Str → Option Value} {base : Heap} {C : Addr} (T : Txt K mg C) : Dfn P w K mg base "is_lending" 2 ["thing", "many_latches"] (sp_is_lending K C) := by
  have D_is_whole := d_is_whole (P := P) (w := w) (base := base) T
  obtain ⟨t_MOST_HELP, g_MOST_HELP⟩ := T.g_MOST_HELP
  obtain ⟨f, fd, F, hm⟩ := T.f_is_lending
  refine ⟨f, fd, hm, F.kp, F.binds (ps := ["thing", "many_latches"]) (fun _ _ _ _ _ _ us hl => match us, hl with | [_, _], _ => rfl), F.ok sc_is_lending (fun vs H Q E h => ?_) (fun cdv A outer s H vs Q E hr h => ?_)⟩
  · unfold sp_is_lending at h
    repeat (obtain ⟨_, h⟩ := h)
    subst_vars
    rfl
  · obtain ⟨v, p, n, rfl, ⟨t, rfl, hx⟩, q⟩ := h
    refine ⟨_, (pss_cons (ps_if (PW.pt (pw_or (pt_not (pt_val (pe_callB (kIsi (K := K)) (by rfl) T.b_isinstance (by decide +kernel) (pa_cons (pv 0) (pa_cons (pe_bltn (v := .ty "tuple") (u := .type "tuple") (by rfl) T.b_tuple (by decide +kernel) rfl) pa_nil))))) (pw_or (pt_cmpR op_ne (pe_callB (kLen (K := K)) (by rfl) T.b_len (by decide +kernel) (pa_cons (pv 0) pa_nil)) pe_int (nomark _)) (pw_or1 (pt_not (pt_val (pe_callB (kAll (K := K)) (by rfl) T.b_all (by decide +kernel) (pa_cons (pe_lc (own := [("part", 5)]) (g := (gName 5)) (tt := tYes)  rfl sc_is_lending.nd (pi_tup (pv 0)) (blkOk_by (own := [("part", 5)]) (N := ["thing", "many_latches", "one", "other", "many", "part"]) (sc := defScope s_is_lending) (by decide +kernel)) (fun _ _ _ _ _ => (pg_name (i := 5) sc_is_lending.nd rfl (by first | exact Or.inl rfl | exact Or.inr rfl))) (fun _ _ _ _ _ => pts_nil) (fun _ _ _ _ _ => (pe_def D_is_whole (hr.mono (by first | decide | omega)) (by rfl) (pa_cons (pv 5) pa_nil)))) pa_nil)))))))) (pss_one (ps_ret pe_bl)) pss_nil)
      (pss_cons (ps_asg (pv 0) (pg_tup rfl (pgs_cons (pg_name (i := 2) sc_is_lending.nd rfl (by first | exact Or.inl rfl | exact Or.inr rfl)) (pgs_cons (pg_name (i := 3) sc_is_lending.nd rfl (by first | exact Or.inl rfl | exact Or.inr rfl)) (pgs_cons (pg_name (i := 4) sc_is_lending.nd rfl (by first | exact Or.inl rfl | exact Or.inr rfl)) pgs_nil)))))
      (pss_cons (ps_if (PW.pt (pw_or (pt_not (pt_chain op_le op_lt pe_int (pv 2) (pv 1))) (pw_or1 (pt_not (pt_chain op_le op_lt pe_int (pv 3) (pv 1)))))) (pss_one (ps_ret pe_bl)) pss_nil)
      (pss_one (ps_ret (pe_and (pe_cmpR op_ne (pv 2) (pv 3) (nomark _)) (pe_one (pe_chain op_le op_le pe_int (pv 4) (pe_glob (v := .int 9) (by rfl) g_MOST_HELP ⟨_, rfl⟩))))))))), ?_⟩
    refine ⟨_, rfl, _, _, _, _, _, rfl, .ty _, (Sml.tup (K := K) hx).ty, kit_ty (kit_tuple (Sml.tup (K := K) hx).kind), _, rfl, iteF ⟨_, rfl, t, _, rfl, .inr hx, rfl, _, rfl, iteF ?_⟩⟩
    refine r_not (r_tB (r_cb (r_cons (lcT_ev (K := K) (as := [p.1, p.2.1, p.2.2]) (kp := fun _ => true) (RA := fun _ x (i : Int) => x = .int i) (RB := fun _ y _ => y = .bl true) ?_ (show 3 < 100000 by decide) (fun _ _ _ _ _ e => e) ?_ _ fun v H1 e1 hn => ?_))))
    · exact fun Q k => ⟨_, rfl, k _ _ Ex.rfl ⟨t, _, rfl, hx, .cons rfl (.cons rfl (.cons rfl .nil))⟩⟩
    · rintro H1 e1 i x l hi rfl H2 e2
      exact ⟨_, gv_name, rfl, fun H3 e3 => tv_yes, fun _ H3 e3 Q k => ⟨_, rfl, _, _, rfl, .int _, k _ _ Ex.rfl rfl⟩⟩
    obtain ⟨pl, rfl, hp, hps⟩ := hn.vals (f := fun _ => V.bl true)
    refine ⟨pl, [true, true, true], rfl, .of hps, _, rfl, iteF ?_⟩
    have hx1 := hx.ki e1.ki
    refine ⟨_, rfl, t, _, rfl, hx1, rfl, _, _, rfl, _, _, rfl, _, _, rfl, rfl, ?_⟩
    have q1 := q H1 e1
    unfold helpB at q1
    generalize p.1 = one at q1 ⊢
    generalize p.2.1 = two at q1 ⊢
    generalize p.2.2 = many at q1 ⊢
    refine ⟨_, rfl, _, _, rfl, rfl, _, rfl, ?_⟩
    cases e0 : decide (0 ≤ one) with
    | false =>
      rw [e0] at q1
      exact iteF ⟨_, rfl, iteT q1⟩
    | true =>
      rw [e0] at q1
      refine iteT ⟨_, rfl, _, _, rfl, rfl, _, rfl, ?_⟩
      cases e1 : decide (one < n) with
      | false =>
        rw [e1] at q1
        exact iteT q1
      | true =>
        rw [e1] at q1
        refine iteF ⟨_, rfl, _, _, rfl, rfl, _, rfl, ?_⟩
        cases e2 : decide (0 ≤ two) with
        | false =>
          rw [e2] at q1
          exact iteF ⟨_, rfl, iteT q1⟩
        | true =>
          rw [e2] at q1
          refine iteT ⟨_, rfl, _, _, rfl, rfl, _, rfl, ?_⟩
          cases e3 : decide (two < n) with
          | false =>
            rw [e3] at q1
            exact iteT q1
          | true =>
            rw [e3] at q1
            refine iteF ⟨_, rfl, _, rfl, rfl, _, rfl, ?_⟩
            have e4 : decide (V.int one = V.int two) = decide (one = two) := by
              by_cases z : one = two
              · subst z; rw [decide_eq_true rfl, decide_eq_true rfl]
              · rw [decide_eq_false z, decide_eq_false (fun y => z (V.int.inj y))]
            rw [e4]
            cases e5 : decide (one = two) with
            | true =>
              rw [e5] at q1
              exact iteF q1
            | false =>
              rw [e5] at q1
              refine iteT ⟨_, rfl, _, _, rfl, rfl, _, rfl, ?_⟩
              cases e6 : decide (1 ≤ many) with
              | false =>
                rw [e6] at q1
                exact iteF q1
              | true =>
                rw [e6] at q1
                exact iteT ⟨_, _, rfl, rfl, q1⟩

theorem d_check_helps {P : Program} {w : World} {K : PySem.W.Frag} {mg : PySem.Str → Option Value} {base : Heap} {C : Addr} (T : Txt K mg C) : Dfn P w K mg base "check_helps" 3 ["helps", "many_latches"] (sp_check_helps K C) := by
  have D_is_lending := d_is_lending (P := P) (w := w) (base := base) T
  obtain ⟨f, fd, F, hm⟩ := T.f_check_helps
  refine ⟨f, fd, hm, F.kp, F.binds (ps := ["helps", "many_latches"]) (fun _ _ _ _ _ _ us hl => match us, hl with | [_, _], _ => rfl), F.ok sc_check_helps (fun vs H Q E h => ?_) (fun cdv A outer s H vs Q E hr h => ?_)⟩
  · unfold sp_check_helps at h
    repeat (obtain ⟨_, h⟩ := h)
    subst_vars
    rfl
  · obtain ⟨t, xs, hel, n, rfl, hx, hal, hlen, hok, hnd, q⟩ := h
    refine ⟨_, (pss_cons (ps_if (pt_not (pt_val (pe_callB (kIsi (K := K)) (by rfl) T.b_isinstance (by decide +kernel) (pa_cons (pv 0) (pa_cons (pe_bltn (v := .ty "tuple") (u := .type "tuple") (by rfl) T.b_tuple (by decide +kernel) rfl) pa_nil))))) (pss_one ps_never) pss_nil)
      (pss_cons (ps_set (i := 2) sc_check_helps.nd rfl (by first | exact Or.inl rfl | exact Or.inr rfl) (pe_lst pa_nil))
      (pss_one (ps_for PassesOwn.never rfl (pi_enumT (by rfl) T.b_enumerate (pa_cons (pv 0) pa_nil)) (pg_tup rfl (pgs_cons (pg_name (i := 3) sc_check_helps.nd rfl (by first | exact Or.inl rfl | exact Or.inr rfl)) (pgs_cons (pg_name (i := 4) sc_check_helps.nd rfl (by first | exact Or.inl rfl | exact Or.inr rfl)) pgs_nil))) (pss_cons (ps_if (PW.pt (pw_or (pt_not (pt_val (pe_def D_is_lending (hr.mono (by first | decide | omega)) (by rfl) (pa_cons (pv 4) (pa_cons (pv 1) pa_nil))))) (pw_or1 (pt_cmpR (kInD (K := K) (units65 hr)) (pe_slice (kSlT (K := K)) (pv 4) po_none (po_some pe_int)) (pv 2) (by first | exact nomark _ | rfl))))) (pss_one ps_never) pss_nil)
      (pss_one (ps_expr (kBm (K := K) PySem.F.plainAttrs_list PySem.F.slot_list_append PySem.F.type_list_append mt_append (pv 2) (pa_cons (pe_slice (kSlT (K := K)) (pv 4) po_none (po_some pe_int)) pa_nil))))))))), ?_⟩
    refine ⟨_, rfl, _, _, _, _, _, rfl, .ty _, (Sml.tup (K := K) hx).ty, kit_ty (kit_tuple (Sml.tup (K := K) hx).kind), _, rfl, iteF ?_⟩
    refine ⟨by show 0 ≤ sizeLine; decide, fun l hl => ?_⟩
    refine ⟨_, rfl, t, xs, rfl, hx.ki (Ex.new hl).ki, for_enumT (K := K) (a := t) (xs := xs) (fun i σ H' => ∃ (v w : Option V) (ys : List V), σ = [some (.ref t), some (.int n), some (.ref l), v, w] ∧ Ex H H' ∧ H' l = some (.lst ys) ∧ Al (PairV K H') ys ((hel.take i).map fst2)) ⟨none, none, [], rfl, Ex.new hl, upd_same, by simpa using Al.nil⟩ (fun i σ H' _ ⟨_, _, _, _, e, _⟩ => hx.ki e.ki) ?_ ?_⟩
    · rintro i x T' σ H' hi ⟨v, w, ys, rfl, e1, hys, hya⟩ hT
      obtain ⟨p, hpi, tp, rfl, hs⟩ := hal.get hi
      have hp := hok p (List.mem_of_getElem? hpi)
      have hile : i < hel.length := (List.getElem?_eq_some_iff.mp hpi).1
      refine ⟨T', _, rfl, .of upd_same, rfl, _, _, rfl, _, _, rfl, rfl, ?_⟩
      have eT : Ex H' (upd H' T' (.tup [.int (i : Nat), .ref tp])) := Ex.new hT
      have e2 := e1.trans eT
      refine ⟨_, rfl, _, rfl, _, p, n, rfl, ⟨tp, rfl, hs.ki e2.ki⟩, fun H2 e3 => ⟨_, rfl, ?_⟩⟩
      rw [hp]
      have e4 := e2.trans e3
      have ht2 := hs.ki e4.ki
      refine iteF ⟨_, rfl, _, rfl, tp, _, rfl, ht2, ncut2 _ _ _, fun P hP => ⟨_, rfl, ?_⟩⟩
      have eP : Ex H2 (upd H2 P (.tup (cutV [V.int p.1, V.int p.2.1, V.int p.2.2] none (some 2)))) := Ex.new hP
      have e5 : Ex H' (upd H2 P (.tup (cutV [V.int p.1, V.int p.2.1, V.int p.2.2] none (some 2)))) := (eT.trans e3).trans eP
      have hy2 := hya.imp fun y b z => z.ki e5.ki
      refine ⟨pd (fst2 p), ((hel.take i).map fst2).map pd, Dp.pair ⟨P, rfl, .of upd_same⟩, .lst (.of (e5 _ _ hys)) (DpAll.pairs hy2), pd_shaped _, pds_shaped _, _, rfl, ?_⟩
      rw [pds_any]
      have hnin : fst2 p ∉ (hel.take i).map fst2 := by
        rw [List.map_take]
        exact take_nd hnd (by rw [List.getElem?_map, hpi]; rfl)
      rw [decide_eq_false hnin]
      refine iteF ⟨_, rfl, .inl ⟨rfl, _, .of (e5 _ _ hys)⟩, _, rfl, _, rfl, tp, _, rfl, ht2.ki eP.ki, ncut2 _ _ _, fun P2 hP2 => ?_⟩
      have eP2 := Ex.new (o := .tup (cutV [V.int p.1, V.int p.2.1, V.int p.2.2] none (some 2))) hP2
      have e6 := e5.trans eP2
      have hys2 := e6 _ _ hys
      have hyl : ys.length < 1000 := by
        rw [hya.1, List.length_map, List.length_take]
        omega
      refine ⟨l, ys, _, rfl, rfl, hys2, Nat.lt_trans hyl (by decide), _, _, ys ++ [.ref P2], rfl, Ex.mut (e1.trans e6) hl, upd_same, ?_⟩
      have kd := Ki.lst (o := .lst (ys ++ [.ref P2])) Ki.rfl hys2
      rw [take_snoc hpi, List.map_append]
      refine (hya.imp fun y b z => z.ki (e6.ki.trans kd)).snoc ⟨P2, rfl, ?_⟩
      exact (SqT.of (K := K) (H := upd (upd H2 P (.tup (cutV [V.int p.1, V.int p.2.1, V.int p.2.2] none (some 2)))) P2 (.tup (cutV [V.int p.1, V.int p.2.1, V.int p.2.2] none (some 2)))) (a := P2) upd_same).ki kd
    · rintro σ H' ⟨v, w, ys, rfl, e1, _, _⟩
      exact q H' e1

theorem d_is_pair {P : Program} {w : World} {K : PySem.W.Frag} {mg : PySem.Str → Option Value} {base : Heap} {C : Addr} (T : Txt K mg C) : Dfn P w K mg base "is_pair" 2 ["thing"] (sp_is_pair K C) := by
  have D_is_whole := d_is_whole (P := P) (w := w) (base := base) T
  obtain ⟨f, fd, F, hm⟩ := T.f_is_pair
  refine ⟨f, fd, hm, F.kp, F.binds (ps := ["thing"]) (fun _ _ _ _ _ _ us hl => match us, hl with | [_], _ => rfl), F.ok sc_is_pair (fun vs H Q E h => ?_) (fun cdv A outer s H vs Q E hr h => ?_)⟩
  · unfold sp_is_pair at h
    repeat (obtain ⟨_, h⟩ := h)
    subst_vars
    rfl
  · obtain ⟨v, p, rfl, ⟨t, rfl, hx⟩, q⟩ := h
    refine ⟨_, (pss_cons (ps_if (PW.pt (pw_or (pt_not (pt_val (pe_callB (kIsi (K := K)) (by rfl) T.b_isinstance (by decide +kernel) (pa_cons (pv 0) (pa_cons (pe_bltn (v := .ty "tuple") (u := .type "tuple") (by rfl) T.b_tuple (by decide +kernel) rfl) pa_nil))))) (pw_or1 (pt_cmpR op_ne (pe_callB (kLen (K := K)) (by rfl) T.b_len (by decide +kernel) (pa_cons (pv 0) pa_nil)) pe_int (nomark _))))) (pss_one (ps_ret pe_bl)) pss_nil)
      (pss_cons (ps_asg (pv 0) (pg_tup rfl (pgs_cons (pg_name (i := 1) sc_is_pair.nd rfl (by first | exact Or.inl rfl | exact Or.inr rfl)) (pgs_cons (pg_name (i := 2) sc_is_pair.nd rfl (by first | exact Or.inl rfl | exact Or.inr rfl)) pgs_nil))))
      (pss_one (ps_ret (pe_and (pe_def D_is_whole (hr.mono (by first | decide | omega)) (by rfl) (pa_cons (pv 1) pa_nil)) (pe_and (pe_def D_is_whole (hr.mono (by first | decide | omega)) (by rfl) (pa_cons (pv 2) pa_nil)) (pe_one (pe_cmpR op_lt (pv 2) (pv 1) (nomark _))))))))), ?_⟩
    refine ⟨_, rfl, _, _, _, _, _, rfl, .ty _, (Sml.tup (K := K) hx).ty, kit_ty (kit_tuple (Sml.tup (K := K) hx).kind), _, rfl, iteF ⟨_, rfl, t, _, rfl, .inr hx, rfl, _, rfl, iteF ?_⟩⟩
    refine ⟨_, rfl, t, _, rfl, hx, rfl, _, _, rfl, _, _, rfl, rfl, ?_⟩
    refine ⟨_, rfl, _, _, rfl, .int _, _, rfl, iteT ⟨_, rfl, _, _, rfl, .int _, _, rfl, iteT ⟨_, rfl, _, rfl, _, _, rfl, rfl, q⟩⟩⟩

theorem d_check_latches {P : Program} {w : World} {K : PySem.W.Frag} {mg : PySem.Str → Option Value} {base : Heap} {C : Addr} (T : Txt K mg C) : Dfn P w K mg base "check_latches" 3 ["latches"] (sp_check_latches K C) := by
  have D_is_pair := d_is_pair (P := P) (w := w) (base := base) T
  obtain ⟨t_MOST_LATCHES, g_MOST_LATCHES⟩ := T.g_MOST_LATCHES
  obtain ⟨f, fd, F, hm⟩ := T.f_check_latches
  refine ⟨f, fd, hm, F.kp, F.binds (ps := ["latches"]) (fun _ _ _ _ _ _ us hl => match us, hl with | [_], _ => rfl), F.ok sc_check_latches (fun vs H Q E h => ?_) (fun cdv A outer s H vs Q E hr h => ?_)⟩
  · unfold sp_check_latches at h
    repeat (obtain ⟨_, h⟩ := h)
    subst_vars
    rfl
  · obtain ⟨t, xs, lat, rfl, hx, hal, h1, h14, hp, q⟩ := h
    refine ⟨_, (pss_cons (ps_if (PW.pt (pw_or (pt_not (pt_val (pe_callB (kIsi (K := K)) (by rfl) T.b_isinstance (by decide +kernel) (pa_cons (pv 0) (pa_cons (pe_bltn (v := .ty "tuple") (u := .type "tuple") (by rfl) T.b_tuple (by decide +kernel) rfl) pa_nil))))) (pw_or1 (pt_not (pt_chain op_le op_le pe_int (pe_callB (kLen (K := K)) (by rfl) T.b_len (by decide +kernel) (pa_cons (pv 0) pa_nil)) (pe_glob (v := .int 14) (by rfl) g_MOST_LATCHES ⟨_, rfl⟩)))))) (pss_one ps_never) pss_nil)
      (pss_one (ps_for PassesOwn.never rfl (pi_enumT (by rfl) T.b_enumerate (pa_cons (pv 0) pa_nil)) (pg_tup rfl (pgs_cons (pg_name (i := 1) sc_check_latches.nd rfl (by first | exact Or.inl rfl | exact Or.inr rfl)) (pgs_cons (pg_name (i := 2) sc_check_latches.nd rfl (by first | exact Or.inl rfl | exact Or.inr rfl)) pgs_nil))) (pss_one (ps_if (pt_not (pt_val (pe_def D_is_pair (hr.mono (by first | decide | omega)) (by rfl) (pa_cons (pv 2) pa_nil)))) (pss_one ps_never) pss_nil))))), ?_⟩
    refine ⟨_, rfl, _, _, _, _, _, rfl, .ty _, (Sml.tup (K := K) hx).ty, kit_ty (kit_tuple (Sml.tup (K := K) hx).kind), _, rfl, iteF ⟨_, rfl, t, _, rfl, .inr hx, _, _, rfl, rfl, _, rfl, ?_⟩⟩
    rw [decide_eq_true (show (1 : Int) ≤ (xs.length : Int) by rw [hal.1]; omega)]
    refine iteT ⟨_, _, rfl, rfl, _, rfl, ?_⟩
    rw [decide_eq_true (show (xs.length : Int) ≤ 14 by rw [hal.1]; omega)]
    refine iteF ?_
    refine ⟨_, rfl, t, xs, rfl, hx, for_enumT (K := K) (a := t) (xs := xs) (fun i σ H' => ∃ (v w : Option V), σ = [some (.ref t), v, w] ∧ Ex H H') ⟨none, none, rfl, Ex.rfl⟩ (fun i σ H' _ ⟨_, _, _, e⟩ => hx.ki e.ki) ?_ ?_⟩
    · rintro i x T' σ H' hi ⟨v, w, rfl, e1⟩ hT
      obtain ⟨p, hpi, tp, rfl, hs⟩ := hal.get hi
      refine ⟨T', _, rfl, .of upd_same, rfl, _, _, rfl, _, _, rfl, rfl, ?_⟩
      have e2 : Ex H (upd H' T' (.tup [.int (i : Nat), .ref tp])) := e1.trans (Ex.new hT)
      refine ⟨_, rfl, _, p, rfl, ⟨tp, rfl, hs.ki e2.ki⟩, _, rfl, ?_⟩
      rw [decide_eq_true (hp p (List.mem_of_getElem? hpi))]
      exact iteF ⟨_, _, rfl, e2⟩
    · rintro σ H' ⟨v, w, rfl, e1⟩
      exact q H' e1

theorem d_lenders_to {P : Program} {w : World} {K : PySem.W.Frag} {mg : PySem.Str → Option Value} {base : Heap} {C : Addr} (T : Txt K mg C) : Dfn P w K mg base "lenders_to" 1 ["latch", "helps"] (sp_lenders_to K C) := by
  obtain ⟨f, fd, F, hm⟩ := T.f_lenders_to
  refine ⟨f, fd, hm, F.kp, F.binds (ps := ["latch", "helps"]) (fun _ _ _ _ _ _ us hl => match us, hl with | [_, _], _ => rfl), F.ok sc_lenders_to (fun vs H Q E h => ?_) (fun cdv A outer s H vs Q E hr h => ?_)⟩
  · unfold sp_lenders_to at h
    repeat (obtain ⟨_, h⟩ := h)
    subst_vars
    rfl
  · obtain ⟨t, xs, hel, l, rfl, hx, hal, hlen, q⟩ := h
    refine ⟨_, (pss_one (ps_ret (pe_callTy (kTuple (K := K)) (by rfl) T.b_tuple (by decide +kernel) (pa_cons (pe_lc (own := [("one", 2), ("other", 3), ("many", 4)]) (g := (gTup K 3 (gCons (gName 2) (gCons (gName 3) (gCons (gName 4) gNil))))) (tt := _)  rfl sc_lenders_to.nd (pi_tup (pv 1)) (blkOk_by (own := [("one", 2), ("other", 3), ("many", 4)]) (N := ["latch", "helps", "one", "other", "many"]) (sc := defScope s_lenders_to) (by decide +kernel)) (fun _ _ _ _ _ => (pg_tup rfl (pgs_cons (pg_name (i := 2) sc_lenders_to.nd rfl (by first | exact Or.inl rfl | exact Or.inr rfl)) (pgs_cons (pg_name (i := 3) sc_lenders_to.nd rfl (by first | exact Or.inl rfl | exact Or.inr rfl)) (pgs_cons (pg_name (i := 4) sc_lenders_to.nd rfl (by first | exact Or.inl rfl | exact Or.inr rfl)) pgs_nil))))) (fun _ _ _ _ _ => (pts_one (pt_cmpR op_eq (pv 3) (pv 0) (nomark _)))) (fun _ _ _ _ _ => (pe_tup (pa_cons (pv 2) (pa_cons (pv 4) pa_nil))))) pa_nil)))), ?_⟩
    refine r_ret (r_cb (r_cons (lcT_ev (K := K) (as := hel) (kp := fun p => decide (p.2.1 = l)) (RA := fun H1 => TripV K H1) (RB := fun p y H1 => PairV K H1 y (p.1, p.2.2)) ?_ (by omega) (fun _ _ _ _ e z => z.ki e) ?_ _ fun v H1 e1 hn => ?_)))
    · exact fun Q k => ⟨_, rfl, k _ _ Ex.rfl ⟨t, xs, rfl, hx, hal⟩⟩
    · rintro H1 e1 i x p hi ⟨tx, rfl, hx⟩ H2 e2
      refine ⟨_, gv_tup3 (hx.ki e2.ki), rfl, fun H3 e3 Q k => ?_, fun _ H3 e3 Q k => ?_⟩
      · refine ⟨_, rfl, _, rfl, rfl, _, rfl, ?_⟩
        have e4 : decide (V.int p.2.1 = V.int l) = decide (p.2.1 = l) := by
          by_cases z : p.2.1 = l
          · rw [z, decide_eq_true rfl, decide_eq_true rfl]
          · rw [decide_eq_false z, decide_eq_false (fun y => z (V.int.inj y))]
        rw [e4]
        exact k _ Ex.rfl
      · exact ⟨_, rfl, _, rfl, by show 2 ≤ sizeLine; decide, fun P hP => k _ _ (Ex.new hP) ⟨P, rfl, .of upd_same⟩⟩
    · obtain ⟨p, ys, rfl, hp, hps, hy⟩ := hn
      refine ⟨p, ys, rfl, .inl ⟨.of hps, fun P hP => ?_⟩⟩
      have eP := Ex.new (o := .tup ys) hP
      refine q _ _ (e1.trans eP) ⟨P, ys, rfl, .of upd_same, ?_⟩
      refine ⟨by rw [hy.1]; unfold lendOf; rw [List.length_map], fun i y b h1 h2 => ?_⟩
      unfold lendOf at h2
      rw [List.getElem?_map] at h2
      cases e : (hel.filter fun p => decide (p.2.1 = l))[i]? with
      | none => rw [e] at h2; cases h2
      | some z =>
        rw [e] at h2
        cases h2
        exact (hy.2 i y z h1 e).ki eP.ki

theorem d_House___init__ {P : Program} {w : World} {K : PySem.W.Frag} {mg : PySem.Str → Option Value} {base : Heap} {C : Addr} (T : Txt K mg C) : Mkd P w K mg base "House" C 4 ["self", "latches", "helps"] [] (sp_House___init__ K C) := by
  have D_check_helps := d_check_helps (P := P) (w := w) (base := base) T
  have D_check_latches := d_check_latches (P := P) (w := w) (base := base) T
  have D_lenders_to := d_lenders_to (P := P) (w := w) (base := base) T
  obtain ⟨f, fd, dT, F, hm⟩ := T.f_House___init__
  obtain ⟨ds, hv, hb⟩ := F.binds1 (ps := ["self", "latches", "helps"]) 3 1 (by simp) (by simp) (fun _ _ _ _ _ _ _ us its hu hi => match us, hu, its, hi with | [_, _, _], _, [_], _ => ⟨_, rfl, rfl⟩)
  refine ⟨f, fd, ds, T.mgC, hm, hb, hv, FunD.ok (CX := CX0) F sc_House___init__ (fun vs H Q E h => ?_) (fun cdv A outer s H vs Q E hr h => ?_)⟩
  · obtain ⟨_, _, _, _, _, _, _, _, rfl, _⟩ := h
    rfl
  · obtain ⟨self, dx, tl, th, xs, lat, ys, hel, rfl, hself, hx, hxa, hy, hya, hlat, hhel, q⟩ := h
    have hn := hlat.n14
    have hfew := hhel.few
    refine ⟨_, PSs.nox (pss_cons (ps_expr (pe_def D_check_latches (hr.mono (by first | decide | omega)) (by rfl) (pa_cons (pv 1) pa_nil)))
      (pss_cons (ps_expr (pe_def D_check_helps (hr.mono (by first | decide | omega)) (by rfl) (pa_cons (pv 2) (pa_cons (pe_callB (kLen (K := K)) (by rfl) T.b_len (by decide +kernel) (pa_cons (pv 1) pa_nil)) pa_nil))))
      (pss_cons (ps_fld (pv 0) (pe_callTy (kTuple (K := K)) (by rfl) T.b_tuple (by decide +kernel) (pa_cons (pe_lc (own := [("up", 3), ("down", 4)]) (g := (gTup K 2 (gCons (gName 3) (gCons (gName 4) gNil)))) (tt := tYes)  rfl sc_House___init__.nd (pi_tup (pv 1)) (blkOk_by (own := [("up", 3), ("down", 4)]) (N := ["self", "latches", "helps", "up", "down", "latch", "one", "other", "many"]) (sc := defScope s_House___init__) (by decide +kernel)) (fun _ _ _ _ _ => (pg_tup rfl (pgs_cons (pg_name (i := 3) sc_House___init__.nd rfl (by first | exact Or.inl rfl | exact Or.inr rfl)) (pgs_cons (pg_name (i := 4) sc_House___init__.nd rfl (by first | exact Or.inl rfl | exact Or.inr rfl)) pgs_nil)))) (fun _ _ _ _ _ => pts_nil) (fun _ _ _ _ _ => (pe_tup (pa_cons (pv 3) (pa_cons (pv 4) pa_nil))))) pa_nil)) rfl)
      (pss_cons (ps_fld (pv 0) (pe_callTy (kTuple (K := K)) (by rfl) T.b_tuple (by decide +kernel) (pa_cons (pe_callB (kSorted3 (K := K)) (by rfl) T.b_sorted (by decide +kernel) (pa_cons (pe_lc (own := [("one", 6), ("other", 7), ("many", 8)]) (g := (gTup K 3 (gCons (gName 6) (gCons (gName 7) (gCons (gName 8) gNil))))) (tt := tYes)  rfl sc_House___init__.nd (pi_tup (pv 2)) (blkOk_by (own := [("one", 6), ("other", 7), ("many", 8)]) (N := ["self", "latches", "helps", "up", "down", "latch", "one", "other", "many"]) (sc := defScope s_House___init__) (by decide +kernel)) (fun _ _ _ _ _ => (pg_tup rfl (pgs_cons (pg_name (i := 6) sc_House___init__.nd rfl (by first | exact Or.inl rfl | exact Or.inr rfl)) (pgs_cons (pg_name (i := 7) sc_House___init__.nd rfl (by first | exact Or.inl rfl | exact Or.inr rfl)) (pgs_cons (pg_name (i := 8) sc_House___init__.nd rfl (by first | exact Or.inl rfl | exact Or.inr rfl)) pgs_nil))))) (fun _ _ _ _ _ => pts_nil) (fun _ _ _ _ _ => (pe_tup (pa_cons (pv 6) (pa_cons (pv 7) (pa_cons (pv 8) pa_nil)))))) pa_nil)) pa_nil)) rfl)
      (pss_one (ps_fld (pv 0) (pe_callTy (kTuple (K := K)) (by rfl) T.b_tuple (by decide +kernel) (pa_cons (pe_lc (own := [("latch", 5)]) (g := (gName 5)) (tt := tYes)  rfl sc_House___init__.nd (pi_range1 (by rfl) T.b_range (pa_cons (pe_callB (kLen (K := K)) (by rfl) T.b_len (by decide +kernel) (pa_cons (pv 1) pa_nil)) pa_nil)) (blkOk_by (own := [("latch", 5)]) (N := ["self", "latches", "helps", "up", "down", "latch", "one", "other", "many"]) (sc := defScope s_House___init__) (by decide +kernel)) (fun _ _ _ _ _ => (pg_name (i := 5) sc_House___init__.nd rfl (by first | exact Or.inl rfl | exact Or.inr rfl))) (fun _ _ _ _ _ => pts_nil) (fun _ _ _ _ _ => (pe_def D_lenders_to (hr.mono (by first | decide | omega)) (by rfl) (pa_cons (pv 5) (pa_cons (kFld (K := K) (pv 0) rfl) pa_nil))))) pa_nil)) rfl)))))), ?_⟩
    refine ⟨_, rfl, tl, xs, lat, rfl, hx, hxa, hlat.n1, hlat.n14, hlat.lt, fun H1 e1 => ?_⟩
    refine ⟨_, rfl, _, rfl, tl, xs, rfl, .inr (hx.ki e1.ki), th, ys, hel, _, rfl, hy.ki e1.ki, hya.imp fun _ _ z => z.ki e1.ki, hhel.few, (by rw [hxa.1]; exact hhel.ok), hhel.nd, fun H2 e2 => ?_⟩
    have e12 := e1.trans e2
    -- self._latches
    try dsimp only
    refine r_seq (r_fld (r_cb (r_cons (lcT_ev (K := K) (as := lat) (kp := fun _ => true) (RA := fun H1 => PairV K H1) (RB := fun p y H1 => PairV K H1 y p) ?_ (by omega) (fun _ _ _ _ e z => z.ki e) ?_ _ fun v H3 e3 hnew => ?_))))
    · exact fun Q k => ⟨_, rfl, k _ _ Ex.rfl ⟨tl, xs, rfl, hx.ki e12.ki, hxa.imp fun _ _ z => z.ki e12.ki⟩⟩
    · rintro H3 e3 i x p hi ⟨tx, rfl, hx⟩ H4 e4
      exact ⟨_, gv_tup2 (hx.ki e4.ki), rfl, fun H5 e5 => tv_yes, fun _ H5 e5 Q k => ⟨_, rfl, _, rfl, by show 2 ≤ sizeLine; decide, fun P hP => k _ _ (Ex.new hP) ⟨P, rfl, .of upd_same⟩⟩⟩
    obtain ⟨l1, zs, rfl, hl1, hzs, hza⟩ := hnew
    rw [fTrue] at hza
    refine ⟨l1, zs, rfl, .inl ⟨.of hzs, fun t1 ht1 => ?_⟩⟩
    have e4 : Ex H3 (upd H3 t1 (.tup zs)) := Ex.new ht1
    have eA := (e12.trans e3).trans e4
    refine ⟨_, rfl, self, C, dx, [], rfl, eA _ _ hself, T.cls, T.n_latches, (by show 0 < 1000; decide), ?_⟩
    have kA := Kt.ins (o := .ins C dx (putF "_latches" (.ref t1) [])) (eA _ _ hself)
    have bA : ExB self H (upd (upd H3 t1 (.tup zs)) self (.ins C dx (putF "_latches" (.ref t1) []))) := eA.exB.trans ExB.upd
    have hsA : (upd (upd H3 t1 (.tup zs)) self (.ins C dx (putF "_latches" (.ref t1) []))) self = some (.ins C dx (putF "_latches" (.ref t1) [])) := upd_same
    have h1A : SqT K (upd (upd H3 t1 (.tup zs)) self (.ins C dx (putF "_latches" (.ref t1) []))) t1 zs := (SqT.of (K := K) (H := upd H3 t1 (.tup zs)) (a := t1) upd_same).kt kA
    have h2A : Al (PairV K (upd (upd H3 t1 (.tup zs)) self (.ins C dx (putF "_latches" (.ref t1) [])))) zs lat := hza.imp fun _ _ z => z.kt (e4.ki.kt.trans kA)
    have h3A := hx.kt (eA.ki.kt.trans kA)
    have h5A := hy.kt (eA.ki.kt.trans kA)
    have h6A := hya.imp fun _ _ z => z.kt (eA.ki.kt.trans kA)
    generalize upd (upd H3 t1 (.tup zs)) self (.ins C dx (putF "_latches" (.ref t1) [])) = HA at *
    clear kA eA e4 e3 e12 e1 e2 hzs hza hl1 ht1
    -- self._helps
    try dsimp only
    refine r_seq (r_fld (r_cb (r_cons (r_cb (r_cons (lcT_ev (K := K) (as := hel) (kp := fun _ => true) (RA := fun H1 => TripV K H1) (RB := fun p y H1 => TripT H1 y p) ?_ (by omega) (fun _ _ _ _ e z => z.ki e) ?_ _ fun v H4 e4 hnew => ?_))))))
    · exact fun Q k => ⟨_, rfl, k _ _ Ex.rfl ⟨th, ys, rfl, h5A, h6A⟩⟩
    · rintro H4 e4 i x p hi ⟨tx, rfl, hx⟩ H5 e5
      exact ⟨_, gv_tup3 (hx.ki e5.ki), rfl, fun H6 e6 => tv_yes, fun _ H6 e6 Q k => ⟨_, rfl, _, rfl, _, rfl, by show 3 ≤ sizeLine; decide, fun P hP => k _ _ (Ex.new hP) ⟨P, rfl, upd_same⟩⟩⟩
    obtain ⟨l2, us, rfl, hl2, hus, hua⟩ := hnew
    rw [fTrue] at hua
    refine ⟨l2, us, tripOf H4, rfl, .of hus, fun x hx => ?_, fun ws l3 hsrt hperm hl3 => ?_⟩
    · obtain ⟨j, hj⟩ := List.getElem?_of_mem hx
      obtain ⟨p, _, h4⟩ := hua.get hj
      rw [h4.of]
      exact h4
    have e5 : Ex H4 (upd H4 l3 (.lst ws)) := Ex.new hl3
    refine ⟨l3, ws, rfl, .inl ⟨.of upd_same, fun t2 ht2 => ?_⟩⟩
    have e6 : Ex (upd H4 l3 (.lst ws)) (upd (upd H4 l3 (.lst ws)) t2 (.tup ws)) := Ex.new ht2
    have eB := (e4.trans e5).trans e6
    refine ⟨_, rfl, self, C, dx, _, rfl, eB _ _ hsA, T.cls, T.n_helps, (by show 1 < 1000; decide), ?_⟩
    have kB := Kt.ins (o := .ins C dx (putF "_helps" (.ref t2) (putF "_latches" (.ref t1) []))) (eB _ _ hsA)
    have hpm := (hperm.map (tripOf H4)).trans (by rw [trips_map hua])
    have hsr : HelSorted (ws.map (tripOf H4)) := List.pairwise_map.mpr hsrt
    have bB : ExB self H (upd (upd (upd H4 l3 (.lst ws)) t2 (.tup ws)) self (.ins C dx (putF "_helps" (.ref t2) (putF "_latches" (.ref t1) [])))) := (bA.trans eB.exB).trans ExB.upd
    have hsB : (upd (upd (upd H4 l3 (.lst ws)) t2 (.tup ws)) self (.ins C dx (putF "_helps" (.ref t2) (putF "_latches" (.ref t1) [])))) self = some (.ins C dx (putF "_helps" (.ref t2) (putF "_latches" (.ref t1) []))) := upd_same
    have h1B := h1A.kt (eB.ki.kt.trans kB)
    have h2B := h2A.imp fun _ _ z => z.kt (eB.ki.kt.trans kB)
    have h3B := h3A.kt (eB.ki.kt.trans kB)
    have h4B : SqT K (upd (upd (upd H4 l3 (.lst ws)) t2 (.tup ws)) self (.ins C dx (putF "_helps" (.ref t2) (putF "_latches" (.ref t1) [])))) t2 ws := (SqT.of (K := K) (H := upd (upd H4 l3 (.lst ws)) t2 (.tup ws)) (a := t2) upd_same).kt kB
    have h5B : Al (TripV K (upd (upd (upd H4 l3 (.lst ws)) t2 (.tup ws)) self (.ins C dx (putF "_helps" (.ref t2) (putF "_latches" (.ref t1) []))))) ws (ws.map (tripOf H4)) := (trips_perm hua hperm).imp fun _ _ z => (z.v (K := K)).kt ((e5.trans e6).ki.kt.trans kB)
    generalize upd (upd (upd H4 l3 (.lst ws)) t2 (.tup ws)) self (.ins C dx (putF "_helps" (.ref t2) (putF "_latches" (.ref t1) []))) = HB at *
    generalize ws.map (tripOf H4) = hel2 at *
    clear kB eB e6 e5 e4 hus hua hl2 hl3 ht2 hperm hsrt
    have hlen2 : hel2.length = hel.length := hpm.length_eq
    -- self._lenders
    try dsimp only
    refine r_fld (r_cb (r_cons (lcR_ev (n := lat.length) (kp := fun _ => true) (RB := fun (l : Nat) y H1 => LendV K H1 y (lendOf hel2 (l : Int))) ?_ (by omega) (fun _ _ _ _ e z => z.ki e) ?_ _ fun v H5 e5 hnew => ?_)))
    · exact fun Q k => ⟨_, rfl, tl, xs, rfl, .inr h3B, by rw [hxa.1]; exact k _ Ex.rfl⟩
    · intro H5 e5 i hi H6 e6
      refine ⟨_, gv_name, rfl, fun H7 e7 => tv_yes, fun _ H7 e7 Q k => ?_⟩
      have e := (e5.trans e6).trans e7
      exact ⟨_, rfl, _, rfl, self, C, dx, _, _, rfl, e _ _ hsB, T.cls, T.n_helps, (by rw [lookup_putF, if_pos rfl]), t2, ws, hel2, _, rfl, h4B.ki e.ki, h5B.imp fun _ _ z => z.ki e.ki, by omega, fun v H8 e8 hl => k v H8 e8 hl⟩
    obtain ⟨l4, qs, rfl, hl4, hqs, hqa⟩ := hnew
    rw [fTrue] at hqa
    refine ⟨l4, qs, rfl, .inl ⟨.of hqs, fun t3 ht3 => ?_⟩⟩
    have e6 : Ex H5 (upd H5 t3 (.tup qs)) := Ex.new ht3
    have eC := e5.trans e6
    refine ⟨_, rfl, self, C, dx, _, rfl, eC _ _ hsB, T.cls, T.n_lenders, fs2_len _ _, ?_⟩
    have kC := Kt.ins (o := .ins C dx (hfs (.ref t1) (.ref t2) (.ref t3))) (eC _ _ hsB)
    have kD := eC.ki.kt.trans kC
    refine q ⟨lat, hel2⟩ _ ((bB.trans eC.exB).trans ExB.upd) ⟨⟨dx, t1, t2, t3, zs, ws, qs, upd_same, h1B.kt kD, h2B.imp fun _ _ z => z.kt kD, h4B.kt kD, h5B.imp fun _ _ z => z.kt kD, (SqT.of (K := K) (H := upd H5 t3 (.tup qs)) (a := t3) upd_same).kt kC, ?_⟩, ⟨hlat.n1, hlat.n14, by show hel2.length < 1000; omega⟩⟩ rfl hpm hsr
    exact (hqa.imp fun _ _ z => z.kt (e6.ki.kt.trans kC)).mapR

theorem d__law_house {P : Program} {w : World} {K : PySem.W.Frag} {mg : PySem.Str → Option Value} {base : Heap} {C : Addr} (T : Txt K mg C) : Dfn P w K mg base "_law_house" 6 ["plan"] (sp__law_house K C) := by
  have D_House := d_House___init__ (P := P) (w := w) (base := base) T
  obtain ⟨f, fd, F, hm⟩ := T.f__law_house
  refine ⟨f, fd, hm, F.kp, F.binds (ps := ["plan"]) (fun _ _ _ _ _ _ us hl => match us, hl with | [_], _ => rfl), F.ok sc__law_house (fun vs H Q E h => ?_) (fun cdv A outer s H vs Q E hr h => ?_)⟩
  · unfold sp__law_house at h
    repeat (obtain ⟨_, h⟩ := h)
    subst_vars
    rfl
  · obtain ⟨p, tp, dd, xs, lat, hel, rfl, h1, h2, h3, h4, hlat, hhel, q⟩ := h
    refine ⟨_, (pss_one (ps_ret (pe_mkd D_House (hr.mono (by first | decide | omega)) (by rfl) (pa_cons (pe_ix (kIxT (K := K)) (pv 0) pe_int (fun _ _ => rfl)) (pa_cons (pe_callTy (kTuple (K := K)) (by rfl) T.b_tuple (by decide +kernel) (pa_cons (pe_lock (pe_lc (own := [("pair", 1)]) (g := (gName 1)) (tt := tYes)  rfl sc__law_house.nd (pi_keys (pe_ix (kIxT (K := K)) (pv 0) pe_int (fun _ _ => rfl))) (blkOk_by (own := [("pair", 1)]) (N := ["plan", "pair"]) (sc := defScope s__law_house) (by decide +kernel)) (fun _ _ _ _ _ => (pg_name (i := 1) sc__law_house.nd rfl (by first | exact Or.inl rfl | exact Or.inr rfl))) (fun _ _ _ _ _ => pts_nil) (fun _ _ _ _ _ => (pe_op (kCatA (K := K)) (pv 1) (pe_tup (pa_cons (pe_dget (units1 hr) (pe_ix (kIxT (K := K)) (pv 0) pe_int (fun _ _ => rfl)) (pv 1) (fun _ _ => rfl)) pa_nil)))))) pa_nil)) pa_nil))))), ?_⟩
    have hfew := hhel.few
    have hdl : (dOf hel).length = hel.length := by unfold dOf; rw [List.length_map]
    refine ⟨_, rfl, p, _, _, _, rfl, rfl, h1, atI_nat (j := 0) rfl, ?_⟩
    refine r_cons (r_cb (r_cons ⟨dd, _, h4, trivial, fun od => ?_⟩))
    have h1f : SqT K (upd H dd (.frz od (.dT (dOf hel)))) p [.ref tp, .ref dd] := sq_upd h1 h4 (fun z => by cases z) (fun _ z => by cases z)
    have sf : (upd H dd (.frz od (.dT (dOf hel)))) dd = some (.frz od (.dT (dOf hel))) := upd_same
    generalize hG0 : upd H dd (.frz od (.dT (dOf hel))) = G0 at *
    refine ⟨_, rfl, p, _, _, _, rfl, rfl, h1f, atI_nat (j := 1) rfl, dd, od, rfl, .inr ⟨_, sf, fun D hD => ?_⟩⟩
    have hDd : D ≠ dd := fun z => by rw [z, sf] at hD; cases hD
    refine ⟨fun i m H' => m = hel.length - i ∧ i ≤ hel.length ∧ CW G0 hel (fun _ => true) (fun x y H' => TripV K H' y x) D i H', ⟨hel.length, by simp, Nat.zero_le _, hD, Ex.new hD, [], upd_same, by simpa using Al.nil⟩, ?_⟩
    rintro i m H' ⟨rfl, hi, pw⟩
    have sf' := pw.2.1 _ _ sf
    by_cases hlt : i < hel.length
    · refine .inr ⟨⟨sf', by rw [hdl]; exact hlt⟩, CW G0 hel (fun _ => true) (fun x y H' => TripV K H' y x) D (i + 1), fun H2 p' => ⟨hel.length - (i + 1), by omega, rfl, hlt, p'⟩, fun v H2 y => ?_⟩
      obtain ⟨rfl, k, v', qq, hk, rfl, hq⟩ := y
      have hki : k = [Sum.inl (hel[i]).1, Sum.inl (hel[i]).2.1] := by
        unfold dOf at hk
        rw [List.getElem?_map, List.getElem?_eq_getElem hlt] at hk
        cases hk
        rfl
      subst hki
      refine cw_turn (H0 := H2) (fun _ _ _ _ e b => b.ki e) (by omega) (List.getElem?_eq_getElem hlt) (fun H3 e3 => ⟨_, gv_name, rfl, fun H4 e4 => tv_yes, fun _ H4 e4 Q k => ?_⟩) Ex.rfl pw
      have e34 := e3.trans e4
      have eg := pw.2.1.trans e34
      refine ⟨_, rfl, _, rfl, p, _, _, _, rfl, rfl, h1f.ki eg.ki, atI_nat (j := 1) rfl, _, rfl, dd, _, rfl, .inr ⟨dOf hel, _, qq, .inr ⟨od, eg _ _ sf⟩, rfl, e34 _ _ hq, (valV_mem hhel.nd (List.getElem_mem hlt)).symm⟩, by show 1 ≤ sizeLine; decide, fun t1 nt1 => ?_⟩
      have y1 : Ex H4 (upd H4 t1 (.tup [V.int (hel[i]).2.2])) := Ex.new nt1
      refine ⟨qq, t1, _, _, rfl, rfl, .of (y1 _ _ (e34 _ _ hq)), .of upd_same, by show 3 ≤ sizeLine; decide, fun e => absurd e (by simp), fun _ e => absurd e (by simp), fun _ _ t2 nt2 => ?_⟩
      exact k _ _ (y1.trans (Ex.new nt2)) ⟨t2, rfl, .of upd_same⟩
    · have e : i = hel.length := by omega
      subst e
      obtain ⟨p1, p2, ys, p3, p4⟩ := pw
      rw [List.take_length, fTrue] at p4
      refine .inl ⟨⟨sf', by rw [hdl]; exact Nat.le_refl _⟩, sf', ?_⟩
      have upT : ∀ {a : Addr} {zs : List V}, SqT K H' a zs → SqT K (upd H' dd (.dT (dOf hel))) a zs := fun h => sq_upd h sf' (fun z => by cases z) (fun _ z => by cases z)
      have gH : ∀ b o, H b = some o → (upd H' dd (.dT (dOf hel))) b = some o := fun b o hb => by
        by_cases hbd : b = dd
        · subst hbd
          rw [h4] at hb
          cases hb
          exact upd_same
        · rw [upd_ne hbd]
          refine p2 b o ?_
          rw [← hG0, upd_ne hbd]
          exact hb
      have ex : Ex H (upd H' dd (.dT (dOf hel))) := gH
      have sD : (upd H' dd (.dT (dOf hel))) D = some (.lst ys) := by rw [upd_ne hDd]; exact p3
      have hya : Al (TripV K (upd H' dd (.dT (dOf hel)))) ys hel := p4.imp fun _ _ ⟨t, z1, z2⟩ => ⟨t, z1, upT z2⟩
      generalize upd H' dd (.dT (dOf hel)) = G at *
      refine ⟨D, ys, rfl, .inl ⟨.of sD, fun t2 nt2 => ?_⟩⟩
      have y2 : Ex G (upd G t2 (.tup ys)) := Ex.new nt2
      have st2 : SqT K (upd G t2 (.tup ys)) t2 ys := .of upd_same
      generalize upd G t2 (.tup ys) = G2 at *
      have ex2 := ex.trans y2
      intro x dx nx ndx nex
      have z1 : Ex G2 (upd G2 dx (.own x)) := Ex.new ndx
      have z2 : Ex (upd G2 dx (.own x)) (upd (upd G2 dx (.own x)) x (.ins C dx [])) := Ex.new (by rw [upd_ne nex.symm]; exact nx)
      have z12 := z1.trans z2
      have hxs : (upd (upd G2 dx (.own x)) x (.ins C dx [])) x = some (.ins C dx []) := upd_same
      have ex3 := ex2.trans z12
      have nx0 : H x = none := ex2.free nx
      refine ⟨x, dx, tp, t2, xs, lat, ys, hel, rfl, hxs, h2.ki ex3.ki, h3.imp fun _ _ z => z.ki ex3.ki, st2.ki z12.ki, hya.imp fun _ _ z => z.ki (y2.trans z12).ki, hlat, hhel, fun h H5 e5 hv e1 e2 e3 => ⟨rfl, ?_⟩⟩
      exact q x h H5 nx0 (fun b o hb => e5 b o (fun z => by rw [z, nx0] at hb; cases hb) (ex3 b o hb)) hv e1 e2 e3

theorem d__law_jar {P : Program} {w : World} {K : PySem.W.Frag} {mg : PySem.Str → Option Value} {base : Heap} {C : Addr} (T : Txt K mg C) : Dfn P w K mg base "_law_jar" 1 ["script", "k"] (sp__law_jar K C) := by
  obtain ⟨f, fd, F, hm⟩ := T.f__law_jar
  refine ⟨f, fd, hm, F.kp, F.binds (ps := ["script", "k"]) (fun _ _ _ _ _ _ us hl => match us, hl with | [_, _], _ => rfl), F.ok sc__law_jar (fun vs H Q E h => ?_) (fun cdv A outer s H vs Q E hr h => ?_)⟩
  · unfold sp__law_jar at h
    repeat (obtain ⟨_, h⟩ := h)
    subst_vars
    rfl
  · obtain ⟨s, ns, k, rfl, hs, h0, h63, q⟩ := h
    refine ⟨_, (pss_cons (ps_set (i := 2) sc__law_jar.nd rfl (by first | exact Or.inl rfl | exact Or.inr rfl) pe_int)
      (pss_cons (ps_if (pt_cmpR op_lt (pv 1) (pe_callB (kLen (K := K)) (by rfl) T.b_len (by decide +kernel) (pa_cons (pv 0) pa_nil)) (nomark _)) (pss_one (ps_set (i := 2) sc__law_jar.nd rfl (by first | exact Or.inl rfl | exact Or.inr rfl) (pe_ix (kIxL (K := K)) (pv 0) (pv 1) (fun _ _ => rfl)))) pss_nil)
      (pss_one (ps_ret (pe_lst (pa_cons (pe_callB kMax2 (by rfl) T.b_max (by decide +kernel) (pa_cons pe_int (pa_cons (pe_op op_sub (pv 2) (pe_op op_powW pe_int pe_int)) pa_nil))) (pa_cons (pe_op op_add (pe_op op_modN (pv 2) (pe_op op_add (pe_op op_powW pe_int pe_int) pe_int)) (pe_op op_mul pe_int (pe_op op_add (pv 1) pe_int))) (pa_cons pe_int pa_nil)))))))), ?_⟩
    refine ⟨_, rfl, _, rfl, s, _, rfl, .inl hs, _, _, rfl, rfl, _, rfl, ?_⟩
    rw [List.length_map]
    have big : (0 : Int) < (10 : Int) ^ (60 : Int).toNat + 7 ∧ (10 : Int) ^ (60 : Int).toNat + 7 < 2 ^ 200 := by decide +kernel
    by_cases hk : k < (ns.length : Int)
    · rw [decide_eq_true hk]
      obtain ⟨j, rfl⟩ : ∃ j : Nat, k = (j : Int) := ⟨k.toNat, by omega⟩
      have hj : j < ns.length := by omega
      refine iteT ⟨_, rfl, _, rfl, s, _, _, .int ns[j], rfl, rfl, hs, atI_nat (by rw [List.getElem?_map, List.getElem?_eq_getElem hj]; rfl), ?_⟩
      refine ⟨_, rfl, _, _, rfl, rfl, powc _ _ (by decide) (by decide) (by decide), _, _, rfl, rfl, _, _, rfl, ?_⟩
      refine ⟨_, rfl, _, _, rfl, rfl, powc _ _ (by decide) (by decide) (by decide), _, _, rfl, rfl, _, _, rfl, rfl, (show (10 : Int) ^ (60 : Int).toNat + 7 ≠ 0 by omega), _, rfl, _, _, rfl, rfl, _, _, rfl, rfl, .inl ⟨by decide, by decide⟩, _, _, rfl, rfl, by show 3 ≤ sizeLine; decide, fun p hp => ?_⟩
      have hf := fmod_r (x := ns[j]) (m := (10 : Int) ^ (60 : Int).toNat + 7) big.1
      refine q p _ hp (Ex.new hp) ⟨_, _, _, upd_same, ?_, ?_, ?_, by omega, by omega⟩
      · split <;> omega
      · omega
      · omega
    · rw [decide_eq_false hk]
      refine iteF ?_
      refine ⟨_, rfl, _, _, rfl, rfl, powc _ _ (by decide) (by decide) (by decide), _, _, rfl, rfl, _, _, rfl, ?_⟩
      refine ⟨_, rfl, _, _, rfl, rfl, powc _ _ (by decide) (by decide) (by decide), _, _, rfl, rfl, _, _, rfl, rfl, (show (10 : Int) ^ (60 : Int).toNat + 7 ≠ 0 by omega), _, rfl, _, _, rfl, rfl, _, _, rfl, rfl, .inl ⟨by decide, by decide⟩, _, _, rfl, rfl, by show 3 ≤ sizeLine; decide, fun p hp => ?_⟩
      have hf := fmod_r (x := (0 : Int)) (m := (10 : Int) ^ (60 : Int).toNat + 7) big.1
      refine q p _ hp (Ex.new hp) ⟨_, _, _, upd_same, ?_, ?_, ?_, by omega, by omega⟩
      · split <;> omega
      · omega
      · omega

theorem d__law_plan {P : Program} {w : World} {K : PySem.W.Frag} {mg : PySem.Str → Option Value} {base : Heap} {C : Addr} (T : Txt K mg C) : Dfn P w K mg base "_law_plan" 2 ["jar", "most"] (sp__law_plan K C) := by
  have D__law_pick := d__law_pick (P := P) (w := w) (base := base) T
  obtain ⟨f, fd, F, hm⟩ := T.f__law_plan
  refine ⟨f, fd, hm, F.kp, F.binds (ps := ["jar", "most"]) (fun _ _ _ _ _ _ us hl => match us, hl with | [_, _], _ => rfl), F.ok sc__law_plan (fun vs H Q E h => ?_) (fun cdv A outer s H vs Q E hr h => ?_)⟩
  · unfold sp__law_plan at h
    repeat (obtain ⟨_, h⟩ := h)
    subst_vars
    rfl
  · obtain ⟨j, n, m, rfl, hj, hm1, hm14, hn, q⟩ := h
    refine ⟨_, (pss_cons (ps_set (i := 2) sc__law_plan.nd rfl (by first | exact Or.inl rfl | exact Or.inr rfl) (pe_ix (kIxL (K := K)) (pe_lst (pa_cons pe_int (pa_cons pe_int (pa_cons pe_int (pa_cons pe_int pa_nil))))) (pe_def D__law_pick (hr.mono (by first | decide | omega)) (by rfl) (pa_cons (pv 0) (pa_cons pe_int pa_nil))) (fun _ _ => rfl)))
      (pss_cons (ps_set (i := 3) sc__law_plan.nd rfl (by first | exact Or.inl rfl | exact Or.inr rfl) (pe_lst pa_nil))
      (pss_cons (ps_for PassesOwn.never rfl (pi_range1 (by rfl) T.b_range (pa_cons (pe_op op_add pe_int (pe_def D__law_pick (hr.mono (by first | decide | omega)) (by rfl) (pa_cons (pv 0) (pa_cons (pv 1) pa_nil)))) pa_nil)) (pg_name (i := 4) sc__law_plan.nd rfl (by first | exact Or.inl rfl | exact Or.inr rfl)) (pss_cons (ps_set (i := 5) sc__law_plan.nd rfl (by first | exact Or.inl rfl | exact Or.inr rfl) (pe_op op_sub (pe_def D__law_pick (hr.mono (by first | decide | omega)) (by rfl) (pa_cons (pv 0) (pa_cons (pe_op op_add (pe_op op_mul pe_int (pv 2)) pe_int) pa_nil))) (pv 2)))
      (pss_one (ps_expr (kBm (K := K) PySem.F.plainAttrs_list PySem.F.slot_list_append PySem.F.type_list_append mt_append (pv 3) (pa_cons (pe_tup (pa_cons (pv 5) (pa_cons (pe_op op_sub (pe_op op_sub (pv 5) pe_int) (pe_def D__law_pick (hr.mono (by first | decide | omega)) (by rfl) (pa_cons (pv 0) (pa_cons (pe_ix (kIxL (K := K)) (pe_lst (pa_cons pe_int (pa_cons pe_int (pa_cons (pe_op op_add (pv 2) pe_int) pa_nil)))) (pe_def D__law_pick (hr.mono (by first | decide | omega)) (by rfl) (pa_cons (pv 0) (pa_cons pe_int pa_nil))) (fun _ _ => rfl)) pa_nil)))) pa_nil))) pa_nil))))))
      (pss_cons (ps_set (i := 6) sc__law_plan.nd rfl (by first | exact Or.inl rfl | exact Or.inr rfl) (pe_op op_add pe_int (pe_def D__law_pick (hr.mono (by first | decide | omega)) (by rfl) (pa_cons (pv 0) (pa_cons pe_int pa_nil)))))
      (pss_cons (ps_set (i := 7) sc__law_plan.nd rfl (by first | exact Or.inl rfl | exact Or.inr rfl) pe_dnewT)
      (pss_cons (ps_for PassesOwn.never rfl (pi_range1 (by rfl) T.b_range (pa_cons (pe_callB (kLen (K := K)) (by rfl) T.b_len (by decide +kernel) (pa_cons (pv 3) pa_nil)) pa_nil)) (pg_name (i := 8) sc__law_plan.nd rfl (by first | exact Or.inl rfl | exact Or.inr rfl)) (pss_one (ps_for PassesOwn.never rfl (pi_range1 (by rfl) T.b_range (pa_cons (pe_callB (kLen (K := K)) (by rfl) T.b_len (by decide +kernel) (pa_cons (pv 3) pa_nil)) pa_nil)) (pg_name (i := 9) sc__law_plan.nd rfl (by first | exact Or.inl rfl | exact Or.inr rfl)) (pss_one (ps_if (PW.pt (pw_and (pt_cmpR op_ne (pv 8) (pv 9) (nomark _)) (pw_and1 (pt_cmpR op_eq (pe_def D__law_pick (hr.mono (by first | decide | omega)) (by rfl) (pa_cons (pv 0) (pa_cons (pv 6) pa_nil))) pe_int (nomark _))))) (pss_one (ps_asg (pe_op op_add pe_int (pe_def D__law_pick (hr.mono (by first | decide | omega)) (by rfl) (pa_cons (pv 0) (pa_cons (pe_ix (kIxL (K := K)) (pe_lst (pa_cons pe_int (pa_cons pe_int pa_nil))) (pe_def D__law_pick (hr.mono (by first | decide | omega)) (by rfl) (pa_cons (pv 0) (pa_cons pe_int pa_nil))) (fun _ _ => rfl)) pa_nil)))) (pg_sub (pv 7) (pe_tup (pa_cons (pv 8) (pa_cons (pv 9) pa_nil))) (set_dict (units1 hr))))) pss_nil)))))
      (pss_one (ps_ret (pe_tup (pa_cons (pe_callTy (kTuple (K := K)) (by rfl) T.b_tuple (by decide +kernel) (pa_cons (pv 3) pa_nil)) (pa_cons (pv 7) pa_nil))))))))))), ?_⟩
    refine ⟨by show 4 ≤ sizeLine; decide, fun l1 n1 => ?_⟩
    have x1 : Ex H (upd H l1 (.lst [V.int 4, V.int 9, V.int 30, V.int 99])) := Ex.new n1
    refine ⟨_, rfl, j, n, 4, rfl, hj.ex x1, by decide, by decide, by omega, fun d1 H2 d10 d14 e2 j2 => ?_⟩
    have hfar : ∃ far : Int, atI [V.int 4, V.int 9, V.int 30, V.int 99] d1 = some (V.int far) ∧ 0 ≤ far ∧ far ≤ 99 := by
      have : d1 = 0 ∨ d1 = 1 ∨ d1 = 2 ∨ d1 = 3 := by omega
      rcases this with rfl | rfl | rfl | rfl
      · exact ⟨4, rfl, by decide, by decide⟩
      · exact ⟨9, rfl, by decide, by decide⟩
      · exact ⟨30, rfl, by decide, by decide⟩
      · exact ⟨99, rfl, by decide, by decide⟩
    obtain ⟨far, efar, hf0, hf9⟩ := hfar
    refine ⟨l1, _, d1, .int far, rfl, rfl, .of (e2 _ _ (hj.free n1) upd_same), efar, ?_⟩
    have b2 := x1.exB.trans e2
    refine ⟨by show 0 ≤ sizeLine; decide, fun lp np => ?_⟩
    have hlpj : lp ≠ j := j2.free np
    have x3 : Ex H2 (upd H2 lp (.lst [])) := Ex.new np
    have s3 : (upd H2 lp (.lst [])) lp = some (.lst []) := upd_same
    have np0 : H lp = none := by
      cases e : H lp with
      | none => rfl
      | some o => rw [b2 _ _ hlpj e] at np; cases np
    have b3 := b2.trans x3.exB
    have j3 := j2.ex x3
    generalize upd H2 lp (.lst []) = H3 at *
    refine ⟨_, rfl, _, rfl, j, _, m, rfl, j3, hm1, by omega, by omega, fun d4 H4 d40 d4m e4 j4 => ⟨_, _, rfl, rfl, _, rfl, by omega, by omega, ?_⟩⟩
    have b4 := b3.trans e4
    refine for_range (lo := 0) (n := (1 + d4).toNat) (fun i σ H' => ∃ (v5 v6 : Option V) (ys : List V) (lat : List (Int × Int)), σ = [some (.ref j), some (.int m), some (.int far), some (.ref lp), v5, v6, none, none, none, none] ∧ ExB j H H' ∧ JarAt H' j (n + 2 + 3 * (i : Int)) ∧ H' lp = some (.lst ys) ∧ Al (PairV K H') ys lat ∧ lat.length = i ∧ ∀ x ∈ lat, x.2 < x.1) ⟨none, none, [], [], rfl, b4, j4.le (by omega), e4 _ _ hlpj s3, Al.nil, rfl, by simp⟩ ?_ ?_
    · rintro i σ G hi ⟨v5, v6, ys, lat, rfl, gB, gJ, gp, gy, gl, glt⟩
      have hi15 : i < 15 := by omega
      refine ⟨_, rfl, _, rfl, _, _, rfl, rfl, .inl ⟨by decide, by decide⟩, _, _, rfl, rfl, j, _, _, rfl, gJ, by omega, by omega, by omega, fun d5 G1 d50 d51 e5 j5 => ⟨_, rfl, _, _, rfl, rfl, ?_⟩⟩
      dsimp only
      generalize d5 - far = high at *
      have gp1 := e5 _ _ hlpj gp
      refine ⟨_, rfl, .inl ⟨rfl, _, .of gp1⟩, _, rfl, _, rfl, _, _, rfl, rfl, _, rfl, _, rfl, _, _, rfl, rfl, by show 3 ≤ sizeLine; decide, fun l2 n2 => ?_⟩
      have y1 : Ex G1 (upd G1 l2 (.lst [V.int 1, V.int 4, V.int (far + 1)])) := Ex.new n2
      refine ⟨_, rfl, j, _, 3, rfl, j5.ex y1, by decide, by decide, by omega, fun d6 G2 d60 d63 e6 j6 => ?_⟩
      have hw : ∃ w : Int, atI [V.int 1, V.int 4, V.int (far + 1)] d6 = some (V.int w) ∧ 1 ≤ w ∧ w ≤ 100 := by
        have : d6 = 0 ∨ d6 = 1 ∨ d6 = 2 := by omega
        rcases this with rfl | rfl | rfl
        · exact ⟨1, rfl, by decide, by decide⟩
        · exact ⟨4, rfl, by decide, by decide⟩
        · exact ⟨far + 1, rfl, by omega, by omega⟩
      obtain ⟨w, ew, hw1, hw2⟩ := hw
      refine ⟨l2, _, d6, .int w, rfl, rfl, .of (e6 _ _ (j5.free n2) upd_same), ew, j, _, w, rfl, j6, hw1, by omega, by omega, fun d7 G3 d70 d7w e7 j7 => ⟨_, _, rfl, rfl, by show 2 ≤ sizeLine; decide, fun t2 nt2 => ?_⟩⟩
      dsimp only
      have y4 : Ex G3 (upd G3 t2 (.tup [V.int high, V.int (high - 1 - d7)])) := Ex.new nt2
      have gB4 := ((((gB.trans e5).trans y1.exB).trans e6).trans e7).trans y4.exB
      have gp4 := y4 _ _ (e7 _ _ hlpj (e6 _ _ hlpj (y1 _ _ gp1)))
      have s4 : SqT K (upd G3 t2 (.tup [V.int high, V.int (high - 1 - d7)])) t2 [V.int high, V.int (high - 1 - d7)] := .of upd_same
      have j8 := j7.ex y4
      have k4 : Ki G (upd G3 t2 (.tup [V.int high, V.int (high - 1 - d7)])) := (((gJ.ki e5).trans y1.ki).trans ((j5.ex y1).ki e6)).trans ((j6.ki e7).trans y4.ki)
      generalize upd G3 t2 (.tup [V.int high, V.int (high - 1 - d7)]) = G4 at *
      have hyl : ys.length ≤ 14 := by rw [gy.1, gl]; omega
      refine ⟨lp, _, _, rfl, rfl, gp4, Nat.lt_of_le_of_lt hyl (by decide), ?_⟩
      have k5 : Ki G4 (upd G4 lp (.lst (ys ++ [V.ref t2]))) := Ki.lst Ki.rfl gp4
      refine ⟨_, _, ys ++ [V.ref t2], lat ++ [(high, high - 1 - d7)], rfl, gB4.mut np0, (j8.upd hlpj).le (by omega), upd_same, Al.snoc (gy.imp fun _ _ z => z.ki (k4.trans k5)) ⟨t2, rfl, s4.ki k5⟩, by rw [List.length_append, List.length_singleton, gl], fun x hx => ?_⟩
      rcases List.mem_append.mp hx with hx | hx
      · exact glt x hx
      · rw [List.mem_singleton.mp hx]
        show high - 1 - d7 < high
        omega
    · rintro σ G ⟨v5, v6, ys, lat, rfl, gB, gJ, gp, gy, gl, glt⟩
      have hyl : ys.length = lat.length := gy.1
      have hl1 : 1 ≤ lat.length := by omega
      have hlm : (lat.length : Int) ≤ m := by omega
      refine ⟨_, rfl, j, _, 4, rfl, gJ, by decide, by decide, by omega, fun d8 G1 d80 d84 e8 j8 => ⟨_, _, rfl, rfl, ?_⟩⟩
      have gp1 := e8 _ _ hlpj gp
      have gy1 := gy.imp fun _ _ z => z.ki (gJ.ki e8)
      have b5 := gB.trans e8
      intro dd ndd
      have hddj : dd ≠ j := j8.free ndd
      have ndd0 : H dd = none := by
        cases e : H dd with
        | none => rfl
        | some o => rw [b5 _ _ hddj e] at ndd; cases ndd
      have y2 : Ex G1 (upd G1 dd (.dT [])) := Ex.new ndd
      have sd : (upd G1 dd (.dT [])) dd = some (.dT (dOf [])) := upd_same
      have b6 := b5.trans y2.exB
      have j9 := j8.ex y2
      have gp2 := y2 _ _ gp1
      have gy2 := gy1.imp fun _ _ z => z.ki y2.ki
      have hlpd : lp ≠ dd := ne_of_none gp1 ndd
      generalize upd G1 dd (.dT []) = G2 at *
      refine ⟨_, rfl, lp, ys, rfl, .inl (.of gp2), _, rfl, by omega, by omega, ?_⟩
      rw [hyl, Int.toNat_natCast]
      refine for_range (lo := 0) (n := lat.length) (fun i σ H' => ∃ (v9 v10 : Option V) (hel : List (Int × Int × Int)), σ = [some (.ref j), some (.int m), some (.int far), some (.ref lp), v5, v6, some (.int (1 + d8)), some (.ref dd), v9, v10] ∧ ExB j H H' ∧ JarAt H' j (n + 46 + 45 * (i : Int)) ∧ H' lp = some (.lst ys) ∧ Al (PairV K H') ys lat ∧ H' dd = some (.dT (dOf hel)) ∧ GoodH (lat.length : Int) (i : Int) 0 hel) ⟨none, none, [], rfl, b6, j9.le (by omega), gp2, gy2, sd, ⟨by simp, by simp, by simp⟩⟩ ?_ ?_
      · rintro i σ G3 hi ⟨v9, v10, hel, rfl, gB, gJ, gp, gy, gd, gg⟩
        have e0i : (0 : Int) + (i : Int) = (i : Int) := Int.zero_add _
        rw [e0i]
        refine ⟨_, rfl, lp, ys, rfl, .inl (.of gp), _, rfl, by omega, by omega, ?_⟩
        rw [hyl, Int.toNat_natCast]
        refine for_range (lo := 0) (n := lat.length) (fun i2 σ H' => ∃ (v10 : Option V) (hel : List (Int × Int × Int)), σ = [some (.ref j), some (.int m), some (.int far), some (.ref lp), v5, v6, some (.int (1 + d8)), some (.ref dd), some (.int (i : Int)), v10] ∧ ExB j H H' ∧ JarAt H' j (n + 46 + 45 * (i : Int) + 3 * (i2 : Int)) ∧ H' lp = some (.lst ys) ∧ Al (PairV K H') ys lat ∧ H' dd = some (.dT (dOf hel)) ∧ GoodH (lat.length : Int) (i : Int) (i2 : Int) hel) ⟨v10, hel, rfl, gB, gJ.le (by omega), gp, gy, gd, gg⟩ ?_ ?_
        · rintro i2 σ G4 hi2 ⟨v10, hel, rfl, gB, gJ, gp, gy, gd, gg⟩
          have e0i2 : (0 : Int) + (i2 : Int) = (i2 : Int) := Int.zero_add _
          rw [e0i2]
          have stay : ∀ G5, ExB j H G5 → JarAt G5 j (n + 46 + 45 * (i : Int) + 3 * (i2 : Int) + 3) → ExB j G4 G5 → ∃ (v10 : Option V) (hel : List (Int × Int × Int)), [some (V.ref j), some (.int m), some (.int far), some (.ref lp), v5, v6, some (.int (1 + d8)), some (.ref dd), some (.int (i : Int)), some (V.int (i2 : Int))] = [some (.ref j), some (.int m), some (.int far), some (.ref lp), v5, v6, some (.int (1 + d8)), some (.ref dd), some (.int (i : Int)), v10] ∧ ExB j H G5 ∧ JarAt G5 j (n + 46 + 45 * (i : Int) + 3 * ((i2 + 1 : Nat) : Int)) ∧ G5 lp = some (.lst ys) ∧ Al (PairV K G5) ys lat ∧ G5 dd = some (.dT (dOf hel)) ∧ GoodH (lat.length : Int) (i : Int) ((i2 + 1 : Nat) : Int) hel := fun G5 b jj e => ⟨_, hel, rfl, b, jj.le (by omega), e _ _ hlpj gp, gy.imp fun _ _ z => z.ki (gJ.ki e), e _ _ hddj gd, by have := gg.next; exact this⟩
          refine ⟨_, rfl, _, rfl, rfl, _, rfl, ?_⟩
          by_cases hne : (i : Int) = (i2 : Int)
          · rw [show (!decide (V.int (i : Int) = V.int (i2 : Int))) = false by rw [hne, decide_eq_true rfl]; rfl]
            exact iteF (iteF (stay G4 gB (gJ.le (by omega)) ExB.rfl))
          · rw [show (!decide (V.int (i : Int) = V.int (i2 : Int))) = true by rw [decide_eq_false (fun z => hne (V.int.inj z))]; rfl]
            refine iteT ⟨_, rfl, _, rfl, j, _, (1 + d8), rfl, gJ, by omega, by omega, by omega, fun d9 G5 d90 d9r e9 j9' => ⟨rfl, _, rfl, ?_⟩⟩
            by_cases hz : V.int d9 = V.int 0
            · rw [decide_eq_true hz]
              refine iteT ⟨_, rfl, by show 2 ≤ sizeLine; decide, fun l3 n3 => ?_⟩
              have y5 : Ex G5 (upd G5 l3 (.lst [V.int 2, V.int 9])) := Ex.new n3
              refine ⟨_, rfl, j, _, 2, rfl, j9'.ex y5, by decide, by decide, by omega, fun da G6 da0 da2 e6 j6 => ?_⟩
              have hw : ∃ w : Int, atI [V.int 2, V.int 9] da = some (V.int w) ∧ 2 ≤ w ∧ w ≤ 9 := by
                have : da = 0 ∨ da = 1 := by omega
                rcases this with rfl | rfl
                · exact ⟨2, rfl, by decide, by decide⟩
                · exact ⟨9, rfl, by decide, by decide⟩
              obtain ⟨w, ew, hw2, hw9⟩ := hw
              refine ⟨l3, _, da, .int w, rfl, rfl, .of (e6 _ _ (j9'.free n3) upd_same), ew, j, _, w, rfl, j6, by omega, by omega, by omega, fun db G7 db0 dbw e7 j7 => ⟨_, _, rfl, rfl, ?_⟩⟩
              dsimp only
              refine ⟨_, rfl, _, rfl, _, rfl, by show 2 ≤ sizeLine; decide, fun t3 nt3 => ?_⟩
              have y8 : Ex G7 (upd G7 t3 (.tup [V.int (i : Int), V.int (i2 : Int)])) := Ex.new nt3
              have bb := ((((e9.trans y5.exB).trans e6).trans e7).trans y8.exB)
              have gd8 := bb _ _ hddj gd
              have gp8 := bb _ _ hlpj gp
              have k8 := gJ.ki bb
              have st8 : (upd G7 t3 (.tup [V.int (i : Int), V.int (i2 : Int)])) t3 = some (.tup (([Sum.inl (i : Int), Sum.inl (i2 : Int)] : List Key).map kV)) := upd_same
              have j8' := j7.ex y8
              generalize upd G7 t3 (.tup [V.int (i : Int), V.int (i2 : Int)]) = G8 at *
              have hgl := gg.len
              have hdl : (dOf hel).length < sizeLine := by
                unfold dOf
                rw [List.length_map]
                exact Nat.lt_of_le_of_lt (show hel.length ≤ 300 by omega) (by decide)
              refine ⟨dd, _, rfl, DPut.t gd8 st8 hdl, ?_⟩
              rw [dOf_put gg.fresh]
              have kd : Ki G8 (upd G8 dd (.dT (dOf (hel ++ [((i : Int), (i2 : Int), 1 + db)])))) := fun b o im hb => by
                have : b ≠ dd := fun z => by
                  subst z
                  rw [gd8] at hb
                  cases hb
                  exact im
                rw [upd_ne this]
                exact hb
              refine ⟨_, hel ++ [((i : Int), (i2 : Int), 1 + db)], rfl, (gB.trans bb).mut ndd0, (j8'.upd hddj).le (by omega), by rw [upd_ne hlpd]; exact gp8, gy.imp fun _ _ z => (z.ki k8).ki kd, upd_same, ?_⟩
              have := gg.add (x := ((i : Int), (i2 : Int), 1 + db)) (helpB_of (by omega) (by omega) (by omega) (by omega) hne (by omega) (by omega)) rfl rfl
              exact this
            · rw [decide_eq_false hz]
              exact iteF (stay G5 (gB.trans e9) (j9'.le (by omega)) e9)
        · rintro σ G4 ⟨v10, hel, rfl, gB, gJ, gp, gy, gd, gg⟩
          exact ⟨_, _, hel, rfl, gB, gJ.le (by omega), gp, gy, gd, by have := gg.row (by omega); exact this⟩
      · rintro σ G3 ⟨v9, v10, hel, rfl, gB, gJ, gp, gy, gd, gg⟩
        refine ⟨_, rfl, lp, ys, rfl, .inl ⟨.of gp, fun tp ntp => ?_⟩⟩
        have z1 : Ex G3 (upd G3 tp (.tup ys)) := Ex.new ntp
        have st1 : (upd G3 tp (.tup ys)) tp = some (.tup ys) := upd_same
        have gd1 := z1 _ _ gd
        have gy1 := gy.imp fun _ _ z => z.ki z1.ki
        generalize upd G3 tp (.tup ys) = G4 at *
        refine ⟨_, rfl, by show 2 ≤ sizeLine; decide, fun r nr => ?_⟩
        have z2 : Ex G4 (upd G4 r (.tup [V.ref tp, V.ref dd])) := Ex.new nr
        have hh := gg.len
        exact q r tp dd ys lat hel _ (gB.trans (z1.trans z2).exB) ((gJ.ex (z1.trans z2)).le (by omega)) upd_same (z2 _ _ st1) (gy1.imp fun _ _ z => z.ki z2.ki) (z2 _ _ gd1) hl1 hlm glt ⟨by omega, fun p hp => (gg.ok p hp).1, gg.nd⟩ (by omega)

theorem d__law_between {P : Program} {w : World} {K : PySem.W.Frag} {mg : PySem.Str → Option Value} {base : Heap} {C : Addr} (T : Txt K mg C) : Dfn P w K mg base "_law_between" 2 ["jar", "one", "other"] (sp__law_between K C) := by
  have D__law_pick := d__law_pick (P := P) (w := w) (base := base) T
  obtain ⟨f, fd, F, hm⟩ := T.f__law_between
  refine ⟨f, fd, hm, F.kp, F.binds (ps := ["jar", "one", "other"]) (fun _ _ _ _ _ _ us hl => match us, hl with | [_, _, _], _ => rfl), F.ok sc__law_between (fun vs H Q E h => ?_) (fun cdv A outer s H vs Q E hr h => ?_)⟩
  · unfold sp__law_between at h
    repeat (obtain ⟨_, h⟩ := h)
    subst_vars
    rfl
  · obtain ⟨j, n, s, f, rfl, hj, hn, q⟩ := h
    refine ⟨_, (pss_cons (ps_asg (pe_callB cr_sortedI (by rfl) T.b_sorted (by decide +kernel) (pa_cons (pe_lst (pa_cons (pv 1) (pa_cons (pv 2) pa_nil))) pa_nil)) (pg_unl rfl (pgs_cons (pg_name (i := 3) sc__law_between.nd rfl (by first | exact Or.inl rfl | exact Or.inr rfl)) (pgs_cons (pg_name (i := 4) sc__law_between.nd rfl (by first | exact Or.inl rfl | exact Or.inr rfl)) pgs_nil))))
      (pss_cons (ps_set (i := 5) sc__law_between.nd rfl (by first | exact Or.inl rfl | exact Or.inr rfl) (pe_op op_sub (pv 4) (pv 3)))
      (pss_one (ps_ret (pe_op op_add (pv 3) (pe_ix (kIxL (K := K)) (pe_lst (pa_cons pe_int (pa_cons (pv 5) (pa_cons (pe_callB kMin2 (by rfl) T.b_min (by decide +kernel) (pa_cons (pv 5) (pa_cons (pe_def D__law_pick (hr.mono (by first | decide | omega)) (by rfl) (pa_cons (pv 0) (pa_cons pe_int pa_nil))) pa_nil))) (pa_cons (pe_def D__law_pick (hr.mono (by first | decide | omega)) (by rfl) (pa_cons (pv 0) (pa_cons (pe_op op_add (pe_callB kMin2 (by rfl) T.b_min (by decide +kernel) (pa_cons (pv 5) (pa_cons pe_int pa_nil))) pe_int) pa_nil))) pa_nil))))) (pe_def D__law_pick (hr.mono (by first | decide | omega)) (by rfl) (pa_cons (pv 0) (pa_cons pe_int pa_nil))) (fun _ _ => rfl))))))), ?_⟩
    refine ⟨_, rfl, _, rfl, by show 2 ≤ sizeLine; decide, fun l nl => ?_⟩
    have x1 : Ex H (upd H l (.lst [V.int s, V.int f])) := Ex.new nl
    refine ⟨l, [s, f], rfl, .of upd_same, fun ns' p2 hp hs np => ?_⟩
    obtain ⟨lo, hi, rfl, hle, hor⟩ := sort2 hp hs
    have x2 : Ex (upd H l (.lst [V.int s, V.int f])) (upd (upd H l (.lst [V.int s, V.int f])) p2 (.lst ([lo, hi].map V.int))) := Ex.new np
    refine ⟨p2, _, rfl, .of upd_same, rfl, _, _, rfl, _, _, rfl, rfl, ?_⟩
    have x12 := x1.trans x2
    generalize upd (upd H l (.lst [V.int s, V.int f])) p2 (.lst ([lo, hi].map V.int)) = H1 at *
    have j1 := hj.ex x12
    obtain ⟨m, em, m1, mf, m400⟩ : ∃ m : Int, (if 400 < hi - lo then 400 else hi - lo) + 1 = m ∧ 1 ≤ m ∧ m ≤ hi - lo + 1 ∧ m ≤ 401 := ⟨_, rfl, by split <;> omega, by split <;> omega, by split <;> omega⟩
    refine ⟨_, rfl, _, rfl, _, _, rfl, rfl, ?_⟩
    refine ⟨_, rfl, _, rfl, _, rfl, _, rfl, j, _, 9, rfl, j1, by decide, by decide, by omega, fun d1 H2 d10 d11 e2 j2 => ?_⟩
    refine ⟨_, _, rfl, _, rfl, _, rfl, _, _, rfl, _, _, rfl, rfl, j, _, m, congrArg (fun z => [V.ref j, V.int z]) em, j2, m1, by omega, by omega, fun d2 H3 d20 d21 e3 j3 => ?_⟩
    obtain ⟨k, ek, k0, kf⟩ : ∃ k : Int, (if d1 < hi - lo then d1 else hi - lo) = k ∧ 0 ≤ k ∧ k ≤ hi - lo := ⟨_, rfl, by split <;> omega, by split <;> omega⟩
    rw [ek]
    refine ⟨by show 4 ≤ sizeLine; decide, fun l2 nl2 => ?_⟩
    have x4 : Ex H3 (upd H3 l2 (.lst [V.int 0, V.int (hi - lo), V.int k, V.int d2])) := Ex.new nl2
    refine ⟨_, rfl, j, _, 4, rfl, j3.ex x4, by decide, by decide, by omega, fun d3 H4 d30 d31 e4 j4 => ?_⟩
    obtain ⟨w, hwm, hw⟩ := atJ [0, hi - lo, k, d2] d30 d31
    refine ⟨l2, _, d3, .int w, rfl, rfl, .of (e4 _ _ (j3.free nl2) upd_same), hw, _, _, rfl, rfl, ?_⟩
    refine q _ _ ((((x12.exB.trans e2).trans e3).trans x4.exB).trans e4) (j4.le (by omega)) ?_
    have hw0 : 0 ≤ w ∧ w ≤ hi - lo := by
      simp at hwm
      omega
    unfold Btw
    omega

theorem d_same0 {P : Program} {w : World} {K : PySem.W.Frag} {mg : PySem.Str → Option Value} {base : Heap} {C : Addr} (T : Txt K mg C) : Dfn P w K mg base "_law_same" 2 ["found", "due"] (spSameF K 0) := by
  obtain ⟨f, fd, F, hm⟩ := T.f__law_same
  refine ⟨f, fd, hm, F.kp, F.binds (ps := ["found", "due"]) (fun _ _ _ _ _ _ us hl => match us, hl with | [_, _], _ => rfl), ⟨fun vs H Q E h => ?_, fun A outer s H args us vs Q E _ _ _ _ h => ?_⟩⟩
  · obtain ⟨_, _, _, h, _⟩ := h
    exact h.elim
  · obtain ⟨_, _, _, h, _⟩ := h
    exact h.elim
theorem d_sameS {P : Program} {w : World} {K : PySem.W.Frag} {mg : PySem.Str → Option Value} {base : Heap} {C : Addr} (T : Txt K mg C) {m k : Nat} (D__law_same : Dfn P w K mg base "_law_same" k ["found", "due"] (spSameF K m)) (hk : 2 ≤ k) : Dfn P w K mg base "_law_same" (k + 1) ["found", "due"] (spSameF K (m + 1)) := by
  obtain ⟨f, fd, F, hm⟩ := T.f__law_same
  refine ⟨f, fd, hm, F.kp, F.binds (ps := ["found", "due"]) (fun _ _ _ _ _ _ us hl => match us, hl with | [_, _], _ => rfl), F.ok sc__law_same (fun vs H Q E h => ?_) (fun cdv A outer s H vs Q E hr h => ?_)⟩
  · obtain ⟨_, _, rfl, _⟩ := h
    rfl
  · obtain ⟨x, y, rfl, hsm, q⟩ := h
    refine ⟨_, (pss_cons (ps_if (pt_val (pe_callB (kIsiT (K := K)) (by rfl) T.b_isinstance (by decide +kernel) (pa_cons (pv 1) (pa_cons (pe_tup (pa_cons (pe_bltn (v := .ty "list") (u := .type "list") (by rfl) T.b_list (by decide +kernel) rfl) (pa_cons (pe_bltn (v := .ty "tuple") (u := .type "tuple") (by rfl) T.b_tuple (by decide +kernel) rfl) pa_nil))) pa_nil)))) (pss_cons (ps_if (PW.pt (pw_or (pt_cmpR op_ne (pe_callB (kIsi (K := K)) (by rfl) T.b_isinstance (by decide +kernel) (pa_cons (pv 0) (pa_cons (pe_bltn (v := .ty "list") (u := .type "list") (by rfl) T.b_list (by decide +kernel) rfl) pa_nil))) (pe_callB (kIsi (K := K)) (by rfl) T.b_isinstance (by decide +kernel) (pa_cons (pv 1) (pa_cons (pe_bltn (v := .ty "list") (u := .type "list") (by rfl) T.b_list (by decide +kernel) rfl) pa_nil))) (nomark _)) (pw_or1 (pt_cmpR op_ne (pe_callB (kIsi (K := K)) (by rfl) T.b_isinstance (by decide +kernel) (pa_cons (pv 0) (pa_cons (pe_bltn (v := .ty "tuple") (u := .type "tuple") (by rfl) T.b_tuple (by decide +kernel) rfl) pa_nil))) (pe_callB (kIsi (K := K)) (by rfl) T.b_isinstance (by decide +kernel) (pa_cons (pv 1) (pa_cons (pe_bltn (v := .ty "tuple") (u := .type "tuple") (by rfl) T.b_tuple (by decide +kernel) rfl) pa_nil))) (nomark _))))) (pss_one (ps_ret pe_bl)) pss_nil)
      (pss_one (ps_ret (pe_and (pe_cmpR op_eq (pe_callB (kLen (K := K)) (by rfl) T.b_len (by decide +kernel) (pa_cons (pv 0) pa_nil)) (pe_callB (kLen (K := K)) (by rfl) T.b_len (by decide +kernel) (pa_cons (pv 1) pa_nil)) (nomark _)) (pe_one (pe_callB (kAll (K := K)) (by rfl) T.b_all (by decide +kernel) (pa_cons (pe_lc (own := [("k", 2)]) (g := (gName 2)) (tt := tYes)  rfl sc__law_same.nd (pi_range1 (by rfl) T.b_range (pa_cons (pe_callB (kLen (K := K)) (by rfl) T.b_len (by decide +kernel) (pa_cons (pv 1) pa_nil)) pa_nil)) (blkOk_by (own := [("k", 2)]) (N := ["found", "due", "k"]) (sc := defScope s__law_same) (by decide +kernel)) (fun _ _ _ _ _ => (pg_name (i := 2) sc__law_same.nd rfl (by first | exact Or.inl rfl | exact Or.inr rfl))) (fun _ _ _ _ _ => pts_nil) (fun _ _ _ _ _ => (pe_def D__law_same (hr.mono (by first | decide | omega)) (by rfl) (pa_cons (pe_ix (kIxSeq (K := K)) (pv 0) (pv 2) (fun _ _ => rfl)) (pa_cons (pe_ix (kIxSeq (K := K)) (pv 1) (pv 2) (fun _ _ => rfl)) pa_nil))))) pa_nil))))))) pss_nil)
      (pss_cons (ps_if (PW.pt (pw_or (pt_val (pe_callB (kIsi (K := K)) (by rfl) T.b_isinstance (by decide +kernel) (pa_cons (pv 1) (pa_cons (pe_bltn (v := .ty "bool") (u := .type "bool") (by rfl) T.b_bool (by decide +kernel) rfl) pa_nil)))) (pw_or1 (pt_val (pe_callB (kIsi (K := K)) (by rfl) T.b_isinstance (by decide +kernel) (pa_cons (pv 0) (pa_cons (pe_bltn (v := .ty "bool") (u := .type "bool") (by rfl) T.b_bool (by decide +kernel) rfl) pa_nil))))))) (pss_one (ps_ret (pe_and (pe_callB (kIsi (K := K)) (by rfl) T.b_isinstance (by decide +kernel) (pa_cons (pv 1) (pa_cons (pe_bltn (v := .ty "bool") (u := .type "bool") (by rfl) T.b_bool (by decide +kernel) rfl) pa_nil))) (pe_and (pe_callB (kIsi (K := K)) (by rfl) T.b_isinstance (by decide +kernel) (pa_cons (pv 0) (pa_cons (pe_bltn (v := .ty "bool") (u := .type "bool") (by rfl) T.b_bool (by decide +kernel) rfl) pa_nil))) (pe_one (pe_cmpR op_eq (pv 0) (pv 1) (nomark _))))))) pss_nil)
      (pss_one (ps_ret (pe_cmpR op_eq (pv 0) (pv 1) (nomark _)))))), ?_⟩
    refine ⟨_, rfl, by show 2 ≤ sizeLine; decide, fun T1 hT1 => ?_⟩
    have x1 : Ex H (upd H T1 (.tup [.ty "list", .ty "tuple"])) := Ex.new hT1
    have hT1s := upd_same (H := H) (a := T1) (o := .tup [.ty "list", .ty "tuple"])
    generalize upd H T1 (.tup [.ty "list", .ty "tuple"]) = H1 at *
    rcases hsm with ⟨i, rfl, rfl⟩ | ⟨b, rfl, rfl⟩ | ⟨a, b, xs, ys, rfl, rfl, hab, hl, hlen, hit⟩
    · refine ⟨_, _, _, _, _, _, rfl, hT1s, .cons (.ty _) (.cons (.ty _) .nil), (Sml.int (K := K) (H := H1) i).ty, kitAny2 (r1 := false) (r2 := false) (by decide +kernel) (by decide +kernel), _, rfl, iteF ?_⟩
      refine ⟨_, rfl, _, _, _, _, _, rfl, .ty _, (Sml.int (K := K) i).ty, kit_ty (kit_bool (n := "int") (.inr (.inr (.inl rfl)))), _, rfl, iteF ⟨_, rfl, _, _, _, _, _, rfl, .ty _, (Sml.int (K := K) i).ty, kit_ty (kit_bool (n := "int") (.inr (.inr (.inl rfl)))), _, rfl, iteF ?_⟩⟩
      refine ⟨_, rfl, _, rfl, rfl, ?_⟩
      rw [decide_eq_true (rfl : V.int i = V.int i)]
      exact q _ x1
    · refine ⟨_, _, _, _, _, _, rfl, hT1s, .cons (.ty _) (.cons (.ty _) .nil), (Sml.bl (K := K) (H := H1) b).ty, kitAny2 (r1 := false) (r2 := false) (by decide +kernel) (by decide +kernel), _, rfl, iteF ?_⟩
      refine ⟨_, rfl, _, _, _, _, _, rfl, .ty _, (Sml.bl (K := K) b).ty, kit_ty (kit_bool (n := "bool") (.inr (.inl rfl))), _, rfl, iteT (iteT ?_)⟩
      refine ⟨_, rfl, _, _, _, _, _, rfl, .ty _, (Sml.bl (K := K) b).ty, kit_ty (kit_bool (n := "bool") (.inr (.inl rfl))), _, rfl, iteT ⟨_, rfl, _, _, _, _, _, rfl, .ty _, (Sml.bl (K := K) b).ty, kit_ty (kit_bool (n := "bool") (.inr (.inl rfl))), _, rfl, iteT ⟨_, rfl, _, rfl, rfl, ?_⟩⟩⟩
      rw [decide_eq_true (rfl : V.bl b = V.bl b)]
      exact q _ x1
    · have hsl : ∃ n, Sml K H1 (.ref a) n ∧ Sml K H1 (.ref b) n ∧ (n = "list" ∨ n = "tuple") := by
        rcases hab with ⟨h1, h2⟩ | ⟨h1, h2⟩
        · exact ⟨_, .lst (x1 _ _ h1), .lst (x1 _ _ h2), .inl rfl⟩
        · exact ⟨_, .tup (h1.ki x1.ki), .tup (h2.ki x1.ki), .inr rfl⟩
      obtain ⟨n, s1, s2, hn⟩ := hsl
      have kl := kit_list s2.kind
      have kt := kit_tuple s2.kind
      have both : (decide (n = "list") || decide (n = "tuple")) = true := by rcases hn with rfl | rfl <;> decide
      refine ⟨_, _, _, _, _, _, rfl, hT1s, .cons (.ty _) (.cons (.ty _) .nil), s2.ty, kitAny2 kl kt, _, rfl, ?_⟩
      rw [both]
      refine iteT ⟨_, rfl, _, _, _, _, _, rfl, .ty _, s1.ty, kit_ty (kit_list s1.kind), _, rfl, _, _, _, _, _, rfl, .ty _, s2.ty, kit_ty kl, rfl, _, rfl, ?_⟩
      rw [decide_eq_true (rfl : V.bl (decide (n = "list")) = V.bl (decide (n = "list")))]
      refine iteF ⟨_, rfl, _, _, _, _, _, rfl, .ty _, s1.ty, kit_ty (kit_tuple s1.kind), _, rfl, _, _, _, _, _, rfl, .ty _, s2.ty, kit_ty kt, rfl, _, rfl, ?_⟩
      rw [decide_eq_true (rfl : V.bl (decide (n = "tuple")) = V.bl (decide (n = "tuple")))]
      have hab2 : (H1 a = some (.lst xs) ∧ H1 b = some (.lst ys)) ∨ (SqT K H1 a xs ∧ SqT K H1 b ys) := by
        rcases hab with ⟨h1, h2⟩ | ⟨h1, h2⟩
        · exact .inl ⟨x1 _ _ h1, x1 _ _ h2⟩
        · exact .inr ⟨h1.ki x1.ki, h2.ki x1.ki⟩
      have la : SqL K H1 a xs ∨ SqT K H1 a xs := by
        rcases hab2 with ⟨h1, _⟩ | ⟨h1, _⟩
        · exact .inl (.of h1)
        · exact .inr h1
      have lb : SqL K H1 b ys ∨ SqT K H1 b ys := by
        rcases hab2 with ⟨_, h1⟩ | ⟨_, h1⟩
        · exact .inl (.of h1)
        · exact .inr h1
      refine iteF ⟨_, rfl, a, xs, rfl, la, _, rfl, b, ys, rfl, lb, rfl, _, rfl, ?_⟩
      rw [hl, decide_eq_true (rfl : V.int (ys.length : Int) = V.int (ys.length : Int))]
      refine iteT (r_cb (r_cons (lcR_ev (n := ys.length) (kp := fun _ => true) (RB := fun _ y _ => y = .bl true) ?_ (by omega) (fun _ _ _ _ _ e => e) ?_ _ fun v H3 e3 hnew => ?_)))
      · exact fun Q k => ⟨_, rfl, b, ys, rfl, lb, k _ Ex.rfl⟩
      · intro H3 e3 i hi H4 e4
        refine ⟨_, gv_name, rfl, fun H5 e5 => tv_yes, fun _ H5 e5 Q k => ?_⟩
        have e35 := (e3.trans e4).trans e5
        have hix : i < xs.length := by omega
        have gx := List.getElem?_eq_getElem hix
        have gy := List.getElem?_eq_getElem hi
        have sel : ∀ (z : Addr) (zs : List V) (v : V), (SqL K H1 z zs ∨ SqT K H1 z zs) → zs[i]? = some v → ∀ Q' : VK, Q' v H5 → rIx K (.ref z) (.int (i : Int)) H5 Q' := fun z zs v hz hv Q' hq => by
          rcases hz with hz | hz
          · exact .inl ⟨z, zs, _, v, rfl, rfl, SqLex hz e35, atI_nat hv, hq⟩
          · exact .inr (.inl ⟨z, zs, _, v, rfl, rfl, hz.ki e35.ki, atI_nat hv, hq⟩)
        refine ⟨_, rfl, _, rfl, sel a xs _ la gx _ ⟨_, rfl, _, rfl, sel b ys _ lb gy _ ?_⟩⟩
        exact ⟨_, _, rfl, (hit i _ _ gx gy).ex (x1.trans e35), fun H6 e6 => k _ _ e6 rfl⟩
      · obtain ⟨p, rfl, hp, hps⟩ := hnew.vals (f := fun _ => V.bl true)
        refine ⟨p, (((List.range ys.length).filter fun _ => true).map fun _ => true), rfl, .of (by rw [hps, List.map_map]; rfl), ?_⟩
        have ea : ((((List.range ys.length).filter fun _ => true).map fun _ => true).all id) = true := by
          rw [List.all_eq_true]
          intro z hz
          obtain ⟨_, _, rfl⟩ := List.mem_map.mp hz
          rfl
        rw [ea]
        exact q _ (x1.trans e3)
theorem d__law_same {P : Program} {w : World} {K : PySem.W.Frag} {mg : PySem.Str → Option Value} {base : Heap} {C : Addr} (T : Txt K mg C) : Dfn P w K mg base "_law_same" 6 ["found", "due"] (sp__law_same K C) := d_sameS T (d_sameS T (d_sameS T (d_sameS T (d_same0 T) (by decide)) (by decide)) (by decide)) (by decide)

theorem d_gone {P : Program} {w : World} {K : PySem.W.Frag} {mg : PySem.Str → Option Value} {base : Heap} {C : Addr} (T : Txt K mg C) : Dfn P w K mg base "gone" 1 ["stand", "latches", "up"] (sp_gone K C) := by
  obtain ⟨f, fd, F, hm⟩ := T.f_gone
  refine ⟨f, fd, hm, F.kp, F.binds (ps := ["stand", "latches", "up"]) (fun _ _ _ _ _ _ us hl => match us, hl with | [_, _, _], _ => rfl), F.ok sc_gone (fun vs H Q E h => ?_) (fun cdv A outer s H vs Q E hr h => ?_)⟩
  · unfold sp_gone at h
    repeat (obtain ⟨_, h⟩ := h)
    subst_vars
    rfl
  · obtain ⟨t, p, st, ls, n, up, rfl, hst, hp, hn14, hl14, ho, hup, q⟩ := h
    have hsl := ho.len
    rw [nints_ints] at hp
    refine ⟨_, (pss_cons (ps_if (pt_val (pv 2)) (pss_one (ps_ret (pe_callTy (kTuple (K := K)) (by rfl) T.b_tuple (by decide +kernel) (pa_cons (pe_callB cr_sortedI (by rfl) T.b_sorted (by decide +kernel) (pa_cons (pe_lst (StX.pa_star (pv 0) (StX.pa_star (pv 1) pa_nil))) pa_nil)) pa_nil)))) pss_nil)
      (pss_one (ps_ret (pe_callTy (kTuple (K := K)) (by rfl) T.b_tuple (by decide +kernel) (pa_cons (pe_lc (own := [("latch", 3)]) (g := (gName 3)) (tt := _)  rfl sc_gone.nd (pi_tup (pv 0)) (blkOk_by (own := [("latch", 3)]) (N := ["stand", "latches", "up", "latch"]) (sc := defScope s_gone) (by decide +kernel)) (fun _ _ _ _ _ => (pg_name (i := 3) sc_gone.nd rfl (by first | exact Or.inl rfl | exact Or.inr rfl))) (fun _ _ _ _ _ => (pts_one (pt_cmpR (kOpNotIn (K := K)) (pv 3) (pv 1) (by first | exact nomark _ | rfl)))) (fun _ _ _ _ _ => (pv 3))) pa_nil))))), ?_⟩
    cases up with
    | true =>
      obtain ⟨hnd, hin⟩ := hup rfl
      refine ⟨_, rfl, _, rfl, iteT ?_⟩
      refine ⟨_, rfl, t, _, rfl, .inl hst, _, rfl, p, _, rfl, .inr hp, ?_, fun l nl => ?_⟩
      · refine Nat.le_trans (show _ ≤ 28 from ?_) (by decide)
        rw [List.length_append, List.length_append, List.length_map, List.length_map, List.length_map, List.length_nil]
        omega
      have e : st.map V.int ++ ((ls.map fun (l : Nat) => (l : Int)).map V.int ++ []) = (st ++ ls.map fun (l : Nat) => (l : Int)).map V.int := by rw [List.append_nil, List.map_append]
      refine ⟨l, st ++ ls.map (fun (l : Nat) => (l : Int)), rfl, by rw [← e]; exact .of upd_same, fun ns p2 hpm hpw np2 => ?_⟩
      rw [sort_up ho hpm hpw hnd hin]
      exact ⟨p2, _, rfl, .inl ⟨.of upd_same, fun t' nt' => q t' _ (((Ex.new nl).trans (Ex.new np2)).trans (Ex.new nt')) upd_same⟩⟩
    | false =>
      refine ⟨_, rfl, _, rfl, iteF (r_next ?_)⟩
      dsimp only
      refine r_ret (r_cb (r_cons (lcT_ev (K := K) (as := st) (kp := fun x => !decide (x ∈ ls.map fun (l : Nat) => (l : Int))) (RA := fun _ x (z : Int) => x = .int z) (RB := fun z y _ => y = .int z) ?_ (by omega) (fun _ _ _ _ _ e => e) ?_ _ fun v G1 e1 hnew => ?_)))
      · exact fun Q k => ⟨_, rfl, k _ _ Ex.rfl ⟨t, _, rfl, hst, Al.of_map (R := fun x (z : Int) => x = .int z) (f := V.int) fun _ _ => rfl⟩⟩
      · rintro G1 f1 k x z hk rfl G2 f2
        refine ⟨_, gv_name, rfl, fun G3 f3 Q k => ?_, fun _ G3 f3 Q k => ⟨_, rfl, k _ _ Ex.rfl rfl⟩⟩
        refine ⟨_, rfl, _, rfl, p, _, rfl, .inl (SqLex hp ((f1.trans f2).trans f3)), rfl, flat_ints _, _, rfl, ?_⟩
        show Q (!inV (V.int z) ((ls.map fun (l : Nat) => (l : Int)).map V.int)) G3
        rw [inV_int]
        exact k _ Ex.rfl
      · obtain ⟨pl, rfl, hpl, hpls⟩ := hnew.vals (f := V.int)
        rw [filter_down ho ls] at hpls
        exact ⟨pl, _, rfl, .inl ⟨.of hpls, fun t' nt' => q t' _ (e1.trans (Ex.new nt')) upd_same⟩⟩

theorem d_House___len__ {P : Program} {w : World} {K : PySem.W.Frag} {mg : PySem.Str → Option Value} {base : Heap} {C : Addr} (T : Txt K mg C) : Mtd P w K mg base C "__len__" 1 ["self"] (sp_House___len__ K C) := by
  obtain ⟨f, fd, F, hm⟩ := T.f_House___len__
  refine ⟨f, fd, hm, F.binds (ps := ["self"]) (fun _ _ _ _ _ _ us hl => match us, hl with | [_], _ => rfl), F.ok sc_House___len__ (fun vs H Q E h => ?_) (fun cdv A outer s H vs Q E hr h => ?_)⟩
  · unfold sp_House___len__ at h
    repeat (obtain ⟨_, h⟩ := h)
    subst_vars
    rfl
  · obtain ⟨a, h, rfl, hv, q⟩ := h
    obtain ⟨dx, tl, th, tn, xl, xh, xn, h1, h2, h3, h4, h5, h6, h7⟩ := hv.ob
    refine ⟨_, (pss_one (ps_ret (pe_callB (kLen (K := K)) (by rfl) T.b_len (by decide +kernel) (pa_cons (kFld (K := K) (pv 0) rfl) pa_nil)))), ?_⟩
    refine ⟨_, rfl, a, C, dx, _, _, rfl, h1, T.cls, T.n_latches, hfs_lat _ _ _, tl, xl, rfl, .inr h2, ?_⟩
    rw [h3.1]
    exact q

theorem d_movable {P : Program} {w : World} {K : PySem.W.Frag} {mg : PySem.Str → Option Value} {base : Heap} {C : Addr} (T : Txt K mg C) : Dfn P w K mg base "movable" 3 ["house", "stand", "up"] (sp_movable K C) := by
  have D_House___len__ := d_House___len__ (P := P) (w := w) (base := base) T
  obtain ⟨f, fd, F, hm⟩ := T.f_movable
  refine ⟨f, fd, hm, F.kp, F.binds (ps := ["house", "stand", "up"]) (fun _ _ _ _ _ _ us hl => match us, hl with | [_, _, _], _ => rfl), F.ok sc_movable (fun vs H Q E h => ?_) (fun cdv A outer s H vs Q E hr h => ?_)⟩
  · unfold sp_movable at h
    repeat (obtain ⟨_, h⟩ := h)
    subst_vars
    rfl
  · obtain ⟨a, h, t, st, up, rfl, hv, hst, q⟩ := h
    obtain ⟨dx, tl, th, tn, xl, xh, xn, h1, _⟩ := hv.ob
    have hn := hv.ok.n14
    refine ⟨_, (pss_one (ps_ret (pe_lc (own := [("latch", 3)]) (g := (gName 3)) (tt := _)  rfl sc_movable.nd (pi_range1 (by rfl) T.b_range (pa_cons (pe_lenO D_House___len__ (hr.mono (by first | decide | omega)) (by rfl) T.b_len (pa_cons (pv 0) pa_nil)) pa_nil)) (blkOk_by (own := [("latch", 3)]) (N := ["house", "stand", "up", "latch"]) (sc := defScope s_movable) (by decide +kernel)) (fun _ _ _ _ _ => (pg_name (i := 3) sc_movable.nd rfl (by first | exact Or.inl rfl | exact Or.inr rfl))) (fun _ _ _ _ _ => (pts_one (pt_cmpR op_ne (pe_cmpR (kOpIn (K := K)) (pv 3) (pv 1) (by first | exact nomark _ | rfl)) (pv 2) (nomark _)))) (fun _ _ _ _ _ => (pv 3))))), ?_⟩
    refine r_ret (lcR_ev (n := h.n) (kp := fun l => decide ((l : Int) ∈ st) != up) (RB := fun (l : Nat) y _ => y = .int (l : Int)) ?_ (by omega) (fun _ _ _ _ _ e => e) ?_ _ fun v H1 e1 hn => ?_)
    · exact fun Q k => ⟨_, rfl, a, dx, _, rfl, h1, a, h, rfl, hv, _, rfl, ⟨by omega, by omega⟩, k _ Ex.rfl⟩
    · intro H1 e1 i hi H2 e2
      refine ⟨_, gv_name, rfl, fun H3 e3 Q k => ?_, fun _ H3 e3 Q k => ?_⟩
      · refine ⟨_, rfl, _, rfl, t, _, rfl, .inr (hst.ki ((e1.trans e2).trans e3).ki), rfl, flat_ints st, _, rfl, rfl, _, rfl, ?_⟩
        show Q (!decide (V.bl (inV (V.int (i : Int)) (st.map V.int)) = V.bl up)) H3
        rw [inV_int]
        have e : (!decide (V.bl (decide ((i : Int) ∈ st)) = V.bl up)) = (decide ((i : Int) ∈ st) != up) := by
          cases decide ((i : Int) ∈ st) <;> cases up <;> rfl
        rw [e]
        exact k _ Ex.rfl
      · exact ⟨_, rfl, k _ _ Ex.rfl rfl⟩
    · obtain ⟨p, rfl, hp, hps⟩ := hn.vals (f := fun (l : Nat) => V.int (l : Int))
      exact q p H1 hp e1 hps

theorem d_is_latch {P : Program} {w : World} {K : PySem.W.Frag} {mg : PySem.Str → Option Value} {base : Heap} {C : Addr} (T : Txt K mg C) : Dfn P w K mg base "is_latch" 3 ["house", "thing"] (sp_is_latch K C) := by
  have D_House___len__ := d_House___len__ (P := P) (w := w) (base := base) T
  have D_is_whole := d_is_whole (P := P) (w := w) (base := base) T
  obtain ⟨f, fd, F, hm⟩ := T.f_is_latch
  refine ⟨f, fd, hm, F.kp, F.binds (ps := ["house", "thing"]) (fun _ _ _ _ _ _ us hl => match us, hl with | [_, _], _ => rfl), F.ok sc_is_latch (fun vs H Q E h => ?_) (fun cdv A outer s H vs Q E hr h => ?_)⟩
  · unfold sp_is_latch at h
    repeat (obtain ⟨_, h⟩ := h)
    subst_vars
    rfl
  · obtain ⟨a, h, x, n, rfl, hv, hs, q⟩ := h
    refine ⟨_, (pss_one (ps_ret (pe_and (pe_def D_is_whole (hr.mono (by first | decide | omega)) (by rfl) (pa_cons (pv 1) pa_nil)) (pe_one (pe_chain op_le op_lt pe_int (pv 1) (pe_lenO D_House___len__ (hr.mono (by first | decide | omega)) (by rfl) T.b_len (pa_cons (pv 0) pa_nil))))))), ?_⟩
    refine ⟨_, rfl, x, n, rfl, hs, _, rfl, ?_⟩
    obtain ⟨dx, tl, th, tn, xl, xh, xn, h1, _⟩ := hv.ob
    by_cases hw : wholeV x = true
    · rw [hw]
      obtain ⟨i, rfl⟩ : ∃ i, x = .int i := by
        cases x <;> first | exact ⟨_, rfl⟩ | exact absurd (show false = true from hw) Bool.false_ne_true
      refine iteT ⟨_, rfl, _, _, rfl, rfl, _, rfl, ?_⟩
      have q' : Q (.bl (decide (0 ≤ i) && decide (i < (h.n : Int)))) H := q
      by_cases h0 : 0 ≤ i
      · rw [decide_eq_true h0] at q' ⊢
        refine iteT ⟨_, rfl, a, dx, _, rfl, h1, a, h, rfl, hv, _, rfl, ⟨by omega, by have := hv.ok.n14; omega⟩, _, _, rfl, rfl, ?_⟩
        exact q'
      · rw [decide_eq_false h0] at q' ⊢
        exact iteF q'
    · have hw' : wholeV x = false := by simpa using hw
      rw [hw']
      refine iteF ?_
      have : latchB h.n x = false := by
        cases x <;> first | rfl | exact absurd rfl hw
      rw [this] at q
      exact q

theorem d_check_latch {P : Program} {w : World} {K : PySem.W.Frag} {mg : PySem.Str → Option Value} {base : Heap} {C : Addr} (T : Txt K mg C) : Dfn P w K mg base "check_latch" 4 ["house", "latch"] (sp_check_latch K C) := by
  have D_is_latch := d_is_latch (P := P) (w := w) (base := base) T
  obtain ⟨f, fd, F, hm⟩ := T.f_check_latch
  refine ⟨f, fd, hm, F.kp, F.binds (ps := ["house", "latch"]) (fun _ _ _ _ _ _ us hl => match us, hl with | [_, _], _ => rfl), F.ok sc_check_latch (fun vs H Q E h => ?_) (fun cdv A outer s H vs Q E hr h => ?_)⟩
  · unfold sp_check_latch at h
    repeat (obtain ⟨_, h⟩ := h)
    subst_vars
    rfl
  · obtain ⟨a, h, l, rfl, hv, hl, q⟩ := h
    refine ⟨_, (pss_one (ps_if (pt_not (pt_val (pe_def D_is_latch (hr.mono (by first | decide | omega)) (by rfl) (pa_cons (pv 0) (pa_cons (pv 1) pa_nil))))) (pss_one ps_never) pss_nil)), ?_⟩
    refine ⟨_, rfl, _, rfl, a, h, _, _, rfl, hv, .int _, _, rfl, ?_⟩
    have e : latchB h.n (.int (l : Int)) = true := by
      show (decide (0 ≤ (l : Int)) && decide ((l : Int) < (h.n : Int))) = true
      rw [decide_eq_true (show 0 ≤ (l : Int) by omega), decide_eq_true (show (l : Int) < (h.n : Int) by omega)]
      rfl
    rw [e]
    exact iteF q

theorem d_House_down_at {P : Program} {w : World} {K : PySem.W.Frag} {mg : PySem.Str → Option Value} {base : Heap} {C : Addr} (T : Txt K mg C) : Mtd P w K mg base C "down_at" 5 ["self", "latch"] (sp_House_down_at K C) := by
  have D_check_latch := d_check_latch (P := P) (w := w) (base := base) T
  obtain ⟨f, fd, F, hm⟩ := T.f_House_down_at
  refine ⟨f, fd, hm, F.binds (ps := ["self", "latch"]) (fun _ _ _ _ _ _ us hl => match us, hl with | [_, _], _ => rfl), F.ok sc_House_down_at (fun vs H Q E h => ?_) (fun cdv A outer s H vs Q E hr h => ?_)⟩
  · unfold sp_House_down_at at h
    repeat (obtain ⟨_, h⟩ := h)
    subst_vars
    rfl
  · obtain ⟨a, h, l, rfl, hv, hl, q⟩ := h
    obtain ⟨dx, tl, th, tn, xl, xh, xn, h1, h2, h3, h4, h5, h6, h7⟩ := hv.ob
    refine ⟨_, (pss_cons (ps_expr (pe_def D_check_latch (hr.mono (by first | decide | omega)) (by rfl) (pa_cons (pv 0) (pa_cons (pv 1) pa_nil))))
      (pss_one (ps_ret (pe_ix (kIxT (K := K)) (pe_ix (kIxT (K := K)) (kFld (K := K) (pv 0) rfl) (pv 1) (fun _ _ => rfl)) pe_int (fun _ _ => rfl))))), ?_⟩
    obtain ⟨x, hx, t, rfl, hs⟩ := h3.get' (lat_get hl)
    exact ⟨_, rfl, _, rfl, a, h, l, rfl, hv, hl, _, rfl, a, C, dx, _, _, rfl, h1, T.cls, T.n_latches, hfs_lat _ _ _, _, rfl, tl, xl, _, _, rfl, rfl, h2, atI_nat hx, t, _, _, _, rfl, rfl, hs, atI_nat (j := 1) rfl, q⟩

theorem d_House_up_at {P : Program} {w : World} {K : PySem.W.Frag} {mg : PySem.Str → Option Value} {base : Heap} {C : Addr} (T : Txt K mg C) : Mtd P w K mg base C "up_at" 5 ["self", "latch"] (sp_House_up_at K C) := by
  have D_check_latch := d_check_latch (P := P) (w := w) (base := base) T
  obtain ⟨f, fd, F, hm⟩ := T.f_House_up_at
  refine ⟨f, fd, hm, F.binds (ps := ["self", "latch"]) (fun _ _ _ _ _ _ us hl => match us, hl with | [_, _], _ => rfl), F.ok sc_House_up_at (fun vs H Q E h => ?_) (fun cdv A outer s H vs Q E hr h => ?_)⟩
  · unfold sp_House_up_at at h
    repeat (obtain ⟨_, h⟩ := h)
    subst_vars
    rfl
  · obtain ⟨a, h, l, rfl, hv, hl, q⟩ := h
    obtain ⟨dx, tl, th, tn, xl, xh, xn, h1, h2, h3, h4, h5, h6, h7⟩ := hv.ob
    refine ⟨_, (pss_cons (ps_expr (pe_def D_check_latch (hr.mono (by first | decide | omega)) (by rfl) (pa_cons (pv 0) (pa_cons (pv 1) pa_nil))))
      (pss_one (ps_ret (pe_ix (kIxT (K := K)) (pe_ix (kIxT (K := K)) (kFld (K := K) (pv 0) rfl) (pv 1) (fun _ _ => rfl)) pe_int (fun _ _ => rfl))))), ?_⟩
    obtain ⟨x, hx, t, rfl, hs⟩ := h3.get' (lat_get hl)
    exact ⟨_, rfl, _, rfl, a, h, l, rfl, hv, hl, _, rfl, a, C, dx, _, _, rfl, h1, T.cls, T.n_latches, hfs_lat _ _ _, _, rfl, tl, xl, _, _, rfl, rfl, h2, atI_nat hx, t, _, _, _, rfl, rfl, hs, atI_nat (j := 0) rfl, q⟩

theorem d_House_lenders {P : Program} {w : World} {K : PySem.W.Frag} {mg : PySem.Str → Option Value} {base : Heap} {C : Addr} (T : Txt K mg C) : Mtd P w K mg base C "lenders" 5 ["self", "latch"] (sp_House_lenders K C) := by
  have D_check_latch := d_check_latch (P := P) (w := w) (base := base) T
  obtain ⟨f, fd, F, hm⟩ := T.f_House_lenders
  refine ⟨f, fd, hm, F.binds (ps := ["self", "latch"]) (fun _ _ _ _ _ _ us hl => match us, hl with | [_, _], _ => rfl), F.ok sc_House_lenders (fun vs H Q E h => ?_) (fun cdv A outer s H vs Q E hr h => ?_)⟩
  · unfold sp_House_lenders at h
    repeat (obtain ⟨_, h⟩ := h)
    subst_vars
    rfl
  · obtain ⟨a, h, l, rfl, hv, hl, q⟩ := h
    obtain ⟨dx, tl, th, tn, xl, xh, xn, h1, h2, h3, h4, h5, h6, h7⟩ := hv.ob
    refine ⟨_, (pss_cons (ps_expr (pe_def D_check_latch (hr.mono (by first | decide | omega)) (by rfl) (pa_cons (pv 0) (pa_cons (pv 1) pa_nil))))
      (pss_one (ps_ret (pe_ix (kIxT (K := K)) (kFld (K := K) (pv 0) rfl) (pv 1) (fun _ _ => rfl))))), ?_⟩
    obtain ⟨x, hx, t, xs, rfl, hs, hal⟩ := h7.get' (lends_get hl)
    exact ⟨_, rfl, _, rfl, a, h, l, rfl, hv, hl, _, rfl, a, C, dx, _, _, rfl, h1, T.cls, T.n_lenders, hfs_len _ _ _, _, rfl, tn, xn, _, _, rfl, rfl, h6, atI_nat hx, q t xs hs hal⟩

theorem d_lent_in {P : Program} {w : World} {K : PySem.W.Frag} {mg : PySem.Str → Option Value} {base : Heap} {C : Addr} (T : Txt K mg C) : Dfn P w K mg base "lent_in" 6 ["house", "stand", "latch"] (sp_lent_in K C) := by
  have D_House_lenders := d_House_lenders (P := P) (w := w) (base := base) T
  obtain ⟨f, fd, F, hm⟩ := T.f_lent_in
  refine ⟨f, fd, hm, F.kp, F.binds (ps := ["house", "stand", "latch"]) (fun _ _ _ _ _ _ us hl => match us, hl with | [_, _, _], _ => rfl), F.ok sc_lent_in (fun vs H Q E h => ?_) (fun cdv A outer s H vs Q E hr h => ?_)⟩
  · unfold sp_lent_in at h
    repeat (obtain ⟨_, h⟩ := h)
    subst_vars
    rfl
  · obtain ⟨a, h, t, st, l, rfl, hv, hst, hl, q⟩ := h
    obtain ⟨dx, tl, th, tn, xl, xh, xn, h1, _⟩ := hv.ob
    refine ⟨_, (pss_one (ps_ret (pe_callB (kSum (K := K)) (by rfl) T.b_sum (by decide +kernel) (pa_cons (pe_lc (own := [("one", 3), ("many", 4)]) (g := (gTup K 2 (gCons (gName 3) (gCons (gName 4) gNil)))) (tt := _)  rfl sc_lent_in.nd (pi_tup (pe_mth D_House_lenders (pv 0) T.cls (hr.mono (by first | decide | omega)) (pa_cons (pv 2) pa_nil))) (blkOk_by (own := [("one", 3), ("many", 4)]) (N := ["house", "stand", "latch", "one", "many"]) (sc := defScope s_lent_in) (by decide +kernel)) (fun _ _ _ _ _ => (pg_tup rfl (pgs_cons (pg_name (i := 3) sc_lent_in.nd rfl (by first | exact Or.inl rfl | exact Or.inr rfl)) (pgs_cons (pg_name (i := 4) sc_lent_in.nd rfl (by first | exact Or.inl rfl | exact Or.inr rfl)) pgs_nil)))) (fun _ _ _ _ _ => (pts_one (pt_cmpR (kOpIn (K := K)) (pv 3) (pv 1) (by first | exact nomark _ | rfl)))) (fun _ _ _ _ _ => (pv 4))) pa_nil)))), ?_⟩
    refine r_ret (r_cb (r_cons (lcT_ev (K := K) (as := lendOf h.hel (l : Int)) (kp := fun p => decide (p.1 ∈ st)) (RA := fun H1 => PairV K H1) (RB := fun p y _ => y = .int p.2) ?_ (small_lend _ _ (by have := hv.ok.few; omega)) (fun _ _ _ _ _ e => e) ?_ _ fun v H1 e1 hn => ?_)))
    · exact fun Q k => ⟨_, rfl, a, dx, _, rfl, h1, hfs_no _ _ _ (by decide +kernel) (by decide +kernel) (by decide +kernel), _, rfl, a, h, l, rfl, hv, hl, fun t2 xs2 hx hal => k _ _ Ex.rfl ⟨t2, xs2, rfl, hx, hal⟩⟩
    · rintro H1 e1 i x p hi ⟨tx, rfl, hx⟩ H2 e2
      refine ⟨_, gv_tup2 (hx.ki e2.ki), rfl, fun H3 e3 Q k => ?_, fun _ H3 e3 Q k => ?_⟩
      · refine ⟨_, rfl, _, rfl, t, _, rfl, .inr (hst.ki ((e1.trans e2).trans e3).ki), rfl, flat_ints st, _, rfl, ?_⟩
        show Q (inV (V.int p.1) (st.map V.int)) H3
        rw [inV_int]
        exact k _ Ex.rfl
      · exact ⟨_, rfl, k _ _ Ex.rfl rfl⟩
    · obtain ⟨p, rfl, hp, hps⟩ := hn.ints
      exact ⟨p, _, rfl, .of hps, q _ e1⟩

theorem d_would_go {P : Program} {w : World} {K : PySem.W.Frag} {mg : PySem.Str → Option Value} {base : Heap} {C : Addr} (T : Txt K mg C) : Dfn P w K mg base "would_go" 7 ["house", "stand", "swell", "latch", "up"] (sp_would_go K C) := by
  have D_House_down_at := d_House_down_at (P := P) (w := w) (base := base) T
  have D_House_up_at := d_House_up_at (P := P) (w := w) (base := base) T
  have D_lent_in := d_lent_in (P := P) (w := w) (base := base) T
  obtain ⟨f, fd, F, hm⟩ := T.f_would_go
  refine ⟨f, fd, hm, F.kp, F.binds (ps := ["house", "stand", "swell", "latch", "up"]) (fun _ _ _ _ _ _ us hl => match us, hl with | [_, _, _, _, _], _ => rfl), F.ok sc_would_go (fun vs H Q E h => ?_) (fun cdv A outer s H vs Q E hr h => ?_)⟩
  · unfold sp_would_go at h
    repeat (obtain ⟨_, h⟩ := h)
    subst_vars
    rfl
  · obtain ⟨a, h, t, st, s, l, up, rfl, hv, hst, hl, q⟩ := h
    refine ⟨_, (pss_cons (ps_set (i := 5) sc_would_go.nd rfl (by first | exact Or.inl rfl | exact Or.inr rfl) (pe_op op_add (pv 2) (pe_def D_lent_in (hr.mono (by first | decide | omega)) (by rfl) (pa_cons (pv 0) (pa_cons (pv 1) (pa_cons (pv 3) pa_nil))))))
      (pss_cons (ps_if (pt_val (pv 4)) (pss_one (ps_ret (pe_cmpR op_ge (pv 5) (pe_mth D_House_up_at (pv 0) T.cls (hr.mono (by first | decide | omega)) (pa_cons (pv 3) pa_nil)) (nomark _)))) pss_nil)
      (pss_one (ps_ret (pe_cmpR op_le (pv 5) (pe_mth D_House_down_at (pv 0) T.cls (hr.mono (by first | decide | omega)) (pa_cons (pv 3) pa_nil)) (nomark _)))))), ?_⟩
    refine ⟨_, rfl, _, rfl, _, rfl, _, rfl, a, h, t, st, l, rfl, hv, hst, hl, fun H1 e1 => ⟨_, _, rfl, rfl, _, rfl, _, rfl, ?_⟩⟩
    have hv1 := hv.ki e1.ki
    obtain ⟨dx, tl, th, tn, xl, xh, xn, h1, _⟩ := hv1.ob
    cases up with
    | true => exact iteT ⟨_, rfl, _, rfl, a, dx, _, rfl, h1, hfs_no _ _ _ (by decide +kernel) (by decide +kernel) (by decide +kernel), _, rfl, a, h, l, rfl, hv1, hl, _, _, rfl, rfl, q H1 e1⟩
    | false => exact iteF ⟨_, rfl, _, rfl, a, dx, _, rfl, h1, hfs_no _ _ _ (by decide +kernel) (by decide +kernel) (by decide +kernel), _, rfl, a, h, l, rfl, hv1, hl, _, _, rfl, rfl, q H1 e1⟩

theorem d_wanting {P : Program} {w : World} {K : PySem.W.Frag} {mg : PySem.Str → Option Value} {base : Heap} {C : Addr} (T : Txt K mg C) : Dfn P w K mg base "wanting" 8 ["house", "stand", "swell", "up"] (sp_wanting K C) := by
  have D_movable := d_movable (P := P) (w := w) (base := base) T
  have D_would_go := d_would_go (P := P) (w := w) (base := base) T
  obtain ⟨f, fd, F, hm⟩ := T.f_wanting
  refine ⟨f, fd, hm, F.kp, F.binds (ps := ["house", "stand", "swell", "up"]) (fun _ _ _ _ _ _ us hl => match us, hl with | [_, _, _, _], _ => rfl), F.ok sc_wanting (fun vs H Q E h => ?_) (fun cdv A outer s H vs Q E hr h => ?_)⟩
  · unfold sp_wanting at h
    repeat (obtain ⟨_, h⟩ := h)
    subst_vars
    rfl
  · obtain ⟨a, h, t, st, s, up, rfl, hv, hst, q⟩ := h
    have hn := hv.ok.n14
    have hm := mov_len h st up
    refine ⟨_, (pss_one (ps_ret (pe_lc (own := [("latch", 4)]) (g := (gName 4)) (tt := _)  rfl sc_wanting.nd (pi_list (pe_def D_movable (hr.mono (by first | decide | omega)) (by rfl) (pa_cons (pv 0) (pa_cons (pv 1) (pa_cons (pv 3) pa_nil))))) (blkOk_by (own := [("latch", 4)]) (N := ["house", "stand", "swell", "up", "latch"]) (sc := defScope s_wanting) (by decide +kernel)) (fun _ _ _ _ _ => (pg_name (i := 4) sc_wanting.nd rfl (by first | exact Or.inl rfl | exact Or.inr rfl))) (fun _ _ _ _ _ => (pts_one (pt_val (pe_def D_would_go (hr.mono (by first | decide | omega)) (by rfl) (pa_cons (pv 0) (pa_cons (pv 1) (pa_cons (pv 2) (pa_cons (pv 4) (pa_cons (pv 3) pa_nil))))))))) (fun _ _ _ _ _ => (pv 4))))), ?_⟩
    refine r_ret (lcL_ev (K := K) (as := h.mov st up) (kp := fun l => h.goes st s l up) (RA := fun _ x (l : Nat) => x = .int (l : Int)) (RB := fun (l : Nat) y _ => y = .int (l : Int)) ?_ (by omega) (fun _ _ _ _ _ e => e) ?_ _ fun v H1 e1 hn => ?_)
    · exact fun Q k => ⟨_, rfl, _, rfl, _, rfl, a, h, t, st, up, rfl, hv, hst, fun p H1 hp e1 hps => k _ _ e1 ⟨p, _, rfl, .of hps, nints_al _⟩⟩
    · rintro H1 e1 i x l hi rfl H2 e2
      refine ⟨_, gv_name, rfl, fun H3 e3 Q k => ?_, fun _ H3 e3 Q k => ?_⟩
      · have e := ((e1.trans e2).trans e3).ki
        exact ⟨_, rfl, _, rfl, _, rfl, _, rfl, _, rfl, a, h, t, st, s, l, up, rfl, hv.ki e, hst.ki e, mov_lt (List.mem_of_getElem? hi), fun H4 e4 => ⟨_, rfl, k _ e4⟩⟩
      · exact ⟨_, rfl, k _ _ Ex.rfl rfl⟩
    · obtain ⟨p, rfl, hp, hps⟩ := hn.vals (f := fun (l : Nat) => V.int (l : Int))
      exact q p H1 hp e1 hps

theorem d_waves_of {P : Program} {w : World} {K : PySem.W.Frag} {mg : PySem.Str → Option Value} {base : Heap} {C : Addr} (T : Txt K mg C) : Dfn P w K mg base "waves_of" 9 ["house", "stand", "swell", "up"] (sp_waves_of K C) := by
  have D_gone := d_gone (P := P) (w := w) (base := base) T
  have D_wanting := d_wanting (P := P) (w := w) (base := base) T
  obtain ⟨f, fd, F, hm⟩ := T.f_waves_of
  refine ⟨f, fd, hm, F.kp, F.binds (ps := ["house", "stand", "swell", "up"]) (fun _ _ _ _ _ _ us hl => match us, hl with | [_, _, _, _], _ => rfl), F.ok sc_waves_of (fun vs H Q E h => ?_) (fun cdv A outer s H vs Q E hr h => ?_)⟩
  · unfold sp_waves_of at h
    repeat (obtain ⟨_, h⟩ := h)
    subst_vars
    rfl
  · obtain ⟨a, h, t, st, s, up, rfl, hv, hst, ho, hpos, q⟩ := h
    have hn14 := hv.ok.n14
    refine ⟨_, (pss_cons (ps_set (i := 4) sc_waves_of.nd rfl (by first | exact Or.inl rfl | exact Or.inr rfl) (pe_lst pa_nil))
      (pss_cons (ps_set (i := 5) sc_waves_of.nd rfl (by first | exact Or.inl rfl | exact Or.inr rfl) (pe_def D_wanting (hr.mono (by first | decide | omega)) (by rfl) (pa_cons (pv 0) (pa_cons (pv 1) (pa_cons (pv 2) (pa_cons (pv 3) pa_nil))))))
      (pss_cons (ps_while PassesOwn.never (kTruth (K := K) (pv 5)) (pss_cons (ps_expr (kBm (K := K) PySem.F.plainAttrs_list PySem.F.slot_list_append PySem.F.type_list_append mt_append (pv 4) (pa_cons (pv 5) pa_nil)))
      (pss_cons (ps_set (i := 1) sc_waves_of.nd rfl (by first | exact Or.inl rfl | exact Or.inr rfl) (pe_def D_gone (hr.mono (by first | decide | omega)) (by rfl) (pa_cons (pv 1) (pa_cons (pv 5) (pa_cons (pv 3) pa_nil)))))
      (pss_one (ps_set (i := 5) sc_waves_of.nd rfl (by first | exact Or.inl rfl | exact Or.inr rfl) (pe_def D_wanting (hr.mono (by first | decide | omega)) (by rfl) (pa_cons (pv 0) (pa_cons (pv 1) (pa_cons (pv 2) (pa_cons (pv 3) pa_nil))))))))))
      (pss_one (ps_ret (pv 4)))))), ?_⟩
    refine ⟨by show 0 ≤ sizeLine; decide, fun p np => ?_⟩
    have x0 : Ex H (upd H p (.lst [])) := Ex.new np
    have sp0 : (upd H p (.lst [])) p = some (.lst []) := upd_same
    generalize upd H p (.lst []) = H1 at *
    refine ⟨_, rfl, _, rfl, _, rfl, _, rfl, a, h, t, st, s, up, rfl, hv.ki x0.ki, hst.ki x0.ki, fun b H2 nb e2 hb => ?_⟩
    refine while_by (fun σ H' => ∃ (c : List Int) (t' b : Addr) (rs : List V) (ws : List (List Nat)), σ = [some (.ref a), some (.ref t'), some (.int s), some (.bl up), some (.ref p), some (.ref b)] ∧ Ex H H' ∧ SqT K H' t' (c.map V.int) ∧ StOk h.n c ∧ H' p = some (.lst rs) ∧ WavesV p H' rs ws ∧ RunOk h s up st ws ∧ c = foldS h.n up st ws ∧ H' b = some (.lst (nints (h.want c s up))) ∧ b ≠ p ∧ (∀ T, Clo h s up c T → Clo h s up st T) ∧ ws.length + (h.mov c up).length ≤ h.n) (fun _ H' => lenAt H' p) ?_ ?_ ?_
    · exact ⟨st, t, b, [], [], rfl, x0.trans e2, hst.ki (x0.trans e2).ki, ho, e2 _ _ sp0, Al.nil, fun i w hi => by simp at hi, rfl, hb, (ne_of_none sp0 nb).symm, fun T hT => hT, by rw [List.length_nil, Nat.zero_add]; exact mov_len h st up⟩
    · rintro σ G ⟨c, t', b, rs, ws, rfl, g0, gst, go, gp, gw, gr, gc, gb, gbp, gcl, glen⟩
      refine ⟨_, rfl, _, .inl ⟨_, .of gb, rfl⟩, ?_⟩
      rw [nints_ne]
      cases hw : (h.want c s up).isEmpty with
      | true =>
        refine iteF ?_
        have hw' : h.want c s up = [] := List.isEmpty_iff.mp hw
        subst gc
        exact ⟨_, rfl, q p rs ws G np g0 gp gw gr (gcl _ (Clo.self go hw')) (by omega)⟩
      | false =>
        have hne : h.want c s up ≠ [] := fun z => by rw [z] at hw; cases hw
        have hwl := want_len h c s up
        have hrl : rs.length = ws.length := gw.1
        refine iteT ?_
        refine ⟨_, rfl, .inl ⟨rfl, _, .of gp⟩, _, rfl, p, _, _, rfl, rfl, gp, Nat.lt_of_le_of_lt (show rs.length ≤ 14 by omega) (by decide), ?_⟩
        have kB : ExB p G (upd G p (.lst (rs ++ [V.ref b]))) := ExB.upd
        have k1 : Ki G (upd G p (.lst (rs ++ [V.ref b]))) := kB.ki gp
        have gp1 : (upd G p (.lst (rs ++ [V.ref b]))) p = some (.lst (rs ++ [V.ref b])) := upd_same
        have g1 : Ex H (upd G p (.lst (rs ++ [V.ref b]))) := g0.mut np
        generalize upd G p (.lst (rs ++ [V.ref b])) = G1 at *
        refine ⟨_, rfl, _, rfl, _, rfl, t', b, c, h.want c s up, h.n, up, rfl, gst.ki k1, .of (kB _ _ gbp gb), hn14, by omega, go, fun hu => ⟨?_, fun l hl => ⟨want_lt hl, ?_⟩⟩, fun t2 G2 f2 ht2 => ?_⟩
        · rw [List.nodup_iff_pairwise_ne]
          exact (want_rise h c s up).imp fun {a b} hab => by omega
        · have h5 := (mem_want.mp hl).2.1
          rw [hu] at h5
          exact of_decide_eq_false h5
        have ht2 := SqT.of (K := K) ht2
        have g2 := g1.trans f2
        refine ⟨_, rfl, _, rfl, _, rfl, _, rfl, a, h, t2, _, s, up, rfl, hv.ki g2.ki, ht2, fun b2 G3 nb2 f3 hb2 => ?_⟩
        have f13 := f2.trans f3
        have gw2 : WavesV p G3 (rs ++ [V.ref b]) (ws ++ [h.want c s up]) := by
          have := (gw.exB kB).imp (R' := fun x w => ∃ b, x = V.ref b ∧ b ≠ p ∧ G3 b = some (.lst (nints w))) fun _ _ ⟨b, h1, h2, h3⟩ => ⟨b, h1, h2, f13 _ _ h3⟩
          exact Al.snoc this ⟨b, rfl, gbp, f13 _ _ (kB _ _ gbp gb)⟩
        have gp3 := f13 _ _ gp1
        refine ⟨⟨stepS h.n c (h.want c s up) up, t2, b2, rs ++ [V.ref b], ws ++ [h.want c s up], rfl, g2.trans f3, ht2.ki f3.ki, stepS_ok _ _ _ _, gp3, gw2, ?_, ?_, hb2, (ne_of_none (f2 _ _ gp1) nb2).symm, fun T hT => gcl T (hT.step hpos go fun l hl => hl), ?_⟩, ?_⟩
        · have := gr.snoc
          rw [← gc] at this
          exact this
        · rw [foldS_snoc, ← gc]
        · have := mov_step (h := h) (s := s) (up := up) (st := c) hne fun l hl => hl
          rw [List.length_append, List.length_singleton]
          omega
        · show lenAt G3 p < lenAt G p
          unfold lenAt
          rw [gp3, gp]
          simp
          omega
    · rintro σ G Q Q' im ⟨v, e, k, tv, qq⟩
      exact ⟨v, e, k, tv, im _ _ qq⟩

theorem d_end_of {P : Program} {w : World} {K : PySem.W.Frag} {mg : PySem.Str → Option Value} {base : Heap} {C : Addr} (T : Txt K mg C) : Dfn P w K mg base "end_of" 10 ["house", "stand", "swell", "up"] (sp_end_of K C) := by
  have D_gone := d_gone (P := P) (w := w) (base := base) T
  have D_waves_of := d_waves_of (P := P) (w := w) (base := base) T
  obtain ⟨f, fd, F, hm⟩ := T.f_end_of
  refine ⟨f, fd, hm, F.kp, F.binds (ps := ["house", "stand", "swell", "up"]) (fun _ _ _ _ _ _ us hl => match us, hl with | [_, _, _, _], _ => rfl), F.ok sc_end_of (fun vs H Q E h => ?_) (fun cdv A outer s H vs Q E hr h => ?_)⟩
  · unfold sp_end_of at h
    repeat (obtain ⟨_, h⟩ := h)
    subst_vars
    rfl
  · obtain ⟨a, h, t, st, s, up, rfl, hv, hst, ho, hpos, q⟩ := h
    have hn14 := hv.ok.n14
    refine ⟨_, (pss_cons (ps_for PassesOwn.never rfl (pi_list (pe_def D_waves_of (hr.mono (by first | decide | omega)) (by rfl) (pa_cons (pv 0) (pa_cons (pv 1) (pa_cons (pv 2) (pa_cons (pv 3) pa_nil)))))) (pg_name (i := 4) sc_end_of.nd rfl (by first | exact Or.inl rfl | exact Or.inr rfl)) (pss_one (ps_set (i := 1) sc_end_of.nd rfl (by first | exact Or.inl rfl | exact Or.inr rfl) (pe_def D_gone (hr.mono (by first | decide | omega)) (by rfl) (pa_cons (pv 1) (pa_cons (pv 4) (pa_cons (pv 3) pa_nil)))))))
      (pss_one (ps_ret (pe_callTy (kTuple (K := K)) (by rfl) T.b_tuple (by decide +kernel) (pa_cons (pv 1) pa_nil))))), ?_⟩
    refine ⟨_, rfl, _, rfl, _, rfl, _, rfl, a, h, t, st, s, up, rfl, hv, hst, ho, hpos, fun p rs ws H1 np e1 hp hw hr hc hwl => ?_⟩
    refine ⟨p, rfl, ⟨_, .of hp⟩, for_list (K := K) (a := p) (xs := rs) (fun i σ H' => ∃ (t' : Addr) (v : Option V), σ = [some (.ref a), some (.ref t'), some (.int s), some (.bl up), v] ∧ Ex H1 H' ∧ SqT K H' t' ((foldS h.n up st (ws.take i)).map V.int) ∧ (H t = some (.tup (st.map V.int)) → H' t' = some (.tup ((foldS h.n up st (ws.take i)).map V.int)))) ⟨t, none, rfl, Ex.rfl, hst.ki e1.ki, fun z => e1 _ _ z⟩ (fun i σ H' _ ⟨_, _, _, e, _⟩ => .of (e _ _ hp)) ?_ ?_⟩
    · rintro i x σ G hi ⟨t', v, rfl, g0, gst, _⟩
      obtain ⟨w, hwi, b, rfl, hbp, hb⟩ := hw.get hi
      have ew := hr i w hwi
      have go : StOk h.n (foldS h.n up st (ws.take i)) := foldS_ok ho
      have hwl2 := want_len h (foldS h.n up st (ws.take i)) s up
      refine ⟨_, rfl, _, rfl, _, rfl, t', b, _, w, h.n, up, rfl, gst, .of (g0 _ _ hb), hn14, by rw [ew]; omega, go, fun hu => ⟨?_, fun l hl => ?_⟩, fun t2 G2 f2 ht2 => ⟨t2, _, rfl, g0.trans f2, ?_, fun _ => ?_⟩⟩
      · rw [List.nodup_iff_pairwise_ne, ew]
        exact (want_rise h _ s up).imp fun {a b} hab => by omega
      · rw [ew] at hl
        have h5 := (mem_want.mp hl).2.1
        rw [hu] at h5
        exact ⟨want_lt hl, by rw [hu]; exact of_decide_eq_false h5⟩
      · rw [take_snoc hwi, foldS_snoc]
        exact .of ht2
      · rw [take_snoc hwi, foldS_snoc]
        exact ht2
    · rintro σ G ⟨t', v, rfl, g0, gst, graw⟩
      rw [hw.1, List.take_length] at gst graw
      exact ⟨_, rfl, t', _, rfl, .inr ⟨gst, q t' _ G (e1.trans g0) gst graw hc⟩⟩

theorem d_carried {P : Program} {w : World} {K : PySem.W.Frag} {mg : PySem.Str → Option Value} {base : Heap} {C : Addr} (T : Txt K mg C) : Dfn P w K mg base "carried" 11 ["house", "stand", "start", "end"] (sp_carried K C) := by
  have D_end_of := d_end_of (P := P) (w := w) (base := base) T
  obtain ⟨f, fd, F, hm⟩ := T.f_carried
  refine ⟨f, fd, hm, F.kp, F.binds (ps := ["house", "stand", "start", "end"]) (fun _ _ _ _ _ _ us hl => match us, hl with | [_, _, _, _], _ => rfl), F.ok sc_carried (fun vs H Q E h => ?_) (fun cdv A outer s H vs Q E hr h => ?_)⟩
  · unfold sp_carried at h
    repeat (obtain ⟨_, h⟩ := h)
    subst_vars
    rfl
  · obtain ⟨a, h, t, st, s, f, rfl, hv, hst, ho, hpos, q⟩ := h
    refine ⟨_, (pss_one (ps_ret (pe_def D_end_of (hr.mono (by first | decide | omega)) (by rfl) (pa_cons (pv 0) (pa_cons (pv 1) (pa_cons (pv 3) (pa_cons (pe_cmpR op_ge (pv 3) (pv 2) (nomark _)) pa_nil))))))), ?_⟩
    exact ⟨_, rfl, _, rfl, _, rfl, _, rfl, _, rfl, _, _, rfl, rfl, a, h, t, st, f, decide (s ≤ f), rfl, hv, hst, ho, hpos, q⟩

theorem d_is_rising {P : Program} {w : World} {K : PySem.W.Frag} {mg : PySem.Str → Option Value} {base : Heap} {C : Addr} (T : Txt K mg C) : Dfn P w K mg base "is_rising" 2 ["thing"] (sp_is_rising K C) := by
  have D_is_whole := d_is_whole (P := P) (w := w) (base := base) T
  obtain ⟨f, fd, F, hm⟩ := T.f_is_rising
  refine ⟨f, fd, hm, F.kp, F.binds (ps := ["thing"]) (fun _ _ _ _ _ _ us hl => match us, hl with | [_], _ => rfl), F.ok sc_is_rising (fun vs H Q E h => ?_) (fun cdv A outer s H vs Q E hr h => ?_)⟩
  · rcases h with ⟨_, _, rfl, _⟩ | ⟨_, _, rfl, _⟩ <;> rfl
  · rcases h with ⟨a, xs, rfl, hx, hsm, q⟩ | ⟨x, n, rfl, hs, hn, q⟩
    · refine ⟨_, (pss_cons (ps_if (pt_not (pt_val (pe_callB (kIsi (K := K)) (by rfl) T.b_isinstance (by decide +kernel) (pa_cons (pv 0) (pa_cons (pe_bltn (v := .ty "tuple") (u := .type "tuple") (by rfl) T.b_tuple (by decide +kernel) rfl) pa_nil))))) (pss_one (ps_ret pe_bl)) pss_nil)
      (pss_cons (ps_set (i := 1) sc_is_rising.nd rfl (by first | exact Or.inl rfl | exact Or.inr rfl) (pe_un un_neg pe_int))
      (pss_cons (ps_for PassesOwn.never rfl (pi_tup (pv 0)) (pg_name (i := 2) sc_is_rising.nd rfl (by first | exact Or.inl rfl | exact Or.inr rfl)) (pss_cons (ps_if (PW.pt (pw_or (pt_not (pt_val (pe_def D_is_whole (hr.mono (by first | decide | omega)) (by rfl) (pa_cons (pv 2) pa_nil)))) (pw_or1 (pt_cmpR op_le (pv 2) (pv 1) (nomark _))))) (pss_one (ps_ret pe_bl)) pss_nil)
      (pss_one (ps_set (i := 1) sc_is_rising.nd rfl (by first | exact Or.inl rfl | exact Or.inr rfl) (pv 2)))))
      (pss_one (ps_ret pe_bl))))), ?_⟩
      refine ⟨_, rfl, _, _, _, _, _, rfl, .ty _, (Sml.tup (K := K) hx).ty, kit_ty (kit_tuple (Sml.tup (K := K) hx).kind), _, rfl, iteF ?_⟩
      refine ⟨_, rfl, ?_⟩
      refine ⟨_, rfl, a, rfl, ⟨xs, hx⟩, for_tup (K := K) (a := a) (xs := xs) (fun i σ H' => ∃ (l : Int) (v : Option V), σ = [some (.ref a), some (.int l), v] ∧ H' = H ∧ riseL (-1) xs = riseL l (xs.drop i)) ⟨-1, none, rfl, rfl, rfl⟩ (fun i σ H' _ ⟨_, _, _, e, _⟩ => by rw [e]; exact hx) ?_ ?_⟩
      · rintro i y σ H' hi ⟨l, v, rfl, rfl, er⟩
        obtain ⟨n, hy⟩ := hsm y (List.mem_of_getElem? hi)
        have ed : xs.drop i = y :: xs.drop (i + 1) := by
          obtain ⟨h1, h2⟩ := List.getElem?_eq_some_iff.mp hi
          rw [← h2]
          exact List.drop_eq_getElem_cons h1
        rw [ed] at er
        refine ⟨_, rfl, y, n, rfl, hy, _, rfl, ?_⟩
        by_cases hw : wholeV y = true
        · rw [hw]
          obtain ⟨j, rfl⟩ : ∃ j, y = .int j := by
            cases y <;> first | exact ⟨_, rfl⟩ | exact absurd (show false = true from hw) Bool.false_ne_true
          refine iteF ⟨_, rfl, _, rfl, _, _, rfl, rfl, _, rfl, ?_⟩
          have er' : riseL (-1) xs = (decide (l < j) && riseL j (xs.drop (i + 1))) := er
          by_cases hl : j ≤ l
          · rw [decide_eq_true hl]
            refine iteT ?_
            rw [er', decide_eq_false (show ¬ l < j by omega), Bool.false_and] at q
            exact q
          · rw [decide_eq_false hl]
            refine iteF ⟨_, rfl, j, some (.int j), rfl, rfl, ?_⟩
            rw [er', decide_eq_true (show l < j by omega), Bool.true_and]
        · have hw' : wholeV y = false := by simpa using hw
          rw [hw']
          refine iteT (iteT ?_)
          have er' : riseL (-1) xs = false := by
            rw [er]
            cases y <;> first | rfl | exact absurd rfl hw
          rw [er'] at q
          exact q
      · rintro σ H' ⟨l, v, rfl, rfl, er⟩
        have er' : riseL (-1) xs = true := by rw [er, List.drop_length]; rfl
        rw [er'] at q
        exact q
    · refine ⟨_, (pss_cons (ps_if (pt_not (pt_val (pe_callB (kIsi (K := K)) (by rfl) T.b_isinstance (by decide +kernel) (pa_cons (pv 0) (pa_cons (pe_bltn (v := .ty "tuple") (u := .type "tuple") (by rfl) T.b_tuple (by decide +kernel) rfl) pa_nil))))) (pss_one (ps_ret pe_bl)) pss_nil)
      (pss_cons (ps_set (i := 1) sc_is_rising.nd rfl (by first | exact Or.inl rfl | exact Or.inr rfl) (pe_un un_neg pe_int))
      (pss_cons (ps_for PassesOwn.never rfl (pi_tup (pv 0)) (pg_name (i := 2) sc_is_rising.nd rfl (by first | exact Or.inl rfl | exact Or.inr rfl)) (pss_cons (ps_if (PW.pt (pw_or (pt_not (pt_val (pe_def D_is_whole (hr.mono (by first | decide | omega)) (by rfl) (pa_cons (pv 2) pa_nil)))) (pw_or1 (pt_cmpR op_le (pv 2) (pv 1) (nomark _))))) (pss_one (ps_ret pe_bl)) pss_nil)
      (pss_one (ps_set (i := 1) sc_is_rising.nd rfl (by first | exact Or.inl rfl | exact Or.inr rfl) (pv 2)))))
      (pss_one (ps_ret pe_bl))))), ?_⟩
      refine ⟨_, rfl, _, _, _, _, _, rfl, .ty _, hs.ty, kit_ty (kit_tuple hs.kind), _, rfl, ?_⟩
      rw [decide_eq_false hn]
      exact iteT q

theorem d_is_rising_below {P : Program} {w : World} {K : PySem.W.Frag} {mg : PySem.Str → Option Value} {base : Heap} {C : Addr} (T : Txt K mg C) : Dfn P w K mg base "is_rising_below" 3 ["thing", "many"] (sp_is_rising_below K C) := by
  have D_is_rising := d_is_rising (P := P) (w := w) (base := base) T
  obtain ⟨f, fd, F, hm⟩ := T.f_is_rising_below
  refine ⟨f, fd, hm, F.kp, F.binds (ps := ["thing", "many"]) (fun _ _ _ _ _ _ us hl => match us, hl with | [_, _], _ => rfl), F.ok sc_is_rising_below (fun vs H Q E h => ?_) (fun cdv A outer s H vs Q E hr h => ?_)⟩
  · rcases h with ⟨_, _, _, rfl, _⟩ | ⟨_, _, _, rfl, _⟩ <;> rfl
  · rcases h with ⟨a, xs, n, rfl, hx, hsm, q⟩ | ⟨x, n, m, rfl, hs, hn, q⟩
    · refine ⟨_, (pss_one (ps_ret (pe_and (pe_def D_is_rising (hr.mono (by first | decide | omega)) (by rfl) (pa_cons (pv 0) pa_nil)) (pe_one (pe_or (pe_cmpR op_eq (pe_callB (kLen (K := K)) (by rfl) T.b_len (by decide +kernel) (pa_cons (pv 0) pa_nil)) pe_int (nomark _)) (pe_one (pe_cmpR op_lt (pe_ix (kIxT (K := K)) (pv 0) (pe_un un_neg pe_int) (fun _ _ => rfl)) (pv 1) (nomark _)))))))), ?_⟩
      refine ⟨_, rfl, .inl ⟨a, xs, rfl, hx, hsm, _, rfl, ?_⟩⟩
      cases hr1 : riseL (-1) xs with
      | false =>
        rw [hr1, Bool.false_and] at q
        exact iteF q
      | true =>
        rw [hr1, Bool.true_and] at q
        refine iteT ⟨_, rfl, a, xs, rfl, .inr hx, rfl, _, rfl, ?_⟩
        by_cases h0 : xs = []
        · subst h0
          rw [show decide (V.int (([] : List V).length : Int) = V.int 0) = true from by decide]
          exact iteT q
        · have e0 : decide (V.int (xs.length : Int) = V.int 0) = false := decide_eq_false (fun z => by
            have := V.int.inj z
            exact h0 (List.length_eq_zero_iff.mp (by omega)))
          rw [e0]
          obtain ⟨y, hy⟩ : ∃ y, xs.getLast? = some y := ⟨xs.getLast h0, List.getLast?_eq_getLast h0⟩
          obtain ⟨i, rfl⟩ := riseL_last _ _ hr1 y hy
          have hz : xs = xs.dropLast ++ [.int i] := by
            have := List.dropLast_concat_getLast h0
            rw [List.getLast?_eq_getLast h0] at hy
            rw [← Option.some.inj hy, this]
          have gl : atI xs (-1) = some (.int i) := by
            rw [hz]
            exact atI_last _ _
          refine iteF ⟨_, rfl, _, rfl, a, xs, _, _, rfl, rfl, hx, gl, _, rfl, _, _, rfl, rfl, ?_⟩
          unfold lastB at q
          rw [hy] at q
          exact q
    · refine ⟨_, (pss_one (ps_ret (pe_and (pe_def D_is_rising (hr.mono (by first | decide | omega)) (by rfl) (pa_cons (pv 0) pa_nil)) (pe_one (pe_or (pe_cmpR op_eq (pe_callB (kLen (K := K)) (by rfl) T.b_len (by decide +kernel) (pa_cons (pv 0) pa_nil)) pe_int (nomark _)) (pe_one (pe_cmpR op_lt (pe_ix (kIxT (K := K)) (pv 0) (pe_un un_neg pe_int) (fun _ _ => rfl)) (pv 1) (nomark _)))))))), ?_⟩
      exact ⟨_, rfl, .inr ⟨x, n, rfl, hs, hn, _, rfl, iteF q⟩⟩

theorem d_check_stand {P : Program} {w : World} {K : PySem.W.Frag} {mg : PySem.Str → Option Value} {base : Heap} {C : Addr} (T : Txt K mg C) : Dfn P w K mg base "check_stand" 4 ["house", "stand"] (sp_check_stand K C) := by
  have D_House___len__ := d_House___len__ (P := P) (w := w) (base := base) T
  have D_is_rising_below := d_is_rising_below (P := P) (w := w) (base := base) T
  obtain ⟨f, fd, F, hm⟩ := T.f_check_stand
  refine ⟨f, fd, hm, F.kp, F.binds (ps := ["house", "stand"]) (fun _ _ _ _ _ _ us hl => match us, hl with | [_, _], _ => rfl), F.ok sc_check_stand (fun vs H Q E h => ?_) (fun cdv A outer s H vs Q E hr h => ?_)⟩
  · unfold sp_check_stand at h
    repeat (obtain ⟨_, h⟩ := h)
    subst_vars
    rfl
  · obtain ⟨a, h, t, st, rfl, hv, hst, ho, q⟩ := h
    obtain ⟨dx, tl, th, tn, xl, xh, xn, h1, _⟩ := hv.ob
    refine ⟨_, (pss_one (ps_if (pt_not (pt_val (pe_def D_is_rising_below (hr.mono (by first | decide | omega)) (by rfl) (pa_cons (pv 1) (pa_cons (pe_lenO D_House___len__ (hr.mono (by first | decide | omega)) (by rfl) T.b_len (pa_cons (pv 0) pa_nil)) pa_nil))))) (pss_one ps_never) pss_nil)), ?_⟩
    refine ⟨_, rfl, _, rfl, a, dx, _, rfl, h1, a, h, rfl, hv, _, rfl, ⟨by omega, by have := hv.ok.n14; omega⟩, .inl ⟨t, _, _, rfl, hst, sml_ints st, _, rfl, ?_⟩⟩
    rw [rise_st ho]
    exact iteF q

theorem d_check_swell {P : Program} {w : World} {K : PySem.W.Frag} {mg : PySem.Str → Option Value} {base : Heap} {C : Addr} (T : Txt K mg C) : Dfn P w K mg base "check_swell" 2 ["swell"] (sp_check_swell K C) := by
  have D_is_whole := d_is_whole (P := P) (w := w) (base := base) T
  obtain ⟨f, fd, F, hm⟩ := T.f_check_swell
  refine ⟨f, fd, hm, F.kp, F.binds (ps := ["swell"]) (fun _ _ _ _ _ _ us hl => match us, hl with | [_], _ => rfl), F.ok sc_check_swell (fun vs H Q E h => ?_) (fun cdv A outer s H vs Q E hr h => ?_)⟩
  · unfold sp_check_swell at h
    repeat (obtain ⟨_, h⟩ := h)
    subst_vars
    rfl
  · obtain ⟨s, rfl, q⟩ := h
    refine ⟨_, (pss_one (ps_if (pt_not (pt_val (pe_def D_is_whole (hr.mono (by first | decide | omega)) (by rfl) (pa_cons (pv 0) pa_nil)))) (pss_one ps_never) pss_nil)), ?_⟩
    exact ⟨_, rfl, _, _, rfl, .int s, _, rfl, iteF q⟩

theorem d_check_moment {P : Program} {w : World} {K : PySem.W.Frag} {mg : PySem.Str → Option Value} {base : Heap} {C : Addr} (T : Txt K mg C) : Dfn P w K mg base "check_moment" 5 ["house", "stand", "swell"] (sp_check_moment K C) := by
  have D_check_stand := d_check_stand (P := P) (w := w) (base := base) T
  have D_check_swell := d_check_swell (P := P) (w := w) (base := base) T
  obtain ⟨f, fd, F, hm⟩ := T.f_check_moment
  refine ⟨f, fd, hm, F.kp, F.binds (ps := ["house", "stand", "swell"]) (fun _ _ _ _ _ _ us hl => match us, hl with | [_, _, _], _ => rfl), F.ok sc_check_moment (fun vs H Q E h => ?_) (fun cdv A outer s H vs Q E hr h => ?_)⟩
  · unfold sp_check_moment at h
    repeat (obtain ⟨_, h⟩ := h)
    subst_vars
    rfl
  · obtain ⟨a, h, t, st, s, rfl, hv, hst, ho, q⟩ := h
    refine ⟨_, (pss_cons (ps_expr (pe_def D_check_stand (hr.mono (by first | decide | omega)) (by rfl) (pa_cons (pv 0) (pa_cons (pv 1) pa_nil))))
      (pss_one (ps_expr (pe_def D_check_swell (hr.mono (by first | decide | omega)) (by rfl) (pa_cons (pv 2) pa_nil))))), ?_⟩
    exact ⟨_, rfl, _, rfl, a, h, t, st, rfl, hv, hst, ho, _, rfl, s, rfl, q⟩

theorem d_check_settled {P : Program} {w : World} {K : PySem.W.Frag} {mg : PySem.Str → Option Value} {base : Heap} {C : Addr} (T : Txt K mg C) : Dfn P w K mg base "check_settled" 9 ["house", "stand", "swell"] (sp_check_settled K C) := by
  have D_wanting := d_wanting (P := P) (w := w) (base := base) T
  obtain ⟨f, fd, F, hm⟩ := T.f_check_settled
  refine ⟨f, fd, hm, F.kp, F.binds (ps := ["house", "stand", "swell"]) (fun _ _ _ _ _ _ us hl => match us, hl with | [_, _, _], _ => rfl), F.ok sc_check_settled (fun vs H Q E h => ?_) (fun cdv A outer s H vs Q E hr h => ?_)⟩
  · unfold sp_check_settled at h
    repeat (obtain ⟨_, h⟩ := h)
    subst_vars
    rfl
  · obtain ⟨a, h, t, st, s, rfl, hv, hst, w1, w2, q⟩ := h
    refine ⟨_, (pss_cons (ps_set (i := 3) sc_check_settled.nd rfl (by first | exact Or.inl rfl | exact Or.inr rfl) (pe_op op_cat (pe_def D_wanting (hr.mono (by first | decide | omega)) (by rfl) (pa_cons (pv 0) (pa_cons (pv 1) (pa_cons (pv 2) (pa_cons pe_bl pa_nil))))) (pe_def D_wanting (hr.mono (by first | decide | omega)) (by rfl) (pa_cons (pv 0) (pa_cons (pv 1) (pa_cons (pv 2) (pa_cons pe_bl pa_nil)))))))
      (pss_one (ps_if (kTruth (K := K) (pv 3)) (pss_one ps_never) pss_nil))), ?_⟩
    refine ⟨_, rfl, _, rfl, _, rfl, a, h, t, st, s, true, rfl, hv, hst, fun p1 H1 n1 e1 h1 => ?_⟩
    refine ⟨_, rfl, _, rfl, _, rfl, a, h, t, st, s, false, rfl, hv.ki e1.ki, hst.ki e1.ki, fun p2 H2 n2 e2 h2 => ?_⟩
    rw [w1] at h1
    rw [w2] at h2
    refine ⟨p1, p2, _, _, rfl, rfl, e2 _ _ h1, h2, by show 0 ≤ sizeLine; decide, fun p3 n3 => ?_⟩
    exact ⟨_, rfl, _, .inl ⟨_, .of upd_same, rfl⟩, iteF (q _ ((e1.trans e2).trans (Ex.new n3)))⟩

theorem d_check_leg {P : Program} {w : World} {K : PySem.W.Frag} {mg : PySem.Str → Option Value} {base : Heap} {C : Addr} (T : Txt K mg C) : Dfn P w K mg base "check_leg" 10 ["house", "stand", "start", "end"] (sp_check_leg K C) := by
  have D_check_moment := d_check_moment (P := P) (w := w) (base := base) T
  have D_check_settled := d_check_settled (P := P) (w := w) (base := base) T
  have D_check_swell := d_check_swell (P := P) (w := w) (base := base) T
  obtain ⟨f, fd, F, hm⟩ := T.f_check_leg
  refine ⟨f, fd, hm, F.kp, F.binds (ps := ["house", "stand", "start", "end"]) (fun _ _ _ _ _ _ us hl => match us, hl with | [_, _, _, _], _ => rfl), F.ok sc_check_leg (fun vs H Q E h => ?_) (fun cdv A outer s H vs Q E hr h => ?_)⟩
  · unfold sp_check_leg at h
    repeat (obtain ⟨_, h⟩ := h)
    subst_vars
    rfl
  · obtain ⟨a, h, t, st, s, f, rfl, hv, hst, ho, w1, w2, q⟩ := h
    refine ⟨_, (pss_cons (ps_expr (pe_def D_check_moment (hr.mono (by first | decide | omega)) (by rfl) (pa_cons (pv 0) (pa_cons (pv 1) (pa_cons (pv 2) pa_nil)))))
      (pss_cons (ps_expr (pe_def D_check_swell (hr.mono (by first | decide | omega)) (by rfl) (pa_cons (pv 3) pa_nil)))
      (pss_one (ps_expr (pe_def D_check_settled (hr.mono (by first | decide | omega)) (by rfl) (pa_cons (pv 0) (pa_cons (pv 1) (pa_cons (pv 2) pa_nil)))))))), ?_⟩
    exact ⟨_, rfl, _, rfl, _, rfl, a, h, t, st, s, rfl, hv, hst, ho, _, rfl, f, rfl, _, rfl, _, rfl, _, rfl, a, h, t, st, s, rfl, hv, hst, w1, w2, q⟩

theorem d_leg {P : Program} {w : World} {K : PySem.W.Frag} {mg : PySem.Str → Option Value} {base : Heap} {C : Addr} (T : Txt K mg C) : Dfn P w K mg base "leg" 12 ["house", "stand", "start", "end"] (sp_leg K C) := by
  have D_carried := d_carried (P := P) (w := w) (base := base) T
  have D_check_leg := d_check_leg (P := P) (w := w) (base := base) T
  obtain ⟨f, fd, F, hm⟩ := T.f_leg
  refine ⟨f, fd, hm, F.kp, F.binds (ps := ["house", "stand", "start", "end"]) (fun _ _ _ _ _ _ us hl => match us, hl with | [_, _, _, _], _ => rfl), F.ok sc_leg (fun vs H Q E h => ?_) (fun cdv A outer s H vs Q E hr h => ?_)⟩
  · unfold sp_leg at h
    repeat (obtain ⟨_, h⟩ := h)
    subst_vars
    rfl
  · obtain ⟨a, h, t, st, s, f, rfl, hv, hst, ho, hpos, w1, w2, q⟩ := h
    refine ⟨_, (pss_cons (ps_expr (pe_def D_check_leg (hr.mono (by first | decide | omega)) (by rfl) (pa_cons (pv 0) (pa_cons (pv 1) (pa_cons (pv 2) (pa_cons (pv 3) pa_nil))))))
      (pss_one (ps_ret (pe_def D_carried (hr.mono (by first | decide | omega)) (by rfl) (pa_cons (pv 0) (pa_cons (pv 1) (pa_cons (pv 2) (pa_cons (pv 3) pa_nil)))))))), ?_⟩
    exact ⟨_, rfl, _, rfl, _, rfl, _, rfl, a, h, t, st, s, f, rfl, hv, hst, ho, w1, w2, fun H1 e1 => ⟨_, rfl, _, rfl, _, rfl, _, rfl, a, h, t, st, s, f, rfl, hv.ki e1.ki, hst.ki e1.ki, ho, hpos, fun t' T H' e h1 h0 h2 => q t' T H' (e1.trans e) h1 (fun z => h0 (e1 _ _ z)) h2⟩⟩

theorem d_there_and_back {P : Program} {w : World} {K : PySem.W.Frag} {mg : PySem.Str → Option Value} {base : Heap} {C : Addr} (T : Txt K mg C) : Dfn P w K mg base "there_and_back" 13 ["house", "stand", "swell", "far"] (sp_there_and_back K C) := by
  have D_carried := d_carried (P := P) (w := w) (base := base) T
  have D_leg := d_leg (P := P) (w := w) (base := base) T
  obtain ⟨f, fd, F, hm⟩ := T.f_there_and_back
  refine ⟨f, fd, hm, F.kp, F.binds (ps := ["house", "stand", "swell", "far"]) (fun _ _ _ _ _ _ us hl => match us, hl with | [_, _, _, _], _ => rfl), F.ok sc_there_and_back (fun vs H Q E h => ?_) (fun cdv A outer s H vs Q E hr h => ?_)⟩
  · unfold sp_there_and_back at h
    repeat (obtain ⟨_, h⟩ := h)
    subst_vars
    rfl
  · obtain ⟨a, h, t, st, s, f, rfl, hv, hst, ho, hpos, w1, w2, q⟩ := h
    refine ⟨_, (pss_cons (ps_set (i := 4) sc_there_and_back.nd rfl (by first | exact Or.inl rfl | exact Or.inr rfl) (pe_def D_leg (hr.mono (by first | decide | omega)) (by rfl) (pa_cons (pv 0) (pa_cons (pv 1) (pa_cons (pv 2) (pa_cons (pv 3) pa_nil))))))
      (pss_one (ps_ret (pe_tup (pa_cons (pv 4) (pa_cons (pe_def D_carried (hr.mono (by first | decide | omega)) (by rfl) (pa_cons (pv 0) (pa_cons (pv 4) (pa_cons (pv 3) (pa_cons (pv 2) pa_nil))))) pa_nil)))))), ?_⟩
    refine ⟨_, rfl, _, rfl, _, rfl, _, rfl, a, h, t, st, s, f, rfl, hv, hst, ho, hpos, w1, w2, fun t1 T H1 e1 h1 _ c1 => ?_⟩
    refine ⟨_, rfl, _, rfl, _, rfl, _, rfl, _, rfl, a, h, t1, T, f, s, rfl, hv.ki e1.ki, h1, c1.ok, hpos, fun t2 B H2 e2 h2 _ c2 => ⟨by show 2 ≤ sizeLine; decide, fun p np => ?_⟩⟩
    have e3 : Ex H2 (upd H2 p (.tup [V.ref t1, V.ref t2])) := Ex.new np
    exact q p t1 t2 T B _ ((e1.trans e2).trans e3) upd_same (h1.ki (e2.trans e3).ki) (h2.ki e3.ki) c1 c2

theorem d_bears {P : Program} {w : World} {K : PySem.W.Frag} {mg : PySem.Str → Option Value} {base : Heap} {C : Addr} (T : Txt K mg C) : Dfn P w K mg base "bears" 14 ["house", "stand", "swell", "far"] (sp_bears K C) := by
  have D_there_and_back := d_there_and_back (P := P) (w := w) (base := base) T
  obtain ⟨f, fd, F, hm⟩ := T.f_bears
  refine ⟨f, fd, hm, F.kp, F.binds (ps := ["house", "stand", "swell", "far"]) (fun _ _ _ _ _ _ us hl => match us, hl with | [_, _, _, _], _ => rfl), F.ok sc_bears (fun vs H Q E h => ?_) (fun cdv A outer s H vs Q E hr h => ?_)⟩
  · unfold sp_bears at h
    repeat (obtain ⟨_, h⟩ := h)
    subst_vars
    rfl
  · obtain ⟨a, h, t, st, s, f, rfl, hv, hst, ho, hpos, w1, w2, q⟩ := h
    refine ⟨_, (pss_cons (ps_set (i := 4) sc_bears.nd rfl (by first | exact Or.inl rfl | exact Or.inr rfl) (pe_def D_there_and_back (hr.mono (by first | decide | omega)) (by rfl) (pa_cons (pv 0) (pa_cons (pv 1) (pa_cons (pv 2) (pa_cons (pv 3) pa_nil))))))
      (pss_one (ps_ret (pe_cmpR (kEqD (K := K) (units64 hr)) (pe_ix (kIxT (K := K)) (pv 4) pe_int (fun _ _ => rfl)) (pv 1) (nomark _))))), ?_⟩
    refine ⟨_, rfl, _, rfl, _, rfl, _, rfl, a, h, t, st, s, f, rfl, hv, hst, ho, hpos, w1, w2, fun p t1 t2 T B H1 e1 hp h1 h2 c1 c2 => ?_⟩
    refine ⟨_, rfl, p, _, _, _, rfl, rfl, .of hp, atI_nat (j := 1) rfl, _, rfl, _, _, dpT h2, dpT (hst.ki e1.ki), shT _, shT _, ?_⟩
    rw [eqT2]
    exact q T B H1 e1 c1 c2

theorem d__law_right {P : Program} {w : World} {K : PySem.W.Frag} {mg : PySem.Str → Option Value} {base : Heap} {C : Addr} (T : Txt K mg C) : Dfn P w K mg base "_law_right" 15 ["jar", "plan", "house", "stand", "swell", "far"] (sp__law_right K C) := by
  have D__law_between := d__law_between (P := P) (w := w) (base := base) T
  have D__law_on := d__law_on (P := P) (w := w) (base := base) T
  have D__law_same := d__law_same (P := P) (w := w) (base := base) T
  have D_bears := d_bears (P := P) (w := w) (base := base) T
  have D_there_and_back := d_there_and_back (P := P) (w := w) (base := base) T
  obtain ⟨f, fd, F, hm⟩ := T.f__law_right
  refine ⟨f, fd, hm, F.kp, F.binds (ps := ["jar", "plan", "house", "stand", "swell", "far"]) (fun _ _ _ _ _ _ us hl => match us, hl with | [_, _, _, _, _, _], _ => rfl), F.ok sc__law_right (fun vs H Q E h => ?_) (fun cdv A outer s H vs Q E hr h => ?_)⟩
  · unfold sp__law_right at h
    repeat (obtain ⟨_, h⟩ := h)
    subst_vars
    rfl
  · obtain ⟨j, p, a, t, n, h, st, s, f, rfl, hj, hn, hP, hv, hst, ho, hset, q⟩ := h
    have hpos := hP.pos
    have hn14 := hP.ok.n14
    refine ⟨_, (pss_cons (ps_set (i := 6) sc__law_right.nd rfl (by first | exact Or.inl rfl | exact Or.inr rfl) (pe_def D__law_on (hr.mono (by first | decide | omega)) (by rfl) (pa_cons (pv 0) (pa_cons (pv 1) (pa_cons (pv 3) (pa_cons (pv 4) (pa_cons (pv 5) pa_nil)))))))
      (pss_cons (ps_set (i := 7) sc__law_right.nd rfl (by first | exact Or.inl rfl | exact Or.inr rfl) (pe_def D__law_on (hr.mono (by first | decide | omega)) (by rfl) (pa_cons (pv 0) (pa_cons (pv 1) (pa_cons (pv 6) (pa_cons (pv 5) (pa_cons (pv 4) pa_nil)))))))
      (pss_cons (ps_if (pt_not (pt_val (pe_def D__law_same (hr.mono (by first | decide | omega)) (by rfl) (pa_cons (pe_def D_there_and_back (hr.mono (by first | decide | omega)) (by rfl) (pa_cons (pv 2) (pa_cons (pv 3) (pa_cons (pv 4) (pa_cons (pv 5) pa_nil))))) (pa_cons (pe_tup (pa_cons (pv 6) (pa_cons (pv 7) pa_nil))) pa_nil))))) (pss_one (ps_ret pe_bl)) pss_nil)
      (pss_cons (ps_if (pt_not (pt_val (pe_def D__law_same (hr.mono (by first | decide | omega)) (by rfl) (pa_cons (pe_def D_bears (hr.mono (by first | decide | omega)) (by rfl) (pa_cons (pv 2) (pa_cons (pv 3) (pa_cons (pv 4) (pa_cons (pv 5) pa_nil))))) (pa_cons (pe_cmpR (kEqD (K := K) (units64 hr)) (pv 7) (pv 3) (nomark _)) pa_nil))))) (pss_one (ps_ret pe_bl)) pss_nil)
      (pss_cons (ps_for PassesOwn.never rfl (pi_range1 (by rfl) T.b_range (pa_cons pe_int pa_nil)) (pg_name (i := 8) sc__law_right.nd rfl (by first | exact Or.inl rfl | exact Or.inr rfl)) (pss_cons (ps_set (i := 9) sc__law_right.nd rfl (by first | exact Or.inl rfl | exact Or.inr rfl) (pe_def D__law_between (hr.mono (by first | decide | omega)) (by rfl) (pa_cons (pv 0) (pa_cons (pv 4) (pa_cons (pv 5) pa_nil)))))
      (Evl.pss_cut (ps_if (PW.pt (pw_and (pt_cmpR (kEqD (K := K) (units64 hr)) (pv 7) (pv 3) (nomark _)) (pw_and1 (pt_cmpR op_isnot_bl (pe_def D_bears (hr.mono (by first | decide | omega)) (by rfl) (pa_cons (pv 2) (pa_cons (pv 3) (pa_cons (pv 4) (pa_cons (pv 9) pa_nil))))) pe_bl (nomark _))))) (pss_one (ps_ret pe_bl)) pss_nil)
      (pss_one (ps_if (pt_cmpR op_isnot_bl (pe_def D_bears (hr.mono (by first | decide | omega)) (by rfl) (pa_cons (pv 2) (pa_cons (pv 6) (pa_cons (pv 5) (pa_cons (pv 9) pa_nil))))) pe_bl (nomark _)) (pss_one (ps_ret pe_bl)) pss_nil)))))
      (pss_one (ps_ret (pe_and (pe_cmpR op_is_bl (pe_def D_bears (hr.mono (by first | decide | omega)) (by rfl) (pa_cons (pv 2) (pa_cons (pv 6) (pa_cons (pv 5) (pa_cons (pv 4) pa_nil))))) pe_bl (nomark _)) (pe_one (pe_cmpR op_is_bl (pe_def D_bears (hr.mono (by first | decide | omega)) (by rfl) (pa_cons (pv 2) (pa_cons (pv 3) (pa_cons (pv 4) (pa_cons (pv 4) pa_nil))))) pe_bl (nomark _))))))))))), ?_⟩
    refine ⟨_, rfl, _, rfl, _, rfl, _, rfl, _, rfl, j, p, t, _, h, st, s, f, rfl, hj, by omega, hP, hst, ho, fun t1 T H1 e1 j1 ht1 c1 => ?_⟩
    have st1 := leg_settled hpos hset c1
    refine ⟨_, rfl, _, rfl, _, rfl, _, rfl, _, rfl, j, p, t1, _, h, T, f, s, rfl, j1, by omega, hP.jar hj e1, ht1, c1.ok, fun t2 B H2 e2 j2 ht2 c2 => ?_⟩
    have e02 := e1.trans e2
    have k02 := hj.ki e02
    have hv2 := hv.ki k02
    have hst2 := k02 t (.tup (st.map V.int)) trivial hst
    have ht12 := (j1.ki e2) t1 (.tup (T.map V.int)) trivial ht1
    have lT : T.length < 1000 := Nat.lt_of_le_of_lt c1.ok.len (by omega)
    have lB : B.length < 1000 := Nat.lt_of_le_of_lt c2.ok.len (by omega)
    refine ⟨_, rfl, _, rfl, _, rfl, _, rfl, a, h, t, st, s, f, rfl, hv2, .of hst2, ho, hpos, hset.1, hset.2, fun r a1 a2 T' B' H3 e3 hr ha1 ha2 c1' c2' => ?_⟩
    have eT : T' = T := c1'.uniq c1
    subst eT
    have eB : B' = B := c2'.uniq c2
    subst eB
    refine ⟨_, rfl, _, rfl, by show 2 ≤ sizeLine; decide, fun u nu => ?_⟩
    have x4 : Ex H3 (upd H3 u (.tup [V.ref t1, V.ref t2])) := Ex.new nu
    have su : (upd H3 u (.tup [V.ref t1, V.ref t2])) u = some (.tup [V.ref t1, V.ref t2]) := upd_same
    generalize upd H3 u (.tup [V.ref t1, V.ref t2]) = H4 at *
    have e24 := e3.trans x4
    refine ⟨_, _, rfl, smf_two (.of (x4 _ _ hr)) (.of su) (ha1.ki x4.ki) (.of (e24 _ _ ht12)) (ha2.ki x4.ki) (.of (e24 _ _ ht2)) lT lB, fun H5 e5 => ⟨_, rfl, iteF ?_⟩⟩
    have e25 := e24.trans e5
    have hv5 := hv2.ki e25.ki
    have hst5 := e25 _ _ hst2
    refine ⟨_, rfl, _, rfl, _, rfl, _, rfl, a, h, t, st, s, f, rfl, hv5, .of hst5, ho, hpos, hset.1, hset.2, fun T2 B2 H6 e6 d1 d2 => ?_⟩
    have eT : T2 = T' := d1.uniq c1
    subst eT
    have eB : B2 = B' := d2.uniq c2
    subst eB
    have e26 := e25.trans e6
    refine ⟨_, rfl, _, rfl, _, _, dpT (.of (e26 _ _ ht2)), dpT (.of (e26 _ _ hst2)), shT _, shT _, ?_⟩
    rw [eqT2]
    refine ⟨_, _, rfl, .inr (.inl ⟨_, rfl, rfl⟩), fun H7 e7 => ⟨_, rfl, iteF ?_⟩⟩
    have e27 := e26.trans e7
    have j7 := j2.ex e27
    refine ⟨2, rfl, by decide, by decide, ?_⟩
    refine for_range (lo := 0) (n := 2) (fun i σ H' => ∃ (v8 v9 : Option V), σ = [some (.ref j), some (.ref p), some (.ref a), some (.ref t), some (.int s), some (.int f), some (.ref t1), some (.ref t2), v8, v9] ∧ ExB j H2 H' ∧ JarAt H' j (n + 28 + 3 * (i : Int))) ⟨none, none, rfl, e27.exB, j7.le (by omega)⟩ ?_ ?_
    · rintro i σ G hi ⟨v8, v9, rfl, gB, gj⟩
      refine ⟨_, rfl, _, rfl, _, rfl, j, _, s, f, rfl, gj, by omega, fun d G1 f1 k1 hb => ?_⟩
      have gB1 := gB.trans f1
      have kG := j2.ki gB1
      have gv := hv2.ki kG
      have gst := kG t (.tup (st.map V.int)) trivial hst2
      have gt1 := kG t1 (.tup (T2.map V.int)) trivial ht12
      have gt2 := kG t2 (.tup (B2.map V.int)) trivial ht2
      refine ⟨fun σ H' => σ = [some (.ref j), some (.ref p), some (.ref a), some (.ref t), some (.int s), some (.int f), some (.ref t1), some (.ref t2), some (.int (0 + (i : Int))), some (.int d)] ∧ Ex G1 H', ?_, ?_⟩
      · refine ⟨_, rfl, _, rfl, _, _, dpT (.of gt2), dpT (.of gst), shT _, shT _, _, rfl, ?_⟩
        rw [eqT2]
        by_cases hB : B2 = st
        · subst hB
          rw [decide_eq_true rfl]
          refine iteT ⟨_, rfl, _, rfl, _, rfl, _, rfl, a, h, t, B2, s, d, rfl, gv, .of gst, ho, hpos, hset.1, hset.2, fun T3 B3 G2 f2 d1 d2 => ⟨_, _, rfl, rfl, _, rfl, ?_⟩⟩
          rw [decide_eq_true (near_too ho hset c1 c2 hb d1 d2)]
          exact iteF ⟨rfl, f2⟩
        · rw [decide_eq_false hB]
          exact iteF (iteF ⟨rfl, Ex.rfl⟩)
      · rintro σ G2 ⟨rfl, f2⟩
        refine ⟨_, rfl, _, rfl, _, rfl, _, rfl, a, h, t1, T2, f, d, rfl, gv.ki f2.ki, .of (f2 _ _ gt1), c1.ok, hpos, st1.1, st1.2, fun T3 B3 G3 f3 d1 d2 => ⟨_, _, rfl, rfl, _, rfl, ?_⟩⟩
        rw [decide_eq_true (back_again ho hset c1 st1 hb d1 d2)]
        exact iteF ⟨_, _, rfl, gB1.trans (f2.trans f3).exB, (k1.ex (f2.trans f3)).le (by omega)⟩
    · rintro σ G ⟨v8, v9, rfl, gB, gj⟩
      have kG := j2.ki gB
      have gv := hv2.ki kG
      have gst := kG t (.tup (st.map V.int)) trivial hst2
      have gt1 := kG t1 (.tup (T2.map V.int)) trivial ht12
      refine ⟨_, rfl, _, rfl, _, rfl, _, rfl, a, h, t1, T2, f, s, rfl, gv, .of gt1, c1.ok, hpos, st1.1, st1.2, fun T3 B3 G3 f3 d1 d2 => ⟨_, _, rfl, rfl, _, rfl, ?_⟩⟩
      rw [decide_eq_true (back_again ho hset c1 st1 (by unfold Btw; omega) d1 d2)]
      refine iteT ⟨_, rfl, _, rfl, _, rfl, _, rfl, a, h, t, st, s, s, rfl, gv.ki f3.ki, .of (f3 _ _ gst), ho, hpos, hset.1, hset.2, fun T4 B4 G4 f4 d3 d4 => ⟨_, _, rfl, rfl, ?_⟩⟩
      have e1 : T4 = st := d3.uniq (Clo.self ho (hset.w _))
      subst e1
      have e2 : B4 = T4 := d4.uniq (Clo.self ho (hset.w _))
      rw [decide_eq_true e2]
      exact q _ (e02.trans (gB.trans (f3.trans f4).exB)) ((gj.ex (f3.trans f4)).le (by omega))

theorem d_law {P : Program} {w : World} {K : PySem.W.Frag} {mg : PySem.Str → Option Value} {base : Heap} {C f : Addr} {fd : FuncData} (T : Txt K mg C) (F : Fun K "law" "law" s_law f fd) : FnOk P w K mg base CX0 16 f fd ["script"] (sp_law K C) := by
  have D_House___eq__ := d_House___eq__ (P := P) (w := w) (base := base) T
  have D__law_begun := d__law_begun (P := P) (w := w) (base := base) T
  have D__law_ends := d__law_ends (P := P) (w := w) (base := base) T
  have D__law_house := d__law_house (P := P) (w := w) (base := base) T
  have D__law_jar := d__law_jar (P := P) (w := w) (base := base) T
  have D__law_pick := d__law_pick (P := P) (w := w) (base := base) T
  have D__law_plan := d__law_plan (P := P) (w := w) (base := base) T
  have D__law_right := d__law_right (P := P) (w := w) (base := base) T
  have D__law_swell := d__law_swell (P := P) (w := w) (base := base) T
  have D_leg := d_leg (P := P) (w := w) (base := base) T
  refine F.ok sc_law (fun vs H Q E h => ?_) (fun cdv A outer s H vs Q E hr h => ?_)
  · unfold sp_law at h
    repeat (obtain ⟨_, h⟩ := h)
    subst_vars
    rfl
  · obtain ⟨a, ns, rfl, hs, hlen, q⟩ := h
    refine ⟨_, (pss_cons (ps_for PassesOwn.never rfl (pi_range1 (by rfl) T.b_range (pa_cons (pe_callB kMax2 (by rfl) T.b_max (by decide +kernel) (pa_cons pe_int (pa_cons (pe_callB kMin2 (by rfl) T.b_min (by decide +kernel) (pa_cons pe_int (pa_cons (pe_callB (kLen (K := K)) (by rfl) T.b_len (by decide +kernel) (pa_cons (pv 0) pa_nil)) pa_nil))) pa_nil))) pa_nil)) (pg_name (i := 1) sc_law.nd rfl (by first | exact Or.inl rfl | exact Or.inr rfl)) (pss_cons (ps_set (i := 2) sc_law.nd rfl (by first | exact Or.inl rfl | exact Or.inr rfl) (pe_def D__law_jar (hr.mono (by first | decide | omega)) (by rfl) (pa_cons (pv 0) (pa_cons (pv 1) pa_nil))))
      (pss_cons (ps_set (i := 3) sc_law.nd rfl (by first | exact Or.inl rfl | exact Or.inr rfl) (pe_def D__law_plan (hr.mono (by first | decide | omega)) (by rfl) (pa_cons (pv 2) (pa_cons (pe_ix (kIxL (K := K)) (pe_lst (pa_cons pe_int (pa_cons pe_int (pa_cons pe_int pa_nil)))) (pe_def D__law_pick (hr.mono (by first | decide | omega)) (by rfl) (pa_cons (pv 2) (pa_cons pe_int pa_nil))) (fun _ _ => rfl)) pa_nil))))
      (pss_cons (ps_set (i := 4) sc_law.nd rfl (by first | exact Or.inl rfl | exact Or.inr rfl) (pe_def D__law_house (hr.mono (by first | decide | omega)) (by rfl) (pa_cons (pv 3) pa_nil)))
      (pss_cons (ps_for PassesOwn.never rfl (pi_range1 (by rfl) T.b_range (pa_cons pe_int pa_nil)) (pg_name (i := 5) sc_law.nd rfl (by first | exact Or.inl rfl | exact Or.inr rfl)) (pss_cons (ps_asg (pe_def D__law_begun (hr.mono (by first | decide | omega)) (by rfl) (pa_cons (pv 2) (pa_cons (pv 3) pa_nil))) (pg_tup rfl (pgs_cons (pg_name (i := 6) sc_law.nd rfl (by first | exact Or.inl rfl | exact Or.inr rfl)) (pgs_cons (pg_name (i := 7) sc_law.nd rfl (by first | exact Or.inl rfl | exact Or.inr rfl)) pgs_nil))))
      (pss_one (ps_for PassesOwn.never rfl (pi_range1 (by rfl) T.b_range (pa_cons pe_int pa_nil)) (pg_name (i := 8) sc_law.nd rfl (by first | exact Or.inl rfl | exact Or.inr rfl)) (pss_cons (ps_set (i := 9) sc_law.nd rfl (by first | exact Or.inl rfl | exact Or.inr rfl) (pe_def D__law_ends (hr.mono (by first | decide | omega)) (by rfl) (pa_cons (pv 3) (pa_cons (pv 6) pa_nil))))
      (pss_cons (ps_set (i := 10) sc_law.nd rfl (by first | exact Or.inl rfl | exact Or.inr rfl) (pe_lst (pa_cons (pe_def D__law_swell (hr.mono (by first | decide | omega)) (by rfl) (pa_cons (pv 2) (pa_cons (pv 3) pa_nil))) (pa_cons (pe_op op_sub (pe_op op_sub (pe_ix (kIxT (K := K)) (pv 9) pe_int (fun _ _ => rfl)) pe_int) (pe_def D__law_pick (hr.mono (by first | decide | omega)) (by rfl) (pa_cons (pv 2) (pa_cons pe_int pa_nil)))) (pa_cons (pe_op op_add (pe_op op_add (pe_ix (kIxT (K := K)) (pv 9) pe_int (fun _ _ => rfl)) pe_int) (pe_def D__law_pick (hr.mono (by first | decide | omega)) (by rfl) (pa_cons (pv 2) (pa_cons pe_int pa_nil)))) pa_nil)))))
      (pss_cons (ps_if (pt_not (pt_val (pe_def D__law_right (hr.mono (by first | decide | omega)) (by rfl) (pa_cons (pv 2) (pa_cons (pv 3) (pa_cons (pv 4) (pa_cons (pv 6) (pa_cons (pv 7) (pa_cons (pe_ix (kIxL (K := K)) (pv 10) (pe_def D__law_pick (hr.mono (by first | decide | omega)) (by rfl) (pa_cons (pv 2) (pa_cons pe_int pa_nil))) (fun _ _ => rfl)) pa_nil))))))))) (pss_one (ps_ret pe_bl)) pss_nil)
      (pss_cons (ps_set (i := 10) sc_law.nd rfl (by first | exact Or.inl rfl | exact Or.inr rfl) (pe_def D__law_swell (hr.mono (by first | decide | omega)) (by rfl) (pa_cons (pv 2) (pa_cons (pv 3) pa_nil))))
      (pss_cons (ps_set (i := 6) sc_law.nd rfl (by first | exact Or.inl rfl | exact Or.inr rfl) (pe_def D_leg (hr.mono (by first | decide | omega)) (by rfl) (pa_cons (pv 4) (pa_cons (pv 6) (pa_cons (pv 7) (pa_cons (pv 10) pa_nil))))))
      (pss_one (ps_set (i := 7) sc_law.nd rfl (by first | exact Or.inl rfl | exact Or.inr rfl) (pv 10))))))))))))
      (pss_one (ps_if (pt_cmpR (op_neO D_House___eq__ T.neC T.isc.hm (hr.mono (by first | decide | omega))) (pv 4) (pe_def D__law_house (hr.mono (by first | decide | omega)) (by rfl) (pa_cons (pv 3) pa_nil)) (nomark _)) (pss_one (ps_ret pe_bl)) pss_nil)))))))
      (pss_one (ps_ret pe_bl))), ?_⟩
    obtain ⟨top, htop, ht1, ht6⟩ : ∃ top : Int, (if (if ((ns.map V.int).length : Int) < 8 then ((ns.map V.int).length : Int) else 8) > 1 then (if ((ns.map V.int).length : Int) < 8 then ((ns.map V.int).length : Int) else 8) else 1) = top ∧ 1 ≤ top ∧ top ≤ 8 :=
      ⟨_, rfl, by split <;> split <;> omega, by split <;> split <;> omega⟩
    refine ⟨_, rfl, a, _, rfl, .inl hs, _, _, rfl, _, _, rfl, top, congrArg (fun z => [V.int z]) htop, by omega, by omega, ?_⟩
    refine for_range (lo := 0) (n := top.toNat) (fun i σ H' => ∃ (v1 v2 v3 v4 v5 v6 v7 v8 v9 v10 : Option V), σ = [some (.ref a), v1, v2, v3, v4, v5, v6, v7, v8, v9, v10] ∧ Ex H H') ⟨none, none, none, none, none, none, none, none, none, none, rfl, Ex.rfl⟩ ?_ ?_
    · rintro i σ G hi ⟨v1, v2, v3, v4, v5, v6, v7, v8, v9, v10, rfl, g0⟩
      refine ⟨_, rfl, _, rfl, a, ns, _, rfl, SqLex hs g0, by omega, by omega, fun j H1 nj e1 j1 => ?_⟩
      have nj0 : H j = none := g0.free nj
      have g1 := g0.trans e1
      have fromB : ∀ {H'}, ExB j H1 H' → Ex H H' := fun {H'} e b o hb => e b o (fun z => by rw [z, nj0] at hb; cases hb) (g1 b o hb)
      refine ⟨_, rfl, by show 3 ≤ sizeLine; decide, fun l1 nl1 => ?_⟩
      have x1 : Ex H1 (upd H1 l1 (.lst [V.int 4, V.int 9, V.int 14])) := Ex.new nl1
      refine ⟨_, rfl, j, _, 3, rfl, j1.ex x1, by decide, by decide, by decide, fun d2 H2 d20 d21 e2 j2 => ?_⟩
      obtain ⟨w, hwm, hw⟩ := atJ [4, 9, 14] d20 d21
      have w14 : 1 ≤ w ∧ w ≤ 14 := by simp at hwm; omega
      refine ⟨l1, _, d2, .int w, rfl, rfl, .of (e2 _ _ (j1.free nl1) upd_same), hw, ?_⟩
      refine ⟨j, _, w, rfl, j2, w14.1, w14.2, by decide, fun r tp dd xs lat hel H3 e3 j3 hr htp hal hdd hl1 hlw hlt hho h200 => ?_⟩
      have b3 : ExB j H1 H3 := (x1.exB.trans e2).trans e3
      refine ⟨_, rfl, r, tp, dd, xs, lat, hel, rfl, .of hr, .of htp, hal, hdd, ⟨hl1, by omega, hlt⟩, hho, fun x h H4 nx e4 hv hlat hpm hsr => ?_⟩
      have hpos : HsPos h := hspos_of hlat hpm hlt hho
      have hP4 : LawP K H4 r h := ⟨⟨tp, dd, xs, hel, .of (e4 _ _ hr), .of (e4 _ _ htp), by rw [hlat]; exact hal.imp fun _ _ z => z.ki e4.ki, e4 _ _ hdd, hpm, hho.nd⟩, hv.ok, hpos⟩
      have j4 := j3.ex e4
      have ddj : dd ≠ j := fun z => by
        obtain ⟨_, _, _, h6, _⟩ := j3
        rw [z, h6] at hdd
        cases hdd
      have b4 := b3.trans e4.exB
      refine ⟨3, rfl, by decide, by decide, ?_⟩
      refine for_range (lo := 0) (n := 3) (fun i2 σ H' => ∃ (v5 v6 v7 v8 v9 v10 : Option V), σ = [some (.ref a), some (.int (0 + (i : Int))), some (.ref j), some (.ref r), some (.ref x), v5, v6, v7, v8, v9, v10] ∧ ExB j H4 H' ∧ JarAt H' j (801 + 330 * (i2 : Int))) ⟨v5, v6, v7, v8, v9, v10, rfl, ExB.rfl, j4.le (by omega)⟩ ?_ ?_
      · rintro i2 σ G hi2 ⟨v5, v6, v7, v8, v9, v10, rfl, gB, gj⟩
        refine ⟨_, rfl, _, rfl, j, r, _, h, rfl, gj, by omega, hP4.jar j4 gB, fun rr t st s G1 f1 k1 hrr hst ho hset => ?_⟩
        have gB1 := gB.trans f1
        refine ⟨rr, _, rfl, .of hrr, rfl, _, _, rfl, _, _, rfl, rfl, ?_⟩
        refine ⟨2, rfl, by decide, by decide, ?_⟩
        refine for_range (lo := 0) (n := 2) (fun i3 σ H' => ∃ (t : Addr) (st : List Int) (s : Int) (v8 v9 v10 : Option V), σ = [some (.ref a), some (.int (0 + (i : Int))), some (.ref j), some (.ref r), some (.ref x), some (.int (0 + (i2 : Int))), some (.ref t), some (.int s), v8, v9, v10] ∧ ExB j H4 H' ∧ JarAt H' j (1001 + 330 * (i2 : Int) + 60 * (i3 : Int)) ∧ H' t = some (.tup (st.map V.int)) ∧ StOk h.n st ∧ SetAt h st s) ⟨t, st, s, v8, v9, v10, rfl, gB1, k1.le (by omega), hst, ho, hset⟩ ?_ ?_
        · rintro i3 σ G hi3 ⟨t, st, s, v8, v9, v10, rfl, gB, gj, hst, ho, hset⟩
          have kG := j4.ki gB
          refine ⟨_, rfl, _, rfl, r, t, h, st, rfl, hP4.jar j4 gB, .of hst, ho, fun v G1 f1 hv1 => ?_⟩
          rcases hv1 with ⟨_, _, hun⟩ | ⟨e, lo, hi', rfl, he, hle, _⟩
          · exact absurd hset (hun s)
          have gB1 := gB.trans f1.exB
          have k1 := gj.ex f1
          have hst1 := f1 _ _ hst
          refine ⟨_, rfl, _, rfl, j, r, _, h, rfl, k1, by omega, hP4.jar j4 gB1, fun s1 G2 f2 k2 => ?_⟩
          have he2 := (k1.ki f2) e (.tup [.int lo, .int hi']) trivial he
          refine ⟨_, rfl, e, _, _, _, rfl, rfl, .of he2, atI_nat (j := 0) rfl, _, _, rfl, rfl, _, rfl, j, _, 5, rfl, k2, by decide, by decide, by omega, fun d3 G3 d30 d31 f3 k3 => ⟨_, _, rfl, rfl, ?_⟩⟩
          have he3 := (k2.ki f3) e (.tup [.int lo, .int hi']) trivial he2
          refine ⟨_, rfl, e, _, _, _, rfl, rfl, .of he3, atI_nat (j := 1) rfl, _, _, rfl, rfl, _, rfl, j, _, 5, rfl, k3, by decide, by decide, by omega, fun d4 G4 d40 d41 f4 k4 => ⟨_, _, rfl, rfl, by show 3 ≤ sizeLine; decide, fun l nl => ?_⟩⟩
          have f14 := (f2.trans f3).trans f4
          have x5 : Ex G4 (upd G4 l (.lst [V.int s1, V.int (lo - 1 - d3), V.int (hi' + 1 + d4)])) := Ex.new nl
          have sl : (upd G4 l (.lst [V.int s1, V.int (lo - 1 - d3), V.int (hi' + 1 + d4)])) l = some (.lst [V.int s1, V.int (lo - 1 - d3), V.int (hi' + 1 + d4)]) := upd_same
          have hlj := k4.free nl
          generalize upd G4 l (.lst [V.int s1, V.int (lo - 1 - d3), V.int (hi' + 1 + d4)]) = G5 at *
          refine ⟨_, rfl, _, rfl, _, rfl, _, rfl, _, rfl, _, rfl, _, rfl, j, _, 3, rfl, k4.ex x5, by decide, by decide, by omega, fun d6 G6 d60 d61 f6 k6 => ?_⟩
          obtain ⟨w, _, hw⟩ := atJ [s1, lo - 1 - d3, hi' + 1 + d4] d60 d61
          have f16 := (f14.trans x5.exB).trans f6
          have gB6 := gB1.trans f16
          have hst6 := (k1.ki f16) t (.tup (st.map V.int)) trivial hst1
          refine ⟨l, _, d6, .int w, rfl, rfl, .of (f6 _ _ hlj sl), hw, j, r, x, t, _, h, st, s, w, rfl, k6, by omega, hP4.jar j4 gB6, hv.ki (j4.ki gB6), hst6, ho, hset, fun G7 f7 k7 => ⟨_, rfl, iteF ?_⟩⟩
          have gB7 := gB6.trans f7
          have hst7 := (k6.ki f7) t (.tup (st.map V.int)) trivial hst6
          refine ⟨_, rfl, _, rfl, j, r, _, h, rfl, k7, by omega, hP4.jar j4 gB7, fun s2 G8 f8 k8 => ?_⟩
          have gB8 := gB7.trans f8
          have hst8 := (k7.ki f8) t (.tup (st.map V.int)) trivial hst7
          refine ⟨_, rfl, _, rfl, _, rfl, _, rfl, x, h, t, st, s, s2, rfl, hv.ki (j4.ki gB8), .of hst8, ho, hpos, hset.1, hset.2, fun t' T G9 f9 h9 hraw c9 => ?_⟩
          exact ⟨_, rfl, t', T, s2, _, _, _, rfl, gB8.trans f9.exB, (k8.ex f9).le (by omega), hraw hst8, c9.ok, leg_settled hpos hset c9⟩
        · rintro σ G ⟨t, st, s, v8, v9, v10, rfl, gB, gj, _⟩
          exact ⟨_, _, _, _, _, _, rfl, gB, gj.le (by omega)⟩
      · rintro σ G ⟨v5, v6, v7, v8, v9, v10, rfl, gB, gj⟩
        have k9 := j4.ki gB
        refine ⟨_, rfl, _, rfl, r, tp, dd, xs, lat, hel, rfl, .of (k9 r (.tup [.ref tp, .ref dd]) trivial (e4 _ _ hr)), .of (k9 tp (.tup xs) trivial (e4 _ _ htp)), hal.imp fun _ _ z => z.ki (e4.ki.trans k9), gB _ _ ddj (e4 _ _ hdd), ⟨hl1, by omega, hlt⟩, hho, fun y g GA ny yA gv glat gpm gsr => ?_⟩
        have hvA := hv.ki (k9.trans yA.ki)
        obtain ⟨dx, _, _, _, _, _, _, o1, _⟩ := hvA.ob
        obtain ⟨dy, _, _, _, _, _, _, o2, _⟩ := gv.ob
        refine ⟨x, y, dx, dy, _, _, rfl, rfl, o1, o2, x, y, h, g, rfl, hvA, gv, by rw [hlat, glat], hels_eq hsr gsr (hpm.trans gpm.symm), true, rfl, _, rfl, iteF ?_⟩
        exact ⟨_, _, _, _, _, _, _, _, _, _, rfl, fromB (b4.trans (gB.trans yA.exB))⟩
    · rintro σ G ⟨v1, v2, v3, v4, v5, v6, v7, v8, v9, v10, rfl, g0⟩
      exact q G
end My
namespace My
open PySem PySem.Spec PyProof.Rows L2
theorem all_mk {l : PySem.W.OpenLaw} {w : World} {K : PySem.W.Frag} {h : Heap} {mg : PySem.Str → Option Value} {C fa f0 f1 f2 f3 f4 f5 f6 f7 f8 f9 f10 f11 f12 f13 f14 f15 dt15 dv15 f16 f17 f18 f19 f20 f21 f22 f23 f24 f25 f26 f27 f28 f29 f30 f31 f32 f33 f34 f35 f36 f37 f38 f39 f40 f41 f42 f43 f44 f45 f46 : Addr} {od0 an0 od1 an1 od2 an2 od3 an3 od4 an4 od5 an5 od6 an6 od7 an7 od8 an8 od9 an9 od10 an10 od11 an11 od12 an12 od13 an13 od14 an14 od15 an15 odt15 od16 an16 od17 an17 od18 an18 od19 an19 od20 an20 od21 an21 od22 an22 od23 an23 od24 an24 od25 an25 od26 an26 od27 an27 od28 an28 od29 an29 od30 an30 od31 an31 od32 an32 od33 an33 od34 an34 od35 an35 od36 an36 od37 an37 od38 an38 od39 an39 od40 an40 od41 an41 od42 an42 od43 an43 od44 an44 od45 an45 od46 an46 : Option Addr} {sl0 sl1 sl2 sl3 sl4 sl5 sl6 sl7 sl8 sl9 sl10 sl11 sl12 sl13 sl14 sl15 sdt15 sl16 sl17 sl18 sl19 sl20 sl21 sl22 sl23 sl24 sl25 sl26 sl27 sl28 sl29 sl30 sl31 sl32 sl33 sl34 sl35 sl36 sl37 sl38 sl39 sl40 sl41 sl42 sl43 sl44 sl45 sl46 : Array (Option Value)} {oc0 kV0 dc0 pm0 cd0 ct0 oc1 kV1 dc1 pm1 cd1 ct1 oc2 kV2 dc2 pm2 cd2 ct2 oc3 kV3 dc3 pm3 cd3 ct3 oc4 kV4 dc4 pm4 cd4 ct4 oc5 kV5 dc5 pm5 cd5 ct5 oc6 kV6 dc6 pm6 cd6 ct6 oc7 kV7 dc7 pm7 cd7 ct7 oc8 kV8 dc8 pm8 cd8 ct8 oc9 kV9 dc9 pm9 cd9 ct9 oc10 kV10 dc10 pm10 cd10 ct10 oc11 kV11 dc11 pm11 cd11 ct11 oc12 kV12 dc12 pm12 cd12 ct12 oc13 kV13 dc13 pm13 cd13 ct13 oc14 kV14 dc14 pm14 cd14 ct14 oc15 kV15 dc15 pm15 cd15 ct15 cdt15 oc16 kV16 dc16 pm16 cd16 ct16 oc17 kV17 dc17 pm17 cd17 ct17 oc18 kV18 dc18 pm18 cd18 ct18 oc19 kV19 dc19 pm19 cd19 ct19 oc20 kV20 dc20 pm20 cd20 ct20 oc21 kV21 dc21 pm21 cd21 ct21 oc22 kV22 dc22 pm22 cd22 ct22 oc23 kV23 dc23 pm23 cd23 ct23 oc24 kV24 dc24 pm24 cd24 ct24 oc25 kV25 dc25 pm25 cd25 ct25 oc26 kV26 dc26 pm26 cd26 ct26 oc27 kV27 dc27 pm27 cd27 ct27 oc28 kV28 dc28 pm28 cd28 ct28 oc29 kV29 dc29 pm29 cd29 ct29 oc30 kV30 dc30 pm30 cd30 ct30 oc31 kV31 dc31 pm31 cd31 ct31 oc32 kV32 dc32 pm32 cd32 ct32 oc33 kV33 dc33 pm33 cd33 ct33 oc34 kV34 dc34 pm34 cd34 ct34 oc35 kV35 dc35 pm35 cd35 ct35 oc36 kV36 dc36 pm36 cd36 ct36 oc37 kV37 dc37 pm37 cd37 ct37 oc38 kV38 dc38 pm38 cd38 ct38 oc39 kV39 dc39 pm39 cd39 ct39 oc40 kV40 dc40 pm40 cd40 ct40 oc41 kV41 dc41 pm41 cd41 ct41 oc42 kV42 dc42 pm42 cd42 ct42 oc43 kV43 dc43 pm43 cd43 ct43 oc44 kV44 dc44 pm44 cd44 ct44 oc45 kV45 dc45 pm45 cd45 ct45 oc46 kV46 dc46 pm46 cd46 ct46 : Value} {ndt : Nat} {t_MOST_LATCHES t_MOST_HELP : Tok} (X : K.In h) (G : h.Ns mainGlobals mg) (hfa : mg "law" = some (.ref fa))
    (aC : PySem.W.nsIn K mainGlobals "House" = some (some (.ref C)))
    (pgC : PySem.W.plainGet K C Str.empty = true)
    (hdC : PySem.W.hasDictIn K C = true)
    (poC : PySem.W.plainOver K C = true)
    (saC : PySem.W.findIn K (.ref C) "__setattr__" = some (some (.builtin "object.__setattr__")))
    (mkC : PySem.W.makesIn K C = true)
    (kcC : PySem.W.keepIn K (.ref C) = true)
    (n_latches : PySem.W.findIn K (.ref C) "_latches" = some none)
    (n_helps : PySem.W.findIn K (.ref C) "_helps" = some none)
    (n_lenders : PySem.W.findIn K (.ref C) "_lenders" = some none)
    (haC : PySem.W.findIn K (.ref C) "__class__" = some (some (.builtin "object.__class__")))
    (hnC : PySem.W.specialIn K (.builtin "object.__class__") "__get__" = some (some (.builtin "getset_descriptor.__get__")))
    (htkC : PySem.W.takesIn K (.builtin "object.__class__") = some true)
    (hmC : PySem.W.mroIn K C (.type "object") = some true)
    (neC : PySem.W.findIn K (.ref C) "__ne__" = some (some (.builtin "object.__ne__")))
    (a0 : PySem.W.findIn K (.ref C) "__eq__" = some (some (.ref f0)))
    (i0 : PySem.W.isFn K (.ref f0) = true)
    (l0 : K.lookup f0 = some ⟨oc0, od0, .func (PySem.W.fnOf "__eq__" "House.__eq__" (defArgs s_House___eq__) (defBody s_House___eq__) (defScope s_House___eq__) .none kV0 dc0 pm0 an0 cd0 ct0), sl0⟩)
    (c0 : PySem.W.codeIn K cd0 "House.__eq__" = true)
    (k0 : PySem.W.keepIn K (.ref f0) = true)
    (a1 : PySem.W.nsIn K mainGlobals "_law_pull" = some (some (.ref f1)))
    (l1 : K.lookup f1 = some ⟨oc1, od1, .func (PySem.W.fnOf "_law_pull" "_law_pull" (defArgs s__law_pull) (defBody s__law_pull) (defScope s__law_pull) .none kV1 dc1 pm1 an1 cd1 ct1), sl1⟩)
    (c1 : PySem.W.codeIn K cd1 "_law_pull" = true)
    (k1 : PySem.W.keepIn K (.ref f1) = true)
    (a2 : PySem.W.nsIn K mainGlobals "_law_ends" = some (some (.ref f2)))
    (l2 : K.lookup f2 = some ⟨oc2, od2, .func (PySem.W.fnOf "_law_ends" "_law_ends" (defArgs s__law_ends) (defBody s__law_ends) (defScope s__law_ends) .none kV2 dc2 pm2 an2 cd2 ct2), sl2⟩)
    (c2 : PySem.W.codeIn K cd2 "_law_ends" = true)
    (k2 : PySem.W.keepIn K (.ref f2) = true)
    (a3 : PySem.W.nsIn K mainGlobals "_law_gone" = some (some (.ref f3)))
    (l3 : K.lookup f3 = some ⟨oc3, od3, .func (PySem.W.fnOf "_law_gone" "_law_gone" (defArgs s__law_gone) (defBody s__law_gone) (defScope s__law_gone) .none kV3 dc3 pm3 an3 cd3 ct3), sl3⟩)
    (c3 : PySem.W.codeIn K cd3 "_law_gone" = true)
    (k3 : PySem.W.keepIn K (.ref f3) = true)
    (a4 : PySem.W.nsIn K mainGlobals "_law_may" = some (some (.ref f4)))
    (l4 : K.lookup f4 = some ⟨oc4, od4, .func (PySem.W.fnOf "_law_may" "_law_may" (defArgs s__law_may) (defBody s__law_may) (defScope s__law_may) .none kV4 dc4 pm4 an4 cd4 ct4), sl4⟩)
    (c4 : PySem.W.codeIn K cd4 "_law_may" = true)
    (k4 : PySem.W.keepIn K (.ref f4) = true)
    (a5 : PySem.W.nsIn K mainGlobals "_law_pick" = some (some (.ref f5)))
    (l5 : K.lookup f5 = some ⟨oc5, od5, .func (PySem.W.fnOf "_law_pick" "_law_pick" (defArgs s__law_pick) (defBody s__law_pick) (defScope s__law_pick) .none kV5 dc5 pm5 an5 cd5 ct5), sl5⟩)
    (c5 : PySem.W.codeIn K cd5 "_law_pick" = true)
    (k5 : PySem.W.keepIn K (.ref f5) = true)
    (a6 : PySem.W.nsIn K mainGlobals "_law_on" = some (some (.ref f6)))
    (l6 : K.lookup f6 = some ⟨oc6, od6, .func (PySem.W.fnOf "_law_on" "_law_on" (defArgs s__law_on) (defBody s__law_on) (defScope s__law_on) .none kV6 dc6 pm6 an6 cd6 ct6), sl6⟩)
    (c6 : PySem.W.codeIn K cd6 "_law_on" = true)
    (k6 : PySem.W.keepIn K (.ref f6) = true)
    (a7 : PySem.W.nsIn K mainGlobals "_law_swell" = some (some (.ref f7)))
    (l7 : K.lookup f7 = some ⟨oc7, od7, .func (PySem.W.fnOf "_law_swell" "_law_swell" (defArgs s__law_swell) (defBody s__law_swell) (defScope s__law_swell) .none kV7 dc7 pm7 an7 cd7 ct7), sl7⟩)
    (c7 : PySem.W.codeIn K cd7 "_law_swell" = true)
    (k7 : PySem.W.keepIn K (.ref f7) = true)
    (a8 : PySem.W.nsIn K mainGlobals "_law_begun" = some (some (.ref f8)))
    (l8 : K.lookup f8 = some ⟨oc8, od8, .func (PySem.W.fnOf "_law_begun" "_law_begun" (defArgs s__law_begun) (defBody s__law_begun) (defScope s__law_begun) .none kV8 dc8 pm8 an8 cd8 ct8), sl8⟩)
    (c8 : PySem.W.codeIn K cd8 "_law_begun" = true)
    (k8 : PySem.W.keepIn K (.ref f8) = true)
    (a9 : PySem.W.nsIn K mainGlobals "is_whole" = some (some (.ref f9)))
    (l9 : K.lookup f9 = some ⟨oc9, od9, .func (PySem.W.fnOf "is_whole" "is_whole" (defArgs s_is_whole) (defBody s_is_whole) (defScope s_is_whole) .none kV9 dc9 pm9 an9 cd9 ct9), sl9⟩)
    (c9 : PySem.W.codeIn K cd9 "is_whole" = true)
    (k9 : PySem.W.keepIn K (.ref f9) = true)
    (a10 : PySem.W.nsIn K mainGlobals "is_lending" = some (some (.ref f10)))
    (l10 : K.lookup f10 = some ⟨oc10, od10, .func (PySem.W.fnOf "is_lending" "is_lending" (defArgs s_is_lending) (defBody s_is_lending) (defScope s_is_lending) .none kV10 dc10 pm10 an10 cd10 ct10), sl10⟩)
    (c10 : PySem.W.codeIn K cd10 "is_lending" = true)
    (k10 : PySem.W.keepIn K (.ref f10) = true)
    (a11 : PySem.W.nsIn K mainGlobals "check_helps" = some (some (.ref f11)))
    (l11 : K.lookup f11 = some ⟨oc11, od11, .func (PySem.W.fnOf "check_helps" "check_helps" (defArgs s_check_helps) (defBody s_check_helps) (defScope s_check_helps) .none kV11 dc11 pm11 an11 cd11 ct11), sl11⟩)
    (c11 : PySem.W.codeIn K cd11 "check_helps" = true)
    (k11 : PySem.W.keepIn K (.ref f11) = true)
    (a12 : PySem.W.nsIn K mainGlobals "is_pair" = some (some (.ref f12)))
    (l12 : K.lookup f12 = some ⟨oc12, od12, .func (PySem.W.fnOf "is_pair" "is_pair" (defArgs s_is_pair) (defBody s_is_pair) (defScope s_is_pair) .none kV12 dc12 pm12 an12 cd12 ct12), sl12⟩)
    (c12 : PySem.W.codeIn K cd12 "is_pair" = true)
    (k12 : PySem.W.keepIn K (.ref f12) = true)
    (a13 : PySem.W.nsIn K mainGlobals "check_latches" = some (some (.ref f13)))
    (l13 : K.lookup f13 = some ⟨oc13, od13, .func (PySem.W.fnOf "check_latches" "check_latches" (defArgs s_check_latches) (defBody s_check_latches) (defScope s_check_latches) .none kV13 dc13 pm13 an13 cd13 ct13), sl13⟩)
    (c13 : PySem.W.codeIn K cd13 "check_latches" = true)
    (k13 : PySem.W.keepIn K (.ref f13) = true)
    (a14 : PySem.W.nsIn K mainGlobals "lenders_to" = some (some (.ref f14)))
    (l14 : K.lookup f14 = some ⟨oc14, od14, .func (PySem.W.fnOf "lenders_to" "lenders_to" (defArgs s_lenders_to) (defBody s_lenders_to) (defScope s_lenders_to) .none kV14 dc14 pm14 an14 cd14 ct14), sl14⟩)
    (c14 : PySem.W.codeIn K cd14 "lenders_to" = true)
    (k14 : PySem.W.keepIn K (.ref f14) = true)
    (a15 : PySem.W.findIn K (.ref C) "__init__" = some (some (.ref f15)))
    (i15 : PySem.W.isFn K (.ref f15) = true)
    (l15 : K.lookup f15 = some ⟨oc15, od15, .func (PySem.W.fnOf "__init__" "House.__init__" (defArgs s_House___init__) (defBody s_House___init__) (defScope s_House___init__) (.ref dt15) kV15 dc15 pm15 an15 cd15 ct15), sl15⟩)
    (c15 : PySem.W.codeIn K cd15 "House.__init__" = true)
    (k15 : PySem.W.keepIn K (.ref f15) = true)
    (t15 : K.lookup dt15 = some ⟨cdt15, odt15, .seq #[.ref dv15] ndt, sdt15⟩)
    (a16 : PySem.W.nsIn K mainGlobals "_law_house" = some (some (.ref f16)))
    (l16 : K.lookup f16 = some ⟨oc16, od16, .func (PySem.W.fnOf "_law_house" "_law_house" (defArgs s__law_house) (defBody s__law_house) (defScope s__law_house) .none kV16 dc16 pm16 an16 cd16 ct16), sl16⟩)
    (c16 : PySem.W.codeIn K cd16 "_law_house" = true)
    (k16 : PySem.W.keepIn K (.ref f16) = true)
    (a17 : PySem.W.nsIn K mainGlobals "_law_jar" = some (some (.ref f17)))
    (l17 : K.lookup f17 = some ⟨oc17, od17, .func (PySem.W.fnOf "_law_jar" "_law_jar" (defArgs s__law_jar) (defBody s__law_jar) (defScope s__law_jar) .none kV17 dc17 pm17 an17 cd17 ct17), sl17⟩)
    (c17 : PySem.W.codeIn K cd17 "_law_jar" = true)
    (k17 : PySem.W.keepIn K (.ref f17) = true)
    (a18 : PySem.W.nsIn K mainGlobals "_law_plan" = some (some (.ref f18)))
    (l18 : K.lookup f18 = some ⟨oc18, od18, .func (PySem.W.fnOf "_law_plan" "_law_plan" (defArgs s__law_plan) (defBody s__law_plan) (defScope s__law_plan) .none kV18 dc18 pm18 an18 cd18 ct18), sl18⟩)
    (c18 : PySem.W.codeIn K cd18 "_law_plan" = true)
    (k18 : PySem.W.keepIn K (.ref f18) = true)
    (a19 : PySem.W.nsIn K mainGlobals "_law_between" = some (some (.ref f19)))
    (l19 : K.lookup f19 = some ⟨oc19, od19, .func (PySem.W.fnOf "_law_between" "_law_between" (defArgs s__law_between) (defBody s__law_between) (defScope s__law_between) .none kV19 dc19 pm19 an19 cd19 ct19), sl19⟩)
    (c19 : PySem.W.codeIn K cd19 "_law_between" = true)
    (k19 : PySem.W.keepIn K (.ref f19) = true)
    (a20 : PySem.W.nsIn K mainGlobals "_law_same" = some (some (.ref f20)))
    (l20 : K.lookup f20 = some ⟨oc20, od20, .func (PySem.W.fnOf "_law_same" "_law_same" (defArgs s__law_same) (defBody s__law_same) (defScope s__law_same) .none kV20 dc20 pm20 an20 cd20 ct20), sl20⟩)
    (c20 : PySem.W.codeIn K cd20 "_law_same" = true)
    (k20 : PySem.W.keepIn K (.ref f20) = true)
    (a21 : PySem.W.nsIn K mainGlobals "gone" = some (some (.ref f21)))
    (l21 : K.lookup f21 = some ⟨oc21, od21, .func (PySem.W.fnOf "gone" "gone" (defArgs s_gone) (defBody s_gone) (defScope s_gone) .none kV21 dc21 pm21 an21 cd21 ct21), sl21⟩)
    (c21 : PySem.W.codeIn K cd21 "gone" = true)
    (k21 : PySem.W.keepIn K (.ref f21) = true)
    (a22 : PySem.W.findIn K (.ref C) "__len__" = some (some (.ref f22)))
    (i22 : PySem.W.isFn K (.ref f22) = true)
    (l22 : K.lookup f22 = some ⟨oc22, od22, .func (PySem.W.fnOf "__len__" "House.__len__" (defArgs s_House___len__) (defBody s_House___len__) (defScope s_House___len__) .none kV22 dc22 pm22 an22 cd22 ct22), sl22⟩)
    (c22 : PySem.W.codeIn K cd22 "House.__len__" = true)
    (k22 : PySem.W.keepIn K (.ref f22) = true)
    (a23 : PySem.W.nsIn K mainGlobals "movable" = some (some (.ref f23)))
    (l23 : K.lookup f23 = some ⟨oc23, od23, .func (PySem.W.fnOf "movable" "movable" (defArgs s_movable) (defBody s_movable) (defScope s_movable) .none kV23 dc23 pm23 an23 cd23 ct23), sl23⟩)
    (c23 : PySem.W.codeIn K cd23 "movable" = true)
    (k23 : PySem.W.keepIn K (.ref f23) = true)
    (a24 : PySem.W.nsIn K mainGlobals "is_latch" = some (some (.ref f24)))
    (l24 : K.lookup f24 = some ⟨oc24, od24, .func (PySem.W.fnOf "is_latch" "is_latch" (defArgs s_is_latch) (defBody s_is_latch) (defScope s_is_latch) .none kV24 dc24 pm24 an24 cd24 ct24), sl24⟩)
    (c24 : PySem.W.codeIn K cd24 "is_latch" = true)
    (k24 : PySem.W.keepIn K (.ref f24) = true)
    (a25 : PySem.W.nsIn K mainGlobals "check_latch" = some (some (.ref f25)))
    (l25 : K.lookup f25 = some ⟨oc25, od25, .func (PySem.W.fnOf "check_latch" "check_latch" (defArgs s_check_latch) (defBody s_check_latch) (defScope s_check_latch) .none kV25 dc25 pm25 an25 cd25 ct25), sl25⟩)
    (c25 : PySem.W.codeIn K cd25 "check_latch" = true)
    (k25 : PySem.W.keepIn K (.ref f25) = true)
    (a26 : PySem.W.findIn K (.ref C) "down_at" = some (some (.ref f26)))
    (i26 : PySem.W.isFn K (.ref f26) = true)
    (l26 : K.lookup f26 = some ⟨oc26, od26, .func (PySem.W.fnOf "down_at" "House.down_at" (defArgs s_House_down_at) (defBody s_House_down_at) (defScope s_House_down_at) .none kV26 dc26 pm26 an26 cd26 ct26), sl26⟩)
    (c26 : PySem.W.codeIn K cd26 "House.down_at" = true)
    (k26 : PySem.W.keepIn K (.ref f26) = true)
    (a27 : PySem.W.findIn K (.ref C) "up_at" = some (some (.ref f27)))
    (i27 : PySem.W.isFn K (.ref f27) = true)
    (l27 : K.lookup f27 = some ⟨oc27, od27, .func (PySem.W.fnOf "up_at" "House.up_at" (defArgs s_House_up_at) (defBody s_House_up_at) (defScope s_House_up_at) .none kV27 dc27 pm27 an27 cd27 ct27), sl27⟩)
    (c27 : PySem.W.codeIn K cd27 "House.up_at" = true)
    (k27 : PySem.W.keepIn K (.ref f27) = true)
    (a28 : PySem.W.findIn K (.ref C) "lenders" = some (some (.ref f28)))
    (i28 : PySem.W.isFn K (.ref f28) = true)
    (l28 : K.lookup f28 = some ⟨oc28, od28, .func (PySem.W.fnOf "lenders" "House.lenders" (defArgs s_House_lenders) (defBody s_House_lenders) (defScope s_House_lenders) .none kV28 dc28 pm28 an28 cd28 ct28), sl28⟩)
    (c28 : PySem.W.codeIn K cd28 "House.lenders" = true)
    (k28 : PySem.W.keepIn K (.ref f28) = true)
    (a29 : PySem.W.nsIn K mainGlobals "lent_in" = some (some (.ref f29)))
    (l29 : K.lookup f29 = some ⟨oc29, od29, .func (PySem.W.fnOf "lent_in" "lent_in" (defArgs s_lent_in) (defBody s_lent_in) (defScope s_lent_in) .none kV29 dc29 pm29 an29 cd29 ct29), sl29⟩)
    (c29 : PySem.W.codeIn K cd29 "lent_in" = true)
    (k29 : PySem.W.keepIn K (.ref f29) = true)
    (a30 : PySem.W.nsIn K mainGlobals "would_go" = some (some (.ref f30)))
    (l30 : K.lookup f30 = some ⟨oc30, od30, .func (PySem.W.fnOf "would_go" "would_go" (defArgs s_would_go) (defBody s_would_go) (defScope s_would_go) .none kV30 dc30 pm30 an30 cd30 ct30), sl30⟩)
    (c30 : PySem.W.codeIn K cd30 "would_go" = true)
    (k30 : PySem.W.keepIn K (.ref f30) = true)
    (a31 : PySem.W.nsIn K mainGlobals "wanting" = some (some (.ref f31)))
    (l31 : K.lookup f31 = some ⟨oc31, od31, .func (PySem.W.fnOf "wanting" "wanting" (defArgs s_wanting) (defBody s_wanting) (defScope s_wanting) .none kV31 dc31 pm31 an31 cd31 ct31), sl31⟩)
    (c31 : PySem.W.codeIn K cd31 "wanting" = true)
    (k31 : PySem.W.keepIn K (.ref f31) = true)
    (a32 : PySem.W.nsIn K mainGlobals "waves_of" = some (some (.ref f32)))
    (l32 : K.lookup f32 = some ⟨oc32, od32, .func (PySem.W.fnOf "waves_of" "waves_of" (defArgs s_waves_of) (defBody s_waves_of) (defScope s_waves_of) .none kV32 dc32 pm32 an32 cd32 ct32), sl32⟩)
    (c32 : PySem.W.codeIn K cd32 "waves_of" = true)
    (k32 : PySem.W.keepIn K (.ref f32) = true)
    (a33 : PySem.W.nsIn K mainGlobals "end_of" = some (some (.ref f33)))
    (l33 : K.lookup f33 = some ⟨oc33, od33, .func (PySem.W.fnOf "end_of" "end_of" (defArgs s_end_of) (defBody s_end_of) (defScope s_end_of) .none kV33 dc33 pm33 an33 cd33 ct33), sl33⟩)
    (c33 : PySem.W.codeIn K cd33 "end_of" = true)
    (k33 : PySem.W.keepIn K (.ref f33) = true)
    (a34 : PySem.W.nsIn K mainGlobals "carried" = some (some (.ref f34)))
    (l34 : K.lookup f34 = some ⟨oc34, od34, .func (PySem.W.fnOf "carried" "carried" (defArgs s_carried) (defBody s_carried) (defScope s_carried) .none kV34 dc34 pm34 an34 cd34 ct34), sl34⟩)
    (c34 : PySem.W.codeIn K cd34 "carried" = true)
    (k34 : PySem.W.keepIn K (.ref f34) = true)
    (a35 : PySem.W.nsIn K mainGlobals "is_rising" = some (some (.ref f35)))
    (l35 : K.lookup f35 = some ⟨oc35, od35, .func (PySem.W.fnOf "is_rising" "is_rising" (defArgs s_is_rising) (defBody s_is_rising) (defScope s_is_rising) .none kV35 dc35 pm35 an35 cd35 ct35), sl35⟩)
    (c35 : PySem.W.codeIn K cd35 "is_rising" = true)
    (k35 : PySem.W.keepIn K (.ref f35) = true)
    (a36 : PySem.W.nsIn K mainGlobals "is_rising_below" = some (some (.ref f36)))
    (l36 : K.lookup f36 = some ⟨oc36, od36, .func (PySem.W.fnOf "is_rising_below" "is_rising_below" (defArgs s_is_rising_below) (defBody s_is_rising_below) (defScope s_is_rising_below) .none kV36 dc36 pm36 an36 cd36 ct36), sl36⟩)
    (c36 : PySem.W.codeIn K cd36 "is_rising_below" = true)
    (k36 : PySem.W.keepIn K (.ref f36) = true)
    (a37 : PySem.W.nsIn K mainGlobals "check_stand" = some (some (.ref f37)))
    (l37 : K.lookup f37 = some ⟨oc37, od37, .func (PySem.W.fnOf "check_stand" "check_stand" (defArgs s_check_stand) (defBody s_check_stand) (defScope s_check_stand) .none kV37 dc37 pm37 an37 cd37 ct37), sl37⟩)
    (c37 : PySem.W.codeIn K cd37 "check_stand" = true)
    (k37 : PySem.W.keepIn K (.ref f37) = true)
    (a38 : PySem.W.nsIn K mainGlobals "check_swell" = some (some (.ref f38)))
    (l38 : K.lookup f38 = some ⟨oc38, od38, .func (PySem.W.fnOf "check_swell" "check_swell" (defArgs s_check_swell) (defBody s_check_swell) (defScope s_check_swell) .none kV38 dc38 pm38 an38 cd38 ct38), sl38⟩)
    (c38 : PySem.W.codeIn K cd38 "check_swell" = true)
    (k38 : PySem.W.keepIn K (.ref f38) = true)
    (a39 : PySem.W.nsIn K mainGlobals "check_moment" = some (some (.ref f39)))
    (l39 : K.lookup f39 = some ⟨oc39, od39, .func (PySem.W.fnOf "check_moment" "check_moment" (defArgs s_check_moment) (defBody s_check_moment) (defScope s_check_moment) .none kV39 dc39 pm39 an39 cd39 ct39), sl39⟩)
    (c39 : PySem.W.codeIn K cd39 "check_moment" = true)
    (k39 : PySem.W.keepIn K (.ref f39) = true)
    (a40 : PySem.W.nsIn K mainGlobals "check_settled" = some (some (.ref f40)))
    (l40 : K.lookup f40 = some ⟨oc40, od40, .func (PySem.W.fnOf "check_settled" "check_settled" (defArgs s_check_settled) (defBody s_check_settled) (defScope s_check_settled) .none kV40 dc40 pm40 an40 cd40 ct40), sl40⟩)
    (c40 : PySem.W.codeIn K cd40 "check_settled" = true)
    (k40 : PySem.W.keepIn K (.ref f40) = true)
    (a41 : PySem.W.nsIn K mainGlobals "check_leg" = some (some (.ref f41)))
    (l41 : K.lookup f41 = some ⟨oc41, od41, .func (PySem.W.fnOf "check_leg" "check_leg" (defArgs s_check_leg) (defBody s_check_leg) (defScope s_check_leg) .none kV41 dc41 pm41 an41 cd41 ct41), sl41⟩)
    (c41 : PySem.W.codeIn K cd41 "check_leg" = true)
    (k41 : PySem.W.keepIn K (.ref f41) = true)
    (a42 : PySem.W.nsIn K mainGlobals "leg" = some (some (.ref f42)))
    (l42 : K.lookup f42 = some ⟨oc42, od42, .func (PySem.W.fnOf "leg" "leg" (defArgs s_leg) (defBody s_leg) (defScope s_leg) .none kV42 dc42 pm42 an42 cd42 ct42), sl42⟩)
    (c42 : PySem.W.codeIn K cd42 "leg" = true)
    (k42 : PySem.W.keepIn K (.ref f42) = true)
    (a43 : PySem.W.nsIn K mainGlobals "there_and_back" = some (some (.ref f43)))
    (l43 : K.lookup f43 = some ⟨oc43, od43, .func (PySem.W.fnOf "there_and_back" "there_and_back" (defArgs s_there_and_back) (defBody s_there_and_back) (defScope s_there_and_back) .none kV43 dc43 pm43 an43 cd43 ct43), sl43⟩)
    (c43 : PySem.W.codeIn K cd43 "there_and_back" = true)
    (k43 : PySem.W.keepIn K (.ref f43) = true)
    (a44 : PySem.W.nsIn K mainGlobals "bears" = some (some (.ref f44)))
    (l44 : K.lookup f44 = some ⟨oc44, od44, .func (PySem.W.fnOf "bears" "bears" (defArgs s_bears) (defBody s_bears) (defScope s_bears) .none kV44 dc44 pm44 an44 cd44 ct44), sl44⟩)
    (c44 : PySem.W.codeIn K cd44 "bears" = true)
    (k44 : PySem.W.keepIn K (.ref f44) = true)
    (a45 : PySem.W.nsIn K mainGlobals "_law_right" = some (some (.ref f45)))
    (l45 : K.lookup f45 = some ⟨oc45, od45, .func (PySem.W.fnOf "_law_right" "_law_right" (defArgs s__law_right) (defBody s__law_right) (defScope s__law_right) .none kV45 dc45 pm45 an45 cd45 ct45), sl45⟩)
    (c45 : PySem.W.codeIn K cd45 "_law_right" = true)
    (k45 : PySem.W.keepIn K (.ref f45) = true)
    (a46 : PySem.W.nsIn K mainGlobals "law" = some (some (.ref f46)))
    (l46 : K.lookup f46 = some ⟨oc46, od46, .func (PySem.W.fnOf "law" "law" (defArgs s_law) (defBody s_law) (defScope s_law) .none kV46 dc46 pm46 an46 cd46 ct46), sl46⟩)
    (c46 : PySem.W.codeIn K cd46 "law" = true)
    (k46 : PySem.W.keepIn K (.ref f46) = true)
    (b_all : PySem.W.nsIn K mainGlobals "all" = some none)
    (b_bool : PySem.W.nsIn K mainGlobals "bool" = some none)
    (b_enumerate : PySem.W.nsIn K mainGlobals "enumerate" = some none)
    (b_int : PySem.W.nsIn K mainGlobals "int" = some none)
    (b_isinstance : PySem.W.nsIn K mainGlobals "isinstance" = some none)
    (b_len : PySem.W.nsIn K mainGlobals "len" = some none)
    (b_list : PySem.W.nsIn K mainGlobals "list" = some none)
    (b_max : PySem.W.nsIn K mainGlobals "max" = some none)
    (b_min : PySem.W.nsIn K mainGlobals "min" = some none)
    (b_range : PySem.W.nsIn K mainGlobals "range" = some none)
    (b_sorted : PySem.W.nsIn K mainGlobals "sorted" = some none)
    (b_sum : PySem.W.nsIn K mainGlobals "sum" = some none)
    (b_tuple : PySem.W.nsIn K mainGlobals "tuple" = some none)
    (g_MOST_LATCHES : PySem.W.nsIn K mainGlobals "MOST_LATCHES" = some (some (.int 14 t_MOST_LATCHES)))
    (g_MOST_HELP : PySem.W.nsIn K mainGlobals "MOST_HELP" = some (some (.int 9 t_MOST_HELP))) :
    ∃ fd : FuncData, (∀ (s : Shared) (v : Value), BindsTo s fd ⟨[v], []⟩ [("script", v)]) ∧ ∀ base : Heap, K.In base → base.Ns mainGlobals mg → FnOk l.prog w K mg base CX0 16 fa fd ["script"] (sp_law K 0) := by
  have e := hfa.symm.trans (PySem.W.mg_of X G a46)
  cases e
  have T : Txt K mg C := ⟨⟨pgC, hdC, poC, saC⟩,
    PySem.W.mg_of X G aC,
    n_latches,
    n_helps,
    n_lenders,
    ⟨⟨pgC, hdC, poC, saC⟩, haC, hnC, htkC, hmC, by unfold PySem.W.kitOne; rw [if_pos (by simp)]⟩,
    neC,
    ⟨f0, _, fun_mk (st := s_House___eq__) l0 c0 k0, ⟨a0, i0, k0⟩⟩,
    ⟨_, _, fun_mk (st := s__law_pull) l1 c1 k1, PySem.W.mg_of X G a1⟩,
    ⟨_, _, fun_mk (st := s__law_ends) l2 c2 k2, PySem.W.mg_of X G a2⟩,
    ⟨_, _, fun_mk (st := s__law_gone) l3 c3 k3, PySem.W.mg_of X G a3⟩,
    ⟨_, _, fun_mk (st := s__law_may) l4 c4 k4, PySem.W.mg_of X G a4⟩,
    ⟨_, _, fun_mk (st := s__law_pick) l5 c5 k5, PySem.W.mg_of X G a5⟩,
    ⟨_, _, fun_mk (st := s__law_on) l6 c6 k6, PySem.W.mg_of X G a6⟩,
    ⟨_, _, fun_mk (st := s__law_swell) l7 c7 k7, PySem.W.mg_of X G a7⟩,
    ⟨_, _, fun_mk (st := s__law_begun) l8 c8 k8, PySem.W.mg_of X G a8⟩,
    ⟨_, _, fun_mk (st := s_is_whole) l9 c9 k9, PySem.W.mg_of X G a9⟩,
    ⟨_, _, fun_mk (st := s_is_lending) l10 c10 k10, PySem.W.mg_of X G a10⟩,
    ⟨_, _, fun_mk (st := s_check_helps) l11 c11 k11, PySem.W.mg_of X G a11⟩,
    ⟨_, _, fun_mk (st := s_is_pair) l12 c12 k12, PySem.W.mg_of X G a12⟩,
    ⟨_, _, fun_mk (st := s_check_latches) l13 c13 k13, PySem.W.mg_of X G a13⟩,
    ⟨_, _, fun_mk (st := s_lenders_to) l14 c14 k14, PySem.W.mg_of X G a14⟩,
    ⟨f15, _, dv15, ⟨⟨_, _, _, _, _, _, _, _, _, _, rfl, l15, c15, .inr ⟨by simp, dt15, _, [.ref dv15], ndt, rfl, t15, rfl, .cons rfl .nil⟩, .inl rfl⟩, k15⟩, ⟨mkC, a15, i15, kcC⟩⟩,
    ⟨_, _, fun_mk (st := s__law_house) l16 c16 k16, PySem.W.mg_of X G a16⟩,
    ⟨_, _, fun_mk (st := s__law_jar) l17 c17 k17, PySem.W.mg_of X G a17⟩,
    ⟨_, _, fun_mk (st := s__law_plan) l18 c18 k18, PySem.W.mg_of X G a18⟩,
    ⟨_, _, fun_mk (st := s__law_between) l19 c19 k19, PySem.W.mg_of X G a19⟩,
    ⟨_, _, fun_mk (st := s__law_same) l20 c20 k20, PySem.W.mg_of X G a20⟩,
    ⟨_, _, fun_mk (st := s_gone) l21 c21 k21, PySem.W.mg_of X G a21⟩,
    ⟨f22, _, fun_mk (st := s_House___len__) l22 c22 k22, ⟨a22, i22, k22⟩⟩,
    ⟨_, _, fun_mk (st := s_movable) l23 c23 k23, PySem.W.mg_of X G a23⟩,
    ⟨_, _, fun_mk (st := s_is_latch) l24 c24 k24, PySem.W.mg_of X G a24⟩,
    ⟨_, _, fun_mk (st := s_check_latch) l25 c25 k25, PySem.W.mg_of X G a25⟩,
    ⟨f26, _, fun_mk (st := s_House_down_at) l26 c26 k26, ⟨a26, i26, k26⟩⟩,
    ⟨f27, _, fun_mk (st := s_House_up_at) l27 c27 k27, ⟨a27, i27, k27⟩⟩,
    ⟨f28, _, fun_mk (st := s_House_lenders) l28 c28 k28, ⟨a28, i28, k28⟩⟩,
    ⟨_, _, fun_mk (st := s_lent_in) l29 c29 k29, PySem.W.mg_of X G a29⟩,
    ⟨_, _, fun_mk (st := s_would_go) l30 c30 k30, PySem.W.mg_of X G a30⟩,
    ⟨_, _, fun_mk (st := s_wanting) l31 c31 k31, PySem.W.mg_of X G a31⟩,
    ⟨_, _, fun_mk (st := s_waves_of) l32 c32 k32, PySem.W.mg_of X G a32⟩,
    ⟨_, _, fun_mk (st := s_end_of) l33 c33 k33, PySem.W.mg_of X G a33⟩,
    ⟨_, _, fun_mk (st := s_carried) l34 c34 k34, PySem.W.mg_of X G a34⟩,
    ⟨_, _, fun_mk (st := s_is_rising) l35 c35 k35, PySem.W.mg_of X G a35⟩,
    ⟨_, _, fun_mk (st := s_is_rising_below) l36 c36 k36, PySem.W.mg_of X G a36⟩,
    ⟨_, _, fun_mk (st := s_check_stand) l37 c37 k37, PySem.W.mg_of X G a37⟩,
    ⟨_, _, fun_mk (st := s_check_swell) l38 c38 k38, PySem.W.mg_of X G a38⟩,
    ⟨_, _, fun_mk (st := s_check_moment) l39 c39 k39, PySem.W.mg_of X G a39⟩,
    ⟨_, _, fun_mk (st := s_check_settled) l40 c40 k40, PySem.W.mg_of X G a40⟩,
    ⟨_, _, fun_mk (st := s_check_leg) l41 c41 k41, PySem.W.mg_of X G a41⟩,
    ⟨_, _, fun_mk (st := s_leg) l42 c42 k42, PySem.W.mg_of X G a42⟩,
    ⟨_, _, fun_mk (st := s_there_and_back) l43 c43 k43, PySem.W.mg_of X G a43⟩,
    ⟨_, _, fun_mk (st := s_bears) l44 c44 k44, PySem.W.mg_of X G a44⟩,
    ⟨_, _, fun_mk (st := s__law_right) l45 c45 k45, PySem.W.mg_of X G a45⟩,
    ⟨_, _, fun_mk (st := s_law) l46 c46 k46, PySem.W.mg_of X G a46⟩,
    PySem.W.mg_none_of X G b_all,
    PySem.W.mg_none_of X G b_bool,
    PySem.W.mg_none_of X G b_enumerate,
    PySem.W.mg_none_of X G b_int,
    PySem.W.mg_none_of X G b_isinstance,
    PySem.W.mg_none_of X G b_len,
    PySem.W.mg_none_of X G b_list,
    PySem.W.mg_none_of X G b_max,
    PySem.W.mg_none_of X G b_min,
    PySem.W.mg_none_of X G b_range,
    PySem.W.mg_none_of X G b_sorted,
    PySem.W.mg_none_of X G b_sum,
    PySem.W.mg_none_of X G b_tuple,
    ⟨t_MOST_LATCHES, PySem.W.mg_of X G g_MOST_LATCHES⟩,
    ⟨t_MOST_HELP, PySem.W.mg_of X G g_MOST_HELP⟩⟩
  exact ⟨PySem.W.fnOf "law" "law" (defArgs s_law) (defBody s_law) (defScope s_law) .none kV46 dc46 pm46 an46 cd46 ct46, fun s v => .of_eq rfl, fun base _ _ => d_law (C := C) T (fun_mk (st := s_law) l46 c46 k46)⟩
end My
open PySem PySem.W PyProof.Rows
set_option maxRecDepth 100000 in
set_option maxHeartbeats 0 in
theorem PySem.Challenge.cw_swaykeep_k20_there_and_back_holds : PySem.Challenge.rw_swaykeep_k20_there_and_back.Holds := by
  w_on; o_law; k_head; (case hw => w_witness2)
  k_fill
  refine L2.walk_of (l := PySem.Challenge.rw_swaykeep_k20_there_and_back) (n := 63) (k := 16) (x := "script") (CX := fun _ => L2.CX0) (sp := fun w => My.sp_law _ 0) rfl (by decide) rfl ⟨rfl, by decide, by decide⟩ (fun w h Y => PySem.W.kIn_of Y) ?F (fun _ _ a ns hl _ hS => ⟨a, ns, rfl, hS, hl, fun _ => rfl⟩) (fun _ _ _ _ _ h => h)
  case F =>
    intro w mg fa h KX G hmg
    refine' My.all_mk KX G hmg ?aC ?pgC ?hdC ?poC ?saC ?mkC ?kcC ?n_latches ?n_helps ?n_lenders ?haC ?hnC ?htkC ?hmC ?neC ?a0 ?i0 ?l0 ?c0 ?k0 ?a1 ?l1 ?c1 ?k1 ?a2 ?l2 ?c2 ?k2 ?a3 ?l3 ?c3 ?k3 ?a4 ?l4 ?c4 ?k4 ?a5 ?l5 ?c5 ?k5 ?a6 ?l6 ?c6 ?k6 ?a7 ?l7 ?c7 ?k7 ?a8 ?l8 ?c8 ?k8 ?a9 ?l9 ?c9 ?k9 ?a10 ?l10 ?c10 ?k10 ?a11 ?l11 ?c11 ?k11 ?a12 ?l12 ?c12 ?k12 ?a13 ?l13 ?c13 ?k13 ?a14 ?l14 ?c14 ?k14 ?a15 ?i15 ?l15 ?c15 ?k15 ?t15 ?a16 ?l16 ?c16 ?k16 ?a17 ?l17 ?c17 ?k17 ?a18 ?l18 ?c18 ?k18 ?a19 ?l19 ?c19 ?k19 ?a20 ?l20 ?c20 ?k20 ?a21 ?l21 ?c21 ?k21 ?a22 ?i22 ?l22 ?c22 ?k22 ?a23 ?l23 ?c23 ?k23 ?a24 ?l24 ?c24 ?k24 ?a25 ?l25 ?c25 ?k25 ?a26 ?i26 ?l26 ?c26 ?k26 ?a27 ?i27 ?l27 ?c27 ?k27 ?a28 ?i28 ?l28 ?c28 ?k28 ?a29 ?l29 ?c29 ?k29 ?a30 ?l30 ?c30 ?k30 ?a31 ?l31 ?c31 ?k31 ?a32 ?l32 ?c32 ?k32 ?a33 ?l33 ?c33 ?k33 ?a34 ?l34 ?c34 ?k34 ?a35 ?l35 ?c35 ?k35 ?a36 ?l36 ?c36 ?k36 ?a37 ?l37 ?c37 ?k37 ?a38 ?l38 ?c38 ?k38 ?a39 ?l39 ?c39 ?k39 ?a40 ?l40 ?c40 ?k40 ?a41 ?l41 ?c41 ?k41 ?a42 ?l42 ?c42 ?k42 ?a43 ?l43 ?c43 ?k43 ?a44 ?l44 ?c44 ?k44 ?a45 ?l45 ?c45 ?k45 ?a46 ?l46 ?c46 ?k46 ?b_all ?b_bool ?b_enumerate ?b_int ?b_isinstance ?b_len ?b_list ?b_max ?b_min ?b_range ?b_sorted ?b_sum ?b_tuple ?g_MOST_LATCHES ?g_MOST_HELP
    (case aC => k_is)
    (case pgC => k_is)
    (case hdC => k_is)
    (case poC => k_is)
    (case saC => k_is)
    (case mkC => k_is)
    (case kcC => k_is)
    (case n_latches => k_is)
    (case n_helps => k_is)
    (case n_lenders => k_is)
    (case haC => k_is)
    (case hnC => k_is)
    (case htkC => k_is)
    (case hmC => k_is)
    (case neC => k_is)
    (case a0 => k_is)
    (case i0 => k_is)
    (case l0 => k_is)
    (case c0 => k_is)
    (case k0 => k_is)
    (case a1 => k_is)
    (case l1 => k_is)
    (case c1 => k_is)
    (case k1 => k_is)
    (case a2 => k_is)
    (case l2 => k_is)
    (case c2 => k_is)
    (case k2 => k_is)
    (case a3 => k_is)
    (case l3 => k_is)
    (case c3 => k_is)
    (case k3 => k_is)
    (case a4 => k_is)
    (case l4 => k_is)
    (case c4 => k_is)
    (case k4 => k_is)
    (case a5 => k_is)
    (case l5 => k_is)
    (case c5 => k_is)
    (case k5 => k_is)
    (case a6 => k_is)
    (case l6 => k_is)
    (case c6 => k_is)
    (case k6 => k_is)
    (case a7 => k_is)
    (case l7 => k_is)
    (case c7 => k_is)
    (case k7 => k_is)
    (case a8 => k_is)
    (case l8 => k_is)
    (case c8 => k_is)
    (case k8 => k_is)
    (case a9 => k_is)
    (case l9 => k_is)
    (case c9 => k_is)
    (case k9 => k_is)
    (case a10 => k_is)
    (case l10 => k_is)
    (case c10 => k_is)
    (case k10 => k_is)
    (case a11 => k_is)
    (case l11 => k_is)
    (case c11 => k_is)
    (case k11 => k_is)
    (case a12 => k_is)
    (case l12 => k_is)
    (case c12 => k_is)
    (case k12 => k_is)
    (case a13 => k_is)
    (case l13 => k_is)
    (case c13 => k_is)
    (case k13 => k_is)
    (case a14 => k_is)
    (case l14 => k_is)
    (case c14 => k_is)
    (case k14 => k_is)
    (case a15 => k_is)
    (case i15 => k_is)
    (case l15 => k_is)
    (case c15 => k_is)
    (case k15 => k_is)
    (case t15 => k_is)
    (case a16 => k_is)
    (case l16 => k_is)
    (case c16 => k_is)
    (case k16 => k_is)
    (case a17 => k_is)
    (case l17 => k_is)
    (case c17 => k_is)
    (case k17 => k_is)
    (case a18 => k_is)
    (case l18 => k_is)
    (case c18 => k_is)
    (case k18 => k_is)
    (case a19 => k_is)
    (case l19 => k_is)
    (case c19 => k_is)
    (case k19 => k_is)
    (case a20 => k_is)
    (case l20 => k_is)
    (case c20 => k_is)
    (case k20 => k_is)
    (case a21 => k_is)
    (case l21 => k_is)
    (case c21 => k_is)
    (case k21 => k_is)
    (case a22 => k_is)
    (case i22 => k_is)
    (case l22 => k_is)
    (case c22 => k_is)
    (case k22 => k_is)
    (case a23 => k_is)
    (case l23 => k_is)
    (case c23 => k_is)
    (case k23 => k_is)
    (case a24 => k_is)
    (case l24 => k_is)
    (case c24 => k_is)
    (case k24 => k_is)
    (case a25 => k_is)
    (case l25 => k_is)
    (case c25 => k_is)
    (case k25 => k_is)
    (case a26 => k_is)
    (case i26 => k_is)
    (case l26 => k_is)
    (case c26 => k_is)
    (case k26 => k_is)
    (case a27 => k_is)
    (case i27 => k_is)
    (case l27 => k_is)
    (case c27 => k_is)
    (case k27 => k_is)
    (case a28 => k_is)
    (case i28 => k_is)
    (case l28 => k_is)
    (case c28 => k_is)
    (case k28 => k_is)
    (case a29 => k_is)
    (case l29 => k_is)
    (case c29 => k_is)
    (case k29 => k_is)
    (case a30 => k_is)
    (case l30 => k_is)
    (case c30 => k_is)
    (case k30 => k_is)
    (case a31 => k_is)
    (case l31 => k_is)
    (case c31 => k_is)
    (case k31 => k_is)
    (case a32 => k_is)
    (case l32 => k_is)
    (case c32 => k_is)
    (case k32 => k_is)
    (case a33 => k_is)
    (case l33 => k_is)
    (case c33 => k_is)
    (case k33 => k_is)
    (case a34 => k_is)
    (case l34 => k_is)
    (case c34 => k_is)
    (case k34 => k_is)
    (case a35 => k_is)
    (case l35 => k_is)
    (case c35 => k_is)
    (case k35 => k_is)
    (case a36 => k_is)
    (case l36 => k_is)
    (case c36 => k_is)
    (case k36 => k_is)
    (case a37 => k_is)
    (case l37 => k_is)
    (case c37 => k_is)
    (case k37 => k_is)
    (case a38 => k_is)
    (case l38 => k_is)
    (case c38 => k_is)
    (case k38 => k_is)
    (case a39 => k_is)
    (case l39 => k_is)
    (case c39 => k_is)
    (case k39 => k_is)
    (case a40 => k_is)
    (case l40 => k_is)
    (case c40 => k_is)
    (case k40 => k_is)
    (case a41 => k_is)
    (case l41 => k_is)
    (case c41 => k_is)
    (case k41 => k_is)
    (case a42 => k_is)
    (case l42 => k_is)
    (case c42 => k_is)
    (case k42 => k_is)
    (case a43 => k_is)
    (case l43 => k_is)
    (case c43 => k_is)
    (case k43 => k_is)
    (case a44 => k_is)
    (case l44 => k_is)
    (case c44 => k_is)
    (case k44 => k_is)
    (case a45 => k_is)
    (case l45 => k_is)
    (case c45 => k_is)
    (case k45 => k_is)
    (case a46 => k_is)
    (case l46 => k_is)
    (case c46 => k_is)
    (case k46 => k_is)
    (case b_all => k_is)
    (case b_bool => k_is)
    (case b_enumerate => k_is)
    (case b_int => k_is)
    (case b_isinstance => k_is)
    (case b_len => k_is)
    (case b_list => k_is)
    (case b_max => k_is)
    (case b_min => k_is)
    (case b_range => k_is)
    (case b_sorted => k_is)
    (case b_sum => k_is)
    (case b_tuple => k_is)
    (case g_MOST_LATCHES => k_is)
    (case g_MOST_HELP => k_is)
