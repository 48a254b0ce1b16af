import PyProof.Rows.All
import Wide.All
import OpenK.AllK
import Wide.FinOn
import HandS.ForMost
import HandS.IsInst
import HandS.Wide
import HandS.Deep
import HandS.Zip
import HandS.SortRule
import HandS.More
import HandS.RaiseMore
import HandS.Flow
import HandS.OwnEq
import HandS.Defaults
import KE.GoesEnum
import HandS.Evl
import HandS.SortInts
import HandS.Star
import HandS.TupAny
import HandS.TupLe
import HandS.Style
import HandS.Conv
import HandS.Dict
import HandS.Iter
import HandS.Small
import HandS.Codes
import HandS.NoneIn
import HandS.MakeKwOnly
import PyProof.FactsAll.object_2
import PyProof.FactsAll.list_1
import PyProof.DelItemList
import PyProof.RulesDelMore
import HandS.SetFor
import HandS.WideBits
import HandS.DictComp
import PyProof.MinMaxWalk
import KE.LtSeq
import PyProof.ReprRoads
import PySem.Challenge.RW_swaykeep_k63_widenings_told
set_option Elab.async false
set_option linter.all false
set_option maxRecDepth 100000
set_option maxHeartbeats 8000000
namespace My
open PySem PySem.Spec PyProof.Rows L2

/-! ### a def, a method, a class with its maker: all that a caller wants -/
structure Dfn (P : Program) (w : World) (K : PySem.W.Frag) (mg : PySem.Str → Option Value) (base : Heap) (x : PySem.Str) (k : Nat) (ps : List PySem.Str) (sp : Sp) : Prop where
  ex : ∃ (f : Addr) (fd : FuncData), mg x = some (.ref f) ∧ PySem.W.keepIn K (.ref f) = true ∧ Binds K fd ps [] ∧ FnOk P w K mg base CX0 k f fd ps sp
structure Mtd (P : Program) (w : World) (K : PySem.W.Frag) (mg : PySem.Str → Option Value) (base : Heap) (C : Addr) (m : PySem.Str) (k : Nat) (ps : List PySem.Str) (sp : Sp) : Prop where
  ex : ∃ (f : Addr) (fd : FuncData), Meth K C m f ∧ Binds K fd ps [] ∧ FnOk P w K mg base CX0 k f fd ps sp
/-- a class whose __init__ has the parameters ps, the last ones with the defaults dvs -/
structure Mkd (P : Program) (w : World) (K : PySem.W.Frag) (mg : PySem.Str → Option Value) (base : Heap) (x : PySem.Str) (C : Addr) (k : Nat) (ps : List PySem.Str) (dvs : List V) (sp : Sp) : Prop where
  ex : ∃ (f : Addr) (fd : FuncData) (ds : List Value), mg x = some (.ref C) ∧ Mk K C f ∧ Binds K fd ps ds ∧ Vals dvs ds ∧ FnOk P w K mg base CX0 k f fd ps sp
section
variable {X : Cx} {x m : PySem.Str} {k j : Nat} {ps : List PySem.Str} {dvs : List V} {sp : Sp} {e o : Expr} {es : List Expr} {t : TA} {ta : TE} {p pos apos : Pos} {C : Addr}
theorem pe_def (D : Dfn X.prog X.w X.K X.mg X.base x k ps sp) (hr : Room k X.A) (hg : Gl X x) (ha : PA X (e :: es) t) (hdb : (x == ("__debug__" : PySem.Str)) = false := by decide)
    (he : starEach (e :: es) X.env = (false, eval e X.env) :: starEach es X.env := by rfl) (hpl : (backTo pos (starEach es X.env)).any (·.1) = false := by rfl) :
    PE X (.Call (.Name x p) (e :: es) [] pos) (tCall sp [] E0 t) := by
  obtain ⟨f, fd, h1, h2, h3, h4⟩ := D.ex
  exact pe_call h4 hr hg h1 h2 h3 .nil pass0 ha hdb he hpl
theorem pe_mth {pl : Sem Bool} (D : Mtd X.prog X.w X.K X.mg X.base C m k ps sp) (ho : PE X o ta) (c : Cls X.K C) (hr : Room k X.A) (ha : PA X (e :: es) t)
    (hst : starEach (e :: es) X.env = (false, eval e X.env) :: starEach es X.env := by rfl) (hpl : (backTo pos (starEach es X.env)).any (·.1) = false := by rfl)
    (ht : eval (.Call (.Attribute o m apos) (e :: es) [] pos) X.env = (do
      let ov ← eval o X.env
      standAt apos.atName
      let (f, first) ← holding [ov] (getMethod ov m pl)
      callWith pos f first (backTo pos (starEach (e :: es) X.env)) (backToKw pos (keywordEach [] X.env))) := by rfl) :
    PE X (.Call (.Attribute o m apos) (e :: es) [] pos) (tMeth C m sp [] E0 ta t) := by
  obtain ⟨f, fd, h1, h3, h4⟩ := D.ex
  exact pe_meth ho c h1 h4 hr h3 .nil pass0 ha hst hpl ht
theorem pe_mkd (D : Mkd X.prog X.w X.K X.mg X.base x C k ps dvs sp) (hr : Room (k + 1) X.A) (hg : Gl X x) (ha : PA X (e :: es) t) (hdb : (x == ("__debug__" : PySem.Str)) = false := by decide)
    (he : starEach (e :: es) X.env = (false, eval e X.env) :: starEach es X.env := by rfl) (hpl : (backTo pos (starEach es X.env)).any (·.1) = false := by rfl) :
    PE X (.Call (.Name x p) (e :: es) [] pos) (tMake C sp dvs E0 t) := by
  obtain ⟨f, fd, ds, h1, h2, h3, h5, h4⟩ := D.ex
  exact pe_make h2 h4 hr hg h1 h3 h5 pass0 ha hdb he hpl

/-! ### len of an instance with its own __len__ -/
def rLenOwn (C : Addr) (sp : Sp) : List V → Hp → VK → Prop := fun xs H Q => ∃ (a dx : Addr) (fs : List (PySem.Str × V)), xs = [.ref a] ∧ H a = some (.ins C dx fs) ∧
  sp [.ref a] H (fun v H' => ∃ n : Int, v = .int n ∧ (0 ≤ n ∧ n < 2 ^ 63) ∧ Q (.int n) H') E0
theorem call_lenOwn (D : Mtd X.prog X.w X.K X.mg X.base C "__len__" k ps sp) (hr : Room (k + 1) X.A) : CallR X (.builtin "len") (rLenOwn C sp) := by
  intro pins s σ H xs us Q I r h
  obtain ⟨a, dx, fs, rfl, ha, hsp⟩ := h
  obtain ⟨u, rfl, ru⟩ := vals1 r
  obtain rfl : u = Value.ref a := ru
  obtain ⟨f, fd, hm, hb, F⟩ := D.ex
  obtain ⟨mA, J, _⟩ := ins_get I.hok ha
  obtain ⟨od, J, _⟩ := J.look
  obtain ⟨m, hF⟩ := I.fr
  refine PySem.W.len_K hF I.ok.mod.kin J hm.at_ hm.fn ?_
  have hl := F.len _ _ _ _ hsp
  have r2 : Vals [V.ref a] [Value.ref a] := .cons rfl .nil
  refine wpAny_call (codeAny_mono (F.run X.A.in1 X.stack s H ⟨[.ref a], []⟩ [.ref a] [.ref a] _ E0 hr.in1 I.env0.in1 (by
    have := hb s [.ref a] I.kIn (by simpa using hl)
    simpa using this) r2 hsp) fun r s' hq => ?_)
  cases r with
  | error e => exact hq.elim
  | ok fl =>
    cases fl with
    | ret w =>
      obtain ⟨z, H', I', rz, n, ez, hn, q⟩ := I.after hq
      subst ez
      obtain ⟨t, rfl⟩ := rz
      exact ⟨hn, .int n, H', I'.tok _, ⟨_, rfl⟩, q⟩
    | next => exact False.elim hq
    | brk => exact False.elim hq
    | cont => exact False.elim hq
theorem pe_lenO (D : Mtd X.prog X.w X.K X.mg X.base C "__len__" k ps sp) (hr : Room (k + 1) X.A) (hg : Gl X "len") (hm : X.mg "len" = none) (ha : PA X (e :: es) t)
    (he : starEach (e :: es) X.env = (false, eval e X.env) :: starEach es X.env := by rfl) (hpl : (backTo pos (starEach es X.env)).any (·.1) = false := by rfl) :
    PE X (.Call (.Name "len" p) (e :: es) [] pos) (tCB (rLenOwn C sp) t) := pe_callB (call_lenOwn D hr) hg hm (by decide +kernel) ha (he := he) (hpl := hpl)

/-! ### powers of great ints -/
def CPowW (i j : Int) : Prop := 0 ≤ j ∧ j ≤ 100 ∧ i.natAbs < 2 ^ 100000
theorem op_powW : OpR X (binaryOp .Pow) (rI CPowW fun i j => .int (i ^ j.toNat)) := opI fun i j _ _ _ _ _ hc q => by
  refine pow_int hc.1 ?_ q
  have b : Builtin.Int.intBits i ≤ 100001 := by
    unfold Builtin.Int.intBits
    split
    · omega
    · have := PySem.Flt.log2_lt_of (by decide) hc.2.2
      omega
  have h1 := hc.1
  have h2 := hc.2.1
  have q1 : ((Builtin.Int.intBits i : Nat) : Int) * j ≤ 100001 * j := Int.mul_le_mul_of_nonneg_right (by omega) h1
  omega
end
end My
namespace SrtO
open PySem PyProof.Rows Srt
section
variable {prog : Program} {w : World} {A : Around} {E : Value → Shared → Prop} {s : Shared}
/-! ### sorted of triples of ints, any number of them -/
def IsTrip (h : Heap) (v : Value) (x : Int × Int × Int) : Prop := ∃ a o t u r n, v = .ref a ∧ h.get? a = some o ∧ o.cls = .type "tuple" ∧ o.data = .seq #[.int x.1 t, .int x.2.1 u, .int x.2.2 r] n
theorem IsTrip.keeps {h h' : Heap} {v : Value} {x : Int × Int × Int} (p : IsTrip h v x) (k : ∀ b o, h.get? b = some o → o.cls = .type "tuple" → h'.get? b = some o) : IsTrip h' v x := by
  obtain ⟨a, o, t, u, r, n, e, ho, hc, hd⟩ := p
  exact ⟨a, o, t, u, r, n, e, k _ _ ho hc, hc, hd⟩
def lex3 (p q : Int × Int × Int) : Bool := if p.1 = q.1 then (if p.2.1 = q.2.1 then decide (p.2.2 < q.2.2) else decide (p.2.1 < q.2.1)) else decide (p.1 < q.1)
theorem lex3_iff {p q : Int × Int × Int} : lex3 p q = true ↔ p.1 < q.1 ∨ (p.1 = q.1 ∧ (p.2.1 < q.2.1 ∨ (p.2.1 = q.2.1 ∧ p.2.2 < q.2.2))) := by
  unfold lex3
  by_cases e : p.1 = q.1
  · rw [if_pos e]
    by_cases e2 : p.2.1 = q.2.1
    · rw [if_pos e2, decide_eq_true_eq]
      omega
    · rw [if_neg e2, decide_eq_true_eq]
      omega
  · rw [if_neg e, decide_eq_true_eq]
    omega
theorem lex3_no {p q : Int × Int × Int} : lex3 p q = false ↔ ¬ (p.1 < q.1 ∨ (p.1 = q.1 ∧ (p.2.1 < q.2.1 ∨ (p.2.1 = q.2.1 ∧ p.2.2 < q.2.2)))) := by
  rw [← lex3_iff]
  cases lex3 p q <;> simp
theorem swo_lex3 {α : Type} (k : α → Int × Int × Int) : Swo fun v u => lex3 (k v) (k u) := by
  refine ⟨fun x y h => ?_, fun x y z h1 h2 => ?_⟩
  · have a := lex3_iff.mp h
    refine lex3_no.mpr ?_
    omega
  · have a := lex3_no.mp h1
    have b := lex3_no.mp h2
    refine lex3_no.mpr ?_
    omega
theorem trip_cmp {vs : List Value} {k : Value → Int × Int × Int} (hp : ∀ v ∈ vs, IsTrip s.heap v (k v)) : Cmp prog w A s (tuples' true) (fun p => p.1 ∈ vs) (lt2 fun v u => lex3 (k v) (k u)) := by
  intro p q hm hm'
  have h1 := hp _ hm
  have h2 := hp _ hm'
  show wpAny (model prog w) A (keyLt' (tuples' true) p.1 q.1) (fun r s' => s' = s ∧ r = lex3 (k p.1) (k q.1)) (fun _ _ => False) s
  unfold lex3
  generalize k p.1 = x at h1 ⊢
  generalize k q.1 = y at h2 ⊢
  obtain ⟨x1, x2, x3⟩ := x
  obtain ⟨y1, y2, y3⟩ := y
  obtain ⟨a, o, t, u, r, n, e, ho, hc, hd⟩ := h1
  obtain ⟨a', o', t', u', r', n', e', ho', hc', hd'⟩ := h2
  rw [e, e']
  refine PySem.W.kat_lt ho hd ho' hd' ?_
  show PySem.W.KatLex prog w A true (decide (3 < 3)) _ [(.int x1 t, .int y1 t'), (.int x2 u, .int y2 u'), (.int x3 r, .int y3 r')] 0 s
  show PySem.W.KatLex prog w A true (decide (3 < 3)) (fun r s' => s' = s ∧ r = (if x1 = y1 then (if x2 = y2 then decide (x3 < y3) else decide (x2 < y2)) else decide (x1 < y1))) [(.int x1 t, .int y1 t'), (.int x2 u, .int y2 u'), (.int x3 r, .int y3 r')] 0 s
  refine PySem.W.kat_cons (SeqAt.EqAt.int_int x1 t y1 t' prog w _ _ ?_)
  refine PySem.W.kat_go (fun e1 => ?_) (fun e1 => ?_)
  · have ex : x1 = y1 := by simpa using e1
    rw [if_pos ex]
    refine PySem.W.kat_yes (PySem.W.kat_cons (SeqAt.EqAt.int_int x2 u y2 u' prog w _ _ ?_))
    refine PySem.W.kat_go (fun e2 => ?_) (fun e2 => ?_)
    · have ey : x2 = y2 := by simpa using e2
      rw [if_pos ey]
      refine PySem.W.kat_yes (PySem.W.kat_cons (SeqAt.EqAt.int_int x3 r y3 r' prog w _ _ ?_))
      refine PySem.W.kat_go (fun e3 => ?_) (fun e3 => ?_)
      · have ez : x3 = y3 := by simpa using e3
        have e4 : decide (x3 < y3) = false := by rw [ez]; exact decide_eq_false (Int.lt_irrefl _)
        exact PySem.W.kat_yes (PySem.W.kat_nil ⟨rfl, e4.symm⟩)
      · refine PySem.W.kat_no (PySem.W.kat_one _ _ (PyProof.Rows.lt_int ?_))
        exact (show s = s ∧ decide (x3 < y3) = decide (x3 < y3) from ⟨rfl, rfl⟩)
    · have ey : ¬ x2 = y2 := by simpa using e2
      rw [if_neg ey]
      refine PySem.W.kat_no (PySem.W.kat_one _ _ (PyProof.Rows.lt_int ?_))
      exact (show s = s ∧ decide (x2 < y2) = decide (x2 < y2) from ⟨rfl, rfl⟩)
  · have ex : ¬ x1 = y1 := by simpa using e1
    rw [if_neg ex]
    exact PySem.W.kat_no (oneLt_int ⟨rfl, rfl⟩)
theorem firsts_of3 {h : Heap} : ∀ {vs : List Value}, (∀ v ∈ vs, ∃ x, IsTrip h v x) → ∃ fs : List Value, PySem.W.KatTups h vs fs ∧ fs.length = vs.length ∧ ∀ f ∈ fs, ∃ x t, f = Value.int x t
  | [], _ => ⟨[], PySem.W.KatTups.nil, rfl, fun _ hm => by simp at hm⟩
  | v :: vs, hp => by
    obtain ⟨fs, h1, h2, h3⟩ := firsts_of3 (vs := vs) fun v' hm => hp v' (List.mem_cons_of_mem _ hm)
    obtain ⟨x, a, o, t, u, r, n, e, ho, hc, hd⟩ := hp v (List.mem_cons_self ..)
    subst e
    refine ⟨.int x.1 t :: fs, PySem.W.KatTups.cons ho hc hd rfl h1, by rw [List.length_cons, List.length_cons, h2], fun f hm => ?_⟩
    rcases List.mem_cons.mp hm with rfl | hm
    · exact ⟨x.1, t, rfl⟩
    · exact h3 f hm
theorem trips_sortableO {a : Addr} {vs : List Value} {k : Value → Int × Int × Int} (h0 : 0 < vs.length) (hp : ∀ v ∈ vs, IsTrip s.heap v (k v)) (ha : ∀ o, s.heap.get? a = some o → o.cls ≠ .type "tuple") : SortableO prog w A s a vs fun v u => lex3 (k v) (k u) := by
  intro h' keep
  have hp' : ∀ v ∈ vs, IsTrip h' v (k v) := fun v hm => (hp v hm).keeps fun b o e c => keep b o (fun z => by subst z; exact ha o e c) e
  obtain ⟨fs, h1, h2, h3⟩ := firsts_of3 fun v hm => ⟨_, hp' v hm⟩
  refine ⟨tuples' true, fun Q E hq => ?_, trip_cmp hp'⟩
  refine PySem.W.kat_kind (T := .type "int") h1 (by omega) (fun f hm => ?_) (by rfl) ?_
  · obtain ⟨x, t, rfl⟩ := h3 f hm
    exact PySem.W.Looks.now
  · have e : (Value.type "int" != Value.type "tuple") = true := by first | decide +kernel | rfl | decide
    rw [e]
    exact hq
theorem sorted_tripsO {l : Addr} {vs : List Value} {k : Value → Int × Int × Int} {Q : Value → Shared → Prop} (hl : s.heap.IsList l vs.toArray) (hz : vs.length ≤ sizeLine) (hp : ∀ v ∈ vs, IsTrip s.heap v (k v))
    (h : ∀ (h' : Heap) (d : Addr) (out : List Value), Srtd (fun v u => lex3 (k v) (k u)) out → Stb (fun v u => lex3 (k v) (k u)) out vs → (∀ b o, s.heap.get? b = some o → h'.get? b = some o) → s.heap.objs.size ≤ d → (∃ n, h'.get? d = some (seqObj "list" out.toArray n)) → Q (.ref d) { s with heap := h' }) :
    wpAny (model prog w) A (call (.builtin "sorted") [.ref l]) Q E s := by
  refine sorted_ord (swo_lex3 k) hl hz (fun h2 h₁ a ha kk => ?_) fun out hs hb => ?_
  · refine trips_sortableO (s := { s with heap := h₁ }) (by omega) (fun v hm => (hp v hm).keeps fun b o e _ => (kk b o e).2) fun o e => ?_
    have e' : some o = some (seqObj "list" vs.toArray 0) := e.symm.trans ha
    cases e'
    intro c
    exact absurd (Value.type.inj c) (by decide)
  · exact h _ _ out hs hb (fun b o e => sortedAll_old e) (Nat.le_succ _) (sortedAll_at s.heap vs out.toArray)
end
end SrtO
namespace L2
open PySem PySem.Spec PyProof.Rows
/-- sorted(xs), xs a list of triples of ints: a new list, sorted, a rearrangement -/
def rSorted3 (K : PySem.W.Frag) : List V → Hp → VK → Prop := fun vs H Q => ∃ (a : Addr) (xs : List V) (k : V → Int × Int × Int), vs = [V.ref a] ∧ SqL K H a xs ∧ (∀ x ∈ xs, ∃ t, x = V.ref t ∧ H t = some (.tup [.int (k x).1, .int (k x).2.1, .int (k x).2.2])) ∧
  ∀ ys p, SrtO.Srtd (fun x y => SrtO.lex3 (k x) (k y)) ys → ys.Perm xs → H p = none → Q (.ref p) (upd H p (.lst ys))
section
variable {X : Cx}
theorem vals3' {x y z : V} {us : List Value} (r : Vals [x, y, z] us) : ∃ u w' t', us = [u, w', t'] ∧ RelV x u ∧ RelV y w' ∧ RelV z t' := by
  cases r with
  | cons a r => cases r with
    | cons b r => cases r with
      | cons c r => cases r; exact ⟨_, _, _, rfl, a, b, c⟩
theorem cr_sorted3 : CallR X (.builtin "sorted") (rSorted3 X.K) := by
  intro pins s σ H vs us Q I r h
  obtain ⟨a, xs, k, rfl, hs, hx, q⟩ := h
  obtain ⟨its, rv, hl, hz⟩ := I.list hs
  obtain ⟨u, rfl, ru⟩ := vals1 r
  obtain rfl : u = Value.ref a := ru
  obtain ⟨e1, e2⟩ := refs_back rv fun x m => by
    obtain ⟨t, e, _⟩ := hx x m
    exact ⟨t, e⟩
  refine SrtO.sorted_tripsO (k := fun u => k (backV u)) hl.isList (by rw [← rv.length]; exact hz) (fun v hv => ?_) fun h' d out h1 h2 kp hd hn => ?_
  · obtain ⟨t, rfl⟩ := e2 v hv
    have hm : V.ref t ∈ xs := by rw [e1]; exact List.mem_map.mpr ⟨_, hv, rfl⟩
    obtain ⟨t', e, ht⟩ := hx _ hm
    cases e
    obtain ⟨_, its2, r2, o, ho, hc, n, hd⟩ := I.hok _ _ ht
    obtain ⟨u1, u2, u3, rfl, ri, rj, rk⟩ := vals3' r2
    obtain ⟨t1, rfl⟩ := ri
    obtain ⟨t2, rfl⟩ := rj
    obtain ⟨t3, rfl⟩ := rk
    exact ⟨t, o, t1, t2, t3, n, rfl, ho, hc, hd⟩
  · have h3 : ∀ u ∈ out, ∃ a, u = Value.ref a := fun u hu => e2 u (h2.perm.mem_iff.mp hu)
    obtain ⟨n, hn⟩ := hn
    have hb : (out.map backV).Perm xs := by
      rw [e1]
      exact h2.perm.map backV
    refine ⟨.ref d, upd H d (.lst (out.map backV)), I.laid (t' := s.toks) kp hd ⟨?_, out, n, vals_back h3, hn⟩, rfl, q _ d (SrtO.srtd_map (lt := fun x y => SrtO.lex3 (k x) (k y)) h1) hb (I.hok.fresh hd)⟩
    rw [hb.length_eq]
    exact hz
end
end L2
namespace PySem
open Sem (wp)
theorem meets_enumerate_newT {v : Value} {o : Obj} {H : Heap → Prop} (B : Begins v o H) :
    Meets (Builtin.«enumerate.__new__» ⟨[.type "enumerate", v], []⟩) (fun _ R s => H s.heap ∧
      R (.ok (.ret (.ref (s.heap.push o).objs.size))) { s with heap := (s.heap.push o).push { cls := .type "enumerate", data := .fields #[.none, .bool false, .ref s.heap.objs.size, rawInt 0, .none, .none] } }) :=
  .of_wp fun prog w A R s h => by
    obtain ⟨hp, g, d, tk, os⟩ := s; obtain ⟨h1, h⟩ := h
    have hsub := sub_enumerate
    have q1 : ∀ {A' : Around} {E : Value → Shared → Prop} {Q : Value → Shared → Prop}, Q (.ref hp.objs.size) ⟨hp.push o, g, d, tk, os⟩ → wpAny (model prog w) A' (pyIter v) Q E ⟨hp, g, d, tk, os⟩ :=
      fun q => B.iter prog w _ _ ⟨hp, g, d, tk, os⟩ _ h1 q
    wp_walk using q1
    refine wpAny_stack_any fun st => wpAny_pure ?_
    split
    · rename_i c _ _ _ _ _
      cases (c == Value.type "enumerate")
      · wp_walk using q1
        exact ⟨_, rfl, h⟩
      · wp_walk using q1
        exact ⟨_, rfl, h⟩
    · wp_walk using q1
      exact ⟨_, rfl, h⟩
section
variable {prog : Program} {w : World} {A : Around} {E : Value → Shared → Prop} {s : Shared}
theorem enum_begins1 {v : Value} {o : Obj} {H : Heap → Prop} {Q : Value → Shared → Prop} (B : Begins v o H) (h1 : H s.heap)
    (h : ∀ h', IsEnum h' (s.heap.objs.size + 1) s.heap.objs.size 0 .none → h'.get? s.heap.objs.size = some o → h'.objs.size = s.heap.objs.size + 2 →
      (∀ b o, s.heap.get? b = some o → h'.get? b = some o) → Q (.ref (s.heap.objs.size + 1)) { s with heap := h' }) :
    wpAny (model prog w) A (call (.type "enumerate") [v]) Q E s := by
  refine callType_new F.called_enumerate (by decide) (F.typeCall_enumerate_1 _) (F.newCall_enumerate_1 _) (fun obj => F.args_object_init_2 obj _) F.entry_enumerate_new
    (meets_enumerate_newT B) ⟨h1, ?_⟩
  have hz : (s.heap.push o).objs.size = s.heap.objs.size + 1 := Heap.size_push ..
  show _ ∧ _
  rw [hz]
  have he : IsEnum ((s.heap.push o).push { cls := .type "enumerate", data := .fields #[.none, .bool false, .ref s.heap.objs.size, rawInt 0, .none, .none] }) (s.heap.objs.size + 1) s.heap.objs.size 0 .none := by
    have := Heap.get?_push_size (s.heap.push o) (o := { cls := .type "enumerate", data := .fields #[.none, .bool false, .ref s.heap.objs.size, rawInt 0, .none, .none] }) rfl
    rw [hz] at this; exact this
  refine ⟨⟨_, he, rfl⟩, h _ he (Heap.get?_push_of_some _ (Heap.get?_push_size _ B.free)) (by rw [Heap.size_push, hz]) fun b o x => Heap.get?_push_of_some _ (Heap.get?_push_of_some _ x)⟩
theorem wpAny_pyNext_enum_endT {e it l : Addr} {i : Nat} {items : Array Value} {old : Value} {Q : Option Value → Shared → Prop} (hh : A.handled = none)
    (he : IsEnum s.heap e it i old) (hit : s.heap.IsTupleIter it l i) (hl : s.heap.IsTuple l items) (hx : items[i]? = none)
    (hQ : ∀ h', Heap.ExtBut it s.heap h' → Q none { s with heap := h' }) : wpAny (model prog w) A (pyNext (.ref e)) Q E s := by
  have hT : s.TypeIs (.ref e) "enumerate" := ⟨_, he, rfl⟩
  unfold pyNext
  refine wpAny_bind (wpAny_attempt (wpAny_callSpecial?_slot (name := Str.ofString "__next__") hT F.slot_enumerate_next
    (wpAny_call_entry F.slot_enumerate_next hT F.entry_enumerate_next ?_ (F.args_enumerate_next_1 _))))
  show wpAny _ _ (field (.ref e) 2 >>= _) _ _ _
  refine wpAny_bind (wpAny_field he rfl (x := .ref it) rfl ?_)
  refine wpAny_bind (wpAny_nextOf_tuple_end hh hit hl hx fun h' x he' hx' => ?_)
  obtain ⟨o, ho, hc⟩ := hx'
  refine wpAny_bind (wpAny_isInstance (T := "StopIteration") (b := true) ⟨o, ho, hc⟩ isSubtype_stop ?_)
  exact wpAny_pure (hQ _ he')
end
end PySem
namespace L2
open PySem PySem.Spec PyProof.Rows
/-! ### enumerate(tuple) -/
def Itet (K : PySem.W.Frag) (a : Addr) : It :=
  ⟨fun i H => ∃ (xs : List V) (x : V), SqT K H a xs ∧ xs[i]? = some x, fun i H v H' => ∃ T x, v = .ref T ∧ H T = none ∧ H' = upd H T (.tup [.int (i : Nat), x]) ∧ ∀ xs, SqT K H a xs → xs[i]? = some x, fun i H => ∃ xs : List V, SqT K H a xs ∧ xs.length ≤ i⟩
theorem turn_enumT {P : Program} {w : World} {K : PySem.W.Frag} {elts : List Expr} {kk : Nat} {tpos : Pos} (a e it : Addr) (hai : a ≠ it) (hea : e ≠ a) :
    Turn P w K (.Tuple elts kk tpos) (Itet K a) [e, it] e (fun i h => (∃ old, IsEnum h e it ((i : Nat) : Int) old) ∧ h.IsTupleIter it a i ∧ e ≠ it) where
  mem := by simp
  obj := fun i h st b hb => by
    obtain ⟨⟨old, he⟩, ⟨o, ho, hc, hd⟩, _⟩ := st
    have e' : b = e ∨ b = it := by simpa using hb
    rcases e' with z | z
    · rw [z]; exact ⟨_, he, fun v q => nomatch q⟩
    · rw [z]; exact ⟨o, ho, fun v q => by rw [hd] at q; cases q⟩
  keep := fun i h h' st k => let ⟨⟨old, he⟩, hi, hne⟩ := st; ⟨⟨old, k e (by simp) _ he⟩, hi.at fun o q => k it (by simp) o q, hne⟩
  item := by
    intro X hP hw hK hc i pins s σ H E I hf st hg
    subst hP hw hK
    obtain ⟨⟨old, he⟩, hit, hne⟩ := st
    obtain ⟨xs, x, hq, hx⟩ := hg
    obtain ⟨its, rv, p, hz⟩ := I.tuple hq
    obtain ⟨u, hu, ru⟩ := rv.get hx
    have hel : e < s.heap.objs.size := Heap.lt_size he
    have hil : it < s.heap.objs.size := by obtain ⟨_, q, _⟩ := hit; exact Heap.lt_size q
    have hpt : s.heap.IsTuple a its.toArray := p
    have hlt : i < its.toArray.size := by
      have := (List.getElem?_eq_some_iff.mp hu).1
      simpa using this
    refine wpAny_pyNext_enum_itemC (Draws.tuple (prog := X.prog) (w := X.w) (A := X.A.in1) (I.ok.hd hc) it a hai its.toArray) he ⟨hit, hpt⟩ hlt hne (by simp [hne, hea]) fun x' h' tk hx' ho hst' hT hsz hk => ?_
    have ex : x' = u := by
      have h2 : its.toArray[i]? = some u := by simpa using hu
      exact Option.some.inj (hx'.symm.trans h2)
    subst ex
    refine ⟨_, rfl, wpAny_letOwnedTupleGo_enum (s := { s with heap := h', toks := tk + 1 }) ho fun h'' he' sb => ?_⟩
    have hT2 : h''.get? s.heap.objs.size = some { cls := .type "tuple", data := .seq #[.int i tk, x'] } := (sb.2 _ (Nat.ne_of_gt hel)).trans hT
    have new : ObjOk X.prog X.w (upd H s.heap.objs.size (.tup [.int (i : Nat), x])) h'' s.heap.objs.size (.tup [.int (i : Nat), x]) :=
      ⟨by show 2 ≤ sizeLine; decide, [.int i tk, x'], .cons ⟨_, rfl⟩ (.cons ru .nil), ⟨_, hT2, rfl, _, rfl⟩⟩
    have I1 : Inv X pins σ (upd H s.heap.objs.size (.tup [.int (i : Nat), x])) { s with heap := h'', toks := tk + 1 } :=
      I.turnedNew (ch := [e, it]) (fun b ob hb q => (sb.2 b (fun z => hb (by simp [z]))).trans (hk b ob (fun z => hb (by simp [z])) (fun z => hb (by simp [z])) q)) hf (Nat.le_refl _) new
    refine ⟨.ref s.heap.objs.size, _, I1, rfl, ⟨_, x, rfl, I.hok.fresh (Nat.le_refl _), rfl, fun ys hy => by rw [I.tuple_inj hy hq]; exact hx⟩, ⟨⟨x', ?_⟩, hst'.1.at fun o q => (sb.2 it (Ne.symm hne)).trans q, hne⟩, fun b hb => ?_⟩
    · have e1 : ((i + 1 : Nat) : Int) = (i : Int) + 1 := by omega
      rw [e1]; exact he'
    · have hb' : b < s.heap.objs.size := by
        have e' : b = e ∨ b = it := by simpa using hb
        rcases e' with z | z
        · rw [z]; exact hel
        · rw [z]; exact hil
      rw [upd_ne (Nat.ne_of_lt hb')]
      exact (hf b hb).1
  done := by
    intro X hP hw hK hc i pins s σ H E I hf st hg
    subst hP hw hK
    obtain ⟨⟨old, he⟩, hit, hne⟩ := st
    obtain ⟨xs, hq, hx⟩ := hg
    obtain ⟨its, rv, p, hz⟩ := I.tuple hq
    obtain ⟨f0, f1, f2, f3, f4, f5⟩ := hf it (by simp)
    have hl := rv.length
    have hpt : s.heap.IsTuple a its.toArray := p
    exact wpAny_pyNext_enum_endT (I.ok.hd hc) he hit hpt (by simp; omega) fun h' eb => ⟨rfl, I.turned (t' := s.toks) (fun b o hb q => eb b o hb q) f0 f1 f3 f4 f5⟩
  self := fun A i s Q E st h => let ⟨⟨_, he⟩, _⟩ := st; wpAny_pyIter_enum he h
def iEnumT (K : PySem.W.Frag) (ta : TA) : TI := fun σ H R => ta σ H fun vs H1 => ∃ a xs, vs = [.ref a] ∧ SqT K H1 a xs ∧ R (Itet K a) H1
theorem pi_enumT {X : Cx} {e : Expr} {ta : TA} {p pos tpos : Pos} {elts : List Expr} {kk : Nat} (hg : Gl X "enumerate") (hm : X.mg "enumerate" = none) (ha : PA X [e] ta) (hs : starEach [e] X.env = [(false, eval e X.env)] := by rfl) :
    PI X (.Tuple elts kk tpos) (.Call (.Name "enumerate" p) [e] [] pos) (iEnumT X.K ta) := by
  refine ⟨fun pins s σ H R I h => ?_⟩
  refine Call_ (ld_blt I hg hm boot_enumerate (PyProof.Rows.callWith_type1 (thn (ha.run pos pins s σ H _ I h) fun us s1 ⟨vs, H1, I1, r1, q1⟩ => ?_) hs rfl))
  obtain ⟨a, xs, ex, hq, q⟩ := q1
  subst ex
  cases r1 with
  | cons r rr =>
    cases rr
    cases r
    obtain ⟨its, rv, p', hz⟩ := I1.tuple hq
    have hpt : s1.heap.IsTuple a its.toArray := p'
    have hal : a < s1.heap.objs.size := by obtain ⟨o, ho, _⟩ := hpt; exact Heap.lt_size ho
    refine enum_begins1 (begins_tuple a its.toArray) hpt fun h' he hit hsz hk => wpAny_pyIter_enum he ?_
    have I2 : Inv X pins σ H1 { s1 with heap := h' } := I1.kept (t' := s1.toks) hk
    refine ⟨s1.heap.objs.size + 1, [s1.heap.objs.size + 1, s1.heap.objs.size], _, _, H1, rfl, I2, turn_enumT a (s1.heap.objs.size + 1) s1.heap.objs.size (Nat.ne_of_lt hal) (Nat.ne_of_gt (Nat.lt_succ_of_lt hal)), ⟨⟨.none, he⟩, ⟨_, hit, rfl, rfl⟩, Nat.succ_ne_self _⟩, fun b hb => ?_, q⟩
    have e' : b = s1.heap.objs.size + 1 ∨ b = s1.heap.objs.size := by simpa using hb
    have hle : s1.heap.objs.size ≤ b := by
      rcases e' with z | z
      · rw [z]; exact Nat.le_add_right _ _
      · rw [z]; exact Nat.le_refl _
    exact I1.fpOk hle (I1.hok.fresh hle)
end L2
namespace My
open PySem PySem.Spec PyProof.Rows L2

/-! ### heaps: all stands; all but one object stands; what never changes stands -/
def Ex (H H' : Hp) : Prop := ∀ b o, H b = some o → H' b = some o
def ExB (a : Addr) (H H' : Hp) : Prop := ∀ b o, b ≠ a → H b = some o → H' b = some o
def Imm : HO → Prop
  | .tup _ => True
  | .ins _ _ _ => True
  | .frz _ _ => True
  | _ => False
def Ki (H H' : Hp) : Prop := ∀ b o, Imm o → H b = some o → H' b = some o
theorem Ex.rfl {H : Hp} : Ex H H := fun _ _ h => h
theorem Ex.trans {H H1 H2 : Hp} (a : Ex H H1) (b : Ex H1 H2) : Ex H H2 := fun x o h => b x o (a x o h)
theorem Ex.new {H : Hp} {p : Addr} {o : HO} (h : H p = none) : Ex H (upd H p o) := fun a u e => by
  rw [upd_ne (ne_of_none e h)]
  exact e
theorem Ex.mut {H H' : Hp} {p : Addr} {o : HO} (e : Ex H H') (h : H p = none) : Ex H (upd H' p o) := fun a u ha => by
  rw [upd_ne (ne_of_none ha h)]
  exact e a u ha
theorem Ex.free {H H' : Hp} {p : Addr} (e : Ex H H') (h : H' p = none) : H p = none := by
  cases h1 : H p with
  | none => rfl
  | some o => rw [e p o h1] at h; cases h
theorem Ex.ki {H H' : Hp} (e : Ex H H') : Ki H H' := fun b o _ h => e b o h
theorem Ex.exB {H H' : Hp} {a : Addr} (e : Ex H H') : ExB a H H' := fun b o _ h => e b o h
theorem ExB.rfl {a : Addr} {H : Hp} : ExB a H H := fun _ _ _ h => h
theorem ExB.trans {a : Addr} {H H1 H2 : Hp} (x : ExB a H H1) (y : ExB a H1 H2) : ExB a H H2 := fun b o n h => y b o n (x b o n h)
theorem ExB.upd {a : Addr} {H : Hp} {o : HO} : ExB a H (upd H a o) := fun b u n h => by rw [upd_ne n]; exact h
theorem ExB.mut {a : Addr} {H H' : Hp} {p : Addr} {o : HO} (e : ExB a H H') (h : H p = none) : ExB a H (L2.upd H' p o) := fun b u n hb => by
  rw [upd_ne (ne_of_none hb h)]
  exact e b u n hb
theorem Ki.rfl {H : Hp} : Ki H H := fun _ _ _ h => h
theorem Ki.trans {H H1 H2 : Hp} (x : Ki H H1) (y : Ki H1 H2) : Ki H H2 := fun b o i h => y b o i (x b o i h)
theorem Ki.mut {H H' : Hp} {p : Addr} {o : HO} (e : Ki H H') (h : H p = none) : Ki H (L2.upd H' p o) := fun b u n hb => by
  rw [upd_ne (ne_of_none hb h)]
  exact e b u n hb
/-- a list is changed -/
theorem Ki.lst {H H' : Hp} {p : Addr} {xs : List V} {o : HO} (e : Ki H H') (h : H' p = some (.lst xs)) : Ki H (L2.upd H' p o) := fun b u n hb => by
  have h2 := e b u n hb
  have : b ≠ p := fun z => by
    subst z
    rw [h] at h2
    cases h2
    exact n
  rw [upd_ne this]
  exact h2
theorem ExB.ki {a : Addr} {H H' : Hp} {xs : List V} (e : ExB a H H') (h : H a = some (.lst xs)) : Ki H H' := fun b o i hb => e b o (fun z => by
  subst z
  rw [h] at hb
  cases hb
  exact i) hb
theorem ki_rd {H H' : Hp} {a : Addr} {xs : List V} (e : Ki H H') (h : Rd H a (.tup xs)) : Rd H' a (.tup xs) := by
  rcases h with h | ⟨o, h⟩
  · exact .inl (e a _ trivial h)
  · exact .inr ⟨o, e a _ trivial h⟩
theorem _root_.L2.SqT.ki {K : PySem.W.Frag} {H H' : Hp} {a : Addr} {xs : List V} (h : SqT K H a xs) (e : Ki H H') : SqT K H' a xs := by
  rcases h with h | h
  · exact .inl (ki_rd e h)
  · exact .inr h
theorem SqLex {K : PySem.W.Frag} {H H' : Hp} {a : Addr} {xs : List V} (h : SqL K H a xs) (e : Ex H H') : SqL K H' a xs := by
  rcases h with (h | ⟨o, h⟩) | h
  · exact .inl (.inl (e _ _ h))
  · exact .inl (.inr ⟨o, e _ _ h⟩)
  · exact .inr h

/-! ### items side by side -/
def Al {α : Type} (R : V → α → Prop) (xs : List V) (as : List α) : Prop := xs.length = as.length ∧ ∀ (i : Nat) (x : V) (a : α), xs[i]? = some x → as[i]? = some a → R x a
section
variable {α β : Type} {R R' : V → α → Prop} {xs ys : List V} {as bs : List α}
theorem Al.imp (h : Al R xs as) (f : ∀ x a, R x a → R' x a) : Al R' xs as := ⟨h.1, fun i x a h1 h2 => f x a (h.2 i x a h1 h2)⟩
theorem Al.nil : Al R [] [] := ⟨rfl, fun i x a h _ => by simp at h⟩
theorem Al.cons {x : V} {a : α} (h : R x a) (t : Al R xs as) : Al R (x :: xs) (a :: as) := by
  refine ⟨by simp [t.1], fun i y b h1 h2 => ?_⟩
  cases i with
  | zero => simp at h1 h2; subst h1 h2; exact h
  | succ i => simp at h1 h2; exact t.2 i y b h1 h2
theorem Al.inv {x : V} {a : α} (h : Al R (x :: xs) (a :: as)) : R x a ∧ Al R xs as :=
  ⟨h.2 0 x a rfl rfl, ⟨by have := h.1; simpa using this, fun i y b h1 h2 => h.2 (i + 1) y b (by simpa using h1) (by simpa using h2)⟩⟩
theorem Al.nil_inv (h : Al R [] as) : as = [] := by
  have := h.1
  exact List.length_eq_zero_iff.mp this.symm
theorem Al.snoc {x : V} {a : α} (t : Al R xs as) (h : R x a) : Al R (xs ++ [x]) (as ++ [a]) := by
  refine ⟨by simp [t.1], fun i y b h1 h2 => ?_⟩
  rcases Nat.lt_or_ge i xs.length with hi | hi
  · rw [List.getElem?_append_left hi] at h1
    rw [List.getElem?_append_left (by rw [← t.1]; exact hi)] at h2
    exact t.2 i y b h1 h2
  · rw [List.getElem?_append_right hi] at h1
    rw [List.getElem?_append_right (by rw [← t.1]; exact hi)] at h2
    have e : i - xs.length = 0 := by
      have := (List.getElem?_eq_some_iff.mp h1).1
      simp at this
      omega
    rw [e] at h1
    rw [← t.1, e] at h2
    simp at h1 h2
    subst h1 h2
    exact h
theorem Al.get (h : Al R xs as) {i : Nat} {x : V} (e : xs[i]? = some x) : ∃ a, as[i]? = some a ∧ R x a := by
  have h1 := (List.getElem?_eq_some_iff.mp e).1
  have h2 : i < as.length := by rw [← h.1]; exact h1
  exact ⟨as[i], List.getElem?_eq_getElem h2, h.2 i x _ e (List.getElem?_eq_getElem h2)⟩
theorem Al.get' (h : Al R xs as) {i : Nat} {a : α} (e : as[i]? = some a) : ∃ x, xs[i]? = some x ∧ R x a := by
  have h1 := (List.getElem?_eq_some_iff.mp e).1
  have h2 : i < xs.length := by rw [h.1]; exact h1
  exact ⟨xs[i], List.getElem?_eq_getElem h2, h.2 i _ a (List.getElem?_eq_getElem h2) e⟩
theorem Al.map {f : α → V} (h : Al (fun x a => x = f a) xs as) : xs = as.map f := by
  refine List.ext_getElem? fun i => ?_
  rw [List.getElem?_map]
  cases e : xs[i]? with
  | none =>
    have : as[i]? = none := by
      rw [List.getElem?_eq_none_iff] at e ⊢
      rw [← h.1]; exact e
    rw [this]; rfl
  | some x =>
    obtain ⟨a, h1, h2⟩ := h.get e
    rw [h1, h2]; rfl
theorem Al.of_map {f : α → V} {as : List α} (h : ∀ a, a ∈ as → R (f a) a) : Al R (as.map f) as := by
  refine ⟨by simp, fun i x a h1 h2 => ?_⟩
  rw [List.getElem?_map, h2] at h1
  cases h1
  exact h a (List.mem_of_getElem? h2)
end
theorem take_snoc {α : Type} : ∀ {l : List α} {i : Nat} {x : α}, l[i]? = some x → l.take (i + 1) = l.take i ++ [x]
  | [], i, x, h => by simp at h
  | a :: l, 0, x, h => by
    have e : a = x := Option.some.inj h
    subst e
    rfl
  | a :: l, i + 1, x, h => by
    have ih := take_snoc (l := l) (i := i) (x := x) h
    show a :: l.take (i + 1) = a :: l.take i ++ [x]
    rw [ih]
    rfl

/-! ### pure parts: whatever follows -/
def EvR (te : TE) (σ : L2.St) (H : Hp) (P : V → Hp → Prop) : Prop := ∀ Q : VK, (∀ v H', Ex H H' → P v H' → Q v H') → te σ H Q
def TvR (t : TT) (σ : L2.St) (H : Hp) (b : Bool) : Prop := ∀ Q : Bool → Hp → Prop, (∀ H', Ex H H' → Q b H') → t σ H Q
def GvR (g : TG) (x : V) (σ : L2.St) (H : Hp) (σ2 : L2.St) : Prop := ∀ Q : L2.St → Hp → Prop, (∀ H', Ex H H' → Q σ2 H') → g x σ H Q
theorem tv_yes {σ : L2.St} {H : Hp} : TvR tYes σ H true := fun Q q => q H Ex.rfl
theorem gv_name {i : Nat} {x : V} {σ : L2.St} {H : Hp} : GvR (gName i) x σ H (σ.set i (some x)) := fun Q q => q H Ex.rfl
section
variable {K : PySem.W.Frag} {α : Type} {as : List α} {kp : α → Bool} {RB : α → V → Hp → Prop} {g : TG} {tt : TT} {te : TE} {vs : List Nat} {σ : L2.St} {H : Hp} {D : Addr}
/-- what a pure comprehension keeps between two turns -/
def CW (H : Hp) (as : List α) (kp : α → Bool) (RB : α → V → Hp → Prop) (D : Addr) (i : Nat) (H1 : Hp) : Prop :=
  H D = none ∧ Ex H H1 ∧ ∃ ys, H1 D = some (.lst ys) ∧ Al (fun y a => RB a y H1) ys ((as.take i).filter kp)
/-- one turn's part of the lemma below -/
def Turns (H : Hp) (x : V) (a : α) (kp : α → Bool) (RB : α → V → Hp → Prop) (g : TG) (tt : TT) (te : TE) (vs : List Nat) (σ : L2.St) : Prop :=
  ∀ H1, Ex H H1 → ∃ σ2, GvR g x (wipe σ vs) H1 σ2 ∧ wipe σ2 vs = wipe σ vs ∧ (∀ H2, Ex H1 H2 → TvR tt σ2 H2 (kp a)) ∧ (kp a = true → ∀ H2, Ex H1 H2 → EvR te σ2 H2 (RB a))
theorem cw_turn {H0 : Hp} (mono : ∀ a y H1 H2, Ki H1 H2 → RB a y H1 → RB a y H2) (hl : as.length < 100000) {i : Nat} {a : α} {x : V} (hi : as[i]? = some a) (T : Turns H0 x a kp RB g tt te vs σ) {H1 : Hp} (e0 : Ex H0 H1) (p : CW H as kp RB D i H1) :
    g x (wipe σ vs) H1 fun σ2 H2 => wipe σ2 vs = wipe σ vs ∧ tt σ2 H2 fun b H3 =>
      if b = true then te σ2 H3 fun y H4 => ∃ acc, H4 D = some (.lst acc) ∧ acc.length < sizeLine ∧ CW H as kp RB D (i + 1) (upd H4 D (.lst (acc ++ [y]))) else CW H as kp RB D (i + 1) H3 := by
  obtain ⟨p1, p2, ys, p3, p4⟩ := p
  obtain ⟨σ2, hg, w, ht, he⟩ := T H1 e0
  refine hg _ fun H2 e2 => ⟨w, ht H2 e2 _ fun H3 e3 => ?_⟩
  have e13 := e2.trans e3
  cases hk : kp a with
  | false =>
    refine iteF ⟨p1, p2.trans e13, ys, e13 _ _ p3, ?_⟩
    rw [take_snoc hi, List.filter_append, List.filter_cons_of_neg (by rw [hk]; decide), List.filter_nil, List.append_nil]
    exact p4.imp fun y b => mono b y _ _ e13.ki
  | true =>
    refine iteT (he hk H3 e13 _ fun y H4 e4 hy => ?_)
    have e14 := e13.trans e4
    have hlen : ys.length ≤ as.length := by
      rw [p4.1]
      exact Nat.le_trans (List.length_filter_le _ _) (by rw [List.length_take]; omega)
    refine ⟨ys, e14 _ _ p3, Nat.lt_of_lt_of_le (Nat.lt_of_le_of_lt hlen hl) (by decide), p1, Ex.mut (p2.trans e14) p1, ys ++ [y], upd_same, ?_⟩
    rw [take_snoc hi, List.filter_append, List.filter_cons_of_pos hk, List.filter_nil]
    have kd : Ki H4 (upd H4 D (.lst (ys ++ [y]))) := Ki.lst Ki.rfl (e14 _ _ p3)
    exact (p4.imp fun y b h => mono b y _ _ (e14.ki.trans kd) h).snoc (mono a y _ _ kd hy)
/-- over a tuple -/
theorem lcT {xs : List V} {a : Addr} {Q : VK} (hx : SqT K H a xs) (hxa : xs.length = as.length) (hl : as.length < 100000) (mono : ∀ a y H1 H2, Ki H1 H2 → RB a y H1 → RB a y H2)
    (ht : ∀ (i : Nat) (x : V) (b : α), xs[i]? = some x → as[i]? = some b → Turns H x b kp RB g tt te vs σ)
    (k : ∀ p ys H1, H p = none → Ex H H1 → H1 p = some (.lst ys) → Al (fun y a => RB a y H1) ys (as.filter kp) → Q (.ref p) H1) :
    ∃ a', V.ref a = .ref a' ∧ (∃ xs, SqT K H a' xs) ∧ (fun (J : It) H1 => ∀ D, H1 D = none → ∃ W : Nat → Nat → Hp → Prop, (∃ m, W 0 m (upd H1 D (.lst []))) ∧ ∀ i m H, W i m H →
      (J.stop i H ∧ Q (.ref D) H) ∨ (J.go i H ∧ ∃ Nx : Hp → Prop, (∀ H', Nx H' → ∃ m', m' < m ∧ W (i + 1) m' H') ∧ ∀ x H', J.yld i H x H' → g x (wipe σ vs) H' fun σ2 H2 => wipe σ2 vs = wipe σ vs ∧ tt σ2 H2 fun b H3 =>
        if b = true then te σ2 H3 fun y H4 => ∃ acc, H4 D = some (.lst acc) ∧ acc.length < sizeLine ∧ Nx (upd H4 D (.lst (acc ++ [y]))) else Nx H3)) (Itt K a') H := by
  refine ⟨a, rfl, ⟨xs, hx⟩, fun D hD => ?_⟩
  refine lc_tup (K := K) (a := a) (xs := xs) (CW H as kp RB D) ⟨hD, Ex.new hD, [], upd_same, by simpa using Al.nil⟩ (fun i H' _ p => hx.ki p.2.1.ki) (fun i x H' hi p => ?_) fun H' p => ?_
  · have hi2 : i < as.length := by rw [← hxa]; exact (List.getElem?_eq_some_iff.mp hi).1
    exact cw_turn mono hl (List.getElem?_eq_getElem hi2) (ht i x _ hi (List.getElem?_eq_getElem hi2)) p.2.1 p
  · obtain ⟨p1, p2, ys, p3, p4⟩ := p
    rw [hxa, List.take_length] at p4
    exact k D ys H' p1 p2 p3 p4
/-- over a list -/
theorem lcL {xs : List V} {a : Addr} {Q : VK} (hx : SqL K H a xs) (hxa : xs.length = as.length) (hl : as.length < 100000) (mono : ∀ a y H1 H2, Ki H1 H2 → RB a y H1 → RB a y H2)
    (ht : ∀ (i : Nat) (x : V) (b : α), xs[i]? = some x → as[i]? = some b → Turns H x b kp RB g tt te vs σ)
    (k : ∀ p ys H1, H p = none → Ex H H1 → H1 p = some (.lst ys) → Al (fun y a => RB a y H1) ys (as.filter kp) → Q (.ref p) H1) :
    ∃ a', V.ref a = .ref a' ∧ (∃ xs, SqL K H a' xs) ∧ (fun (J : It) H1 => ∀ D, H1 D = none → ∃ W : Nat → Nat → Hp → Prop, (∃ m, W 0 m (upd H1 D (.lst []))) ∧ ∀ i m H, W i m H →
      (J.stop i H ∧ Q (.ref D) H) ∨ (J.go i H ∧ ∃ Nx : Hp → Prop, (∀ H', Nx H' → ∃ m', m' < m ∧ W (i + 1) m' H') ∧ ∀ x H', J.yld i H x H' → g x (wipe σ vs) H' fun σ2 H2 => wipe σ2 vs = wipe σ vs ∧ tt σ2 H2 fun b H3 =>
        if b = true then te σ2 H3 fun y H4 => ∃ acc, H4 D = some (.lst acc) ∧ acc.length < sizeLine ∧ Nx (upd H4 D (.lst (acc ++ [y]))) else Nx H3)) (Itl K a') H := by
  refine ⟨a, rfl, ⟨xs, hx⟩, fun D hD => ?_⟩
  refine lc_list (K := K) (a := a) (xs := xs) (CW H as kp RB D) ⟨hD, Ex.new hD, [], upd_same, by simpa using Al.nil⟩ (fun i H' _ p => SqLex hx p.2.1) (fun i x H' hi p => ?_) fun H' p => ?_
  · have hi2 : i < as.length := by rw [← hxa]; exact (List.getElem?_eq_some_iff.mp hi).1
    exact cw_turn mono hl (List.getElem?_eq_getElem hi2) (ht i x _ hi (List.getElem?_eq_getElem hi2)) p.2.1 p
  · obtain ⟨p1, p2, ys, p3, p4⟩ := p
    rw [hxa, List.take_length] at p4
    exact k D ys H' p1 p2 p3 p4
end
section
variable {n : Nat} {kp : Nat → Bool} {RB : Nat → V → Hp → Prop} {g : TG} {tt : TT} {te : TE} {vs : List Nat} {σ : L2.St} {H : Hp} {D : Addr}
/-- over range(n) -/
theorem lcR1 {j : Int} {Q : VK} (hj : j = (n : Int)) (hl : n < 100000) (mono : ∀ a y H1 H2, Ki H1 H2 → RB a y H1 → RB a y H2)
    (ht : ∀ (i : Nat), i < n → Turns H (.int (i : Int)) i kp RB g tt te vs σ)
    (k : ∀ p ys H1, H p = none → Ex H H1 → H1 p = some (.lst ys) → Al (fun y a => RB a y H1) ys ((List.range n).filter kp) → Q (.ref p) H1) :
    ∃ j' : Int, [V.int j] = [.int j'] ∧ -(2 ^ 62) ≤ j' ∧ j' < 2 ^ 62 ∧ (fun (J : It) H1 => ∀ D, H1 D = none → ∃ W : Nat → Nat → Hp → Prop, (∃ m, W 0 m (upd H1 D (.lst []))) ∧ ∀ i m H, W i m H →
      (J.stop i H ∧ Q (.ref D) H) ∨ (J.go i H ∧ ∃ Nx : Hp → Prop, (∀ H', Nx H' → ∃ m', m' < m ∧ W (i + 1) m' H') ∧ ∀ x H', J.yld i H x H' → g x (wipe σ vs) H' fun σ2 H2 => wipe σ2 vs = wipe σ vs ∧ tt σ2 H2 fun b H3 =>
        if b = true then te σ2 H3 fun y H4 => ∃ acc, H4 D = some (.lst acc) ∧ acc.length < sizeLine ∧ Nx (upd H4 D (.lst (acc ++ [y]))) else Nx H3)) (Itr 0 j'.toNat) H := by
  subst hj
  refine ⟨_, rfl, by omega, by omega, fun D hD => ?_⟩
  rw [Int.toNat_natCast]
  refine lc_range (lo := 0) (n := n) (CW H (List.range n) kp RB D) ⟨hD, Ex.new hD, [], upd_same, by simpa using Al.nil⟩ (fun i H' hi p => ?_) fun H' p => ?_
  · have hi2 : (List.range n)[i]? = some i := by rw [List.getElem?_range hi]
    have e0 : (0 : Int) + (i : Int) = (i : Int) := Int.zero_add _
    show g (.int ((0 : Int) + (i : Int))) _ _ _
    rw [e0]
    exact cw_turn mono (by simpa using hl) hi2 (ht i hi) p.2.1 p
  · obtain ⟨p1, p2, ys, p3, p4⟩ := p
    have e : (List.range n).take n = List.range n := List.take_of_length_le (by simp)
    rw [e] at p4
    exact k D ys H' p1 p2 p3 p4
end
end My
namespace My
open PySem PySem.Spec PyProof.Rows L2

/-! ### things of a known kind -/
inductive Sml (K : PySem.W.Frag) (H : Hp) : V → String → Prop where
  | non : Sml K H .non "NoneType"
  | bl (b : Bool) : Sml K H (.bl b) "bool"
  | int (i : Int) : Sml K H (.int i) "int"
  | str (x : PySem.Str) : Sml K H (.str x) "str"
  | lst {a : Addr} {xs : List V} (h : H a = some (.lst xs)) : Sml K H (.ref a) "list"
  | tup {a : Addr} {xs : List V} (h : SqT K H a xs) : Sml K H (.ref a) "tuple"
  | dic {a : Addr} {kvs : List (Key × V)} (h : H a = some (.dK kvs)) : Sml K H (.ref a) "dict"
theorem TyOf_tup {K : PySem.W.Frag} {H : Hp} {a : Addr} {xs : List V} (h : SqT K H a xs) : TyX K H (.ref a) (.type "tuple") := by
  rcases h with (h | ⟨o, h⟩) | ⟨o, its, n, hk, hc, hd, hz, r⟩
  · exact .base (.tup h)
  · exact .fTuple h
  · exact .kTuple hk hc
theorem Sml.ty {K : PySem.W.Frag} {H : Hp} {x : V} {n : String} (h : Sml K H x n) : TyX K H x (.type n) := by
  cases h with
  | non => exact .base .non
  | bl b => exact .base (.bl b)
  | int i => exact .base (.int i)
  | str x => exact .base (.str x)
  | lst h => exact .base (.lst h)
  | tup h => exact TyOf_tup h
  | dic h => exact .base (.dK h)
def wholeV : V → Bool
  | .int _ => true
  | _ => false
def kindN (n : String) : Prop := n = "NoneType" ∨ n = "bool" ∨ n = "int" ∨ n = "str" ∨ n = "list" ∨ n = "tuple" ∨ n = "dict"
theorem Sml.kind {K : PySem.W.Frag} {H : Hp} {x : V} {n : String} (h : Sml K H x n) : kindN n := by
  unfold kindN
  cases h <;> simp
theorem Sml.whole {K : PySem.W.Frag} {H : Hp} {x : V} {n : String} (h : Sml K H x n) : wholeV x = decide (n = "int") := by
  cases h <;> rfl
/-- isinstance(x, T): one class -/
theorem isi_of {K : PySem.W.Frag} {H : Hp} {x : V} {n T : String} {b : Bool} {Q : VK} (h : Sml K H x n) (e : kitB n T = some b) (q : Q (.bl b) H) : rIsi K [x, .ty T] H Q :=
  ⟨x, .ty T, .type n, .type T, b, rfl, .ty T, h.ty, kit_ty e, q⟩
theorem kit_int {n : String} (h : kindN n) : ∃ b, kitB n "int" = some b ∧ b = (decide (n = "int") || decide (n = "bool")) := by
  unfold kindN at h
  rcases h with h | h | h | h | h | h | h <;> subst h <;> exact ⟨(decide (_ = "int") || decide (_ = "bool")), by decide +kernel, rfl⟩
theorem kit_bool {n : String} (h : kindN n) : kitB n "bool" = some (decide (n = "bool")) := by
  unfold kindN at h
  rcases h with h | h | h | h | h | h | h <;> subst h <;> decide +kernel
theorem kit_tuple {n : String} (h : kindN n) : kitB n "tuple" = some (decide (n = "tuple")) := by
  unfold kindN at h
  rcases h with h | h | h | h | h | h | h <;> subst h <;> decide +kernel
theorem kit_str {n : String} (h : kindN n) : kitB n "str" = some (decide (n = "str")) := by
  unfold kindN at h
  rcases h with h | h | h | h | h | h | h <;> subst h <;> decide +kernel
theorem kit_list {n : String} (h : kindN n) : kitB n "list" = some (decide (n = "list")) := by
  unfold kindN at h
  rcases h with h | h | h | h | h | h | h <;> subst h <;> decide +kernel

/-! ### in: ints -/
theorem inV_int (l : Int) (st : List Int) : inV (.int l) (st.map V.int) = decide (l ∈ st) := by
  unfold inV
  induction st with
  | nil => simp
  | cons x r ih =>
    rw [List.map_cons, List.any_cons, ih]
    by_cases e : x = l
    · subst e; simp [eqV]
    · have : l ≠ x := fun z => e z.symm
      simp [eqV, e, this]
theorem flat_ints (st : List Int) : (st.map V.int).all flatV = true := by
  rw [List.all_eq_true]
  intro x hx
  obtain ⟨i, _, rfl⟩ := List.mem_map.mp hx
  rfl

/-! ### houses -/
def PairV (K : PySem.W.Frag) (H : Hp) (v : V) (p : Int × Int) : Prop := ∃ t, v = .ref t ∧ SqT K H t [.int p.1, .int p.2]
def TripV (K : PySem.W.Frag) (H : Hp) (v : V) (p : Int × Int × Int) : Prop := ∃ t, v = .ref t ∧ SqT K H t [.int p.1, .int p.2.1, .int p.2.2]
def LendV (K : PySem.W.Frag) (H : Hp) (v : V) (ps : List (Int × Int)) : Prop := ∃ t xs, v = .ref t ∧ SqT K H t xs ∧ Al (PairV K H) xs ps
theorem PairV.ki {K : PySem.W.Frag} {H H' : Hp} {v : V} {p : Int × Int} (h : PairV K H v p) (e : Ki H H') : PairV K H' v p := let ⟨t, h1, h2⟩ := h; ⟨t, h1, h2.ki e⟩
theorem TripV.ki {K : PySem.W.Frag} {H H' : Hp} {v : V} {p : Int × Int × Int} (h : TripV K H v p) (e : Ki H H') : TripV K H' v p := let ⟨t, h1, h2⟩ := h; ⟨t, h1, h2.ki e⟩
theorem LendV.ki {K : PySem.W.Frag} {H H' : Hp} {v : V} {p : List (Int × Int)} (h : LendV K H v p) (e : Ki H H') : LendV K H' v p := let ⟨t, xs, h1, h2, h3⟩ := h; ⟨t, xs, h1, h2.ki e, h3.imp fun _ _ z => z.ki e⟩
structure Hs where
  lat : List (Int × Int)
  hel : List (Int × Int × Int)
def lendOf (hel : List (Int × Int × Int)) (l : Int) : List (Int × Int) := (hel.filter fun h => decide (h.2.1 = l)).map fun h => (h.1, h.2.2)
def Hs.n (h : Hs) : Nat := h.lat.length
def Hs.lends (h : Hs) : List (List (Int × Int)) := (List.range h.n).map fun (l : Nat) => lendOf h.hel (l : Int)
structure HsOk (h : Hs) : Prop where
  n1 : 1 ≤ h.n
  n14 : h.n ≤ 14
  few : h.hel.length < 1000
/-- a stand: rising latches of a house of n -/
structure StOk (n : Nat) (st : List Int) : Prop where
  up : st.Pairwise (· < ·)
  lo : ∀ x ∈ st, 0 ≤ x
  hi : ∀ x ∈ st, x < (n : Int)
/-! ### what a house and a stand come to -/
def Hs.up (h : Hs) (l : Nat) : Int := (h.lat.getD l (0, 0)).1
def Hs.dn (h : Hs) (l : Nat) : Int := (h.lat.getD l (0, 0)).2
def Hs.lent (h : Hs) (st : List Int) (l : Nat) : Int := (((lendOf h.hel (l : Int)).filter fun p => decide (p.1 ∈ st)).map (·.2)).sum
def Hs.goes (h : Hs) (st : List Int) (s : Int) (l : Nat) (up : Bool) : Bool := if up then decide (h.up l ≤ s + h.lent st l) else decide (s + h.lent st l ≤ h.dn l)
def Hs.mov (h : Hs) (st : List Int) (up : Bool) : List Nat := (List.range h.n).filter fun l => decide ((l : Int) ∈ st) != up
def Hs.want (h : Hs) (st : List Int) (s : Int) (up : Bool) : List Nat := (h.mov st up).filter fun l => h.goes st s l up
def nints (ls : List Nat) : List V := ls.map fun (l : Nat) => V.int (l : Int)
/-- rising from l on -/
def riseL : Int → List V → Bool
  | _, [] => true
  | l, .int i :: r => decide (l < i) && riseL i r
  | _, _ :: _ => false
theorem riseL_ints : ∀ (l : Int) (st : List Int), st.Pairwise (· < ·) → (∀ x ∈ st, l < x) → riseL l (st.map V.int) = true
  | _, [], _, _ => rfl
  | l, x :: r, hp, hl => by
    rw [List.map_cons]
    have h1 := List.pairwise_cons.mp hp
    show (decide (l < x) && riseL x (r.map V.int)) = true
    rw [riseL_ints x r h1.2 h1.1, decide_eq_true (hl x (List.mem_cons_self ..))]
    rfl
end My
namespace My
open PySem PySem.Spec PyProof.Rows L2
/-! ### from a reading to its first part -/
section
variable {σ : L2.St} {H : Hp} {D : Ends} {ta te : TE} {tr : TA} {t u : TT} {ts tu : TS} {Q : VK} {i : Nat} {g : TG}
theorem r_ret (h : te σ H D.rt) : tRet te D σ H := h
theorem r_cb {r : List V → Hp → VK → Prop} {ta : TA} (h : ta σ H fun vs H1 => r vs H1 Q) : tCB r ta σ H Q := h
theorem r_cons {Q : List V → Hp → Prop} (h : ta σ H fun x H1 => tr σ H1 fun vs H2 => Q (x :: vs) H2) : tCons ta tr σ H Q := h
theorem r_asg (h : te σ H fun x H1 => g x σ H1 D.nx) : tAsg te g D σ H := h
theorem r_seq (h : ts { D with nx := tu D } σ H) : tSeq ts tu D σ H := h
theorem r_op {r : R2} {tb : TE} (h : ta σ H fun x H1 => tb σ H1 fun y H2 => r x y H2 Q) : tOp r ta tb σ H Q := h
theorem r_ifs (h : t σ H fun b H1 => if b = true then ts D σ H1 else tu D σ H1) : tIfS t ts tu D σ H := h
theorem r_not {Q : Bool → Hp → Prop} (h : t σ H fun c H1 => Q (!c) H1) : tNot t σ H Q := h
theorem r_tB {Q : Bool → Hp → Prop} (h : te σ H fun x H1 => ∃ c, x = .bl c ∧ Q c H1) : tB te σ H Q := h
theorem r_call {sp : Sp} {E : XK} {ta : TA} (h : ta σ H fun vs H1 => sp (vs ++ []) H1 Q E) : tCall sp [] E ta σ H Q := h
theorem r_fld {K : PySem.W.Frag} {tv : TE} {f : PySem.Str} (h : tv σ H fun y H1 => ta σ H1 fun x H2 => ∃ a C dx fs, x = .ref a ∧ H2 a = some (.ins C dx fs) ∧ Cls K C ∧ NoAttr K C f ∧ fs.length < 1000 ∧ D.nx σ (upd H2 a (.ins C dx (putF f y fs)))) : sFld K ta tv f D σ H := h
end
theorem gv_tup2 {K : PySem.W.Frag} {i j : Nat} {x y : V} {t : Addr} {σ : L2.St} {H : Hp} (h : SqT K H t [x, y]) : GvR (gTup K 2 (gCons (gName i) (gCons (gName j) gNil))) (.ref t) σ H ((σ.set i (some x)).set j (some y)) :=
  fun Q q => ⟨t, _, rfl, h, rfl, _, _, rfl, _, _, rfl, rfl, q H Ex.rfl⟩
theorem gv_tup3 {K : PySem.W.Frag} {i j k : Nat} {x y z : V} {t : Addr} {σ : L2.St} {H : Hp} (h : SqT K H t [x, y, z]) : GvR (gTup K 3 (gCons (gName i) (gCons (gName j) (gCons (gName k) gNil)))) (.ref t) σ H (((σ.set i (some x)).set j (some y)).set k (some z)) :=
  fun Q q => ⟨t, _, rfl, h, rfl, _, _, rfl, _, _, rfl, _, _, rfl, rfl, q H Ex.rfl⟩
/-- a new list of what a comprehension gives -/
def NewL {α : Type} (H : Hp) (as : List α) (kp : α → Bool) (RB : α → V → Hp → Prop) (v : V) (H1 : Hp) : Prop := ∃ p ys, v = .ref p ∧ H p = none ∧ H1 p = some (.lst ys) ∧ Al (fun y a => RB a y H1) ys (as.filter kp)
section
variable {K : PySem.W.Frag} {α : Type} {as : List α} {kp : α → Bool} {RA : Hp → V → α → Prop} {RB : α → V → Hp → Prop} {g : TG} {tt : TT} {te tl : TE} {vs : List Nat} {σ : L2.St} {H : Hp}
theorem lcT_ev (htl : EvR tl σ H fun v H1 => ∃ a xs, v = .ref a ∧ SqT K H1 a xs ∧ Al (RA H1) xs as) (hl : as.length < 100000) (mono : ∀ a y H1 H2, Ki H1 H2 → RB a y H1 → RB a y H2)
    (ht : ∀ H1, Ex H H1 → ∀ (i : Nat) (x : V) (b : α), as[i]? = some b → RA H1 x b → Turns H1 x b kp RB g tt te vs σ) : EvR (tLc (iTup K tl) g tt te vs) σ H (NewL H as kp RB) := fun Q k =>
  htl _ fun v H1 e1 hh => by
    obtain ⟨a, xs, rfl, hx, hal⟩ := hh
    exact lcT (Q := Q) hx hal.1 hl mono (fun i x b h1 h2 => ht H1 e1 i x b h2 (hal.2 i x b h1 h2)) fun p ys H2 hp e2 hps hy => k _ H2 (e1.trans e2) ⟨p, ys, rfl, e1.free hp, hps, hy⟩
theorem lcL_ev (htl : EvR tl σ H fun v H1 => ∃ a xs, v = .ref a ∧ SqL K H1 a xs ∧ Al (RA H1) xs as) (hl : as.length < 100000) (mono : ∀ a y H1 H2, Ki H1 H2 → RB a y H1 → RB a y H2)
    (ht : ∀ H1, Ex H H1 → ∀ (i : Nat) (x : V) (b : α), as[i]? = some b → RA H1 x b → Turns H1 x b kp RB g tt te vs σ) : EvR (tLc (iList K tl) g tt te vs) σ H (NewL H as kp RB) := fun Q k =>
  htl _ fun v H1 e1 hh => by
    obtain ⟨a, xs, rfl, hx, hal⟩ := hh
    exact lcL (Q := Q) hx hal.1 hl mono (fun i x b h1 h2 => ht H1 e1 i x b h2 (hal.2 i x b h1 h2)) fun p ys H2 hp e2 hps hy => k _ H2 (e1.trans e2) ⟨p, ys, rfl, e1.free hp, hps, hy⟩
end
section
variable {n : Nat} {kp : Nat → Bool} {RB : Nat → V → Hp → Prop} {g : TG} {tt : TT} {te : TE} {ta : TA} {vs : List Nat} {σ : L2.St} {H : Hp}
theorem lcR_ev (hta : ∀ Q : List V → Hp → Prop, (∀ H', Ex H H' → Q [.int (n : Int)] H') → ta σ H Q) (hl : n < 100000) (mono : ∀ a y H1 H2, Ki H1 H2 → RB a y H1 → RB a y H2)
    (ht : ∀ H1, Ex H H1 → ∀ (i : Nat), i < n → Turns H1 (.int (i : Int)) i kp RB g tt te vs σ) : EvR (tLc (iRng1 ta) g tt te vs) σ H (NewL H (List.range n) kp RB) := fun Q k =>
  hta _ fun H1 e1 => lcR1 (Q := Q) rfl hl mono (fun i hi => ht H1 e1 i hi) fun p ys H2 hp e2 hps hy => k _ H2 (e1.trans e2) ⟨p, ys, rfl, e1.free hp, hps, hy⟩
end
theorem NewL.ints {α : Type} {H H1 : Hp} {as : List α} {kp : α → Bool} {f : α → Int} {v : V} (h : NewL H as kp (fun a y _ => y = .int (f a)) v H1) : ∃ p, v = .ref p ∧ H p = none ∧ H1 p = some (.lst (((as.filter kp).map f).map V.int)) := by
  obtain ⟨p, ys, rfl, hp, hps, hy⟩ := h
  refine ⟨p, rfl, hp, ?_⟩
  rw [hps, Al.map (f := fun a => V.int (f a)) hy, List.map_map]
  rfl
theorem NewL.vals {α : Type} {H H1 : Hp} {as : List α} {kp : α → Bool} {f : α → V} {v : V} (h : NewL H as kp (fun a y _ => y = f a) v H1) : ∃ p, v = .ref p ∧ H p = none ∧ H1 p = some (.lst ((as.filter kp).map f)) := by
  obtain ⟨p, ys, rfl, hp, hps, hy⟩ := h
  exact ⟨p, rfl, hp, by rw [hps, Al.map (f := f) hy]⟩
theorem lends_get {h : Hs} {l : Nat} (hl : l < h.n) : h.lends[l]? = some (lendOf h.hel (l : Int)) := by
  unfold Hs.lends
  rw [List.getElem?_map, List.getElem?_range hl]
  rfl
theorem lat_get {h : Hs} {l : Nat} (hl : l < h.n) : h.lat[l]? = some (h.up l, h.dn l) := by
  have h2 : l < h.lat.length := hl
  unfold Hs.up Hs.dn
  rw [List.getD_eq_getElem?_getD, List.getElem?_eq_getElem h2]
  rfl
theorem small_lend (hel : List (Int × Int × Int)) (l : Int) (h : hel.length < 100000) : (lendOf hel l).length < 100000 := by
  unfold lendOf
  rw [List.length_map]
  exact Nat.lt_of_le_of_lt (List.length_filter_le _ _) h
end My
namespace My
open PySem PySem.Spec PyProof.Rows L2
/-! ### rules that name the written part K itself (within a comprehension the context is another, K the same) -/
section
variable {X : Cx} {K : PySem.W.Frag}
theorem kOpIn (hK : X.K = K := by rfl) : OpR X (compareOp .In) (rIn K false) := by subst hK; exact op_in_seq
theorem kOpNotIn (hK : X.K = K := by rfl) : OpR X (compareOp .NotIn) (rIn K true) := by subst hK; exact op_notIn_seq
theorem kIxT (hK : X.K = K := by rfl) : IxR X (rIxT K) := by subst hK; exact ix_tup
theorem kIxL (hK : X.K = K := by rfl) : IxR X (rIxL K) := by subst hK; exact ix_list
def rLenS (K : PySem.W.Frag) : List V → Hp → VK → Prop := fun xs H Q => ∃ p ys, xs = [.ref p] ∧ (SqL K H p ys ∨ SqT K H p ys) ∧ Q (.int ys.length) H
theorem kLen (hK : X.K = K := by rfl) : CallR X (.builtin "len") (rLenS K) := by subst hK; exact call_len_seq
theorem kSum (hc : X.calm = true := by rfl) (hK : X.K = K := by rfl) : CallR X (.builtin "sum") (rSum K) := by subst hK; exact cr_sum hc
theorem kAll (hc : X.calm = true := by rfl) (hK : X.K = K := by rfl) : CallR X (.builtin "all") (rAll K) := by subst hK; exact cr_all hc
theorem kIsi (hK : X.K = K := by rfl) : CallR X (.builtin "isinstance") (rIsi K) := by subst hK; exact call_isi
theorem kIsiT (hK : X.K = K := by rfl) : CallR X (.builtin "isinstance") (rIsiT K) := by subst hK; exact call_isiT
theorem kEqD (hu : X.A.units + 64 < cLine) (hK : X.K = K := by rfl) : OpR X (compareOp .Eq) (rEqD K) := by subst hK; exact op_eqD hu
theorem kNeD (hu : X.A.units + 64 < cLine) (hK : X.K = K := by rfl) : OpR X (compareOp .NotEq) (rNeD K) := by subst hK; exact op_neD hu
theorem kInD (hu : X.A.units + 65 < cLine) (hK : X.K = K := by rfl) : OpR X (compareOp .In) (rInD K) := by subst hK; exact op_inD hu
def rTupleOf (K : PySem.W.Frag) : List V → Hp → VK → Prop := fun xs H Q => ∃ p ys, xs = [.ref p] ∧ ((SqL K H p ys ∧ ∀ l, H l = none → Q (.ref l) (upd H l (.tup ys))) ∨ (SqT K H p ys ∧ Q (.ref p) H))
theorem kTuple (hK : X.K = K := by rfl) : CallR X (.type "tuple") (rTupleOf K) := by subst hK; exact call_tuple_of
def rListOf (K : PySem.W.Frag) : List V → Hp → VK → Prop := fun xs H Q => ∃ p ys, xs = [.ref p] ∧ (SqL K H p ys ∨ SqT K H p ys) ∧ ∀ l, H l = none → Q (.ref l) (upd H l (.lst ys))
theorem kList (hK : X.K = K := by rfl) : CallR X (.type "list") (rListOf K) := by subst hK; exact call_list_of
theorem kSorted3 (hK : X.K = K := by rfl) : CallR X (.builtin "sorted") (rSorted3 K) := by subst hK; exact cr_sorted3
def rMax2 : List V → Hp → VK → Prop := fun xs H Q => ∃ i j, xs = [.int i, .int j] ∧ Q (.int (if j > i then j else i)) H
def rMin2 : List V → Hp → VK → Prop := fun xs H Q => ∃ i j, xs = [.int i, .int j] ∧ Q (.int (if j < i then j else i)) H
theorem kMax2 (hc : X.calm = true := by rfl) : CallR X (.builtin "max") rMax2 := call_max2 hc
theorem kMin2 (hc : X.calm = true := by rfl) : CallR X (.builtin "min") rMin2 := call_min2 hc
theorem kSlT (hK : X.K = K := by rfl) : SlR X (rSlT K) := by subst hK; exact sl_tup
theorem kSlL (hK : X.K = K := by rfl) : SlR X (rSlL K) := by subst hK; exact sl_list
def tFldK (K : PySem.W.Frag) (ta : TE) (f : PySem.Str) : TE := fun σ H Q => ta σ H fun x H1 => ∃ a C dx fs v, x = .ref a ∧ H1 a = some (.ins C dx fs) ∧ Cls K C ∧ NoAttr K C f ∧ fs.lookup f = some v ∧ Q v H1
theorem kFld {e : Expr} {f : PySem.Str} {pos : Pos} {ta : TE} (he : PE X e ta) (hb : attributeBase e f X.env (eval e X.env) = eval e X.env) (hK : X.K = K := by rfl) : PE X (.Attribute e f pos) (tFldK K ta f) := by subst hK; exact pe_fld he hb
def tTruK (K : PySem.W.Frag) (ta : TE) : TT := fun σ H Q => ta σ H fun x H' => ∃ k, TruV K x H' k ∧ Q k H'
theorem kTruth {a : Expr} {ta : TE} (h : PE X a ta) (he : ∀ whole, isTrue a X.env whole = (do let v ← whole; standAt a.pos; holding [v] (truthy v)) := by intro _; rfl) (hK : X.K = K := by rfl) : PT X a (tTruK K ta) := by subst hK; exact pt_truth h he
def rNotIn0 := 0
end
theorem units64 {X : Cx} {k : Nat} (hr : Room k X.A) : X.A.units + 64 < cLine := by have := hr.un; omega
theorem units65 {X : Cx} {k : Nat} (hr : Room k X.A) : X.A.units + 65 < cLine := by have := hr.un; omega
end My
namespace My
open PySem PySem.Spec PyProof.Rows L2
theorem for_enumT {K : PySem.W.Frag} {a : Addr} {xs : List V} {g : TG} {tb : TS} {D : Ends} {σ : L2.St} {H : Hp} (Pv : Nat → L2.St → Hp → Prop) (h0 : Pv 0 σ H) (hl : ∀ i σ H, i ≤ xs.length → Pv i σ H → SqT K H a xs)
    (hs : ∀ i x T σ H, xs[i]? = some x → Pv i σ H → H T = none → g (.ref T) σ (upd H T (.tup [.int (i : Nat), x])) fun σ2 H2 => tb { D with nx := Pv (i + 1), ct := Pv (i + 1), bk := D.nx } σ2 H2) (hd : ∀ σ H, Pv xs.length σ H → D.nx σ H) :
    ∃ W : Nat → Nat → L2.St → Hp → Prop, (∃ m, W 0 m σ H) ∧ ∀ i m σ H, W i m σ H →
      ((Itet K a).stop i H ∧ D.nx σ H) ∨ ((Itet K a).go i H ∧ ∃ N : L2.St → Hp → Prop, (∀ σ' H', N σ' H' → ∃ m', m' < m ∧ W (i + 1) m' σ' H') ∧ ∀ x H', (Itet K a).yld i H x H' → g x σ H' fun σ2 H2 => tb { D with nx := N, ct := N, bk := D.nx } σ2 H2) := by
  refine ⟨fun i m σ H => m = xs.length - i ∧ i ≤ xs.length ∧ Pv i σ H, ⟨xs.length, by simp, Nat.zero_le _, h0⟩, ?_⟩
  rintro i m σ H ⟨rfl, hi, p⟩
  have q := hl i σ H hi p
  by_cases hlt : i < xs.length
  · refine .inr ⟨⟨xs, xs[i], q, by simp [hlt]⟩, Pv (i + 1), fun σ' H' p' => ⟨xs.length - (i + 1), by omega, rfl, hlt, p'⟩, fun x H' y => ?_⟩
    obtain ⟨T, z, rfl, hT, rfl, hz⟩ := y
    exact hs i z T σ H (hz xs q) p hT
  · have e : i = xs.length := by omega
    subst e
    exact .inl ⟨⟨xs, q, Nat.le_refl _⟩, hd σ H p⟩
/-! ### pairs as data -/
def pd (p : Int × Int) : PyData := .tuple [.int p.1, .int p.2]
theorem pd_eqv (p q : Int × Int) : PyData.eqv (pd p) (pd q) = decide (p = q) := by
  obtain ⟨a, b⟩ := p
  obtain ⟨c, d⟩ := q
  show (((a == c) && ((b == d) && true)) : Bool) = decide ((a, b) = (c, d))
  by_cases h1 : a = c
  · subst h1
    by_cases h2 : b = d
    · subst h2; simp
    · simp [h2]
  · simp [h1]
theorem Dp.pair {K : PySem.W.Frag} {H : Hp} {v : V} {p : Int × Int} (h : PairV K H v p) : Dp K H v (pd p) := by
  obtain ⟨t, rfl, h⟩ := h
  exact .tup h (.cons (.int _) (.cons (.int _) .nil))
theorem DpAll.pairs {K : PySem.W.Frag} {H : Hp} : ∀ {xs : List V} {ps : List (Int × Int)}, Al (PairV K H) xs ps → DpAll K H xs (ps.map pd)
  | [], ps, h => by rw [h.nil_inv]; exact .nil
  | x :: xs, [], h => by have := h.1; simp at this
  | x :: xs, p :: ps, h => .cons (Dp.pair h.inv.1) (DpAll.pairs h.inv.2)
theorem pd_lay : ∀ (ps : List (Int × Int)), PyData.canLayAll0 (ps.map pd) = true ∧ PyData.depthAll (ps.map pd) ≤ 1
  | [] => by simp [PyData.canLayAll0, PyData.depthAll]
  | p :: r => by
    have ih := pd_lay r
    refine ⟨?_, ?_⟩
    · rw [List.map_cons]
      unfold PyData.canLayAll0
      rw [ih.1]
      simp [pd, PyData.canLay0, PyData.canLayAll0]
    · rw [List.map_cons]
      unfold PyData.depthAll
      have h1 : PyData.depth (pd p) = 1 := by simp [pd, PyData.depth, PyData.depthAll]
      rw [h1]
      omega
theorem pd_shaped (p : Int × Int) : SeqAt.shaped (pd p) = true := by
  unfold SeqAt.shaped
  simp [pd, PyData.canLay0, PyData.canLayAll0, PyData.depth, PyData.depthAll]
theorem pds_shaped (ps : List (Int × Int)) : SeqAt.shaped (.list (ps.map pd)) = true := by
  have h := pd_lay ps
  unfold SeqAt.shaped PyData.canLay0 PyData.depth
  rw [h.1]
  simp
  omega
theorem pds_any (ps : List (Int × Int)) (p : Int × Int) : ((ps.map pd).any fun z => PyData.eqv z (pd p)) = decide (p ∈ ps) := by
  induction ps with
  | nil => simp
  | cons q r ih =>
    rw [List.map_cons, List.any_cons, ih, pd_eqv]
    by_cases e : q = p
    · subst e; simp
    · have : p ≠ q := fun z => e z.symm
      simp [e, this]
/-- the first two of a triple -/
theorem cut2 (a b c : V) : cutV [a, b, c] none (some 2) = [a, b] := by rfl
theorem ncut2 (a b c : V) : ¬ (HT.sIx ([a, b, c] : List V).length 0 none = 0 ∧ HT.sIx ([a, b, c] : List V).length ([a, b, c] : List V).length (some 2) = ([a, b, c] : List V).length) := by
  show ¬ (HT.sIx 3 0 none = 0 ∧ HT.sIx 3 3 (some 2) = 3)
  decide
def fst2 (h : Int × Int × Int) : Int × Int := (h.1, h.2.1)
theorem take_nd {α : Type} {l : List α} {i : Nat} {x : α} (hn : l.Nodup) (h : l[i]? = some x) : x ∉ l.take i := by
  intro hm
  have h1 := (List.getElem?_eq_some_iff.mp h).1
  obtain ⟨j, hj, e⟩ := List.mem_take_iff_getElem.mp hm
  have e2 : l[j]? = some x := by
    rw [List.getElem?_eq_getElem (by omega), e]
  have := nd_ix hn e2 h
  omega
end My
namespace My
open PySem PySem.Spec PyProof.Rows L2
/-! ### tuples stand, whatever becomes of one instance -/
def Kt (H H' : Hp) : Prop := ∀ b o, Imm o → (∀ C dx fs, o ≠ .ins C dx fs) → H b = some o → H' b = some o
theorem Ki.kt {H H' : Hp} (e : Ki H H') : Kt H H' := fun b o i _ h => e b o i h
theorem Kt.trans {H H1 H2 : Hp} (x : Kt H H1) (y : Kt H1 H2) : Kt H H2 := fun b o i n h => y b o i n (x b o i n h)
theorem Kt.ins {H : Hp} {a C dx : Addr} {fs : List (PySem.Str × V)} {o : HO} (h : H a = some (.ins C dx fs)) : Kt H (upd H a o) := fun b u i n hb => by
  have : b ≠ a := fun z => by
    subst z
    rw [h] at hb
    cases hb
    exact n _ _ _ rfl
  rw [upd_ne this]
  exact hb
theorem exB_kt {a C dx : Addr} {fs : List (PySem.Str × V)} {H H' : Hp} (h : H a = some (.ins C dx fs)) (e : ExB a H H') : Kt H H' := fun b u i n hb => e b u (fun z => by
  subst z
  rw [h] at hb
  cases hb
  exact n _ _ _ rfl) hb
section
variable {K : PySem.W.Frag} {H H' : Hp}
theorem _root_.L2.SqT.kt {a : Addr} {xs : List V} (h : SqT K H a xs) (e : Kt H H') : SqT K H' a xs := by
  rcases h with (h | ⟨o, h⟩) | h
  · exact .inl (.inl (e _ _ trivial (fun _ _ _ z => by cases z) h))
  · exact .inl (.inr ⟨o, e _ _ trivial (fun _ _ _ z => by cases z) h⟩)
  · exact .inr h
theorem PairV.kt {v : V} {p : Int × Int} (h : PairV K H v p) (e : Kt H H') : PairV K H' v p := let ⟨t, h1, h2⟩ := h; ⟨t, h1, h2.kt e⟩
theorem TripV.kt {v : V} {p : Int × Int × Int} (h : TripV K H v p) (e : Kt H H') : TripV K H' v p := let ⟨t, h1, h2⟩ := h; ⟨t, h1, h2.kt e⟩
theorem LendV.kt {v : V} {p : List (Int × Int)} (h : LendV K H v p) (e : Kt H H') : LendV K H' v p := let ⟨t, xs, h1, h2, h3⟩ := h; ⟨t, xs, h1, h2.kt e, h3.imp fun _ _ z => z.kt e⟩
end
theorem Al.mapR {α β : Type} {R : V → β → Prop} {f : α → β} {xs : List V} {as : List α} (h : Al (fun x a => R x (f a)) xs as) : Al R xs (as.map f) := by
  refine ⟨by rw [List.length_map]; exact h.1, fun i x b h1 h2 => ?_⟩
  obtain ⟨a, h3, h4⟩ := h.get h1
  rw [List.getElem?_map, h3] at h2
  cases h2
  exact h4
theorem fTrue {α : Type} (l : List α) : l.filter (fun _ => true) = l := List.filter_eq_self.mpr fun _ _ => rfl
/-- a triple as it stands at a place -/
def tripOf (H : Hp) : V → Int × Int × Int
  | .ref t => match H t with
    | some (.tup [.int a, .int b, .int c]) => (a, b, c)
    | _ => (0, 0, 0)
  | _ => (0, 0, 0)
def TripT (H : Hp) (y : V) (p : Int × Int × Int) : Prop := ∃ t, y = .ref t ∧ H t = some (.tup [.int p.1, .int p.2.1, .int p.2.2])
theorem TripT.ki {H H' : Hp} {y : V} {p : Int × Int × Int} (h : TripT H y p) (e : Ki H H') : TripT H' y p := let ⟨t, h1, h2⟩ := h; ⟨t, h1, e _ _ trivial h2⟩
theorem TripT.of {H : Hp} {y : V} {p : Int × Int × Int} (h : TripT H y p) : tripOf H y = p := by
  obtain ⟨t, rfl, h⟩ := h
  unfold tripOf
  simp only [h]
theorem TripT.v {K : PySem.W.Frag} {H : Hp} {y : V} {p : Int × Int × Int} (h : TripT H y p) : TripV K H y p := let ⟨t, h1, h2⟩ := h; ⟨t, h1, .of h2⟩
theorem trips_map {H : Hp} {ys : List V} {hel : List (Int × Int × Int)} (h : Al (TripT H) ys hel) : ys.map (tripOf H) = hel := by
  refine List.ext_getElem? fun i => ?_
  rw [List.getElem?_map]
  cases e : ys[i]? with
  | none =>
    have : hel[i]? = none := by
      rw [List.getElem?_eq_none_iff] at e ⊢
      rw [← h.1]; exact e
    rw [this]; rfl
  | some x =>
    obtain ⟨a, h1, h2⟩ := h.get e
    rw [h1]
    exact congrArg some h2.of
theorem trips_perm {H : Hp} {ys zs : List V} {hel : List (Int × Int × Int)} (h : Al (TripT H) ys hel) (hp : zs.Perm ys) : Al (TripT H) zs (zs.map (tripOf H)) := by
  refine ⟨by rw [List.length_map], fun i x a h1 h2 => ?_⟩
  rw [List.getElem?_map, h1] at h2
  cases h2
  obtain ⟨j, hj⟩ := List.getElem?_of_mem (hp.mem_iff.mp (List.mem_of_getElem? h1))
  obtain ⟨p, _, h4⟩ := h.get hj
  rw [h4.of]
  exact h4
theorem putF_len (f : PySem.Str) (v : V) : ∀ fs : List (PySem.Str × V), (putF f v fs).length ≤ fs.length + 1
  | [] => Nat.le_refl _
  | (g, w) :: r => by
    show (if g = f then _ else _ : List (PySem.Str × V)).length ≤ _
    split
    · simp
    · have := putF_len f v r
      simp
      omega
theorem fs2_len (a b : V) : (putF "_helps" b (putF "_latches" a [])).length < 1000 := by
  have h1 := putF_len "_helps" b (putF "_latches" a [])
  have h2 := putF_len "_latches" a []
  simp at h2
  omega
def HelSorted (hel : List (Int × Int × Int)) : Prop := hel.Pairwise fun x y => SrtO.lex3 y x = false
end My
namespace My
open PySem PySem.Spec PyProof.Rows L2
/-! ### repr of a truth, of None; the jar of draws -/
def rReprF : List V → Hp → VK → Prop := fun xs H Q => (∃ b, xs = [.bl b] ∧ Q (.str (if b then "True" else "False")) H) ∨ (xs = [.non] ∧ Q (.str "None") H)
theorem kReprF {X : Cx} : CallR X (.builtin "repr") rReprF := by
  intro pins s σ H xs us Q I r h
  rcases h with ⟨b, rfl, q⟩ | ⟨rfl, q⟩
  · obtain ⟨u, rfl, ru⟩ := vals1 r
    cases (show u = Value.bool b from ru)
    exact PySem.P.repr_of_bool ⟨.str _, H, I.tok _, ⟨_, rfl⟩, q⟩
  · obtain ⟨u, rfl, ru⟩ := vals1 r
    cases (show u = Value.none from ru)
    exact PySem.P.repr_of_none ⟨.str _, H, I.tok _, ⟨_, rfl⟩, q⟩
theorem kReprG {X : Cx} : CallR X (.builtin "repr") (fun xs H Q => (∃ b, xs = [.bl b] ∧ Q (.str (if b then "True" else "False")) H) ∨ (xs = [.non] ∧ Q (.str "None") H) ∨ ∃ z : PySem.Str, xs = [.str z] ∧ (reprText z).length ≤ sizeLine ∧ Q (.str (reprText z)) H) := by
  intro pins s σ H xs us Q I r h
  rcases h with h | h | ⟨z, rfl, hz, q⟩
  · exact kReprF pins s σ H xs us Q I r (.inl h)
  · exact kReprF pins s σ H xs us Q I r (.inr h)
  · obtain ⟨u, rfl, t, rfl⟩ := vals1 r
    exact PySem.P.repr_of_str ⟨.str _, H, I.tok _, ⟨_, rfl⟩, q⟩ hz
def JarAt (H : Hp) (a : Addr) (n : Int) : Prop := ∃ x y z : Int, H a = some (.lst [.int x, .int y, .int z]) ∧ 0 ≤ x ∧ 0 ≤ y ∧ y < 2 ^ 201 ∧ 0 ≤ z ∧ z ≤ n
theorem JarAt.ex {H H' : Hp} {a : Addr} {n : Int} (h : JarAt H a n) (e : Ex H H') : JarAt H' a n := let ⟨x, y, z, h1, h2⟩ := h; ⟨x, y, z, e _ _ h1, h2⟩
theorem JarAt.le {H : Hp} {a : Addr} {n m : Int} (h : JarAt H a n) (e : n ≤ m) : JarAt H a m := let ⟨x, y, z, h1, h2, h3, h4, h5, h6⟩ := h; ⟨x, y, z, h1, h2, h3, h4, h5, by omega⟩
theorem JarAt.ki {H H' : Hp} {a : Addr} {n : Int} (h : JarAt H a n) (e : ExB a H H') : Ki H H' := let ⟨_, _, _, h1, _⟩ := h; e.ki h1
theorem JarAt.free {H : Hp} {a p : Addr} {n : Int} (h : JarAt H a n) (e : H p = none) : p ≠ a := fun z => by
  obtain ⟨_, _, _, h1, _⟩ := h
  rw [z, h1] at e
  cases e
theorem JarAt.upd {H : Hp} {a p : Addr} {n : Int} {o : HO} (h : JarAt H a n) (e : p ≠ a) : JarAt (L2.upd H p o) a n := let ⟨x, y, z, h1, h2⟩ := h; ⟨x, y, z, by rw [upd_ne e.symm]; exact h1, h2⟩
theorem ExB.updB {a p : Addr} {H H' : Hp} {o : HO} (e : ExB a H H') (h : H p = none) : ExB a H (L2.upd H' p o) := e.mut h
theorem two_big {i : Int} {n : Nat} (h : i.natAbs < 2 ^ n) (hn : n ≤ 100000) : i.natAbs < 2 ^ 100000 := Nat.lt_of_lt_of_le h (Nat.pow_le_pow_right (by decide) hn)
theorem powc (i j : Int) (hj : 0 ≤ j) (h1 : j ≤ 100) (hi : i.natAbs < 2 ^ 210) : CPowW i j := ⟨hj, h1, two_big hi (by decide)⟩
theorem fmod_r {x m : Int} (h : 0 < m) : 0 ≤ x.fmod m ∧ x.fmod m < m := by
  rw [Int.fmod_eq_emod_of_nonneg x (by omega)]
  exact ⟨Int.emod_nonneg _ (by omega), Int.emod_lt_of_pos _ h⟩
theorem Al.perm {α : Type} {R : V → α → Prop} {ys zs : List V} (h : ys.Perm zs) : ∀ {as : List α}, Al R ys as → ∃ bs, Al R zs bs ∧ as.Perm bs := by
  induction h with
  | nil => intro as ha; exact ⟨as, ha, List.Perm.refl _⟩
  | cons x _ ih =>
    intro as ha
    cases as with
    | nil => have := ha.1; simp at this
    | cons b r =>
      obtain ⟨h1, h2⟩ := ha.inv
      obtain ⟨bs, h3, h4⟩ := ih h2
      exact ⟨b :: bs, .cons h1 h3, h4.cons b⟩
  | swap x y l =>
    intro as ha
    match as, ha with
    | [], ha => have := ha.1; simp at this
    | [b], ha => have := ha.1; simp at this
    | b :: c :: r, ha =>
      obtain ⟨h1, h2⟩ := ha.inv
      obtain ⟨h3, h4⟩ := h2.inv
      exact ⟨c :: b :: r, .cons h3 (.cons h1 h4), List.Perm.swap _ _ _⟩
  | trans _ _ ih1 ih2 =>
    intro as ha
    obtain ⟨bs, h3, h4⟩ := ih1 ha
    obtain ⟨cs, h5, h6⟩ := ih2 h3
    exact ⟨cs, h5, h4.trans h6⟩
theorem tyes {σ : L2.St} {H : Hp} {A B : Hp → Prop} (h : A H) : tYes σ H (fun b H3 => if b = true then A H3 else B H3) := by
  show if true = true then A H else B H
  exact iteT h
theorem at0 (x y z : V) : atI [x, y, z] 0 = some x := rfl
theorem at1 (x y z : V) : atI [x, y, z] 1 = some y := rfl
theorem at2 (x y z : V) : atI [x, y, z] 2 = some z := rfl
section
variable {X : Cx} {K : PySem.W.Frag} {T : String} {name : PySem.Str} {id : String} {r : V → List V → Hp → VK → Prop} {o e : Expr} {es : List Expr} {to : TE} {t : TA} {cpos apos : Pos}
theorem kBm (pa : PlainAttrs T) (slot : Slot T name id) (hty : typeOf (.builtin id) = pure (.type "method_descriptor")) (hm : MtR X id r) (ho : PE X o to) (ha : PA X (e :: es) t)
    (hbase : attributeBase o name X.env (eval o X.env) = eval o X.env := by rfl)
    (hfew : ((backTo cpos (starEach (e :: es) X.env)).all (fun x => !x.1) && (backToKw cpos (keywordEach [] X.env)).all (fun x => x.1.isSome) && decide ((e :: es).length + ([] : List Keyword).length + (if ([] : List Keyword).isEmpty then 0 else 1) < 30)) = true := by rfl)
    (hline : (apos.endLine == cpos.line) = true := by rfl) (hs : starEach (e :: es) X.env = (false, eval e X.env) :: starEach es X.env := by rfl) (hplain : (backTo cpos (starEach es X.env)).any (·.1) = false := by rfl) (hK : X.K = K := by rfl) :
    PE X (.Call (.Attribute o name apos) (e :: es) [] cpos) (tBM K T r to t) := by subst hK; exact pe_bm pa slot hty hm ho ha hbase hfew hline hs hplain
theorem kBm0 (pa : PlainAttrs T) (slot : Slot T name id) (hty : typeOf (.builtin id) = pure (.type "method_descriptor")) (hm : MtR X id r) (ho : PE X o to)
    (hbase : attributeBase o name X.env (eval o X.env) = eval o X.env := by rfl) (hline : (apos.endLine == cpos.line) = true := by rfl) (hK : X.K = K := by rfl) : PE X (.Call (.Attribute o name apos) [] [] cpos) (tBM0 K T r to) := by subst hK; exact pe_bm0 pa slot hty hm ho hbase hline
end
end My
namespace My
open PySem PySem.Spec PyProof.Rows L2
/-! ### a comprehension over zip of two lists, of two tuples -/
section
variable {K : PySem.W.Frag} {kp : V × V → Bool} {RB : V × V → V → Hp → Prop} {g : TG} {tt : TT} {te : TE} {ta : TA} {vs : List Nat} {σ : L2.St} {H : Hp} {a b : Addr} {xs ys : List V}
theorem zip_get {i : Nat} {x y : V} (h1 : xs[i]? = some x) (h2 : ys[i]? = some y) : (xs.zip ys)[i]? = some (x, y) := by
  rw [List.getElem?_zip_eq_some]
  exact ⟨h1, h2⟩
theorem cw_new {α : Type} {as : List α} {kp : α → Bool} {RB : α → V → Hp → Prop} {H H1 : Hp} {D T : Addr} {i : Nat} {o : HO} (mono : ∀ a y H1 H2, Ki H1 H2 → RB a y H1 → RB a y H2) (p : CW H as kp RB D i H1) (hT : H1 T = none) : CW H as kp RB D i (upd H1 T o) := by
  obtain ⟨p1, p2, ys, p3, p4⟩ := p
  have e : Ex H1 (upd H1 T o) := Ex.new hT
  exact ⟨p1, p2.trans e, ys, e _ _ p3, p4.imp fun y b => mono b y _ _ e.ki⟩
theorem lcZ_ev (hta : ∀ Q : List V → Hp → Prop, (∀ H', Ex H H' → Q [.ref a, .ref b] H') → ta σ H Q) (hxy : (H a = some (.lst xs) ∧ H b = some (.lst ys)) ∨ (SqT K H a xs ∧ SqT K H b ys)) (hl : xs.length = ys.length) (hn : xs.length < 100000) (mono : ∀ a y H1 H2, Ki H1 H2 → RB a y H1 → RB a y H2)
    (ht : ∀ H1, Ex H H1 → ∀ (i : Nat) (x y : V), xs[i]? = some x → ys[i]? = some y → ∀ T, H1 T = some (.tup [x, y]) → Turns H1 (.ref T) (x, y) kp RB g tt te vs σ) : EvR (tLc (RZ.iZipA K ta) g tt te vs) σ H (NewL H (xs.zip ys) kp RB) := fun Q k => by
  refine hta _ fun H1 e1 => ⟨a, b, xs, ys, rfl, ?_⟩
  have hz : (xs.zip ys).length = xs.length := by rw [List.length_zip]; omega
  rcases hxy with ⟨ha, hb⟩ | ⟨ha, hb⟩
  · refine .inl ⟨.of (e1 _ _ ha), .of (e1 _ _ hb), fun D hD => ?_⟩
    refine ⟨fun i m H' => m = xs.length - i ∧ i ≤ xs.length ∧ CW H1 (xs.zip ys) kp RB D i H', ⟨xs.length, by simp, Nat.zero_le _, hD, Ex.new hD, [], upd_same, by simpa using Al.nil⟩, ?_⟩
    rintro i m H' ⟨rfl, hi, p⟩
    have qa : SqL K H' a xs := .of (p.2.1 _ _ (e1 _ _ ha))
    have qb : SqL K H' b ys := .of (p.2.1 _ _ (e1 _ _ hb))
    by_cases hlt : i < xs.length
    · have hlt2 : i < ys.length := by omega
      refine .inr ⟨⟨xs, ys, xs[i], ys[i], qa, qb, by simp [hlt], by simp [hlt2]⟩, CW H1 (xs.zip ys) kp RB D (i + 1), fun H2 p' => ⟨xs.length - (i + 1), by omega, rfl, hlt, p'⟩, fun v H2 y => ?_⟩
      obtain ⟨T, x, z, rfl, hT, rfl, hx, hy⟩ := y
      have p2 := cw_new (o := .tup [x, z]) mono p hT
      exact cw_turn (H0 := upd H' T (.tup [x, z])) mono (by omega) (zip_get (hx xs qa) (hy ys qb)) (ht _ ((e1.trans p.2.1).trans (Ex.new hT)) i x z (hx xs qa) (hy ys qb) T upd_same) Ex.rfl p2
    · have e : i = xs.length := by omega
      subst e
      obtain ⟨p1, p2, zs, p3, p4⟩ := p
      rw [← hz, List.take_length] at p4
      exact .inl ⟨⟨xs, ys, qa, qb, .inl (Nat.le_refl _)⟩, k _ _ (e1.trans p2) ⟨D, zs, rfl, e1.free p1, p3, p4⟩⟩
  · refine .inr ⟨ha.ki e1.ki, hb.ki e1.ki, fun D hD => ?_⟩
    refine ⟨fun i m H' => m = xs.length - i ∧ i ≤ xs.length ∧ CW H1 (xs.zip ys) kp RB D i H', ⟨xs.length, by simp, Nat.zero_le _, hD, Ex.new hD, [], upd_same, by simpa using Al.nil⟩, ?_⟩
    rintro i m H' ⟨rfl, hi, p⟩
    have qa : SqT K H' a xs := ha.ki (e1.trans p.2.1).ki
    have qb : SqT K H' b ys := hb.ki (e1.trans p.2.1).ki
    by_cases hlt : i < xs.length
    · have hlt2 : i < ys.length := by omega
      refine .inr ⟨⟨xs, ys, xs[i], ys[i], qa, qb, by simp [hlt], by simp [hlt2]⟩, CW H1 (xs.zip ys) kp RB D (i + 1), fun H2 p' => ⟨xs.length - (i + 1), by omega, rfl, hlt, p'⟩, fun v H2 y => ?_⟩
      obtain ⟨T, x, z, rfl, hT, rfl, hx, hy⟩ := y
      have p2 := cw_new (o := .tup [x, z]) mono p hT
      exact cw_turn (H0 := upd H' T (.tup [x, z])) mono (by omega) (zip_get (hx xs qa) (hy ys qb)) (ht _ ((e1.trans p.2.1).trans (Ex.new hT)) i x z (hx xs qa) (hy ys qb) T upd_same) Ex.rfl p2
    · have e : i = xs.length := by omega
      subst e
      obtain ⟨p1, p2, zs, p3, p4⟩ := p
      rw [← hz, List.take_length] at p4
      exact .inl ⟨⟨xs, ys, qa, qb, .inl (Nat.le_refl _)⟩, k _ _ (e1.trans p2) ⟨D, zs, rfl, e1.free p1, p3, p4⟩⟩
end
theorem kitAny2 {K : PySem.W.Frag} {n a b : String} {r1 r2 : Bool} (h1 : kitB n a = some r1) (h2 : kitB n b = some r2) : PySem.W.kitAny K (.type n) [.type a, .type b] = some (r1 || r2) := by
  refine kitAny_cons (kit_ty h1) (fun e => ?_) (fun e => by rw [e]; rfl)
  rw [e, Bool.false_or]
  refine kitAny_cons (kit_ty h2) (fun e2 => by rw [e2]; exact kitAny_nil) (fun e2 => e2)
/-! ### alike, as the laws' own look sees it -/
def Sm (K : PySem.W.Frag) : Nat → Hp → V → V → Prop
  | 0, _, _, _ => False
  | m + 1, H, x, y => (∃ i, x = .int i ∧ y = .int i) ∨ (∃ b, x = .bl b ∧ y = .bl b) ∨ (x = .non ∧ y = .non) ∨ (∃ z : PySem.Str, x = .str z ∧ y = .str z ∧ (reprText z).length ≤ sizeLine) ∨
    ∃ (a b : Addr) (xs ys : List V), x = .ref a ∧ y = .ref b ∧ ((H a = some (.lst xs) ∧ H b = some (.lst ys)) ∨ (SqT K H a xs ∧ SqT K H b ys)) ∧ xs.length = ys.length ∧ xs.length < 1000 ∧ ∀ (i : Nat) u v, xs[i]? = some u → ys[i]? = some v → Sm K m H u v
theorem Sm.ex {K : PySem.W.Frag} : ∀ {m : Nat} {H H' : Hp} {x y : V}, Sm K m H x y → Ex H H' → Sm K m H' x y
  | 0, _, _, _, _, h, _ => h.elim
  | m + 1, H, H', x, y, h, e => by
    rcases h with h | h | h | h | ⟨a, b, xs, ys, h1, h2, h3, h4, h5, h6⟩
    · exact .inl h
    · exact .inr (.inl h)
    · exact .inr (.inr (.inl h))
    · exact .inr (.inr (.inr (.inl h)))
    · refine .inr (.inr (.inr (.inr ⟨a, b, xs, ys, h1, h2, ?_, h4, h5, fun i u v hu hv => (h6 i u v hu hv).ex e⟩)))
      rcases h3 with ⟨p, q⟩ | ⟨p, q⟩
      · exact .inl ⟨e _ _ p, e _ _ q⟩
      · exact .inr ⟨p.ki e.ki, q.ki e.ki⟩
theorem Sm.int {K : PySem.W.Frag} {m : Nat} {H : Hp} {i : Int} : Sm K (m + 1) H (.int i) (.int i) := .inl ⟨i, rfl, rfl⟩
theorem Sm.bl {K : PySem.W.Frag} {m : Nat} {H : Hp} {b : Bool} : Sm K (m + 1) H (.bl b) (.bl b) := .inr (.inl ⟨b, rfl, rfl⟩)
theorem Sm.ints {K : PySem.W.Frag} {m : Nat} {H : Hp} {a b : Addr} {xs : List Int} (h1 : H a = some (.lst (xs.map V.int))) (h2 : H b = some (.lst (xs.map V.int))) (hl : xs.length < 1000) : Sm K (m + 2) H (.ref a) (.ref b) := by
  refine .inr (.inr (.inr (.inr ⟨a, b, _, _, rfl, rfl, .inl ⟨h1, h2⟩, rfl, by rw [List.length_map]; exact hl, fun i u v hu hv => ?_⟩)))
  rw [hu] at hv
  cases hv
  rw [List.getElem?_map] at hu
  cases e : xs[i]? with
  | none => rw [e] at hu; cases hu
  | some z => rw [e] at hu; cases hu; exact Sm.int
end My
namespace My
open PySem PySem.Spec PyProof.Rows L2
/-! ### stands: going one way, and where it ends -/
structure HsPos (h : Hs) : Prop where
  lend : ∀ x ∈ h.hel, 0 ≤ x.2.2
  gap : ∀ p ∈ h.lat, p.2 < p.1
def Lq (up : Bool) (A B : List Int) : Prop := if up = true then (∀ x ∈ A, x ∈ B) else (∀ x ∈ B, x ∈ A)
theorem Lq.rfl {up : Bool} {A : List Int} : Lq up A A := by unfold Lq; split <;> exact fun _ h => h
theorem Lq.trans {up : Bool} {A B C : List Int} (x : Lq up A B) (y : Lq up B C) : Lq up A C := by
  unfold Lq at *
  split at * <;> simp_all
theorem sorted_ext : ∀ (A B : List Int), A.Pairwise (· < ·) → B.Pairwise (· < ·) → (∀ x, x ∈ A ↔ x ∈ B) → A = B
  | [], [], _, _, _ => _root_.rfl
  | [], b :: B, _, _, h => absurd ((h b).mpr (List.mem_cons_self ..)) (by simp)
  | a :: A, [], _, _, h => absurd ((h a).mp (List.mem_cons_self ..)) (by simp)
  | a :: A, b :: B, hA, hB, h => by
    have hA' := List.pairwise_cons.mp hA
    have hB' := List.pairwise_cons.mp hB
    have e : a = b := by
      rcases List.mem_cons.mp ((h a).mp (List.mem_cons_self ..)) with e | e
      · exact e
      · rcases List.mem_cons.mp ((h b).mpr (List.mem_cons_self ..)) with e2 | e2
        · exact e2.symm
        · have := hA'.1 b e2
          have := hB'.1 a e
          omega
    subst e
    have : A = B := sorted_ext A B hA'.2 hB'.2 fun x => by
      constructor
      · intro hx
        rcases List.mem_cons.mp ((h x).mp (List.mem_cons_of_mem _ hx)) with e2 | e2
        · subst e2
          have := hA'.1 x hx
          omega
        · exact e2
      · intro hx
        rcases List.mem_cons.mp ((h x).mpr (List.mem_cons_of_mem _ hx)) with e2 | e2
        · subst e2
          have := hB'.1 x hx
          omega
        · exact e2
    rw [this]
theorem StOk.nat {n : Nat} {A : List Int} (a : StOk n A) {x : Int} (h : x ∈ A) : ∃ l : Nat, x = (l : Int) ∧ l < n := ⟨x.toNat, by have := a.lo x h; omega, by have := a.lo x h; have := a.hi x h; omega⟩
theorem StOk.ext {n : Nat} {A B : List Int} (a : StOk n A) (b : StOk n B) (h : ∀ l : Nat, (l : Int) ∈ A ↔ (l : Int) ∈ B) : A = B :=
  sorted_ext A B a.up b.up fun x => by
    constructor
    · intro hx
      obtain ⟨l, e, _⟩ := a.nat hx
      subst e
      exact (h l).mp hx
    · intro hx
      obtain ⟨l, e, _⟩ := b.nat hx
      subst e
      exact (h l).mpr hx
theorem Lq.eq {n : Nat} {up : Bool} {A B : List Int} (a : StOk n A) (b : StOk n B) (x : Lq up A B) (y : Lq up B A) : A = B := by
  unfold Lq at *
  cases up with
  | true => exact a.ext b fun l => ⟨x _, y _⟩
  | false => exact a.ext b fun l => ⟨y _, x _⟩
def canon (n : Nat) (P : Nat → Bool) : List Int := ((List.range n).filter P).map fun (l : Nat) => (l : Int)
theorem mem_canon {n : Nat} {P : Nat → Bool} {l : Nat} : (l : Int) ∈ canon n P ↔ l < n ∧ P l = true := by
  unfold canon
  rw [List.mem_map]
  constructor
  · rintro ⟨k, hk, e⟩
    have : k = l := by omega
    subst this
    have := List.mem_filter.mp hk
    exact ⟨List.mem_range.mp this.1, this.2⟩
  · rintro ⟨h1, h2⟩
    exact ⟨l, List.mem_filter.mpr ⟨List.mem_range.mpr h1, h2⟩, _root_.rfl⟩
theorem canon_ok (n : Nat) (P : Nat → Bool) : StOk n (canon n P) := by
  refine ⟨?_, ?_, ?_⟩
  · unfold canon
    rw [List.pairwise_map]
    have h : (List.range n).Pairwise (· < ·) := List.pairwise_lt_range
    exact ((h.filter P).imp fun {a b} hab => by omega)
  · intro x hx
    unfold canon at hx
    obtain ⟨l, _, e⟩ := List.mem_map.mp hx
    omega
  · intro x hx
    unfold canon at hx
    obtain ⟨l, h1, e⟩ := List.mem_map.mp hx
    have := List.mem_range.mp (List.mem_filter.mp h1).1
    omega
/-- a stand once latches have gone -/
def stepS (n : Nat) (st : List Int) (ls : List Nat) (up : Bool) : List Int := canon n fun l => if up = true then decide ((l : Int) ∈ st) || decide (l ∈ ls) else decide ((l : Int) ∈ st) && !decide (l ∈ ls)
theorem stepS_ok (n : Nat) (st : List Int) (ls : List Nat) (up : Bool) : StOk n (stepS n st ls up) := canon_ok _ _
theorem mem_up {n : Nat} {st : List Int} {ls : List Nat} {l : Nat} : (l : Int) ∈ stepS n st ls true ↔ l < n ∧ ((l : Int) ∈ st ∨ l ∈ ls) := by
  unfold stepS
  rw [mem_canon]
  simp
theorem mem_down {n : Nat} {st : List Int} {ls : List Nat} {l : Nat} : (l : Int) ∈ stepS n st ls false ↔ l < n ∧ ((l : Int) ∈ st ∧ l ∉ ls) := by
  unfold stepS
  rw [mem_canon]
  simp
theorem sum_mono (A B : List Int) (h : ∀ x ∈ A, x ∈ B) : ∀ ls : List (Int × Int), (∀ p ∈ ls, 0 ≤ p.2) → ((ls.filter fun p => decide (p.1 ∈ A)).map (·.2)).sum ≤ ((ls.filter fun p => decide (p.1 ∈ B)).map (·.2)).sum
  | [], _ => Int.le_refl _
  | p :: r, hp => by
    have ih := sum_mono A B h r fun q hq => hp q (List.mem_cons_of_mem _ hq)
    have h0 := hp p (List.mem_cons_self ..)
    by_cases ha : p.1 ∈ A
    · have hb := h _ ha
      rw [List.filter_cons_of_pos (by simpa using ha), List.filter_cons_of_pos (by simpa using hb), List.map_cons, List.map_cons, List.sum_cons, List.sum_cons]
      omega
    · rw [List.filter_cons_of_neg (by simpa using ha)]
      by_cases hb : p.1 ∈ B
      · rw [List.filter_cons_of_pos (by simpa using hb), List.map_cons, List.sum_cons]
        omega
      · rw [List.filter_cons_of_neg (by simpa using hb)]
        exact ih
theorem lent_mono {h : Hs} (hp : HsPos h) {A B : List Int} (ab : ∀ x ∈ A, x ∈ B) (l : Nat) : h.lent A l ≤ h.lent B l := by
  unfold Hs.lent
  refine sum_mono A B ab _ fun p hm => ?_
  unfold lendOf at hm
  obtain ⟨x, hx, e⟩ := List.mem_map.mp hm
  have := hp.lend x (List.mem_filter.mp hx).1
  rw [← e]
  exact this
theorem goes_mono {h : Hs} (hp : HsPos h) {up : Bool} {A B : List Int} (ab : Lq up A B) {s : Int} {l : Nat} (g : h.goes A s l up = true) : h.goes B s l up = true := by
  unfold Hs.goes at *
  unfold Lq at ab
  cases up with
  | true =>
    have := lent_mono hp (A := A) (B := B) ab l
    simp at g ⊢
    omega
  | false =>
    have := lent_mono hp (A := B) (B := A) ab l
    simp at g ⊢
    omega
/-- what goes the one way from less would not go the other way from more -/
theorem goes_not {h : Hs} (hp : HsPos h) {up : Bool} {A B : List Int} (ab : Lq up A B) {s : Int} {l : Nat} (hl : l < h.n) (g : h.goes A s l up = true) : h.goes B s l (!up) = false := by
  have g2 := goes_mono hp ab g
  have hm : (h.up l, h.dn l) ∈ h.lat := List.mem_of_getElem? (lat_get hl)
  have hg := hp.gap _ hm
  unfold Hs.goes at *
  cases up with
  | true => simp at g2 ⊢; omega
  | false => simp at g2 ⊢; omega
theorem mem_want {h : Hs} {st : List Int} {s : Int} {up : Bool} {l : Nat} : l ∈ h.want st s up ↔ l < h.n ∧ decide ((l : Int) ∈ st) = !up ∧ h.goes st s l up = true := by
  unfold Hs.want Hs.mov
  rw [List.mem_filter, List.mem_filter, List.mem_range]
  cases up <;> cases decide ((l : Int) ∈ st) <;> simp
structure Clo (h : Hs) (s : Int) (up : Bool) (st T : List Int) : Prop where
  ok : StOk h.n T
  ge : Lq up st T
  fin : h.want T s up = []
  least : ∀ U, StOk h.n U → Lq up st U → h.want U s up = [] → Lq up T U
theorem Clo.uniq {h : Hs} {s : Int} {up : Bool} {st T U : List Int} (a : Clo h s up st T) (b : Clo h s up st U) : T = U :=
  Lq.eq a.ok b.ok (a.least U b.ok b.ge b.fin) (b.least T a.ok a.ge a.fin)
theorem Clo.self {h : Hs} {s : Int} {up : Bool} {st : List Int} (o : StOk h.n st) (e : h.want st s up = []) : Clo h s up st st := ⟨o, .rfl, e, fun _ _ h _ => h⟩
theorem gone_in {h : Hs} (hp : HsPos h) {s : Int} {up : Bool} {A U : List Int} {l : Nat} (hl : l ∈ h.want A s up) (au : Lq up A U) (e : h.want U s up = []) : decide ((l : Int) ∈ U) = up := by
  obtain ⟨h1, h2, h3⟩ := mem_want.mp hl
  cases hd : decide ((l : Int) ∈ U) == !up with
  | false => cases up <;> cases hz : decide ((l : Int) ∈ U) <;> simp_all
  | true =>
    have : l ∈ h.want U s up := mem_want.mpr ⟨h1, by simpa using hd, goes_mono hp au h3⟩
    rw [e] at this
    simp at this
theorem step_ge {h : Hs} {up : Bool} {st : List Int} (o : StOk h.n st) (ls : List Nat) : Lq up st (stepS h.n st ls up) := by
  unfold Lq
  cases up with
  | true =>
    refine fun x hx => ?_
    obtain ⟨l, e, hl⟩ := o.nat hx
    subst e
    exact mem_up.mpr ⟨hl, .inl hx⟩
  | false =>
    refine fun x hx => ?_
    obtain ⟨l, e, hl⟩ := (stepS_ok _ _ _ _).nat hx
    subst e
    exact (mem_down.mp hx).2.1
theorem step_in {h : Hs} (hp : HsPos h) {s : Int} {up : Bool} {A U : List Int} {ls : List Nat} (oU : StOk h.n U) (hl : ∀ l ∈ ls, l ∈ h.want A s up) (au : Lq up A U) (e : h.want U s up = []) : Lq up (stepS h.n A ls up) U := by
  unfold Lq at au ⊢
  cases up with
  | true =>
    refine fun x hx => ?_
    obtain ⟨l, e2, _⟩ := (stepS_ok _ _ _ _).nat hx
    subst e2
    rcases (mem_up.mp hx).2 with h1 | h1
    · exact au _ h1
    · simpa using gone_in hp (hl l h1) (show Lq true A U from au) e
  | false =>
    refine fun x hx => ?_
    obtain ⟨l, e2, hl2⟩ := oU.nat hx
    subst e2
    refine mem_down.mpr ⟨hl2, au _ hx, fun h1 => ?_⟩
    have := gone_in hp (hl l h1) (show Lq false A U from au) e
    simp at this
    exact this hx
theorem Clo.step {h : Hs} (hp : HsPos h) {s : Int} {up : Bool} {st T : List Int} {ls : List Nat} (o : StOk h.n st) (hl : ∀ l ∈ ls, l ∈ h.want st s up) (c : Clo h s up (stepS h.n st ls up) T) : Clo h s up st T :=
  ⟨c.ok, (step_ge o ls).trans c.ge, c.fin, fun U oU hU e => c.least U oU (step_in hp oU hl hU e) e⟩
/-- the other way's step -/
theorem step_back {h : Hs} {up : Bool} {A Z : List Int} {ls : List Nat} (oZ : StOk h.n Z) (oA : StOk h.n A) (az : Lq up A Z) : Lq up (stepS h.n A ls (!up)) Z := by
  have h1 := step_ge (up := !up) oA ls
  unfold Lq at *
  cases up with
  | true => exact fun x hx => az x (h1 x hx)
  | false => exact fun x hx => h1 x (az x hx)
theorem inv_step {h : Hs} (hp : HsPos h) {s : Int} {up up' : Bool} {A Z : List Int} {l : Nat} (oZ : StOk h.n Z) (oA : StOk h.n A) (az : Lq up A Z) (e : h.want Z s up = []) (hl : l ∈ h.want A s up') : Lq up (stepS h.n A [l] up') Z := by
  by_cases hu : up' = up
  · subst hu
    exact step_in hp oZ (fun k hk => by rw [List.mem_singleton.mp hk]; exact hl) az e
  · have : up' = !up := by cases up <;> cases up' <;> simp_all
    subst this
    exact step_back oZ oA az
theorem lq_not {up : Bool} {A B : List Int} : Lq (!up) A B ↔ Lq up B A := by unfold Lq; cases up <;> simp
/-- behind both ways none goes the first way -/
theorem settle1 {h : Hs} (hp : HsPos h) {s : Int} {up : Bool} {S C E : List Int} (c : Clo h s up S C) (d : Clo h s (!up) C E) : h.want E s up = [] := by
  refine List.eq_nil_iff_forall_not_mem.mpr fun l hl => ?_
  obtain ⟨h1, h2, h3⟩ := mem_want.mp hl
  have ec : Lq up E C := lq_not.mp d.ge
  by_cases hc : decide ((l : Int) ∈ C) = !up
  · have : l ∈ h.want C s up := mem_want.mpr ⟨h1, hc, goes_mono hp ec h3⟩
    rw [c.fin] at this
    simp at this
  · -- E with l
    have hU : StOk h.n (stepS h.n E [l] up) := stepS_ok _ _ _ _
    have hEU : Lq up E (stepS h.n E [l] up) := step_ge d.ok [l]
    have hCU : Lq (!up) C (stepS h.n E [l] up) := by
      refine lq_not.mpr ?_
      unfold Lq at ec ⊢
      cases up with
      | true =>
        refine fun x hx => ?_
        obtain ⟨k, e, _⟩ := hU.nat hx
        subst e
        rcases (mem_up.mp hx).2 with h4 | h4
        · exact ec _ h4
        · rw [List.mem_singleton.mp h4]
          simpa using hc
      | false =>
        refine fun x hx => ?_
        obtain ⟨k, e, hk⟩ := c.ok.nat hx
        subst e
        refine mem_down.mpr ⟨hk, ec _ hx, fun h4 => ?_⟩
        rw [List.mem_singleton.mp h4] at hx
        simp [hx] at hc
    have hw : h.want (stepS h.n E [l] up) s (!up) = [] := by
      refine List.eq_nil_iff_forall_not_mem.mpr fun k hk => ?_
      obtain ⟨k1, k2, k3⟩ := mem_want.mp hk
      by_cases hkl : k = l
      · subst hkl
        have := goes_not hp hEU k1 h3
        rw [this] at k3
        cases k3
      · have kE : decide ((k : Int) ∈ E) = up := by
          rw [Bool.not_not] at k2
          cases up with
          | true =>
            have := (mem_up.mp (of_decide_eq_true k2)).2
            rcases this with h4 | h4
            · exact decide_eq_true h4
            · exact absurd (List.mem_singleton.mp h4) hkl
          | false =>
            have := of_decide_eq_false k2
            refine decide_eq_false fun h4 => this (mem_down.mpr ⟨k1, h4, fun h5 => hkl (List.mem_singleton.mp h5)⟩)
        have : k ∈ h.want E s (!up) := mem_want.mpr ⟨k1, by rw [Bool.not_not]; exact kE, goes_mono hp (lq_not.mpr hEU) k3⟩
        rw [d.fin] at this
        simp at this
    have hle := lq_not.mp (d.least _ hU hCU hw)
    unfold Lq at hle
    cases up with
    | true =>
      have h4 := hle _ (mem_up.mpr ⟨h1, .inr (List.mem_singleton.mpr _root_.rfl)⟩)
      simp at h2
      exact h2 h4
    | false =>
      simp at h2
      have h4 := hle _ h2
      exact (mem_down.mp h4).2.2 (List.mem_singleton.mpr _root_.rfl)
/-- sunk, then climbed, lies within climbed, then sunk -/
theorem low_high {h : Hs} (hp : HsPos h) {s : Int} {S C E D L : List Int} (c : Clo h s true S C) (e : Clo h s false C E) (d : Clo h s false S D) (l : Clo h s true D L) : ∀ x ∈ L, x ∈ E := by
  have hCD : Lq false C D := by
    have h1 := c.ge
    have h2 := d.ge
    unfold Lq at *
    exact fun x hx => h1 x (h2 x hx)
  have h1 := e.least D d.ok hCD d.fin
  have h2 : Lq true D E := lq_not.mp h1
  have := l.least E e.ok h2 (settle1 hp c e)
  exact this
/-- from a stand on the way -/
theorem mid_low {h : Hs} {s : Int} {up : Bool} {S D0 L0 D L : List Int} (o0 : StOk h.n D0) (e0 : h.want D0 s up = []) (l0 : Clo h s (!up) D0 L0) (az : Lq up S D0) (d : Clo h s up S D) (l : Clo h s (!up) D L) : Lq (!up) L0 L :=
  l0.least L l.ok ((lq_not.mpr (d.least D0 o0 az e0)).trans l.ge) l.fin
/-! ### waves -/
def foldS (n : Nat) (up : Bool) (st : List Int) (ws : List (List Nat)) : List Int := ws.foldl (fun c w => stepS n c w up) st
def RunOk (h : Hs) (s : Int) (up : Bool) (st : List Int) (ws : List (List Nat)) : Prop := ∀ i w, ws[i]? = some w → w = h.want (foldS h.n up st (ws.take i)) s up
theorem foldS_snoc (n : Nat) (up : Bool) (st : List Int) (ws : List (List Nat)) (w : List Nat) : foldS n up st (ws ++ [w]) = stepS n (foldS n up st ws) w up := by
  unfold foldS
  rw [List.foldl_append]
  rfl
theorem RunOk.snoc {h : Hs} {s : Int} {up : Bool} {st : List Int} {ws : List (List Nat)} (r : RunOk h s up st ws) : RunOk h s up st (ws ++ [h.want (foldS h.n up st ws) s up]) := by
  intro i w hi
  rcases Nat.lt_or_ge i ws.length with hl | hl
  · rw [List.getElem?_append_left hl] at hi
    rw [List.take_append_of_le_length (by omega)]
    exact r i w hi
  · rw [List.getElem?_append_right hl] at hi
    have e : i - ws.length = 0 := by
      have := (List.getElem?_eq_some_iff.mp hi).1
      simp at this
      omega
    rw [e] at hi
    simp at hi
    have e2 : i = ws.length := by omega
    subst e2
    rw [List.take_left' _root_.rfl]
    exact hi.symm
theorem foldS_ok {h : Hs} {up : Bool} : ∀ {ws : List (List Nat)} {st : List Int}, StOk h.n st → StOk h.n (foldS h.n up st ws)
  | [], st, o => o
  | w :: ws, st, o => foldS_ok (ws := ws) (stepS_ok h.n st w up)
theorem mov_step {h : Hs} {s : Int} {up : Bool} {st : List Int} {ls : List Nat} (hne : ls ≠ []) (hl : ∀ l ∈ ls, l ∈ h.want st s up) : (h.mov (stepS h.n st ls up) up).length + 1 ≤ (h.mov st up).length := by
  have e : h.mov (stepS h.n st ls up) up = (h.mov st up).filter fun l => !decide (l ∈ ls) := by
    unfold Hs.mov
    rw [List.filter_filter]
    refine List.filter_congr fun l hl2 => ?_
    have hl3 := List.mem_range.mp hl2
    cases up with
    | true =>
      have : decide ((l : Int) ∈ stepS h.n st ls true) = (decide ((l : Int) ∈ st) || decide (l ∈ ls)) := by
        rw [← Bool.decide_or]
        exact decide_eq_decide.mpr (by rw [mem_up]; simp [hl3])
      rw [this]
      cases decide ((l : Int) ∈ st) <;> cases decide (l ∈ ls) <;> rfl
    | false =>
      have : decide ((l : Int) ∈ stepS h.n st ls false) = (decide ((l : Int) ∈ st) && !decide (l ∈ ls)) := by
        rw [← decide_not, ← Bool.decide_and]
        exact decide_eq_decide.mpr (by rw [mem_down]; simp [hl3])
      rw [this]
      cases decide ((l : Int) ∈ st) <;> cases decide (l ∈ ls) <;> rfl
  rw [e]
  obtain ⟨l, r, rfl⟩ : ∃ l r, ls = l :: r := by
    cases ls with
    | nil => exact absurd _root_.rfl hne
    | cons l r => exact ⟨l, r, _root_.rfl⟩
  have hm : l ∈ h.mov st up := (List.mem_filter.mp (hl l (List.mem_cons_self ..))).1
  have := (List.length_filter_lt_length_iff_exists (p := fun k => !decide (k ∈ l :: r)) (l := h.mov st up)).mpr ⟨l, hm, by simp⟩
  omega
theorem want_lt {h : Hs} {st : List Int} {s : Int} {up : Bool} {l : Nat} (hl : l ∈ h.want st s up) : l < h.n := (mem_want.mp hl).1
theorem want_rise (h : Hs) (st : List Int) (s : Int) (up : Bool) : (h.want st s up).Pairwise (· < ·) := by
  unfold Hs.want Hs.mov
  have hr : (List.range h.n).Pairwise (· < ·) := List.pairwise_lt_range
  exact (hr.filter _).filter _
theorem want_len (h : Hs) (st : List Int) (s : Int) (up : Bool) : (h.want st s up).length ≤ h.n := by
  unfold Hs.want Hs.mov
  exact Nat.le_trans (List.length_filter_le _ _) (Nat.le_trans (List.length_filter_le _ _) (by simp))
/-- sorted of a stand with latches that were not in it -/
theorem sort_up {n : Nat} {st : List Int} {ls : List Nat} {ns : List Int} (o : StOk n st) (hp : ns.Perm (st ++ ls.map fun (l : Nat) => (l : Int))) (hs : ns.Pairwise (· ≤ ·)) (hn : ls.Nodup) (hl : ∀ l ∈ ls, l < n ∧ ¬ (l : Int) ∈ st) : ns = stepS n st ls true := by
  have hnd : ns.Nodup := by
    refine hp.nodup_iff.mpr ?_
    rw [List.nodup_append]
    refine ⟨o.up.imp fun {a b} h => by omega, ?_, ?_⟩
    · rw [List.nodup_iff_pairwise_ne] at hn ⊢
      rw [List.pairwise_map]
      exact hn.imp fun {a b} h => by omega
    · intro a ha b hb e
      obtain ⟨l, h1, h2⟩ := List.mem_map.mp hb
      subst h2 e
      exact (hl l h1).2 ha
  have hst : ns.Pairwise (· < ·) := by
    rw [List.nodup_iff_pairwise_ne] at hnd
    exact (List.pairwise_and_iff.mpr ⟨hs, hnd⟩).imp fun {a b} h => by have := h.1; have := h.2; omega
  refine sorted_ext _ _ hst (stepS_ok _ _ _ _).up fun x => ?_
  rw [hp.mem_iff, List.mem_append]
  constructor
  · rintro (h | h)
    · obtain ⟨l, e, h2⟩ := o.nat h
      subst e
      exact mem_up.mpr ⟨h2, .inl h⟩
    · obtain ⟨l, h1, h2⟩ := List.mem_map.mp h
      subst h2
      exact mem_up.mpr ⟨(hl l h1).1, .inr h1⟩
  · intro h
    obtain ⟨l, e, _⟩ := (stepS_ok _ _ _ _).nat h
    subst e
    rcases (mem_up.mp h).2 with h | h
    · exact .inl h
    · exact .inr (List.mem_map.mpr ⟨l, h, _root_.rfl⟩)
/-- a stand without latches -/
theorem filter_down {n : Nat} {st : List Int} (o : StOk n st) (ls : List Nat) : st.filter (fun x => !decide (x ∈ ls.map fun (l : Nat) => (l : Int))) = stepS n st ls false := by
  refine sorted_ext _ _ (o.up.filter _) (stepS_ok _ _ _ _).up fun x => ?_
  rw [List.mem_filter]
  have e : ∀ l : Nat, ((l : Int) ∈ ls.map fun (l : Nat) => (l : Int)) ↔ l ∈ ls := fun l => by
    rw [List.mem_map]
    constructor
    · rintro ⟨k, h1, h2⟩
      have : k = l := by omega
      subst this
      exact h1
    · intro h
      exact ⟨l, h, _root_.rfl⟩
  constructor
  · rintro ⟨h1, h2⟩
    obtain ⟨l, e2, h3⟩ := o.nat h1
    subst e2
    refine mem_down.mpr ⟨h3, h1, fun h4 => ?_⟩
    have := (e l).mpr h4
    simp [this] at h2
  · intro h
    obtain ⟨l, e2, _⟩ := (stepS_ok _ _ _ _).nat h
    subst e2
    have := mem_down.mp h
    refine ⟨this.2.1, ?_⟩
    rw [Bool.not_eq_true', decide_eq_false_iff_not]
    exact fun h5 => this.2.2 ((e l).mp h5)
theorem StOk.len {n : Nat} {st : List Int} (o : StOk n st) : st.length ≤ n := by
  have e : st = canon n fun l => decide ((l : Int) ∈ st) := o.ext (canon_ok _ _) fun l => by
    rw [mem_canon]
    constructor
    · intro h
      obtain ⟨k, e, hk⟩ := o.nat h
      have : l = k := by omega
      subst this
      exact ⟨hk, decide_eq_true h⟩
    · intro h
      exact of_decide_eq_true h.2
  rw [e]
  unfold canon
  rw [List.length_map]
  exact Nat.le_trans (List.length_filter_le _ _) (by simp)
end My
namespace SrtO
open PySem PyProof.Rows Srt
section
variable {prog : Program} {w : World} {A : Around} {E : Value → Shared → Prop} {s : Shared}
/-! ### sorted of a tuple of ints: its items are gathered, then a list of them is sorted -/
theorem sorted_tupI {l : Addr} {vs : List Value} {ns : List Int} {Q : Value → Shared → Prop} (hl : s.heap.IsTuple l vs.toArray) (hI : IntsAre vs ns) (hz : vs.length ≤ sizeLine)
    (q : ∀ (h1 h' : Heap) (d : Addr) (out : List Value) (ns' : List Int), IntsAre out ns' → ns'.Perm ns → ns'.Pairwise (· ≤ ·) → (∀ b o, s.heap.get? b = some o → h1.get? b = some o) → (∀ b o, h1.get? b = some o → h'.get? b = some o) → h1.objs.size ≤ d → (∃ e, h'.get? d = some (seqObj "list" out.toArray e)) → Q (.ref d) { s with heap := h' }) :
    wpAny (model prog w) A (call (.builtin "sorted") [.ref l]) Q E s := by
  obtain ⟨o, ho, hc, n, hd⟩ := id hl
  have go : wpAny (model prog w) A.in1 (Builtin.«sorted» ⟨[.ref l], []⟩) (fun f s' => ∃ v, f = .done (.ret v) ∧ Q v s') E s := by
    unfold Builtin.«sorted»
    refine wpAny_bind (wpAny_pure (?_ : wpAny _ _ _ _ _ _)) <;> try trivial
    refine wpAny_bind (PySem.wpAny_collect_seq l (.inr rfl) ho hc hd (fun h1 k1 => ?_) (by simpa using hz))
    refine wpAny_bind (wpAny_newList (?_ : wpAny _ _ _ _ _ { s with heap := h1.push (seqObj "list" vs.toArray 0) }) hz)
    have hob : (h1.push (seqObj "list" vs.toArray 0)).get? h1.objs.size = some (seqObj "list" vs.toArray 0) := Heap.get?_push_size _ rfl
    refine wpAny_bind (wpAny_holding (wpAny_call_entry slot_list_sort ⟨_, hob, rfl⟩ entry_list_sort (list_sort_ord swo_int hob hz (fun two => ints_sortable hI two) fun out a1 a2 => ⟨_, rfl, ?_⟩) (args_list_sort _)))
    obtain ⟨k2, k3, k4⟩ := ints_out hI a1 a2
    refine wpAny_pure ⟨_, rfl, q h1 _ _ out _ k2 k3 k4 k1 (fun b o2 hb1 => ?_) (Nat.le_refl _) (sortedHeap_at hob)⟩
    have hlt : b < h1.objs.size := Heap.lt_size hb1
    rw [sortedHeap_old (Nat.ne_of_lt hlt) (Nat.lt_trans hlt (Heap.lt_size hob))]
    exact Heap.get?_push_of_some _ hb1
  exact Calls.call_function_entry kind_sorted plain_sorted entry_sorted (args_sorted1 _) go
end
end SrtO
namespace L2
open PySem PySem.Spec PyProof.Rows
/-- sorted(t), t a tuple of ints: a new list -/
def rSortTI (K : PySem.W.Frag) : List V → Hp → VK → Prop := fun vs H Q => ∃ (a : Addr) (ns : List Int), vs = [V.ref a] ∧ SqT K H a (ns.map V.int) ∧ ∀ (ms : List Int) (p : Addr), ms.Perm ns → ms.Pairwise (· ≤ ·) → H p = none → Q (.ref p) (upd H p (.lst (ms.map V.int)))
theorem kSortTI {X : Cx} {K : PySem.W.Frag} (hK : X.K = K := by rfl) : CallR X (.builtin "sorted") (rSortTI K) := by
  subst hK
  intro pins s σ H vs us Q I r h
  obtain ⟨a, ns, rfl, hs, q⟩ := h
  obtain ⟨its, rv, hl, hz⟩ := I.tuple hs
  rw [Vals.ref1 r]
  refine SrtO.sorted_tupI hl rv.ints (by rw [← rv.length]; exact hz) fun h1 h' d out ms k1 k2 k3 kp1 kp hd hn => ?_
  obtain ⟨e, he⟩ := hn
  have hlen : (ms.map V.int).length ≤ sizeLine := by
    rw [List.length_map] at hz
    rw [List.length_map, k2.length_eq]
    exact hz
  have I1 : Inv X pins σ H { s with heap := h1 } := I.kept (t' := s.toks) kp1
  exact ⟨.ref d, upd H d (.lst (ms.map V.int)), I1.laid (t' := s.toks) kp hd ⟨hlen, out, e, vals_of_ints k1, he⟩, rfl, q _ _ k2 k3 (I1.hok.fresh hd)⟩
end L2
namespace My
open PySem PySem.Spec PyProof.Rows L2
/-! ### ints as data -/
theorem r_next {D : Ends} {σ : L2.St} {H : Hp} (h : D.nx σ H) : tNext D σ H := h
theorem dpa_ints {K : PySem.W.Frag} {H : Hp} : ∀ xs : List Int, DpAll K H (xs.map V.int) (xs.map PyData.int)
  | [] => .nil
  | x :: r => .cons (.int x) (dpa_ints r)
theorem lay_int : ∀ xs : List Int, PyData.canLayAll0 (xs.map PyData.int) = true ∧ PyData.depthAll (xs.map PyData.int) = 0
  | [] => by simp [PyData.canLayAll0, PyData.depthAll]
  | x :: r => by
    have := lay_int r
    rw [List.map_cons]
    unfold PyData.canLayAll0 PyData.depthAll
    rw [this.1, this.2]
    simp [PyData.canLay0, PyData.depth]
def dL (xs : List Int) : PyData := .list (xs.map PyData.int)
def dT (xs : List Int) : PyData := .tuple (xs.map PyData.int)
theorem dpL {K : PySem.W.Frag} {H : Hp} {p : Addr} {xs : List Int} (h : SqL K H p (xs.map V.int)) : Dp K H (.ref p) (dL xs) := .lst h (dpa_ints xs)
theorem dpT {K : PySem.W.Frag} {H : Hp} {p : Addr} {xs : List Int} (h : SqT K H p (xs.map V.int)) : Dp K H (.ref p) (dT xs) := .tup h (dpa_ints xs)
theorem shL (xs : List Int) : SeqAt.shaped (dL xs) = true := by
  have h1 := lay_int xs
  unfold SeqAt.shaped dL
  simp [PyData.canLay0, PyData.depth, h1.1, h1.2]
theorem shT (xs : List Int) : SeqAt.shaped (dT xs) = true := by
  have h1 := lay_int xs
  unfold SeqAt.shaped dT
  simp [PyData.canLay0, PyData.depth, h1.1, h1.2]
theorem eqL0 (xs : List Int) : PyData.eqv (dL xs) (dL []) = xs.isEmpty := by
  cases xs <;> simp [dL, PyData.eqv, PyData.eqvAll]
theorem eqvAll_ints : ∀ xs : List Int, PyData.eqvAll (xs.map PyData.int) (xs.map PyData.int) = true
  | [] => by simp [PyData.eqvAll]
  | x :: r => by
    rw [List.map_cons]
    unfold PyData.eqvAll
    rw [eqvAll_ints r]
    simp [PyData.eqv]
theorem eqT (xs : List Int) : PyData.eqv (dT xs) (dT xs) = true := by
  unfold dT PyData.eqv
  exact eqvAll_ints xs
theorem Ki.ofEx {H H' : Hp} (e : Ex H H') : Ki H H' := e.ki
theorem nints_ints (ls : List Nat) : nints ls = (ls.map fun (l : Nat) => (l : Int)).map V.int := by unfold nints; rw [List.map_map]; rfl
theorem nints_ne {ls : List Nat} : (nints ls).isEmpty = ls.isEmpty := by cases ls <;> rfl
theorem exB_p {H H' : Hp} {p a : Addr} {o : HO} (e : ExB p H H') (n : a ≠ p) (h : H a = some o) : H' a = some o := e a o n h
/-- lists of latches, none of them at p -/
def WavesV (p : Addr) (H : Hp) (rs : List V) (ws : List (List Nat)) : Prop := Al (fun x w => ∃ b, x = V.ref b ∧ b ≠ p ∧ H b = some (.lst (nints w))) rs ws
theorem WavesV.exB {p : Addr} {H H' : Hp} {rs : List V} {ws : List (List Nat)} (h : WavesV p H rs ws) (e : ExB p H H') : WavesV p H' rs ws := h.imp fun _ _ ⟨b, h1, h2, h3⟩ => ⟨b, h1, h2, e _ _ h2 h3⟩
def lenAt (H : Hp) (p : Addr) : Nat := match H p with
  | some (.lst xs) => 15 - xs.length
  | _ => 0
end My
namespace HT
open PySem PyProof.Rows
section
variable {prog : Program} {w : World} {A : Around} {E : Value → Shared → Prop} {s : Shared}
/-! ### t[::-1], t a tuple -/
theorem applied_rev {sl : Addr} {vs : Value} {n : Nat} {Q : Int × Int × Nat → Shared → Prop} (hs : s.heap.IsSliceOf sl .none .none vs) (ps : IsPart vs (some (-1))) (q : Q ((n : Int) - 1, -1, n) s) : wpAny (model prog w) A (Builtin.Slice.sliceApplied (.ref sl) (pure (n : Int))) Q E s := by
  obtain ⟨os, hos, _, hds⟩ := id hs
  unfold Builtin.Slice.sliceApplied Builtin.Slice.sliceFields
  refine wpAny_bind (wpAny_bind (wpAny_field hos hds (x := .none) rfl (wpAny_bind (wpAny_field hos hds (x := .none) rfl (wpAny_bind (wpAny_field hos hds (x := vs) rfl (wpAny_pure ?_)))))))
  refine wpAny_bind (slicePart_ ps ?_)
  show wpAny _ _ (if ((-1 : Int) == 0) = true then _ else _) _ _ s
  rw [if_neg (show ¬ ((-1 : Int) == 0) = true by decide)]
  refine wpAny_bind (slicePart_none (wpAny_bind (slicePart_none (wpAny_bind (wpAny_pure ?_)))))
  have e1 : Builtin.Slice.sliceAdjust none none (-1) (n : Int) = ((n : Int) - 1, -1) := by
    unfold Builtin.Slice.sliceAdjust
    simp
  have e2 : Builtin.Slice.slicePlaces ((n : Int) - 1) (-1) (-1) = n := by
    unfold Builtin.Slice.slicePlaces
    rw [if_neg (by omega)]
    by_cases h : (n : Int) - 1 > -1
    · rw [if_pos h, show (-(-1) : Int) = 1 by decide, Int.ediv_one]
      omega
    · rw [if_neg h]
      omega
  show wpAny _ _ (match Builtin.Slice.sliceAdjust none none (-1) (n : Int) with | (a, b) => pure (a, (-1 : Int), Builtin.Slice.slicePlaces a b (-1))) _ _ s
  rw [e1]
  show wpAny _ _ (pure ((n : Int) - 1, (-1 : Int), Builtin.Slice.slicePlaces ((n : Int) - 1) (-1) (-1))) _ _ s
  rw [e2]
  exact wpAny_pure q
theorem fm_map {α β : Type} {f : α → Option β} {g : α → β} : ∀ l : List α, (∀ k ∈ l, f k = some (g k)) → l.filterMap f = l.map g
  | [], _ => rfl
  | a :: l, h => by
    rw [List.filterMap_cons_some (h a (List.mem_cons_self ..)), List.map_cons, fm_map l fun k hk => h k (List.mem_cons_of_mem _ hk)]
theorem pick_rev (xs : Array Value) : ((List.range xs.size).filterMap fun (k : Nat) => xs[(((xs.size : Nat) : Int) - 1 + (k : Int) * -1).toNat]?).toArray = xs.toList.reverse.toArray := by
  have h := PySem.W.krv_pick xs
  have e : xs.toList.reverse = (List.range xs.size).filterMap fun (k : Nat) => xs[(((xs.size : Nat) : Int) - 1 + (k : Int) * -1).toNat]? := by
    refine List.ext_getElem? fun i => ?_
    have e3 : ((List.range xs.size).filterMap fun (k : Nat) => xs[(((xs.size : Nat) : Int) - 1 + (k : Int) * -1).toNat]?) = (List.range xs.size).map fun (k : Nat) => xs.toList.reverse.getD k .none := by
      refine fm_map _ fun k hk => ?_
      have hk2 := List.mem_range.mp hk
      have e4 : (((xs.size : Nat) : Int) - 1 + (k : Int) * -1).toNat = xs.size - 1 - k := by omega
      rw [e4]
      have hl : k < xs.toList.reverse.length := by rw [List.length_reverse, Array.length_toList]; exact hk2
      rw [List.getD_eq_getElem?_getD, List.getElem?_reverse (by rw [Array.length_toList]; exact hk2), Array.length_toList, Array.getElem?_toList]
      have hj : xs.size - 1 - k < xs.size := by omega
      rw [Array.getElem?_eq_getElem hj]
      rfl
    rw [e3, List.getElem?_map]
    rcases Nat.lt_or_ge i xs.size with hi | hi
    · rw [List.getElem?_range hi]
      have hl : i < xs.toList.reverse.length := by rw [List.length_reverse, Array.length_toList]; exact hi
      rw [List.getElem?_eq_getElem hl]
      show _ = some (xs.toList.reverse.getD i .none)
      rw [List.getD_eq_getElem?_getD, List.getElem?_eq_getElem hl]
      rfl
    · rw [List.getElem?_eq_none (by rw [List.length_reverse, Array.length_toList]; exact hi), List.getElem?_eq_none (by rw [List.length_range]; exact hi)]
      rfl
  rw [e]
theorem item_rev {t sl : Addr} {items : Array Value} {vs : Value} {Q : Value → Shared → Prop} (ht : IsTup s.heap t items) (hs : s.heap.IsSliceOf sl .none .none vs) (ps : IsPart vs (some (-1))) (hz : items.size ≤ sizeLine)
    (q : Q (.ref s.heap.objs.size) { s with heap := s.heap.push { cls := .type "tuple", data := .seq items.toList.reverse.toArray } }) : wpAny (model prog w) A (getItem (.ref t) (.ref sl)) Q E s := by
  have hrev : sizeOk (.seq items.toList.reverse.toArray) := by
    show items.toList.reverse.toArray.size ≤ sizeLine
    simpa using hz
  obtain ⟨os, hos, hcs, hds⟩ := id hs
  have hTs : s.TypeIs (.ref sl) "slice" := ⟨os, hos, hcs⟩
  unfold getItem
  try with_reducible refine wpAny_holding ?_
  first | refine wpAny_bind (wpAny_pure ?_) | skip
  refine wpAny_bind (wpAny_sequenceKey ht.typeIs (by decide) (wpAny_bind (wpAny_callSpecial?_slot (name := Str.ofString "__getitem__") ht.typeIs PyProof.Rows.slot_tuple_getitem (wpAny_call_entry PyProof.Rows.slot_tuple_getitem ht.typeIs entry_tuple_getitem ?_ (args_tuple_getitem _ _)))))
  show wpAny _ _ (Builtin.Tuple.tupleItemsOf (.ref t) >>= _) _ _ s
  refine wpAny_bind (tupleItemsOf_ ht (wpAny_bind (wpAny_typeOf hTs ?_)))
  rw [if_pos (by decide)]
  refine wpAny_bind (applied_rev hs ps ?_)
  show wpAny _ _ (if (((items.size : Int) - 1) == 0 && (-1 : Int) == 1 && items.size == items.size) = true then _ else _) _ _ s
  rw [if_neg (by rw [show ((-1 : Int) == 1) = false by decide, Bool.and_false, Bool.false_and]; exact Bool.false_ne_true), pick_rev]
  first
    | exact wpAny_bind (m := Builtin.Tuple.tupleExact _) (wpAny_newObj_type (wpAny_pure ⟨_, rfl, wpAny_pure q⟩) hrev)
    | exact wpAny_bind (m := Builtin.Tuple.tupleExact _) (wpAny_newObj_type (wpAny_bind (wpAny_pure (wpAny_pure ⟨_, rfl, wpAny_pure q⟩))) hrev)
    | exact wpAny_bind (wpAny_bind (m := Builtin.Tuple.tupleExact _) (wpAny_newObj_type (wpAny_pure (wpAny_pure ⟨_, rfl, wpAny_pure q⟩)) hrev))
    | exact wpAny_bind (wpAny_bind (m := Builtin.Tuple.tupleExact _) (wpAny_newObj_type (wpAny_pure ⟨_, rfl, wpAny_pure q⟩) hrev))
end
end HT
namespace L2
open PySem PySem.Spec PyProof.Rows
def tRevT (K : PySem.W.Frag) (te : TE) : TE := fun σ H Q => te σ H fun x H1 => ∃ a xs, x = .ref a ∧ SqT K H1 a xs ∧ ∀ p, H1 p = none → Q (.ref p) (upd H1 p (.tup xs.reverse))
section
variable {X : Cx}
theorem pe_revT {e : Expr} {te : TE} {k : Nat} {p1 p2 p3 pos : Pos} (he : PE X e te) : PE X (.Subscript e (.Slice none none (some (.UnaryOp .USub (.Constant (.int 1) k p1) p2)) p3) pos) (tRevT X.K te) := by
  refine ⟨fun pins s σ H Q I h => Subscript_ (thn (he.run pins s σ H _ I h) fun v s1 ⟨x, H1, I1, r1, q1⟩ => ?_)⟩
  obtain ⟨a, xs, rfl, hx, q⟩ := q1
  cases r1
  have one : PO X (some (.UnaryOp .USub (.Constant (.int 1) k p1) p2)) (tPart (tUn (rU fun i => .int (-i)) (tC (.int 1)))) := po_some (pe_un un_neg pe_int)
  refine wpAny_Slice (thn (po_none.run pins s1 σ H1 (fun o H2 => o = none ∧ H2 = H1) I1 ⟨rfl, rfl⟩) fun vl s2 ⟨_, _, I2, pl, e1, e2⟩ => ?_)
  subst e1 e2
  refine thn (po_none.run pins s2 σ _ (fun o H3 => o = none ∧ H3 = _) I2 ⟨rfl, rfl⟩) fun vu s3 ⟨_, _, I3, pu, e1, e2⟩ => ?_
  subst e1 e2
  refine thn (one.run pins s3 σ _ (fun o H4 => o = some (-1) ∧ H4 = _) I3 ⟨1, rfl, -1, rfl, rfl, rfl⟩) fun vs s4 ⟨_, _, I4, ps, e1, e2⟩ => ?_
  subst e1 e2
  cases pl
  cases pu
  have I5 : Inv X pins σ _ { s4 with heap := s4.heap.push { cls := .type "slice", data := .fields #[.none, .none, vs] } } := I4.kept (t' := s4.toks) fun b ob hb => Heap.get?_push_of_some _ hb
  obtain ⟨its, r, ht, hz⟩ := I5.tuple hx
  have hlen := r.length
  show wpAny (model X.prog X.w) X.A (subscriptTail e (.Slice none none (some (.UnaryOp .USub (.Constant (.int 1) k p1) p2)) p3) (.ref a) (.ref s4.heap.objs.size)) (EP X pins σ Q) X.xe { s4 with heap := s4.heap.push { cls := .type "slice", data := .fields #[.none, .none, vs] } }
  refine tail_any (ops := [.ref a, .ref s4.heap.objs.size]) ht.typeIs (PyProof.Rows.slot_tuple_getitem.lookup) (HT.item_rev ht (Heap.IsSliceOf.new _ .none .none vs) ps (by rw [List.size_toArray]; omega) ?_) (by with_unfolding_all rfl)
  exact ⟨.ref _, _, I5.laid (t' := s4.toks) (o := .tup xs.reverse) (fun b ob hb => Heap.get?_push_of_some _ hb) (Nat.le_refl _) ⟨by rw [List.length_reverse]; exact hz, _, r.reverse, IsTup.new _ _⟩, rfl, q _ (I5.hok.fresh (Nat.le_refl _))⟩
end
end L2
namespace My
open PySem PySem.Spec PyProof.Rows L2
theorem kIxSeq {X : Cx} {K : PySem.W.Frag} (hK : X.K = K := by rfl) : IxR X (rIx K) := by subst hK; exact ix_seq
theorem kCatA {X : Cx} {K : PySem.W.Frag} (hK : X.K = K := by rfl) : OpR X (binaryOp .Add) (rCatA K) := by subst hK; exact op_catA
theorem units1 {X : Cx} {k : Nat} (hr : Room k X.A) : X.A.units + 1 < cLine := by have := hr.un; omega
theorem r_notV {ta : TE} {σ : L2.St} {H : Hp} {Q : VK} (h : ta σ H fun x H1 => ∃ c, x = .bl c ∧ Q (.bl (!c)) H1) : tNotV ta σ H Q := h
theorem Al.rev {α : Type} {R : V → α → Prop} {xs : List V} {as : List α} (h : Al R xs as) : Al R xs.reverse as.reverse := by
  refine ⟨by rw [List.length_reverse, List.length_reverse]; exact h.1, fun i x a h1 h2 => ?_⟩
  have hi : i < xs.length := by
    have := (List.getElem?_eq_some_iff.mp h1).1
    rwa [List.length_reverse] at this
  rw [List.getElem?_reverse hi] at h1
  rw [List.getElem?_reverse (by rw [← h.1]; exact hi), ← h.1] at h2
  exact h.2 _ x a h1 h2
theorem for_enumL {K : PySem.W.Frag} {a : Addr} {xs : List V} {g : TG} {tb : TS} {D : Ends} {σ : L2.St} {H : Hp} (Pv : Nat → L2.St → Hp → Prop) (h0 : Pv 0 σ H) (hl : ∀ i σ H, i ≤ xs.length → Pv i σ H → SqL K H a xs)
    (hs : ∀ i x T σ H, xs[i]? = some x → Pv i σ H → H T = none → g (.ref T) σ (upd H T (.tup [.int (i : Nat), x])) fun σ2 H2 => tb { D with nx := Pv (i + 1), ct := Pv (i + 1), bk := D.nx } σ2 H2) (hd : ∀ σ H, Pv xs.length σ H → D.nx σ H) :
    ∃ W : Nat → Nat → L2.St → Hp → Prop, (∃ m, W 0 m σ H) ∧ ∀ i m σ H, W i m σ H →
      ((Ite K a).stop i H ∧ D.nx σ H) ∨ ((Ite K a).go i H ∧ ∃ N : L2.St → Hp → Prop, (∀ σ' H', N σ' H' → ∃ m', m' < m ∧ W (i + 1) m' σ' H') ∧ ∀ x H', (Ite K a).yld i H x H' → g x σ H' fun σ2 H2 => tb { D with nx := N, ct := N, bk := D.nx } σ2 H2) := by
  refine ⟨fun i m σ H => m = xs.length - i ∧ i ≤ xs.length ∧ Pv i σ H, ⟨xs.length, by simp, Nat.zero_le _, h0⟩, ?_⟩
  rintro i m σ H ⟨rfl, hi, p⟩
  have q := hl i σ H hi p
  by_cases hlt : i < xs.length
  · refine .inr ⟨⟨xs, xs[i], q, by simp [hlt]⟩, Pv (i + 1), fun σ' H' p' => ⟨xs.length - (i + 1), by omega, rfl, hlt, p'⟩, fun x H' y => ?_⟩
    obtain ⟨T, z, rfl, hT, rfl, hz⟩ := y
    exact hs i z T σ H (hz xs q) p hT
  · have e : i = xs.length := by omega
    subst e
    exact .inl ⟨⟨xs, q, Nat.le_refl _⟩, hd σ H p⟩
theorem for_zipN {K : PySem.W.Frag} {a b : Addr} {xs ys : List V} {g : TG} {tb : TS} {D : Ends} {σ : L2.St} {H : Hp} (hl : ys.length ≤ xs.length) (Pv : Nat → L2.St → Hp → Prop) (h0 : Pv 0 σ H) (hq : ∀ i σ H, Pv i σ H → SqL K H a xs ∧ SqL K H b ys)
    (hs : ∀ (i : Nat) (x y : V) (T : Addr) (σ : L2.St) (H : Hp), xs[i]? = some x → ys[i]? = some y → Pv i σ H → H T = none → g (.ref T) σ (upd H T (.tup [x, y])) fun σ2 H2 => tb { D with nx := Pv (i + 1), ct := Pv (i + 1), bk := D.nx } σ2 H2) (hd : ∀ σ H, Pv ys.length σ H → D.nx σ H) :
    ∃ W : Nat → Nat → L2.St → Hp → Prop, (∃ m, W 0 m σ H) ∧ ∀ i m σ H, W i m σ H →
      ((Itz K a b).stop i H ∧ D.nx σ H) ∨ ((Itz K a b).go i H ∧ ∃ N : L2.St → Hp → Prop, (∀ σ' H', N σ' H' → ∃ m', m' < m ∧ W (i + 1) m' σ' H') ∧ ∀ x H', (Itz K a b).yld i H x H' → g x σ H' fun σ2 H2 => tb { D with nx := N, ct := N, bk := D.nx } σ2 H2) := by
  refine ⟨fun i m σ H => m = ys.length - i ∧ i ≤ ys.length ∧ Pv i σ H, ⟨ys.length, by simp, Nat.zero_le _, h0⟩, ?_⟩
  rintro i m σ H ⟨rfl, hi, p⟩
  obtain ⟨qa, qb⟩ := hq i σ H p
  by_cases hlt : i < ys.length
  · have hlx : i < xs.length := by omega
    refine .inr ⟨⟨xs, ys, xs[i], ys[i], qa, qb, by simp [hlx], by simp [hlt]⟩, Pv (i + 1), fun σ' H' p' => ⟨ys.length - (i + 1), by omega, rfl, hlt, p'⟩, fun v H' w => ?_⟩
    obtain ⟨T, x, z, rfl, hT, rfl, hx, hy⟩ := w
    exact hs i x z T σ H (hx xs qa) (hy ys qb) p hT
  · have e : i = ys.length := by omega
    subst e
    exact .inl ⟨⟨xs, ys, qa, qb, .inr (Nat.le_refl _)⟩, hd σ H p⟩
/-! ### rows of latches that go one by one -/
def endR (n : Nat) (up : Bool) (st : List Int) (row : List Nat) : List Int := row.foldl (fun c l => stepS n c [l] up) st
def AnyR (h : Hs) (s : Int) (up : Bool) (st : List Int) (row : List Nat) : Prop := ∀ i l, row[i]? = some l → l ∈ h.want (endR h.n up st (row.take i)) s up
def HdR (h : Hs) (s : Int) (up : Bool) (st : List Int) (row : List Nat) : Prop := ∀ i l, row[i]? = some l → (h.want (endR h.n up st (row.take i)) s up).head? = some l
def pulR (h : Hs) (s : Int) (up : Bool) : List Int → List Nat → List (Int × Int)
  | _, [] => []
  | c, l :: r => ((l : Int), s + h.lent c l) :: pulR h s up (stepS h.n c [l] up) r
def stayR (h : Hs) (s : Int) (up : Bool) (e : List Int) : List (Int × Int) := (h.mov e up).map fun (l : Nat) => ((l : Int), s + h.lent e l)
theorem HdR.any {h : Hs} {s : Int} {up : Bool} {st : List Int} {row : List Nat} (x : HdR h s up st row) : AnyR h s up st row := fun i l e => List.mem_of_mem_head? (by rw [x i l e]; rfl)
theorem endR_snoc (n : Nat) (up : Bool) (st : List Int) (row : List Nat) (l : Nat) : endR n up st (row ++ [l]) = stepS n (endR n up st row) [l] up := by
  unfold endR
  rw [List.foldl_append]
  rfl
theorem endR_ok {h : Hs} {up : Bool} : ∀ {row : List Nat} {st : List Int}, StOk h.n st → StOk h.n (endR h.n up st row)
  | [], _, o => o
  | l :: r, st, _ => endR_ok (row := r) (stepS_ok h.n st [l] up)
theorem snocI {P : List Nat → Nat → Prop} {row : List Nat} {x : Nat} (a : ∀ i l, row[i]? = some l → P (row.take i) l) (b : P row x) : ∀ i l, (row ++ [x])[i]? = some l → P ((row ++ [x]).take i) l := by
  intro i l hi
  rcases Nat.lt_or_ge i row.length with hl | hl
  · rw [List.getElem?_append_left hl] at hi
    rw [List.take_append_of_le_length (by omega)]
    exact a i l hi
  · rw [List.getElem?_append_right hl] at hi
    have e : i - row.length = 0 := by
      have := (List.getElem?_eq_some_iff.mp hi).1
      simp at this
      omega
    rw [e] at hi
    simp at hi
    have e2 : i = row.length := by omega
    subst e2 hi
    rw [List.take_left' rfl]
    exact b
theorem AnyR.snoc {h : Hs} {s : Int} {up : Bool} {st : List Int} {row : List Nat} {x : Nat} (a : AnyR h s up st row) (b : x ∈ h.want (endR h.n up st row) s up) : AnyR h s up st (row ++ [x]) := snocI (P := fun r l => l ∈ h.want (endR h.n up st r) s up) a b
theorem HdR.snoc {h : Hs} {s : Int} {up : Bool} {st : List Int} {row : List Nat} {x : Nat} (a : HdR h s up st row) (b : (h.want (endR h.n up st row) s up).head? = some x) : HdR h s up st (row ++ [x]) := snocI (P := fun r l => (h.want (endR h.n up st r) s up).head? = some l) a b
theorem AnyR.nil {h : Hs} {s : Int} {up : Bool} {st : List Int} : AnyR h s up st [] := fun i l e => by simp at e
theorem HdR.nil {h : Hs} {s : Int} {up : Bool} {st : List Int} : HdR h s up st [] := fun i l e => by simp at e
theorem AnyR.tail {h : Hs} {s : Int} {up : Bool} {st : List Int} {l : Nat} {r : List Nat} (a : AnyR h s up st (l :: r)) : l ∈ h.want st s up ∧ AnyR h s up (stepS h.n st [l] up) r := ⟨a 0 l rfl, fun i k e => a (i + 1) k e⟩
theorem HdR.tail {h : Hs} {s : Int} {up : Bool} {st : List Int} {l : Nat} {r : List Nat} (a : HdR h s up st (l :: r)) : (h.want st s up).head? = some l ∧ HdR h s up (stepS h.n st [l] up) r := ⟨a 0 l rfl, fun i k e => a (i + 1) k e⟩
theorem HdR.uniq {h : Hs} {s : Int} {up : Bool} : ∀ {r r' : List Nat} {st : List Int}, HdR h s up st r → HdR h s up st r' → h.want (endR h.n up st r) s up = [] → h.want (endR h.n up st r') s up = [] → r = r'
  | [], [], _, _, _, _, _ => rfl
  | [], l :: r', st, _, b, e, _ => by
    have := b.tail.1
    rw [show h.want st s up = [] from e] at this
    cases this
  | l :: r, [], st, a, _, _, e => by
    have := a.tail.1
    rw [show h.want st s up = [] from e] at this
    cases this
  | l :: r, l' :: r', st, a, b, e, e' => by
    have h1 := a.tail.1
    rw [b.tail.1] at h1
    cases h1
    rw [HdR.uniq a.tail.2 b.tail.2 e e']
theorem AnyR.clo {h : Hs} (hp : HsPos h) {s : Int} {up : Bool} : ∀ {r : List Nat} {st : List Int}, StOk h.n st → AnyR h s up st r → h.want (endR h.n up st r) s up = [] → Clo h s up st (endR h.n up st r)
  | [], _, o, _, e => Clo.self o e
  | l :: r, st, o, a, e => Clo.step hp o (ls := [l]) (fun k hk => by rw [List.mem_singleton.mp hk]; exact a.tail.1) (AnyR.clo hp (stepS_ok _ _ _ _) a.tail.2 e)
theorem AnyR.len {h : Hs} {s : Int} {up : Bool} : ∀ {r : List Nat} {st : List Int}, AnyR h s up st r → r.length + (h.mov (endR h.n up st r) up).length ≤ (h.mov st up).length
  | [], _, _ => by
    show 0 + _ ≤ _
    rw [Nat.zero_add]
    exact Nat.le_refl _
  | l :: r, st, a => by
    have h1 := AnyR.len a.tail.2
    have h2 := mov_step (h := h) (s := s) (up := up) (st := st) (ls := [l]) (by simp) fun k hk => by rw [List.mem_singleton.mp hk]; exact a.tail.1
    show r.length + 1 + (h.mov (endR h.n up (stepS h.n st [l] up) r) up).length ≤ _
    omega
theorem pulR_snoc (h : Hs) (s : Int) (up : Bool) (l : Nat) : ∀ (row : List Nat) (st : List Int), pulR h s up st (row ++ [l]) = pulR h s up st row ++ [((l : Int), s + h.lent (endR h.n up st row) l)]
  | [], _ => rfl
  | k :: r, st => by
    show _ :: pulR h s up (stepS h.n st [k] up) (r ++ [l]) = _ :: (pulR h s up (stepS h.n st [k] up) r ++ [_])
    rw [pulR_snoc h s up l r]
    rfl
theorem pulR_get (h : Hs) (s : Int) (up : Bool) : ∀ {row : List Nat} {st : List Int} {i : Nat} {p : Int × Int}, (pulR h s up st row)[i]? = some p → ∃ l, row[i]? = some l ∧ p = ((l : Int), s + h.lent (endR h.n up st (row.take i)) l)
  | [], _, _, _, e => by simp [pulR] at e
  | l :: r, st, 0, p, e => ⟨l, rfl, by
      have : some ((l : Int), s + h.lent st l) = some p := e
      exact (Option.some.inj this).symm⟩
  | l :: r, st, i + 1, p, e => by
    obtain ⟨k, h1, h2⟩ := pulR_get h s up (row := r) (st := stepS h.n st [l] up) (i := i) (p := p) e
    exact ⟨k, h1, h2⟩
theorem pulR_len (h : Hs) (s : Int) (up : Bool) : ∀ (row : List Nat) (st : List Int), (pulR h s up st row).length = row.length
  | [], _ => rfl
  | l :: r, st => by
    show (pulR h s up (stepS h.n st [l] up) r).length + 1 = r.length + 1
    rw [pulR_len h s up r]
/-! ### all numbers in their order -/
def ordI (n : Nat) : List Int := (List.range n).map fun (l : Nat) => (l : Int)
theorem rgV_ord (n : Nat) : rgV 0 (n : Int) = (ordI n).map V.int := by
  unfold rgV ordI
  rw [List.map_map, show ((n : Int) - 0).toNat = n by omega]
  refine List.map_congr_left fun i _ => ?_
  show V.int (0 + (i : Int)) = V.int (i : Int)
  rw [Int.zero_add]
theorem ordI_up (n : Nat) : (ordI n).Pairwise (· < ·) := by
  unfold ordI
  rw [List.pairwise_map]
  have h : (List.range n).Pairwise (· < ·) := List.pairwise_lt_range
  exact h.imp fun {a b} hab => by omega
theorem ordI_sorted {n : Nat} {ms : List Int} (hp : ms.Perm (ordI n)) (hs : ms.Pairwise (· ≤ ·)) : ms = ordI n := by
  have hn : ms.Nodup := hp.nodup_iff.mpr (List.nodup_iff_pairwise_ne.mpr ((ordI_up n).imp fun {a b} h => by omega))
  have hst : ms.Pairwise (· < ·) := (List.pairwise_and_iff.mpr ⟨hs, List.nodup_iff_pairwise_ne.mp hn⟩).imp fun {a b} h => by have := h.1; have := h.2; omega
  exact sorted_ext _ _ hst (ordI_up n) fun x => hp.mem_iff
theorem want_ord (h : Hs) (st : List Int) (s : Int) (up : Bool) : (List.range h.n).filter (fun l => decide (l ∈ h.want st s up)) = h.want st s up := by
  have e : h.want st s up = (List.range h.n).filter fun (l : Nat) => (decide ((l : Int) ∈ st) != up) && h.goes st s l up := by
    unfold Hs.want Hs.mov
    rw [List.filter_filter]
    refine List.filter_congr fun l _ => ?_
    rw [Bool.and_comm]
  refine Eq.trans ?_ e.symm
  refine List.filter_congr fun l hl => ?_
  rw [e]
  cases hq : ((decide ((l : Int) ∈ st) != up) && h.goes st s l up) with
  | true => exact decide_eq_true (List.mem_filter.mpr ⟨hl, hq⟩)
  | false => exact decide_eq_false fun z => by rw [(List.mem_filter.mp z).2] at hq; cases hq
theorem eqvAll_dec : ∀ xs ys : List Int, PyData.eqvAll (xs.map PyData.int) (ys.map PyData.int) = decide (xs = ys)
  | [], [] => by simp [PyData.eqvAll]
  | [], y :: r => by simp [PyData.eqvAll]
  | x :: r, [] => by simp [PyData.eqvAll]
  | x :: r, y :: q => by
    rw [List.map_cons, List.map_cons]
    unfold PyData.eqvAll
    rw [eqvAll_dec r q]
    by_cases h1 : x = y
    · by_cases h2 : r = q
      · simp [PyData.eqv, h1, h2]
      · simp [PyData.eqv, h1, h2]
    · simp [PyData.eqv, h1]
theorem eqT_dec (xs ys : List Int) : PyData.eqv (dT xs) (dT ys) = decide (xs = ys) := by
  unfold dT PyData.eqv
  exact eqvAll_dec xs ys
theorem eqL_dec (xs ys : List Int) : PyData.eqv (dL xs) (dL ys) = decide (xs = ys) := by
  unfold dL PyData.eqv
  exact eqvAll_dec xs ys
end My
/-! ### != of instances with an own __eq__ -/
namespace My
open PySem PySem.Spec PySem.W PyProof.Rows L2
section
variable {prog : Program} {w : World} {M : Model} {A : Around} {E : Value → Shared → Prop} {s : Shared} {K : Frag} {x C f L : Addr} {ox : Obj} {od : Option Obj} {h₀ : Heap} {m : Str → Option Value} {b tb : Value}
theorem ifBound_B {name : Str} {id : String} {args : List Value} {Q : Option Value → Shared → Prop} (X : K.In s.heap) (I : InstAt s.heap x ox C od) (hs : findIn K (.ref C) name = some (some (.builtin id)))
    (hb : ∀ self, bindSpecial (.builtin id) self = pure (.builtin id, [self]))
    (h : wpAny M A (call (.builtin id) (.ref x :: args)) (fun v => Q (some v)) E s) : wpAny M A (callSpecialIfBound? (.ref x) name args) Q E s := by
  simp only [callSpecialIfBound?, bindSpecialIfBound?]
  refine wpAny_holding (wpAny_bind (wpAny_bind (wpAny_bind (I.type.here ((looks_findIn X hs).here ?_)))))
  refine wpAny_bind (wpAny_askSetting (wpAny_ite ?_))
  have fin : wpAny M A (call (.builtin id) ([.ref x] ++ args) >>= fun v => pure (some v)) Q E s := wpAny_bind (wpAny_mono h (fun v s' h' => wpAny_pure h') fun _ _ h' => h')
  split
  · exact wpAny_bind ((Looks.of_pure (hb _)).here (wpAny_pure (by exact fin)))
  · exact wpAny_tryCatch (wpAny_bind ((Looks.of_pure (hb _)).here (wpAny_pure (by exact fin))))
open Builtin in
theorem one_ne {Q : Value → Shared → Prop} (hu : A.in1.units < cLine) (X : K.In s.heap) (I : InstAt s.heap x ox C od) (hm : mroIn K C (.type "object") = some true) (hr : findIn K (.ref C) "__eq__" = some (some (.ref f))) (hf : isFn K (.ref f) = true)
    (h : wpAny (model prog w) A.in1 (call (.ref f) [.ref x, b]) (fun v s' => ∃ r, v = .bool r ∧ Q (.bool (!r)) s') E s) : wpAny (model prog w) A (call (.builtin "object.__ne__") [.ref x, b]) Q E s := by
  refine wpAny_call (codeAny_call_builtin PySem.F.slot_object_ne.plain PySem.F.entry_object_ne (check_slot (i := "object.__ne__") (owner := "object") (n := "__ne__") (by decide +kernel) (by decide +kernel) (I.type.andThen (looks_mroIn X hm)) (PySem.F.args_object_ne_2 _ _) ?_))
  unfold Builtin.«object.__ne__»
  refine wpAny_bind (m := slotArgs "__ne__" 1 _) (wpAny_pure ?_)
  refine wpAny_bind (m := cRoomFor _ _) (wpAny_cRoomFor hu ?_)
  refine wpAny_bind (m := callSpecialIfBound? (.ref x) (Str.ofString "__eq__") _) (ifBound_K X I hr hf (wpAny_mono h (fun r s' hq => ?_) fun _ _ y => y))
  obtain ⟨r, rfl, hq⟩ := hq
  refine wpAny_bind (m := truthy (.bool _)) (wpAny_truthy_bool ?_)
  exact wpAny_pure hq
theorem cmp_neK {Q : Value → Shared → Prop} (hu : A.units < cLine) (hu1 : A.in1.units < cLine) (F : Fr h₀ L s.heap m) (X₀ : K.In h₀) (I : InstAt s.heap x ox C od) (hb : Looks (model prog w) s.heap (typeOf b) tb) (hn : notFirst K C tb = true)
    (hne : findIn K (.ref C) "__ne__" = some (some (.builtin "object.__ne__"))) (hm : mroIn K C (.type "object") = some true) (hs : findIn K (.ref C) "__eq__" = some (some (.ref f))) (hf : isFn K (.ref f) = true)
    (h : wpAny (model prog w) A.in1 (call (.ref f) [.ref x, b]) (fun v s' => ∃ r, v = .bool r ∧ Q (.bool (!r)) s') E s) : wpAny (model prog w) A (richCompare .NotEq (.ref x) b) Q E s := by
  have X := X₀.keeps F.keep
  have one : wpAny (model prog w) A (tryCompare (.ref x) (cmpInfo .NotEq).2.1 b) (fun r s' => ∃ v, r = some v ∧ Q v s') E s := by
    unfold tryCompare
    refine wpAny_bind (ifBound_B X I hne PySem.F.slot_object_ne.bind (one_ne hu1 X I hm hs hf (wpAny_mono h (fun v s' hv => ?_) fun _ _ e => e)))
    obtain ⟨r, rfl, hq⟩ := hv
    exact ⟨r, rfl, wpAny_pure ⟨_, rfl, hq⟩⟩
  unfold richCompare
  simp only [oneThing_ref]
  refine wpAny_holding (wpAny_bind (wpAny_cRoomFor hu ?_))
  refine wpAny_bind (I.type.here (wpAny_bind (hb.here ?_)))
  split
  · rename_i q
    have e : subIn K tb (.ref C) = some false := by
      rcases Bool.or_eq_true_iff.mp hn with e | e
      · rw [beq_iff_eq.mp e] at q; simp at q
      · exact beq_iff_eq.mp e
    refine wpAny_bind ((looks_subIn X e).here ?_)
    simp only [Bool.false_eq_true, if_false]
    refine wpAny_bind (wpAny_mono one (fun r s' z => ?_) fun _ _ e => e)
    obtain ⟨v, rfl, hq⟩ := z
    exact wpAny_pure hq
  · refine wpAny_bind (wpAny_pure ?_)
    simp only [Bool.false_eq_true, if_false]
    refine wpAny_bind (wpAny_mono one (fun r s' z => ?_) fun _ _ e => e)
    obtain ⟨v, rfl, hq⟩ := z
    exact wpAny_pure hq
end
section
variable {X : Cx} {C : Addr} {k : Nat} {ps : List Str} {sp : Sp}
def rNeO (C : Addr) (sp : Sp) : R2 := fun x y H Q => ∃ (a b dx dy : Addr) (fs gs : List (PySem.Str × V)), x = .ref a ∧ y = .ref b ∧ H a = some (.ins C dx fs) ∧ H b = some (.ins C dy gs) ∧
  sp [.ref a, .ref b] H (fun v H' => ∃ r : Bool, v = .bl r ∧ Q (.bl (!r)) H') E0
theorem op_neO (D : Mtd X.prog X.w X.K X.mg X.base C "__eq__" k ps sp) (hne : findIn X.K (.ref C) "__ne__" = some (some (.builtin "object.__ne__"))) (hm : mroIn X.K C (.type "object") = some true) (hr : Room (k + 1) X.A) : OpR X (compareOp .NotEq) (rNeO C sp) := by
  intro pins s σ H x y v u Q I rx ry hq
  obtain ⟨a, b, dx, dy, fs, gs, rfl, rfl, ha, hb', hsp⟩ := hq
  cases rx
  cases ry
  obtain ⟨f, fd, hmm, hb, F⟩ := D.ex
  obtain ⟨mA, J, _⟩ := ins_get I.hok ha
  obtain ⟨mB, J', _⟩ := ins_get I.hok hb'
  obtain ⟨od, J, _⟩ := J.look
  obtain ⟨od', J', _⟩ := J'.look
  obtain ⟨m, hF⟩ := I.fr
  show wpAny (model X.prog X.w) X.A (richCompare .NotEq (.ref a) (.ref b)) (EP X pins σ Q) X.xe s
  refine cmp_neK (tb := .ref C) hr.units0 hr.in1.units0 hF I.ok.mod.kin J J'.type (by simp [PySem.W.notFirst]) hne hm hmm.at_ hmm.fn ?_
  have hl := F.len _ _ _ _ hsp
  have r2 : Vals [V.ref a, V.ref b] [Value.ref a, Value.ref b] := .cons rfl (.cons rfl .nil)
  refine wpAny_call (codeAny_mono (F.run X.A.in1 X.stack s H ⟨[.ref a, .ref b], []⟩ [.ref a, .ref b] [.ref a, .ref b] _ E0 hr.in1 I.env0.in1 (by
    have := hb s [.ref a, .ref b] I.kIn (by simpa using hl)
    simpa using this) r2 hsp) fun r s' hq => ?_)
  cases r with
  | error e => exact hq.elim
  | ok fl =>
    cases fl with
    | ret w =>
      obtain ⟨z, H', I', rz, r, ez, q⟩ := I.after hq
      subst ez
      cases rz
      exact ⟨r, rfl, .bl (!r), H', I', rfl, q⟩
    | next => exact False.elim hq
    | brk => exact False.elim hq
    | cont => exact False.elim hq
end
section
variable {X : Cx} {C : Addr} {K : PySem.W.Frag}
theorem kIsC (c : C8.InsC K C) (hK : X.K = K := by rfl) : CallR X (.builtin "isinstance") (fun xs H Q => ∃ a dx fs, xs = [.ref a, .ref C] ∧ H a = some (.ins C dx fs) ∧ Q (.bl true) H) := by subst hK; exact C8.call_isC c
def td (p : Int × Int × Int) : PyData := .tuple [.int p.1, .int p.2.1, .int p.2.2]
theorem Dp.trip {H : Hp} {v : V} {p : Int × Int × Int} (h : TripV K H v p) : Dp K H v (td p) := by
  obtain ⟨t, rfl, h⟩ := h
  exact .tup h (.cons (.int _) (.cons (.int _) (.cons (.int _) .nil)))
theorem DpAll.trips {H : Hp} : ∀ {xs : List V} {ps : List (Int × Int × Int)}, Al (TripV K H) xs ps → DpAll K H xs (ps.map td)
  | [], ps, h => by rw [h.nil_inv]; exact .nil
  | x :: xs, [], h => by have := h.1; simp at this
  | x :: xs, p :: ps, h => .cons (Dp.trip h.inv.1) (DpAll.trips h.inv.2)
theorem td_lay : ∀ (ps : List (Int × Int × Int)), PyData.canLayAll0 (ps.map td) = true ∧ PyData.depthAll (ps.map td) ≤ 1
  | [] => by simp [PyData.canLayAll0, PyData.depthAll]
  | p :: r => by
    have ih := td_lay r
    refine ⟨?_, ?_⟩
    · rw [List.map_cons]
      unfold PyData.canLayAll0
      rw [ih.1]
      simp [td, PyData.canLay0, PyData.canLayAll0]
    · rw [List.map_cons]
      unfold PyData.depthAll
      have : PyData.depth (td p) ≤ 1 := by simp [td, PyData.depth, PyData.depthAll]
      omega
theorem pdsT_shaped (ps : List (Int × Int)) : SeqAt.shaped (.tuple (ps.map pd)) = true := by
  have h := pd_lay ps
  unfold SeqAt.shaped PyData.canLay0 PyData.depth
  rw [h.1]
  simp
  omega
theorem tdsT_shaped (ps : List (Int × Int × Int)) : SeqAt.shaped (.tuple (ps.map td)) = true := by
  have h := td_lay ps
  unfold SeqAt.shaped PyData.canLay0 PyData.depth
  rw [h.1]
  simp
  omega
theorem td_self : ∀ ps : List (Int × Int × Int), PyData.eqvAll (ps.map td) (ps.map td) = true
  | [] => by simp [PyData.eqvAll]
  | p :: r => by
    rw [List.map_cons]
    unfold PyData.eqvAll
    rw [td_self r]
    simp [td, PyData.eqv, PyData.eqvAll]
theorem pd_self : ∀ ps : List (Int × Int), PyData.eqvAll (ps.map pd) (ps.map pd) = true
  | [] => by simp [PyData.eqvAll]
  | p :: r => by
    rw [List.map_cons]
    unfold PyData.eqvAll
    rw [pd_self r]
    simp [pd, PyData.eqv, PyData.eqvAll]
end
/-! ### a def with one keyword-only parameter -/
structure Dfk (P : Program) (w : World) (K : PySem.W.Frag) (mg : PySem.Str → Option Value) (base : Heap) (x : PySem.Str) (k np : Nat) (ps : List PySem.Str) (kw : PySem.Str) (dv : V) (sp : Sp) : Prop where
  ex : ∃ (f : Addr) (fd : FuncData), mg x = some (.ref f) ∧ PySem.W.keepIn K (.ref f) = true ∧ (∃ ds, Vals [dv] ds ∧ Binds K fd ps ds) ∧ (∃ _mv : List Value, KBn K fd ps np [kw] (fun us ws => us ++ ws) (fun vs zs => vs ++ zs)) ∧ FnOk P w K mg base CX0 k f fd ps sp
section
variable {X : Cx} {x kw : PySem.Str} {k np : Nat} {ps : List PySem.Str} {dv : V} {sp : Sp} {e : Expr} {es : List Expr} {kws : List Keyword} {t tk : TA} {p pos : Pos}
theorem pe_defk (D : Dfk X.prog X.w X.K X.mg X.base x k np ps kw dv sp) (hr : Room k X.A) (hg : Gl X x) (ha : PA X (e :: es) t) (hdb : (x == ("__debug__" : PySem.Str)) = false := by decide)
    (he : starEach (e :: es) X.env = (false, eval e X.env) :: starEach es X.env := by rfl) (hpl : (backTo pos (starEach es X.env)).any (·.1) = false := by rfl) :
    PE X (.Call (.Name x p) (e :: es) [] pos) (tCall sp [dv] E0 t) := by
  obtain ⟨f, fd, h1, h2, ⟨ds, hv, h3⟩, _, h4⟩ := D.ex
  exact pe_call h4 hr hg h1 h2 h3 hv pass0 ha hdb he hpl
theorem pe_defkw (D : Dfk X.prog X.w X.K X.mg X.base x k np ps kw dv sp) (hr : Room k X.A) (hg : Gl X x) (ha : PA X (e :: es) t) (hkw : PK X kws tk) (hall : (backToKw pos (keywordEach kws X.env)).all (·.1.isSome) = true := by rfl) (hks : (backToKw pos (keywordEach kws X.env)).filterMap (·.1) = [kw] := by rfl)
    (hdb : (x == ("__debug__" : PySem.Str)) = false := by decide) (he : starEach (e :: es) X.env = (false, eval e X.env) :: starEach es X.env := by rfl)
    (hpl : ((backTo pos (starEach (e :: es) X.env)).any (·.1) || (backToKw pos (keywordEach kws X.env)).any (·.1.isNone)) = false := by rfl) :
    PE X (.Call (.Name x p) (e :: es) kws pos) (tCallN np 1 sp (fun vs zs => vs ++ zs) E0 t tk) := by
  obtain ⟨f, fd, h1, h2, _, ⟨_, h3⟩, h4⟩ := D.ex
  exact pe_callN h4 hr hg h1 h2 h3 pass0 ha hkw hall hks hdb he hpl
end
end My
/-! ### turns of a history: reversed lists, the last one first -/
namespace My
open PySem PySem.Spec PyProof.Rows L2
/-- b strictly between a and c -/
def btw (b a c : Int) : Bool := (decide (a < b) && decide (b < c)) || (decide (c < b) && decide (b < a))
theorem btw_iff {b a c : Int} : btw b a c = true ↔ (a < b ∧ b < c) ∨ (c < b ∧ b < a) := by
  unfold btw
  simp
def rstep : List Int → Int → List Int
  | [], x => [x]
  | [l], x => if l = x then [l] else [x, l]
  | l :: p :: r, x => if l = x then l :: p :: r else if btw l p x = true then x :: p :: r else x :: l :: p :: r
def turnsR (rs xs : List Int) : List Int := xs.foldl rstep rs
def turnsOf (xs : List Int) : List Int := (turnsR [] xs).reverse
theorem rstep_head (rs : List Int) (x : Int) : ∃ r, rstep rs x = x :: r := by
  unfold rstep
  split
  · exact ⟨_, rfl⟩
  · split
    · rename_i e; exact ⟨_, by rw [e]⟩
    · exact ⟨_, rfl⟩
  · split
    · rename_i e; exact ⟨_, by rw [e]⟩
    · split <;> exact ⟨_, rfl⟩
theorem rstep_len (rs : List Int) (x : Int) : (rstep rs x).length ≤ rs.length + 1 ∧ 1 ≤ (rstep rs x).length := by
  unfold rstep
  split
  · simp
  · split <;> simp
  · split
    · simp
    · split <;> simp
theorem rstep_same (x : Int) (r : List Int) : rstep (x :: r) x = x :: r := by
  cases r <;> simp [rstep]
theorem rstep_dup (s : List Int) (a : Int) : rstep (rstep s a) a = rstep s a := by
  obtain ⟨r, e⟩ := rstep_head s a
  rw [e, rstep_same]
theorem rstep_mid (s : List Int) {a b c : Int} (h : btw b a c = true) : rstep (rstep (rstep s a) b) c = rstep (rstep s a) c := by
  obtain ⟨r, e⟩ := rstep_head s a
  rw [e]
  have hb := btw_iff.mp h
  have ab : ¬ a = b := by omega
  have bc : ¬ b = c := by omega
  have ac : ¬ a = c := by omega
  cases r with
  | nil => simp [rstep, ab, bc, ac, h]
  | cons p r =>
    by_cases h1 : btw a p b = true
    · have h2 : btw b p c = true := btw_iff.mpr (by have := btw_iff.mp h1; omega)
      have h3 : btw a p c = true := btw_iff.mpr (by have := btw_iff.mp h1; omega)
      simp [rstep, ab, bc, ac, h1, h2, h3]
    · have h3 : ¬ btw a p c = true := fun z => h1 (btw_iff.mpr (by have := btw_iff.mp z; omega))
      simp [rstep, ab, bc, ac, h1, h3, h]
theorem turnsR_app (s u v : List Int) : turnsR s (u ++ v) = turnsR (turnsR s u) v := List.foldl_append
theorem turnsR_one (s : List Int) (a : Int) (v : List Int) : turnsR s (a :: v) = turnsR (rstep s a) v := rfl
theorem turnsR_dup (s u : List Int) (a : Int) (v : List Int) : turnsR s (u ++ a :: a :: v) = turnsR s (u ++ a :: v) := by
  rw [turnsR_app, turnsR_app, turnsR_one, turnsR_one, turnsR_one, rstep_dup]
theorem turnsR_mid (s u : List Int) {a b c : Int} (v : List Int) (h : btw b a c = true) : turnsR s (u ++ a :: b :: c :: v) = turnsR s (u ++ a :: c :: v) := by
  rw [turnsR_app, turnsR_app, turnsR_one, turnsR_one, turnsR_one, turnsR_one, turnsR_one, rstep_mid _ h]
/-- reduced, from behind -/
def RedR : List Int → Prop
  | [] => True
  | [_] => True
  | [x, y] => x ≠ y
  | x :: y :: z :: r => x ≠ y ∧ btw y z x = false ∧ RedR (y :: z :: r)
theorem RedR.tail {x : Int} {r : List Int} (h : RedR (x :: r)) : RedR r := by
  match r, h with
  | [], _ => trivial
  | [_], _ => trivial
  | _ :: _ :: _, h => exact h.2.2
theorem red_self : ∀ rs : List Int, RedR rs → turnsR [] rs.reverse = rs
  | [], _ => rfl
  | [x], _ => rfl
  | [x, y], h => by
    have : ¬ y = x := fun e => h e.symm
    simp [turnsR, rstep, this]
  | x :: y :: z :: r, h => by
    have ih := red_self (y :: z :: r) h.2.2
    have hyx : ¬ y = x := fun e => h.1 e.symm
    rw [List.reverse_cons, turnsR_app, ih]
    show rstep (y :: z :: r) x = _
    simp [rstep, hyx, h.2.1]
theorem rstep_red {rs : List Int} {x : Int} (h : RedR rs) : RedR (rstep rs x) := by
  match rs, h with
  | [], _ => trivial
  | [l], _ =>
    simp only [rstep]
    split
    · trivial
    · rename_i e; exact fun z => e z.symm
  | [l, p], h =>
    simp only [rstep]
    split
    · exact h
    · rename_i e
      split
      · rename_i hb
        have := btw_iff.mp hb
        show x ≠ p
        omega
      · rename_i hb
        exact ⟨fun z => e z.symm, by simpa using hb, h⟩
  | l :: p :: q :: r, h =>
    simp only [rstep]
    split
    · exact h
    · rename_i e
      split
      · rename_i hb
        have h1 := btw_iff.mp hb
        refine ⟨by omega, ?_, h.2.2⟩
        have h2 : ¬ btw p q l = true := by rw [h.2.1]; exact Bool.false_ne_true
        have h3 := mt btw_iff.mpr h2
        cases hz : btw p q x with
        | false => rfl
        | true =>
          have h4 := btw_iff.mp hz
          have h5 : l ≠ p := h.1
          omega
      · rename_i hb
        exact ⟨fun z => e z.symm, by simpa using hb, h⟩
theorem turnsR_red : ∀ (xs rs : List Int), RedR rs → RedR (turnsR rs xs)
  | [], _, h => h
  | x :: xs, rs, h => turnsR_red xs (rstep rs x) (rstep_red h)
theorem turnsR_len : ∀ (xs rs : List Int), (turnsR rs xs).length ≤ rs.length + xs.length
  | [], rs => by simp [turnsR]
  | x :: xs, rs => by
    have h1 := turnsR_len xs (rstep rs x)
    have h2 := (rstep_len rs x).1
    rw [turnsR_one, List.length_cons]
    omega
theorem rstep_mem {rs : List Int} {x y : Int} (h : y ∈ rstep rs x) : y = x ∨ y ∈ rs := by
  unfold rstep at h
  split at h
  · simp at h; exact .inl h
  · split at h
    · exact .inr h
    · simp at h ⊢; omega
  · split at h
    · exact .inr h
    · split at h <;> (simp only [List.mem_cons] at h ⊢; rcases h with h | h | h <;> simp_all)
theorem turnsR_mem : ∀ (xs rs : List Int) {y : Int}, y ∈ turnsR rs xs → y ∈ xs ∨ y ∈ rs
  | [], _, _, h => .inr h
  | x :: xs, rs, y, h => by
    rcases turnsR_mem xs (rstep rs x) h with h | h
    · exact .inl (List.mem_cons_of_mem _ h)
    · rcases rstep_mem h with rfl | h
      · exact .inl (List.mem_cons_self ..)
      · exact .inr h
/-- the law's own way: what it has looked at, from behind, and what lies ahead -/
structure ThinI (row rs rest : List Int) : Prop where
  red : RedR rs
  edge : ∀ y z r x v, rs = y :: z :: r → rest = x :: v → btw y z x = false
  sum : turnsR [] (rs.reverse ++ rest) = turnsR [] row
theorem ThinI.back {row : List Int} {y x : Int} {r v : List Int} (t : ThinI row (y :: r) (x :: v)) (h : y = x ∨ ∃ w v', v = w :: v' ∧ btw x y w = true) : turnsR [] ((y :: r).reverse ++ v) = turnsR [] row := by
  rw [← t.sum, List.reverse_cons, List.append_assoc, List.append_assoc]
  rcases h with rfl | ⟨w, v', rfl, hb⟩
  · exact (turnsR_dup [] r.reverse y v).symm
  · exact (turnsR_mid [] r.reverse v' hb).symm
theorem ThinI.drop1 {row : List Int} {y x : Int} {v : List Int} (t : ThinI row [y] (x :: v)) (h : y = x ∨ ∃ w v', v = w :: v' ∧ btw x y w = true) : ThinI row [y] v :=
  ⟨trivial, (fun _ _ _ _ _ e => by cases e), t.back h⟩
theorem ThinI.drop2 {row : List Int} {y z x : Int} {r v : List Int} (t : ThinI row (y :: z :: r) (x :: v)) (h : y = x ∨ ∃ w v', v = w :: v' ∧ btw x y w = true) : ThinI row (z :: r) (y :: v) := by
  refine ⟨t.red.tail, fun a b c d e h1 h2 => ?_, ?_⟩
  · cases h2
    cases h1
    exact t.red.2.1
  · have := t.back h
    rw [← this, List.reverse_cons (a := y), List.append_assoc]
    rfl
theorem ThinI.next {row : List Int} {y x : Int} {r v : List Int} (t : ThinI row (y :: r) (x :: v)) (h1 : y ≠ x) (h2 : ∀ w v', v = w :: v' → btw x y w = false) : ThinI row (x :: y :: r) v := by
  refine ⟨?_, fun a b c d e e1 e2 => ?_, ?_⟩
  · cases r with
    | nil => exact fun e => h1 e.symm
    | cons z r => exact ⟨fun e => h1 e.symm, t.edge y z r x v rfl rfl, t.red⟩
  · cases e1
    exact h2 d e e2
  · rw [← t.sum, List.reverse_cons (a := x), List.append_assoc]
    rfl
theorem ThinI.done {row rs : List Int} (t : ThinI row rs []) : rs.reverse = turnsOf row := by
  have := t.sum
  rw [List.append_nil, red_self rs t.red] at this
  rw [this]
  rfl
theorem ThinI.start (x : Int) (v : List Int) : ThinI (x :: v) [x] v := ⟨trivial, (fun _ _ _ _ _ e => by cases e), rfl⟩
theorem btw_mul {x y w : Int} : btw x y w = decide (0 < (x - y) * (w - x)) := by
  rw [Bool.eq_iff_iff, btw_iff, decide_eq_true_eq]
  constructor
  · rintro (⟨h1, h2⟩ | ⟨h1, h2⟩)
    · exact Int.mul_pos (by omega) (by omega)
    · exact Int.mul_pos_of_neg_of_neg (by omega) (by omega)
  · intro h
    rcases Int.lt_trichotomy (x - y) 0 with a | a | a
    · rcases Int.lt_trichotomy (w - x) 0 with b | b | b
      · omega
      · rw [b, Int.mul_zero] at h; omega
      · have := Int.mul_neg_of_neg_of_pos a b; omega
    · rw [a, Int.zero_mul] at h; omega
    · rcases Int.lt_trichotomy (w - x) 0 with b | b | b
      · have := Int.mul_neg_of_pos_of_neg a b; omega
      · rw [b, Int.mul_zero] at h; omega
      · omega
/-! ### what is told ahead of a history -/
def farV : Option Bool → V
  | none => .non
  | some true => .str "below"
  | some false => .str "above"
def AheadR (f : Option Bool) (xs fs : List Int) : Prop :=
  ((f = none ∨ xs = []) ∧ fs = []) ∨ ∃ b m, f = some b ∧ xs ≠ [] ∧ m ∈ xs ∧ ((b = true ∧ (∀ y ∈ xs, m ≤ y) ∧ fs = [m - 1]) ∨ (b = false ∧ (∀ y ∈ xs, y ≤ m) ∧ fs = [m + 1]))
theorem AheadR.uniq {f : Option Bool} {xs a b : List Int} (h : AheadR f xs a) (g : AheadR f xs b) : a = b := by
  rcases h with ⟨h1, rfl⟩ | ⟨p, m, hf, hx, hm, h⟩
  · rcases g with ⟨_, rfl⟩ | ⟨q, m, gf, gx, _⟩
    · rfl
    · rcases h1 with h1 | h1
      · rw [h1] at gf; cases gf
      · exact absurd h1 gx
  · rcases g with ⟨g1, _⟩ | ⟨q, k, gf, gx, gm, g⟩
    · rcases g1 with g1 | g1
      · rw [g1] at hf; cases hf
      · exact absurd g1 hx
    · rw [hf] at gf
      cases gf
      rcases h with ⟨h0, h1, rfl⟩ | ⟨h0, h1, rfl⟩ <;> rcases g with ⟨g0, g1, rfl⟩ | ⟨g0, g1, rfl⟩
      · have := h1 k gm; have := g1 m hm
        rw [show m = k by omega]
      · rw [h0] at g0; cases g0
      · rw [h0] at g0; cases g0
      · have := h1 k gm; have := g1 m hm
        rw [show m = k by omega]
theorem AheadR.len {f : Option Bool} {xs a : List Int} (h : AheadR f xs a) : a.length ≤ 1 := by
  rcases h with ⟨_, rfl⟩ | ⟨_, _, _, _, _, ⟨_, _, rfl⟩ | ⟨_, _, rfl⟩⟩ <;> simp
theorem AheadR.big {f : Option Bool} {xs a : List Int} {B : Int} (h : AheadR f xs a) (hb : ∀ x ∈ xs, -B < x ∧ x < B) : ∀ x ∈ a, -B - 1 < x ∧ x < B + 1 := by
  rcases h with ⟨_, rfl⟩ | ⟨_, m, _, _, hm, ⟨_, _, rfl⟩ | ⟨_, _, rfl⟩⟩
  · intro x hx; simp at hx
  · intro x hx; have := hb m hm; simp at hx; omega
  · intro x hx; have := hb m hm; simp at hx; omega
/-- as many are left out as stand ahead -/
theorem AheadR.drop {f : Option Bool} {xs a : List Int} (h : AheadR f xs a) (n : Nat) (hn : n = if f = none then 0 else 1) : (turnsOf (a ++ xs)).drop n = (turnsOf (a ++ xs)).drop a.length := by
  rcases h with ⟨h1, rfl⟩ | ⟨_, m, rfl, _, hm, ⟨_, _, rfl⟩ | ⟨_, _, rfl⟩⟩
  · rcases h1 with rfl | rfl
    · rw [hn]; rfl
    · show ([] : List Int).drop n = [].drop 0
      simp
  · rw [hn]; rfl
  · rw [hn]; rfl
theorem exB_fr {a p : Addr} {H H' : Hp} (e : ExB a H H') (n : p ≠ a) (h : H' p = none) : H p = none := by
  cases hq : H p with
  | none => rfl
  | some o => rw [e p o n hq] at h; cases h
theorem eqLL (xs : List Int) : PyData.eqv (dL xs) (dL xs) = true := by rw [eqL_dec]; simp
theorem atK (ns : List Int) {d : Int} (h0 : 0 ≤ d) (h1 : d < (ns.length : Int)) : ∃ w, w ∈ ns ∧ atI (ns.map V.int) d = some (V.int w) := by
  obtain ⟨k, rfl⟩ : ∃ k : Nat, d = (k : Int) := ⟨d.toNat, by omega⟩
  have hk : k < ns.length := by omega
  exact ⟨ns[k], List.getElem_mem hk, atI_nat (by rw [List.getElem?_map, List.getElem?_eq_getElem hk]; rfl)⟩
theorem cut3 (u v : List Int) (y x : Int) : cutV ((u ++ y :: x :: v).map V.int) (some ((u.length : Nat) : Int)) (some ((u.length + 3 : Nat) : Int)) = (y :: x :: v.take 1).map V.int := by
  unfold cutV
  rw [HT.sIx_nat, HT.sIx_nat, List.length_map, List.length_append, List.length_cons, List.length_cons]
  have h1 : min u.length (u.length + (v.length + 1 + 1)) = u.length := by omega
  rw [h1, ← List.map_drop, List.drop_left, ← List.map_take]
  congr 1
  cases v with
  | nil =>
    rw [List.length_nil, show min (u.length + 3) (u.length + (0 + 1 + 1)) - u.length = 2 by omega]
    rfl
  | cons w v =>
    rw [List.length_cons, show min (u.length + 3) (u.length + (v.length + 1 + 1 + 1)) - u.length = 3 by omega]
    rfl
def lenOf (H : Hp) (p : Addr) : Nat := match H p with
  | some (.lst xs) => xs.length
  | _ => 0
theorem erase2 (u v : List Int) (y x : Int) : ((u ++ y :: x :: v).map V.int).eraseIdx (u.length + 1) = (u ++ y :: v).map V.int := by
  induction u with
  | nil => rfl
  | cons a u ih => simpa using ih
theorem get2 (u v : List Int) (y x : Int) : ((u ++ y :: x :: v).map V.int)[u.length + 1]? = some (.int x) := by
  induction u with
  | nil => rfl
  | cons a u ih => simpa using ih
theorem seqIx (n k : Nat) (h : k < n) : seqIndex? ((k : Nat) : Int) n = some k := by
  have e : ixN n ((k : Nat) : Int) = some k := by
    unfold ixN
    rw [if_pos (by omega), if_pos (by omega), Int.toNat_natCast]
  exact (ixN_seq e).1
theorem ahead_nil {f : Option Bool} {fs : List Int} (h : AheadR f [] fs) : fs = [] := by
  rcases h with ⟨_, h⟩ | ⟨_, _, _, h, _⟩
  · exact h
  · exact absurd rfl h
theorem cut_first (xs : List V) : cutV xs none (some 1) = xs.take 1 := by
  unfold cutV
  rw [HT.sIx_none, show (some (1 : Int)) = some ((1 : Nat) : Int) from rfl, HT.sIx_nat, Nat.sub_zero, List.drop_zero]
  cases xs with
  | nil => rfl
  | cons x r => rw [List.length_cons, show min 1 (r.length + 1) = 1 by omega]
end My
/-! ### del xs[lo:hi] of a list -/
namespace L2
open PySem PySem.Spec PyProof.Rows
def sel1 (start stop step : Int) (i : Nat) : Bool :=
  if step > 0 then start ≤ i && i < stop && (i - start) % step == 0
  else stop < i && i ≤ start && (start - i) % (-step) == 0
theorem keep_eq (a c : Nat) : ∀ (xs : List Value) (k : Nat), (xs.zipIdx k).filterMap (fun (x, j) => if sel1 (a : Int) (c : Int) 1 j = true then none else some x) = xs.take (a - k) ++ xs.drop (max (a - k) (c - k))
  | [], k => by simp
  | x :: r, k => by
    have ih := keep_eq a c r (k + 1)
    have hs : sel1 (a : Int) (c : Int) 1 k = (decide (a ≤ k) && decide (k < c)) := by
      unfold sel1
      simp [Int.emod_one]
    rw [List.zipIdx_cons, List.filterMap_cons]
    dsimp only
    rw [hs, ih]
    by_cases h1 : a ≤ k
    · by_cases h2 : k < c
      · rw [decide_eq_true h1, decide_eq_true h2]
        simp only [Bool.and_self, if_true]
        rw [show a - k = 0 by omega, show a - (k + 1) = 0 by omega, show max 0 (c - k) = (max 0 (c - (k + 1))) + 1 by omega]
        rfl
      · rw [decide_eq_true h1, decide_eq_false h2]
        simp only [Bool.and_false, Bool.false_eq_true, if_false]
        rw [show a - k = 0 by omega, show a - (k + 1) = 0 by omega, show max 0 (c - k) = 0 by omega, show max 0 (c - (k + 1)) = 0 by omega]
        rfl
    · rw [decide_eq_false h1]
      simp only [Bool.false_and, Bool.false_eq_true, if_false]
      rw [show a - k = (a - (k + 1)) + 1 by omega, show max (a - (k + 1) + 1) (c - k) = max (a - (k + 1)) (c - (k + 1)) + 1 by omega]
      rfl
section
variable {prog : Program} {w : World} {A : Around} {E : Value → Shared → Prop} {s : Shared}
theorem delItem_slice {l sl : Addr} {items : Array Value} {n : Nat} {vl vu : Value} {lo hi : Option Int} {Q : Unit → Shared → Prop}
    (e : s.heap.get? l = some { cls := .type "list", data := .seq items n })
    (hs : s.heap.IsSliceOf sl vl vu .none) (pl : IsPart vl lo) (pu : IsPart vu hi) (hsz : items.size ≤ sizeLine)
    (h : Q () { s with heap := s.heap.update l (Obj.mapSeq fun xs => (xs.toList.zipIdx.filterMap fun (x, k) => if sel1 ((HT.sIx items.size 0 lo : Nat) : Int) ((HT.sIx items.size items.size hi : Nat) : Int) 1 k then none else some x).toArray) }) :
    wpAny (model prog w) A (delItem (.ref l) (.ref sl)) Q E s := by
  have hl : s.heap.IsList l items := PySem.IsL.isList e
  obtain ⟨os, hos, hcs, hds⟩ := id hs
  have hTs : s.TypeIs (.ref sl) "slice" := ⟨os, hos, hcs⟩
  have hstep : ¬ ((rawPart none == rawInt 0) = true) := Bool.false_ne_true
  have hb : sliceBounds lo hi none items.size = (((HT.sIx items.size 0 lo : Nat) : Int), ((HT.sIx items.size items.size hi : Nat) : Int), 1) := by
    obtain ⟨h1, h2, h3⟩ := slice_bounds lo hi items.size
    exact Prod.ext h1 (Prod.ext h2 h3)
  have hz' : ((fun xs : Array Value => (xs.toList.zipIdx.filterMap fun (x, k) => if sel1 ((HT.sIx items.size 0 lo : Nat) : Int) ((HT.sIx items.size items.size hi : Nat) : Int) 1 k then none else some x).toArray) items).size ≤ sizeLine + 1 := by
    have h1 := List.length_filterMap_le (fun (p : Value × Nat) => if sel1 ((HT.sIx items.size 0 lo : Nat) : Int) ((HT.sIx items.size items.size hi : Nat) : Int) 1 p.2 then none else some p.1) items.toList.zipIdx
    rw [List.length_zipIdx] at h1
    have h2 : items.toList.length = items.size := by simp
    show (List.filterMap _ _).toArray.size ≤ _
    rw [List.size_toArray]
    exact Nat.le_trans h1 (by omega)
  unfold delItem
  try with_reducible refine wpAny_holding ?_
  first | refine wpAny_bind (wpAny_pure ?_) | skip
  refine wpAny_bind (wpAny_sequenceKey hl.typeIs (by decide) ?_)
  refine wpAny_bind (wpAny_callSpecial?_slot (name := Str.ofString "__delitem__") hl.typeIs F.slot_list_delitem
    (wpAny_call_entry F.slot_list_delitem hl.typeIs F.entry_list_delitem ?_ (F.args_list_delitem_2 _ _)))
  show wpAny _ _ (Builtin.List.listSubscript? (.ref sl) >>= _) _ _ s
  refine wpAny_bind ?_
  unfold Builtin.List.listSubscript?
  refine wpAny_bind (wpAny_specialOf hTs slice_no_index ?_)
  simp only [Option.isNone_none, if_true]
  refine wpAny_pure ?_
  show wpAny _ _ (typeOf (.ref sl) >>= _) _ _ s
  refine wpAny_bind (wpAny_typeOf hTs ?_)
  first
    | rw [if_neg (by decide)]
    | refine PySem.W.KFB.if_not (by decide) ?_
  rw [listSliceParts_eq]
  refine wpAny_bind (wpAny_bind (wpAny_field hos hds (x := .none) rfl (wpAny_bind (wpAny_listPart .none ?_))))
  rw [if_neg hstep]
  refine wpAny_bind (wpAny_field hos hds (x := vl) rfl (wpAny_bind (wpAny_listPart pl ?_)))
  refine wpAny_bind (wpAny_field hos hds (x := vu) rfl (wpAny_bind (wpAny_listPart pu (wpAny_pure ?_))))
  unfold Builtin.List.listItems
  first
    | refine wpAny_bind (wpAny_bind (wpAny_seqItems e rfl (wpAny_pure ?_)))
    | refine wpAny_bind (wpAny_seqItems e rfl (wpAny_pure ?_))
  refine wpAny_bind (wpAny_of_eq ((sliceIndices_raw lo hi none items.size (by simp)).trans (congrArg (pure : Int × Int × Int → Sem (Int × Int × Int)) hb)) ?_)
  refine wpAny_bind (wpAny_rule ?_)
  show wpAny _ _ (updateSeq l (fun xs => (xs.toList.zipIdx.filterMap fun (x, k) => if sel1 ((HT.sIx items.size 0 lo : Nat) : Int) ((HT.sIx items.size items.size hi : Nat) : Int) 1 k then none else some x).toArray) >>= _) _ _ s
  refine wpAny_bind (wpAny_updateSeq (hz := hsz) (_hz' := hz') e rfl ?_)
  refine wpAny_bind (wpAny_letGo ?_)
  first
    | exact wpAny_bind (wpAny_pure (wpAny_pure ⟨.none, rfl, wpAny_pure h⟩))
    | exact wpAny_pure ⟨.none, rfl, wpAny_pure h⟩
end
def cutOut (xs : List V) (lo hi : Option Int) : List V := xs.take (HT.sIx xs.length 0 lo) ++ xs.drop (max (HT.sIx xs.length 0 lo) (HT.sIx xs.length xs.length hi))
def tDelSl (te : TE) (tl th : TO) : TS := fun D σ H => te σ H fun x H1 => tl σ H1 fun lo H2 => th σ H2 fun hi H3 => ∃ (l : Addr) (xs : List V), x = .ref l ∧ H3 l = some (.lst xs) ∧ D.nx σ (upd H3 l (.lst (cutOut xs lo hi)))
section
variable {X : Cx} {e : Expr} {te : TE} {lo hi : Option Expr} {tl th : TO} {pos p2 tpos : Pos}
theorem ps_delS (he : PE X e te) (hl : PO X lo tl) (hu : PO X hi th) : PS X (.Delete [.Subscript e (.Slice lo hi none p2) tpos] pos) (tDelSl te tl th) := by
  refine ⟨fun pins s σ H D I h => ?_⟩
  refine wpAny_Delete (wpAny_deleteEach_cons (wpAny_delete_Subscript (thn (he.run pins s σ H _ I h) fun v s1 ⟨x, H1, I1, r1, q1⟩ => ?_)))
  refine wpAny_Slice (thn (hl.run pins s1 σ H1 _ I1 q1) fun vl s2 ⟨l, H2, I2, pl, q2⟩ => thn (hu.run pins s2 σ H2 _ I2 q2) fun vu s3 ⟨u, H3, I3, pu, q3⟩ => ?_)
  rw [evalPart_none]
  refine wpAny_pure ?_
  have I4 : Inv X pins σ H3 { s3 with heap := s3.heap.push { cls := .type "slice", data := .fields #[vl, vu, .none] } } := I3.kept (t' := s3.toks) fun b ob q => Heap.get?_push_of_some _ q
  obtain ⟨a, xs, ex, hH, q4⟩ := q3
  subst ex
  cases (show v = Value.ref a from r1)
  obtain ⟨z, its, n, r, hln, e⟩ := I4.lstM hH
  have hz : its.toArray.size = xs.length := by rw [List.size_toArray, ← hln]
  refine delItem_slice (sl := s3.heap.objs.size) (lo := l) (hi := u) e (Heap.IsSliceOf.new ..) pl pu (by rw [hz]; exact z) ?_
  rw [hz]
  refine wpAny_deleteEach_nil ⟨σ, _, ?_, q4⟩
  refine I4.lset (its' := its.take (HT.sIx xs.length 0 l) ++ its.drop (max (HT.sIx xs.length 0 l) (HT.sIx xs.length xs.length u))) (t' := s3.toks) hH e ?_ (Vals.append (r.take _) (r.drop _)) ?_
  · show (List.filterMap _ its.toArray.toList.zipIdx).toArray = _
    have := keep_eq (HT.sIx xs.length 0 l) (HT.sIx xs.length xs.length u) its 0
    rw [Nat.sub_zero, Nat.sub_zero] at this
    rw [← this]
  · unfold cutOut
    rw [List.length_append, List.length_take, List.length_drop]
    omega
end
end L2
/-! ### what is left of a history: inner swings taken out; reversed lists, the last one first -/
namespace My
open PySem PySem.Spec PyProof.Rows L2
def inn (a b c d : Int) : Bool := (decide ((if d < a then d else a) ≤ b) && decide (b ≤ (if d > a then d else a))) && (decide ((if d < a then d else a) ≤ c) && decide (c ≤ (if d > a then d else a)))
def innR : List Int → Bool
  | d :: c :: b :: a :: _ => inn a b c d
  | _ => false
def ired : List Int → List Int
  | d :: c :: b :: a :: r => if inn a b c d = true then ired (d :: a :: r) else d :: c :: b :: a :: r
  | rs => rs
termination_by rs => rs.length
theorem ired_yes {d c b a : Int} {r : List Int} (h : inn a b c d = true) : ired (d :: c :: b :: a :: r) = ired (d :: a :: r) := by
  rw [ired, if_pos h]
theorem ired_no {rs : List Int} (h : innR rs = false) : ired rs = rs := by
  match rs, h with
  | [], _ => rw [ired]; intro _ _ _ _ _ e; simp at e
  | [_], _ => rw [ired]; intro _ _ _ _ _ e; simp at e
  | [_, _], _ => rw [ired]; intro _ _ _ _ _ e; simp at e
  | [_, _, _], _ => rw [ired]; intro _ _ _ _ _ e; simp at e
  | d :: c :: b :: a :: r, h =>
    have h' : inn a b c d = false := h
    rw [ired, if_neg (by rw [h']; exact Bool.false_ne_true)]
def qstep (rs : List Int) (x : Int) : List Int := ired (rstep rs x)
def resR (rs xs : List Int) : List Int := xs.foldl qstep rs
def resOf (xs : List Int) : List Int := (resR [] xs).reverse
/-- nothing inner anywhere -/
def NoInn : List Int → Prop
  | d :: c :: b :: a :: r => inn a b c d = false ∧ NoInn (c :: b :: a :: r)
  | _ => True
theorem NoInn.tail {x : Int} {r : List Int} (h : NoInn (x :: r)) : NoInn r := by
  match r, h with
  | [], _ => trivial
  | [_], _ => trivial
  | [_, _], _ => trivial
  | _ :: _ :: _ :: _, h => exact h.2
theorem NoInn.cons {x : Int} {r : List Int} (h : NoInn r) (g : innR (x :: r) = false) : NoInn (x :: r) := by
  match r, h, g with
  | [], _, _ => trivial
  | [_], _, _ => trivial
  | [_, _], _, _ => trivial
  | _ :: _ :: _ :: _, h, g => exact ⟨g, h⟩
theorem ired_ok : ∀ (n : Nat) (rs : List Int), rs.length ≤ n → RedR rs → NoInn rs.tail → RedR (ired rs) ∧ NoInn (ired rs) ∧ (ired rs).length ≤ rs.length ∧ (∀ x r, rs = x :: r → ∃ r', ired rs = x :: r') ∧ (∀ y ∈ ired rs, y ∈ rs) := by
  intro n
  induction n with
  | zero =>
    intro rs hn h1 h2
    have : rs = [] := List.length_eq_zero_iff.mp (by omega)
    subst this
    rw [ired_no (rs := []) rfl]
    exact ⟨trivial, trivial, Nat.le_refl _, (fun x r e => by cases e), fun y h => h⟩
  | succ n ih =>
    intro rs hn h1 h2
    cases hi : innR rs with
    | false =>
      rw [ired_no hi]
      refine ⟨h1, ?_, Nat.le_refl _, fun x r e => ⟨r, e⟩, fun y h => h⟩
      cases rs with
      | nil => trivial
      | cons x r => exact NoInn.cons h2 hi
    | true =>
      match rs, hi with
      | d :: c :: b :: a :: r, hi =>
        have hi' : inn a b c d = true := hi
        rw [ired_yes hi']
        have hd : d ≠ c ∧ btw c b d = false ∧ RedR (c :: b :: a :: r) := h1
        have hc : c ≠ b ∧ btw b a c = false ∧ RedR (b :: a :: r) := hd.2.2
        have hb := RedR.tail hc.2.2
        have hba : b ≠ a := by
          have := hc.2.2
          cases r with
          | nil => exact this
          | cons _ _ => exact this.1
        have n1 := mt btw_iff.mpr (show ¬ btw c b d = true by rw [hd.2.1]; exact Bool.false_ne_true)
        have n2 := mt btw_iff.mpr (show ¬ btw b a c = true by rw [hc.2.1]; exact Bool.false_ne_true)
        unfold inn at hi'
        simp only [Bool.and_eq_true, decide_eq_true_eq] at hi'
        have key : (a < b ∧ c < b ∧ c < d ∧ a < d) ∨ (b < a ∧ b < c ∧ d < c ∧ d < a) := by
          have e1 := hd.1
          have e2 := hc.1
          by_cases q : d < a
          · rw [if_pos q, if_neg (show ¬ d > a by omega)] at hi'
            omega
          · rw [if_neg q] at hi'
            by_cases q2 : d > a
            · rw [if_pos q2] at hi'
              omega
            · rw [if_neg q2] at hi'
              omega
        have red : RedR (d :: a :: r) := by
          cases r with
          | nil => show d ≠ a; omega
          | cons z r =>
            have hz : b ≠ a ∧ btw a z b = false ∧ RedR (a :: z :: r) := hc.2.2
            have hza : a ≠ z := by
              cases r with
              | nil => exact hz.2.2
              | cons _ _ => exact hz.2.2.1
            have n3 := mt btw_iff.mpr (show ¬ btw a z b = true by rw [hz.2.1]; exact Bool.false_ne_true)
            refine ⟨by omega, ?_, hz.2.2⟩
            cases hq : btw a z d with
            | false => rfl
            | true => have := btw_iff.mp hq; omega
        have h3 : NoInn (a :: r) := (NoInn.tail (x := b) (NoInn.tail (x := c) h2))
        obtain ⟨g1, g2, g3, g4, g5⟩ := ih (d :: a :: r) (by simp at hn ⊢; omega) red h3
        refine ⟨g1, g2, by simp at g3 ⊢; omega, fun x r' e => ?_, fun y hy => ?_⟩
        · cases e
          exact g4 _ _ rfl
        · have := g5 y hy
          simp at this ⊢
          rcases this with h | h | h
          · exact .inl h
          · exact .inr (.inr (.inr (.inl h)))
          · exact .inr (.inr (.inr (.inr h)))
structure ResOk (rs : List Int) : Prop where
  red : RedR rs
  no : NoInn rs
theorem rstep_tail {rs : List Int} {x : Int} (h : NoInn rs) : NoInn (rstep rs x).tail := by
  match rs, h with
  | [], _ => trivial
  | [l], _ =>
    simp only [rstep]
    split <;> trivial
  | l :: p :: r, h =>
    simp only [rstep]
    split
    · exact h.tail
    · split
      · exact h.tail
      · exact h
theorem qstep_ok {rs : List Int} {x : Int} (h : ResOk rs) : ResOk (qstep rs x) := by
  obtain ⟨g1, g2, _⟩ := ired_ok _ (rstep rs x) (Nat.le_refl _) (rstep_red h.red) (rstep_tail h.no)
  exact ⟨g1, g2⟩
theorem qstep_len {rs : List Int} {x : Int} (h : ResOk rs) : (qstep rs x).length ≤ rs.length + 1 := by
  obtain ⟨_, _, g3, _⟩ := ired_ok _ (rstep rs x) (Nat.le_refl _) (rstep_red h.red) (rstep_tail h.no)
  exact Nat.le_trans g3 (rstep_len rs x).1
theorem qstep_head {rs : List Int} {x : Int} (h : ResOk rs) : ∃ r, qstep rs x = x :: r := by
  obtain ⟨_, _, _, g4, _⟩ := ired_ok _ (rstep rs x) (Nat.le_refl _) (rstep_red h.red) (rstep_tail h.no)
  obtain ⟨r, e⟩ := rstep_head rs x
  exact g4 _ _ e
theorem qstep_mem {rs : List Int} {x y : Int} (h : ResOk rs) (hy : y ∈ qstep rs x) : y = x ∨ y ∈ rs := by
  obtain ⟨_, _, _, _, g5⟩ := ired_ok _ (rstep rs x) (Nat.le_refl _) (rstep_red h.red) (rstep_tail h.no)
  exact rstep_mem (g5 y hy)
theorem resR_app (s u v : List Int) : resR s (u ++ v) = resR (resR s u) v := List.foldl_append
theorem resR_ok : ∀ (xs rs : List Int), ResOk rs → ResOk (resR rs xs) ∧ (resR rs xs).length ≤ rs.length + xs.length ∧ ∀ y ∈ resR rs xs, y ∈ xs ∨ y ∈ rs
  | [], rs, h => ⟨h, by simp [resR], fun y hy => .inr hy⟩
  | x :: xs, rs, h => by
    obtain ⟨g1, g2, g3⟩ := resR_ok xs (qstep rs x) (qstep_ok h)
    have l := qstep_len (x := x) h
    refine ⟨g1, by show (resR (qstep rs x) xs).length ≤ _; rw [List.length_cons]; omega, fun y hy => ?_⟩
    rcases g3 y hy with g | g
    · exact .inl (List.mem_cons_of_mem _ g)
    · rcases qstep_mem h g with rfl | g
      · exact .inl (List.mem_cons_self ..)
      · exact .inr g
theorem nil_ok : ResOk [] := ⟨trivial, trivial⟩
theorem resOf_len (xs : List Int) : (resOf xs).length ≤ xs.length := by
  unfold resOf
  rw [List.length_reverse]
  have := (resR_ok xs [] nil_ok).2.1
  simpa using this
theorem resOf_mem {xs : List Int} {y : Int} (h : y ∈ resOf xs) : y ∈ xs := by
  unfold resOf at h
  rcases (resR_ok xs [] nil_ok).2.2 y (List.mem_reverse.mp h) with g | g
  · exact g
  · simp at g
theorem cut_inn (u : List Int) (a b c d : Int) : cutOut ((u ++ [a, b, c, d]).map V.int) (some (-3)) (some (-1)) = (u ++ [a, d]).map V.int := by
  unfold cutOut
  have hl : ((u ++ [a, b, c, d]).map V.int).length = u.length + 4 := by simp
  have s1 : HT.sIx (u.length + 4) 0 (some (-3)) = u.length + 1 := by
    show (if (-3 : Int) < 0 then ((-3 : Int) + ((u.length + 4 : Nat) : Int)).toNat else min (-3 : Int).toNat (u.length + 4)) = u.length + 1
    rw [if_pos (by decide)]
    omega
  have s2 : HT.sIx (u.length + 4) (u.length + 4) (some (-1)) = u.length + 3 := by
    show (if (-1 : Int) < 0 then ((-1 : Int) + ((u.length + 4 : Nat) : Int)).toNat else min (-1 : Int).toNat (u.length + 4)) = u.length + 3
    rw [if_pos (by decide)]
    omega
  rw [hl, s1, s2, show max (u.length + 1) (u.length + 3) = u.length + 3 by omega, ← List.map_take, ← List.map_drop, ← List.map_append]
  congr 1
  have e1 : (u ++ [a, b, c, d]).take (u.length + 1) = u ++ [a] := by
    rw [List.take_append, List.take_of_length_le (by omega), show u.length + 1 - u.length = 1 by omega]
    rfl
  have e2 : (u ++ [a, b, c, d]).drop (u.length + 3) = [d] := by
    rw [List.drop_append, List.drop_of_length_le (by omega), show u.length + 3 - u.length = 3 by omega]
    rfl
  rw [e1, e2, List.append_assoc]
  rfl
theorem rev4 (r : List Int) (a b c d : Int) : (d :: c :: b :: a :: r).reverse = r.reverse ++ [a, b, c, d] := by simp
theorem rev2 (r : List Int) (a d : Int) : (d :: a :: r).reverse = r.reverse ++ [a, d] := by simp
theorem at4 (u : List Int) (a b c d : Int) : ((u ++ [a, b, c, d]).map V.int)[u.length]? = some (.int a) ∧ ((u ++ [a, b, c, d]).map V.int)[u.length + 1]? = some (.int b) ∧ ((u ++ [a, b, c, d]).map V.int)[u.length + 2]? = some (.int c) ∧ ((u ++ [a, b, c, d]).map V.int)[u.length + 3]? = some (.int d) := by
  refine ⟨?_, ?_, ?_, ?_⟩ <;> (rw [List.getElem?_map, List.getElem?_append_right (by omega)]; simp)
end My
namespace My
open PySem PySem.Spec PyProof.Rows L2
/-! ### comprehensions over range(lo, hi); index, count -/
section
variable {n : Nat} {kp : Nat → Bool} {RB : Nat → V → Hp → Prop} {g : TG} {tt : TT} {te : TE} {ta : TA} {vs : List Nat} {σ : L2.St} {H : Hp} {lo hi : Int}
theorem lcR2_ev (hta : ∀ Q : List V → Hp → Prop, (∀ H', Ex H H' → Q [.int lo, .int hi] H') → ta σ H Q) (hb : -(2 ^ 62) ≤ lo ∧ lo < 2 ^ 62 ∧ -(2 ^ 62) ≤ hi ∧ hi < 2 ^ 62) (hn : (hi - lo).toNat = n) (hl : n < 100000) (mono : ∀ a y H1 H2, Ki H1 H2 → RB a y H1 → RB a y H2)
    (ht : ∀ H1, Ex H H1 → ∀ (i : Nat), i < n → Turns H1 (.int (lo + (i : Int))) i kp RB g tt te vs σ) : EvR (tLc (iRng2 ta) g tt te vs) σ H (NewL H (List.range n) kp RB) := fun Q k =>
  hta _ fun H1 e1 => by
    refine ⟨lo, hi, rfl, hb, fun D hD => ?_⟩
    rw [hn]
    refine lc_range (lo := lo) (n := n) (CW H1 (List.range n) kp RB D) ⟨hD, Ex.new hD, [], upd_same, by simpa using Al.nil⟩ (fun i H' hi p => ?_) fun H' p => ?_
    · have hi2 : (List.range n)[i]? = some i := by rw [List.getElem?_range hi]
      exact cw_turn mono (by simpa using hl) hi2 (ht H1 e1 i hi) p.2.1 p
    · obtain ⟨p1, p2, ys, p3, p4⟩ := p
      have e : (List.range n).take n = List.range n := List.take_of_length_le (by simp)
      rw [e] at p4
      exact k _ H' (e1.trans p2) ⟨D, ys, rfl, e1.free p1, p3, p4⟩
end
section
variable {X : Cx} {K : PySem.W.Frag}
theorem kIndex (hK : X.K = K := by rfl) : MtR X "list.index" (rIndex K) := by subst hK; exact mt_index
theorem kCount (hK : X.K = K := by rfl) : MtR X "list.count" (rCntI K) := by subst hK; exact mt_lcount
end
theorem index_ints {K : PySem.W.Frag} {H : Hp} {a : Addr} {w : List Int} {m : Int} {f : Nat} {Q : VK} (h : SqL K H a (w.map V.int)) (hf : w[f]? = some m) (hno : ∀ k, k < f → w[k]? ≠ some m) (q : Q (.int (f : Nat)) H) : rIndex K (.ref a) [.int m] H Q := by
  refine ⟨a, _, .int m, f, .int m, rfl, rfl, h, rfl, flat_ints w, by rw [List.getElem?_map, hf]; rfl, by simp [eqV], fun k z hk hz => ?_, q⟩
  rw [List.getElem?_map] at hz
  cases hw : w[k]? with
  | none => rw [hw] at hz; cases hz
  | some y =>
    rw [hw] at hz
    cases hz
    have : y ≠ m := fun e => hno k hk (by rw [hw, e])
    simp [eqV, this]
/-! ### the first greatest -/
structure FirstMax (w : List Int) (f : Nat) (m : Int) : Prop where
  at_ : w[f]? = some m
  top : ∀ (k : Nat) (y : Int), w[k]? = some y → y ≤ m
  fst : ∀ (k : Nat) (y : Int), k < f → w[k]? = some y → y < m
theorem first_of {w : List Int} {m : Int} (hm : m ∈ w) (ht : ∀ y ∈ w, y ≤ m) : ∃ f, FirstMax w f m := by
  have : ∃ f : Nat, w[f]? = some m := List.getElem?_of_mem hm
  induction w with
  | nil => simp at hm
  | cons x r ih =>
    by_cases e : x = m
    · exact ⟨0, by rw [e]; rfl, fun k y h => ht y (List.mem_of_getElem? h), fun k y h => by omega⟩
    · have hm' : m ∈ r := by rcases List.mem_cons.mp hm with h | h; exact absurd h.symm e; exact h
      obtain ⟨f, h1, h2, h3⟩ := ih hm' (fun y hy => ht y (List.mem_cons_of_mem _ hy)) (List.getElem?_of_mem hm')
      refine ⟨f + 1, by simpa using h1, fun k y h => ht y (List.mem_of_getElem? h), fun k y hk h => ?_⟩
      cases k with
      | zero =>
        simp at h
        subst h
        have := ht x (List.mem_cons_self ..)
        omega
      | succ k => exact h3 k y (by omega) (by simpa using h)
theorem FirstMax.uniq {w : List Int} {f g : Nat} {m n : Int} (a : FirstMax w f m) (b : FirstMax w g n) : f = g ∧ m = n := by
  have h1 := a.top g n b.at_
  have h2 := b.top f m a.at_
  have e : m = n := by omega
  subst e
  refine ⟨?_, rfl⟩
  rcases Nat.lt_trichotomy f g with h | h | h
  · have := b.fst f m h a.at_; omega
  · exact h
  · have := a.fst g m h b.at_; omega
/-! ### widths that rise, then sink -/
def NoDip (w : List Int) : Prop := ∀ (i : Nat) (a b c : Int), w[i]? = some a → w[i + 1]? = some b → w[i + 2]? = some c → a < b ∨ c < b
theorem dip_rise {w : List Int} {f : Nat} {m : Int} (v : NoDip w) (x : FirstMax w f m) : ∀ (d k : Nat), k + 1 + d = f → ∀ a b, w[k]? = some a → w[k + 1]? = some b → a < b
  | 0, k, e, a, b, h1, h2 => by
    have e' : k + 1 = f := by omega
    rw [e', x.at_] at h2
    cases h2
    exact x.fst k a (by omega) h1
  | d + 1, k, e, a, b, h1, h2 => by
    have hk : k + 2 < w.length := by
      have := (List.getElem?_eq_some_iff.mp x.at_).1
      omega
    have h3 := List.getElem?_eq_getElem hk
    have ih := dip_rise v x d (k + 1) (by omega) b _ h2 h3
    rcases v k a b _ h1 h2 h3 with h | h
    · exact h
    · omega
theorem dip_sink {w : List Int} {f : Nat} {m : Int} (v : NoDip w) (x : FirstMax w f m) : ∀ (d : Nat) (a b : Int), w[f + 1 + d]? = some a → w[f + 1 + d + 1]? = some b → b < a
  | 0, a, b, h1, h2 => by
    rcases v f m a b x.at_ h1 h2 with h | h
    · have := x.top _ _ h1
      omega
    · exact h
  | d + 1, a, b, h1, h2 => by
    have hk : f + 1 + d < w.length := by
      have := (List.getElem?_eq_some_iff.mp h1).1
      omega
    have h0 := List.getElem?_eq_getElem hk
    have ih := dip_sink v x d _ a h0 h1
    rcases v (f + 1 + d) _ a b h0 h1 h2 with h | h
    · omega
    · exact h
theorem dip_less {w : List Int} {f : Nat} {m : Int} (v : NoDip w) (x : FirstMax w f m) : ∀ (d : Nat) (b : Int), w[f + 1 + d + 1]? = some b → b < m
  | 0, b, h => by
    have hk : f + 1 + 0 < w.length := by have := (List.getElem?_eq_some_iff.mp h).1; omega
    have h0 := List.getElem?_eq_getElem hk
    have := dip_sink v x 0 _ b h0 h
    have := x.top _ _ h0
    omega
  | d + 1, b, h => by
    have hk : f + 1 + d + 1 < w.length := by have := (List.getElem?_eq_some_iff.mp h).1; omega
    have h0 := List.getElem?_eq_getElem hk
    have := dip_sink v x (d + 1) _ b h0 h
    have := dip_less v x d _ h0
    omega
theorem dip_count {w : List Int} {f : Nat} {m : Int} (v : NoDip w) (x : FirstMax w f m) : (w.count m = 1 ∧ w[f + 1]? ≠ some m) ∨ (w.count m = 2 ∧ w[f + 1]? = some m) := by
  have hf := (List.getElem?_eq_some_iff.mp x.at_).1
  have e : w = w.take f ++ m :: w.drop (f + 1) := by
    have h1 : w.drop f = m :: w.drop (f + 1) := by
      rw [List.drop_eq_getElem_cons hf]
      rw [(List.getElem?_eq_some_iff.mp x.at_).2]
    rw [← h1, List.take_append_drop]
  have c1 : (w.take f).count m = 0 := List.count_eq_zero.mpr fun h => by
    obtain ⟨k, hk⟩ := List.getElem?_of_mem h
    have hk2 : k < f := by
      have := (List.getElem?_eq_some_iff.mp hk).1
      rw [List.length_take] at this
      omega
    rw [List.getElem?_take_of_lt hk2] at hk
    have := x.fst k m hk2 hk
    omega
  have c2 : (w.drop (f + 1 + 1)).count m = 0 := List.count_eq_zero.mpr fun h => by
    obtain ⟨k, hk⟩ := List.getElem?_of_mem h
    rw [List.getElem?_drop] at hk
    have := dip_less v x k m (by rw [show f + 1 + k + 1 = f + 1 + 1 + k by omega]; exact hk)
    omega
  have cw : w.count m = 1 + (w.drop (f + 1)).count m := by
    conv => lhs; rw [e]
    rw [List.count_append, c1, List.count_cons_self]
    omega
  rcases Nat.lt_or_ge (f + 1) w.length with h | h
  · have hd : w.drop (f + 1) = w[f + 1] :: w.drop (f + 1 + 1) := List.drop_eq_getElem_cons h
    have hg := List.getElem?_eq_getElem h
    by_cases q : w[f + 1] = m
    · right
      rw [cw, hd, q, List.count_cons_self, c2, hg, q]
      exact ⟨rfl, rfl⟩
    · left
      rw [cw, hd, List.count_cons_of_ne (fun z => q z), c2, hg]
      exact ⟨rfl, fun z => q (Option.some.inj z)⟩
  · left
    rw [cw, List.drop_of_length_le h, List.getElem?_eq_none h]
    exact ⟨rfl, fun z => by cases z⟩
/-! ### what a residue is, place by place -/
theorem red_at : ∀ (rs : List Int), RedR rs → (∀ (i : Nat) (x y : Int), rs[i]? = some x → rs[i + 1]? = some y → x ≠ y) ∧ ∀ (i : Nat) (x y z : Int), rs[i]? = some x → rs[i + 1]? = some y → rs[i + 2]? = some z → btw y z x = false
  | [], _ => ⟨fun i x y h => by simp at h, fun i x y z h => by simp at h⟩
  | [a], _ => ⟨fun i x y h h2 => by simp at h2, fun i x y z h h2 => by simp at h2⟩
  | [a, b], h => by
    refine ⟨fun i x y h1 h2 => ?_, fun i x y z h1 h2 h3 => by simp at h3⟩
    cases i with
    | zero =>
      simp at h1 h2
      subst h1; subst h2
      exact h
    | succ i => simp at h2
  | a :: b :: c :: r, h => by
    obtain ⟨g1, g2⟩ := red_at (b :: c :: r) h.2.2
    refine ⟨fun i x y h1 h2 => ?_, fun i x y z h1 h2 h3 => ?_⟩
    · cases i with
      | zero =>
        simp at h1 h2
        subst h1; subst h2
        exact h.1
      | succ i => exact g1 i x y (by simpa using h1) (by simpa using h2)
    · cases i with
      | zero =>
        simp at h1 h2 h3
        subst h1; subst h2; subst h3
        exact h.2.1
      | succ i => exact g2 i x y z (by simpa using h1) (by simpa using h2) (by simpa using h3)
theorem noinn_at : ∀ (rs : List Int), NoInn rs → ∀ (i : Nat) (d c b a : Int), rs[i]? = some d → rs[i + 1]? = some c → rs[i + 2]? = some b → rs[i + 3]? = some a → inn a b c d = false
  | [], _, i, d, c, b, a, h1, _, _, _ => by simp at h1
  | [_], _, i, d, c, b, a, _, h2, _, _ => by simp at h2
  | [_, _], _, i, d, c, b, a, _, _, h3, _ => by simp at h3
  | [_, _, _], _, i, d, c, b, a, _, _, _, h4 => by simp at h4
  | x :: y :: z :: u :: r, h, i, d, c, b, a, h1, h2, h3, h4 => by
    cases i with
    | zero =>
      simp at h1 h2 h3 h4
      subst h1; subst h2; subst h3; subst h4
      exact h.1
    | succ i => exact noinn_at (y :: z :: u :: r) h.2 i d c b a (by simpa using h1) (by simpa using h2) (by simpa using h3) (by simpa using h4)
/-- turning each time, nothing inner -/
structure ResL (L : List Int) : Prop where
  ne : ∀ (i : Nat) (x y : Int), L[i]? = some x → L[i + 1]? = some y → x ≠ y
  turn : ∀ (i : Nat) (x y z : Int), L[i]? = some x → L[i + 1]? = some y → L[i + 2]? = some z → btw y x z = false
  no : ∀ (i : Nat) (a b c d : Int), L[i]? = some a → L[i + 1]? = some b → L[i + 2]? = some c → L[i + 3]? = some d → inn a b c d = false
theorem rev_at {rs : List Int} {i : Nat} {x : Int} (h : rs.reverse[i]? = some x) : i < rs.length ∧ rs[rs.length - 1 - i]? = some x := by
  have hi : i < rs.length := by
    have := (List.getElem?_eq_some_iff.mp h).1
    simpa using this
  rw [List.getElem?_reverse hi] at h
  exact ⟨hi, h⟩
theorem resL_of {rs : List Int} (h : ResOk rs) : ResL rs.reverse := by
  obtain ⟨g1, g2⟩ := red_at rs h.red
  have g3 := noinn_at rs h.no
  refine ⟨fun i x y h1 h2 => ?_, fun i x y z h1 h2 h3 => ?_, fun i a b c d h1 h2 h3 h4 => ?_⟩
  · obtain ⟨k1, e1⟩ := rev_at h1
    obtain ⟨k2, e2⟩ := rev_at h2
    have := g1 (rs.length - 1 - (i + 1)) y x e2 (by rw [show rs.length - 1 - (i + 1) + 1 = rs.length - 1 - i by omega]; exact e1)
    exact fun z => this z.symm
  · obtain ⟨k1, e1⟩ := rev_at h1
    obtain ⟨k2, e2⟩ := rev_at h2
    obtain ⟨k3, e3⟩ := rev_at h3
    have := g2 (rs.length - 1 - (i + 2)) z y x e3 (by rw [show rs.length - 1 - (i + 2) + 1 = rs.length - 1 - (i + 1) by omega]; exact e2) (by rw [show rs.length - 1 - (i + 2) + 2 = rs.length - 1 - i by omega]; exact e1)
    exact this
  · obtain ⟨k1, e1⟩ := rev_at h1
    obtain ⟨k2, e2⟩ := rev_at h2
    obtain ⟨k3, e3⟩ := rev_at h3
    obtain ⟨k4, e4⟩ := rev_at h4
    exact g3 (rs.length - 1 - (i + 3)) d c b a e4 (by rw [show rs.length - 1 - (i + 3) + 1 = rs.length - 1 - (i + 2) by omega]; exact e3) (by rw [show rs.length - 1 - (i + 3) + 2 = rs.length - 1 - (i + 1) by omega]; exact e2) (by rw [show rs.length - 1 - (i + 3) + 3 = rs.length - 1 - i by omega]; exact e1)
theorem resOf_L (xs : List Int) : ResL (resOf xs) := resL_of (resR_ok xs [] nil_ok).1
def absI (i : Int) : Int := if i < 0 then -i else i
def leapsOf (L : List Int) : List Int := (List.range (L.length - 1)).map fun i => L.getD (i + 1) 0 - L.getD i 0
def widsOf (L : List Int) : List Int := (leapsOf L).map absI
theorem leaps_at {L : List Int} {i : Nat} {l : Int} (h : (leapsOf L)[i]? = some l) : ∃ a b, L[i]? = some a ∧ L[i + 1]? = some b ∧ l = b - a := by
  unfold leapsOf at h
  rw [List.getElem?_map] at h
  cases hr : (List.range (L.length - 1))[i]? with
  | none => rw [hr] at h; cases h
  | some k =>
    have hk := (List.getElem?_eq_some_iff.mp hr)
    have hi : i < L.length - 1 := by simpa using hk.1
    have ek : k = i := by have := hk.2; simpa using this.symm
    rw [hr, ek] at h
    cases h
    refine ⟨L[i], L[i + 1], List.getElem?_eq_getElem (by omega), List.getElem?_eq_getElem (by omega), ?_⟩
    show L.getD (i + 1) 0 - L.getD i 0 = _
    rw [List.getD_eq_getElem?_getD, List.getD_eq_getElem?_getD, List.getElem?_eq_getElem (show i + 1 < L.length by omega), List.getElem?_eq_getElem (show i < L.length by omega)]
    rfl
theorem wids_at {L : List Int} {i : Nat} {l : Int} (h : (widsOf L)[i]? = some l) : ∃ a b, L[i]? = some a ∧ L[i + 1]? = some b ∧ l = absI (b - a) := by
  unfold widsOf at h
  rw [List.getElem?_map] at h
  cases hr : (leapsOf L)[i]? with
  | none => rw [hr] at h; cases h
  | some k =>
    rw [hr] at h
    cases h
    obtain ⟨a, b, h1, h2, rfl⟩ := leaps_at hr
    exact ⟨a, b, h1, h2, rfl⟩
theorem wids_len (L : List Int) : (widsOf L).length = L.length - 1 ∧ (leapsOf L).length = L.length - 1 := by unfold widsOf leapsOf; simp
theorem wids_get {L : List Int} {i : Nat} {a b : Int} (h1 : L[i]? = some a) (h2 : L[i + 1]? = some b) : (widsOf L)[i]? = some (absI (b - a)) := by
  have hi := (List.getElem?_eq_some_iff.mp h2).1
  have hl : i < (widsOf L).length := by rw [(wids_len L).1]; omega
  have h := List.getElem?_eq_getElem hl
  obtain ⟨x, y, g1, g2, e⟩ := wids_at h
  rw [h1] at g1
  rw [h2] at g2
  cases g1
  cases g2
  rw [h, e]
theorem ResL.alt {L : List Int} (h : ResL L) {i : Nat} {x y z : Int} (h1 : L[i]? = some x) (h2 : L[i + 1]? = some y) (h3 : L[i + 2]? = some z) : (x < y ∧ z < y) ∨ (y < x ∧ y < z) := by
  have e1 := h.ne i x y h1 h2
  have e2 := h.ne (i + 1) y z h2 h3
  have n1 := mt btw_iff.mpr (show ¬ btw y x z = true by rw [h.turn i x y z h1 h2 h3]; exact Bool.false_ne_true)
  omega
theorem ResL.nodip {L : List Int} (h : ResL L) : NoDip (widsOf L) := by
  intro i w1 w2 w3 h1 h2 h3
  obtain ⟨a, b, g1, g2, rfl⟩ := wids_at h1
  obtain ⟨b', c, g3, g4, rfl⟩ := wids_at h2
  obtain ⟨c', d, g5, g6, rfl⟩ := wids_at h3
  rw [g2] at g3
  cases g3
  rw [show i + 2 = i + 1 + 1 from rfl, g4] at g5
  cases g5
  have a1 := h.alt g1 g2 g4
  have a2 := h.alt g2 g4 g6
  have n := h.no i a b c d g1 g2 g4 g6
  have n' : ¬ inn a b c d = true := by rw [n]; exact Bool.false_ne_true
  unfold inn at n'
  simp only [Bool.and_eq_true, decide_eq_true_eq] at n'
  unfold absI
  split at n' <;> split at n' <;> split <;> split <;> split <;> omega
theorem ResL.pos {L : List Int} (h : ResL L) : ∀ y ∈ widsOf L, 0 < y := by
  intro y hy
  obtain ⟨k, hk⟩ := List.getElem?_of_mem hy
  obtain ⟨a, b, g1, g2, rfl⟩ := wids_at hk
  have := h.ne k a b g1 g2
  unfold absI
  split <;> omega
end My
namespace My
open PySem PySem.Spec PyProof.Rows L2
section
variable {t u : TT} {te : TE} {σ : L2.St} {H : Hp} {Q : Bool → Hp → Prop}
theorem r_or (h : t σ H fun c H1 => if c = true then Q true H1 else u σ H1 Q) : tOr t u σ H Q := h
theorem r_test (h : te σ H fun x H1 => ∃ c, x = .bl c ∧ Q c H1) : tTest te σ H Q := h
end
theorem fFalse {α : Type} (as : List α) : as.filter (fun _ => false) = [] := by simp
theorem getD_at {L : List Int} {i : Nat} (h : i < L.length) : (L.map V.int)[i]? = some (.int (L.getD i 0)) := by
  rw [List.getElem?_map, List.getElem?_eq_getElem h, List.getD_eq_getElem?_getD, List.getElem?_eq_getElem h]
  rfl
theorem getD_some {L : List Int} {i : Nat} (h : i < L.length) : L[i]? = some (L.getD i 0) := by
  rw [List.getElem?_eq_getElem h, List.getD_eq_getElem?_getD, List.getElem?_eq_getElem h]
  rfl
theorem cut_tail (xs : List Int) : cutV (xs.map V.int) (some 1) none = (xs.drop 1).map V.int := by
  have hl : (xs.map V.int).length = xs.length := List.length_map ..
  unfold cutV
  rw [show (some (1 : Int)) = some ((1 : Nat) : Int) from rfl, HT.sIx_nat, HT.sIx_none, hl, List.map_drop]
  rcases Nat.le_total 1 xs.length with h | h
  · rw [Nat.min_eq_left h]
    exact List.take_of_length_le (by rw [List.length_drop, hl]; exact Nat.le_refl _)
  · rw [Nat.min_eq_right h, Nat.sub_self, List.take_zero]
    exact (List.drop_of_length_le (by rw [hl]; exact h)).symm
end My
/-! ### an inner swing put in changes nothing behind it -/
namespace My
open PySem PySem.Spec PyProof.Rows L2
theorem ResOk.tail {x : Int} {r : List Int} (h : ResOk (x :: r)) : ResOk r := ⟨h.red.tail, h.no.tail⟩
theorem red_two {x y : Int} {r : List Int} (h : RedR (x :: y :: r)) : x ≠ y := by
  cases r with
  | nil => exact h
  | cons _ _ => exact h.1
theorem red_alt {x y z : Int} {r : List Int} (h : RedR (x :: y :: z :: r)) : (x < y ∧ z < y) ∨ (y < x ∧ y < z) := by
  have h1 : x ≠ y ∧ btw y z x = false ∧ RedR (y :: z :: r) := h
  have h2 := red_two h1.2.2
  have n := mt btw_iff.mpr (show ¬ btw y z x = true by rw [h1.2.1]; exact Bool.false_ne_true)
  omega
theorem ired_fix {rs : List Int} (h : NoInn rs) : ired rs = rs := by
  match rs, h with
  | [], _ => exact ired_no rfl
  | [_], _ => exact ired_no rfl
  | [_, _], _ => exact ired_no rfl
  | [_, _, _], _ => exact ired_no rfl
  | d :: c :: b :: a :: r, h => exact ired_no h.1
theorem inn_up {w p v x : Int} (h1 : w < p) (h2 : v < p) (h3 : v < x) : inn w p v x = (decide (w ≤ v) && decide (p ≤ x)) := by
  rw [Bool.eq_iff_iff]
  unfold inn
  simp only [Bool.and_eq_true, decide_eq_true_eq]
  constructor
  · rintro ⟨⟨q1, q2⟩, q3, q4⟩
    split at q1 <;> split at q2 <;> omega
  · rintro ⟨q1, q2⟩
    refine ⟨⟨?_, ?_⟩, ?_, ?_⟩ <;> split <;> omega
/-- a stack whose last one is a valley -/
def Valley : List Int → Prop
  | v :: p :: _ => v < p
  | _ => True
def upV : List Int → Int → List Int
  | v :: p :: w :: r, x => if w ≤ v ∧ p ≤ x then upV (w :: r) x else x :: v :: p :: w :: r
  | V, x => x :: V
termination_by V => V.length
theorem upV_yes {v p w x : Int} {r : List Int} (h : w ≤ v ∧ p ≤ x) : upV (v :: p :: w :: r) x = upV (w :: r) x := by rw [upV, if_pos h]
theorem upV_no {v p w x : Int} {r : List Int} (h : ¬ (w ≤ v ∧ p ≤ x)) : upV (v :: p :: w :: r) x = x :: v :: p :: w :: r := by rw [upV, if_neg h]
theorem upV_one (v x : Int) : upV [v] x = [x, v] := by rw [upV]; intro _ _ _ _ e; simp at e
theorem upV_two (v p x : Int) : upV [v, p] x = [x, v, p] := by rw [upV]; intro _ _ _ _ e; simp at e
theorem ired_upV : ∀ (n : Nat) (V : List Int) (v x : Int) (r : List Int), V.length ≤ n → V = v :: r → RedR V → Valley V → v < x → ired (x :: V) = upV V x := by
  intro n
  induction n with
  | zero => intro V v x r hn e; subst e; simp at hn
  | succ n ih =>
    intro V v x r hn e hr hv hx
    subst e
    match r, hn, hr, hv with
    | [], _, _, _ => rw [upV_one, ired_no (rs := [x, v]) rfl]
    | [p], _, _, _ => rw [upV_two, ired_no (rs := [x, v, p]) rfl]
    | p :: w :: r, hn, hr, hv =>
      have hvp : v < p := hv
      have alt := red_alt hr
      have hi := inn_up (w := w) (p := p) (v := v) (x := x) (by omega) hvp hx
      by_cases h : w ≤ v ∧ p ≤ x
      · rw [upV_yes h, ired_yes (by rw [hi, decide_eq_true h.1, decide_eq_true h.2]; rfl)]
        refine ih (w :: r) w x r (by simp at hn ⊢; omega) rfl hr.tail.tail ?_ (by omega)
        cases r with
        | nil => trivial
        | cons q r =>
          have := red_alt hr.tail
          show w < q
          omega
      · rw [upV_no h]
        refine ired_no (show inn w p v x = false from ?_)
        rw [hi]
        by_cases h1 : w ≤ v
        · rw [decide_eq_false (fun z => h ⟨h1, z⟩), Bool.and_false]
        · rw [decide_eq_false h1, Bool.false_and]
/-- what is left ahead of x when the swell climbs to b, and then to d -/
theorem upV_mono : ∀ (n : Nat) (V : List Int) (v b d : Int) (r : List Int), V.length ≤ n → V = v :: r → ResOk V → Valley V → v < b → b ≤ d →
    ∃ (v' : Int) (r' : List Int), upV V b = b :: v' :: r' ∧ v' ≤ v ∧ ResOk (v' :: r') ∧ Valley (v' :: r') ∧ upV V d = upV (v' :: r') d := by
  intro n
  induction n with
  | zero => intro V v b d r hn e; subst e; simp at hn
  | succ n ih =>
    intro V v b d r hn e hr hv hb hd
    subst e
    match r, hn, hr, hv with
    | [], _, hr, hv => exact ⟨v, [], upV_one v b, Int.le_refl _, hr, hv, rfl⟩
    | [p], _, hr, hv => exact ⟨v, [p], upV_two v p b, Int.le_refl _, hr, hv, rfl⟩
    | p :: w :: r, hn, hr, hv =>
      by_cases h : w ≤ v ∧ p ≤ b
      · have hw : Valley (w :: r) := by
          have hvp : v < p := hv
          have a1 := red_alt hr.red
          cases r with
          | nil => trivial
          | cons q r =>
            have := red_alt hr.red.tail
            show w < q
            omega
        obtain ⟨v', r', e1, e2, e3, e4, e5⟩ := ih (w :: r) w b d r (by simp at hn ⊢; omega) rfl hr.tail.tail hw (by omega) hd
        exact ⟨v', r', by rw [upV_yes h]; exact e1, by omega, e3, e4, by rw [upV_yes ⟨h.1, by omega⟩]; exact e5⟩
      · exact ⟨v, p :: w :: r, upV_no h, Int.le_refl _, hr, hv, rfl⟩
theorem valley_no {v : Int} {r : List Int} (h : Valley (v :: r)) : ∀ x, v < x → rstep (v :: r) x = x :: v :: r := by
  intro x hx
  cases r with
  | nil =>
    have : ¬ v = x := by omega
    simp [rstep, this]
  | cons p r =>
    have h1 : v < p := h
    have h2 : ¬ v = x := by omega
    have h3 : btw v p x = false := by
      cases hq : btw v p x with
      | false => rfl
      | true => have := btw_iff.mp hq; omega
    simp [rstep, h2, h3]
/-- a step up from a state: the valley below it, and what climbing leaves -/
theorem step_up {a x : Int} {r : List Int} (h : ResOk (a :: r)) (hx : a < x) : ∃ (v : Int) (q : List Int), v ≤ a ∧ ResOk (v :: q) ∧ Valley (v :: q) ∧ ∀ y, a < y → qstep (a :: r) y = upV (v :: q) y := by
  cases r with
  | nil =>
    refine ⟨a, [], Int.le_refl _, h, trivial, fun y hy => ?_⟩
    unfold qstep
    rw [valley_no (v := a) (r := []) trivial y hy]
    exact ired_upV _ [a] a y [] (Nat.le_refl _) rfl h.red trivial hy
  | cons p r =>
    have hap := red_two h.red
    by_cases hp : p < a
    · refine ⟨p, r, by omega, h.tail, ?_, fun y hy => ?_⟩
      · cases r with
        | nil => trivial
        | cons q r =>
          have := red_alt h.red
          show p < q
          omega
      · have e : rstep (a :: p :: r) y = y :: p :: r := by
          have h1 : ¬ a = y := by omega
          have h2 : btw a p y = true := btw_iff.mpr (by omega)
          simp [rstep, h1, h2]
        unfold qstep
        rw [e]
        refine ired_upV _ (p :: r) p y r (Nat.le_refl _) rfl h.tail.red ?_ (by omega)
        cases r with
        | nil => trivial
        | cons q r =>
          have := red_alt h.red
          show p < q
          omega
    · have hv : Valley (a :: p :: r) := show a < p by omega
      refine ⟨a, p :: r, Int.le_refl _, h, hv, fun y hy => ?_⟩
      unfold qstep
      rw [valley_no hv y hy]
      exact ired_upV _ (a :: p :: r) a y (p :: r) (Nat.le_refl _) rfl h.red hv hy
theorem qstep_same {a : Int} {r : List Int} (h : ResOk (a :: r)) : qstep (a :: r) a = a :: r := by
  unfold qstep
  rw [rstep_same, ired_fix h.no]
/-- up: one put in on the way -/
theorem one_up {a b d : Int} {r : List Int} (h : ResOk (a :: r)) (h1 : a ≤ b) (h2 : b ≤ d) : qstep (qstep (a :: r) b) d = qstep (a :: r) d := by
  by_cases e : a = b
  · subst e
    rw [qstep_same h]
  · by_cases e2 : b = d
    · subst e2
      obtain ⟨q, hq⟩ := qstep_head (x := b) h
      have := qstep_ok (x := b) h
      rw [hq] at this ⊢
      exact qstep_same this
    · obtain ⟨v, q, hv, ho, hV, hs⟩ := step_up h (show a < b by omega)
      obtain ⟨v', r', g1, g2, g3, g4, g5⟩ := upV_mono _ (v :: q) v b d q (Nat.le_refl _) rfl ho hV (by omega) h2
      rw [hs b (by omega), hs d (by omega), g1, g5]
      have e3 : rstep (b :: v' :: r') d = d :: v' :: r' := by
        have k1 : ¬ b = d := e2
        have k2 : btw b v' d = true := btw_iff.mpr (by omega)
        simp [rstep, k1, k2]
      unfold qstep
      rw [e3]
      exact ired_upV _ (v' :: r') v' d r' (Nat.le_refl _) rfl g3.red g4 (by omega)
/-- up: a swing put in on the way -/
theorem two_up {a b c d : Int} {r : List Int} (h : ResOk (a :: r)) (h1 : a ≤ c) (h2 : c ≤ b) (h3 : b ≤ d) : qstep (qstep (qstep (a :: r) b) c) d = qstep (a :: r) d := by
  by_cases e : c = b
  · subst e
    obtain ⟨q, hq⟩ := qstep_head (x := c) h
    have h4 := qstep_ok (x := c) h
    have h5 : qstep (qstep (a :: r) c) c = qstep (a :: r) c := by
      rw [hq] at h4 ⊢
      exact qstep_same h4
    rw [h5]
    exact one_up h h1 h3
  · obtain ⟨v, q, hv, ho, hV, hs⟩ := step_up h (show a < b by omega)
    obtain ⟨v', r', g1, g2, g3, g4, g5⟩ := upV_mono _ (v :: q) v b d q (Nat.le_refl _) rfl ho hV (by omega) h3
    rw [hs b (by omega), hs d (by omega), g1, g5]
    have e3 : rstep (b :: v' :: r') c = c :: b :: v' :: r' := by
      have k1 : ¬ b = c := fun z => e z.symm
      have k2 : btw b v' c = false := by
        cases hq : btw b v' c with
        | false => rfl
        | true => have := btw_iff.mp hq; omega
      simp [rstep, k1, k2]
    have fin : ∀ S : List Int, S = c :: b :: v' :: r' → qstep S d = upV (v' :: r') d := fun S hS => by
      subst hS
      have k1 : ¬ c = d := by omega
      have k2 : btw c b d = false := by
        cases hq : btw c b d with
        | false => rfl
        | true => have := btw_iff.mp hq; omega
      unfold qstep
      rw [show rstep (c :: b :: v' :: r') d = d :: c :: b :: v' :: r' by simp [rstep, k1, k2], ired_yes (by rw [inn_up (by omega) (by omega) (by omega), decide_eq_true (show v' ≤ c by omega), decide_eq_true h3]; rfl)]
      exact ired_upV _ (v' :: r') v' d r' (Nat.le_refl _) rfl g3.red g4 (by omega)
    have mid : qstep (b :: v' :: r') c = ired (c :: b :: v' :: r') := by unfold qstep; rw [e3]
    rw [mid]
    match r', g3, g4, fin with
    | [], g3, g4, fin =>
      rw [ired_no (rs := [c, b, v']) rfl]
      exact fin _ rfl
    | p' :: r', g3, g4, fin =>
      have hvp : v' < p' := g4
      cases hi : inn p' v' b c with
      | false =>
        rw [ired_no (show innR (c :: b :: v' :: p' :: r') = false from hi)]
        exact fin _ rfl
      | true =>
        rw [ired_yes hi]
        have hc : v' = c := by
          unfold inn at hi
          simp only [Bool.and_eq_true, decide_eq_true_eq] at hi
          have q1 := hi.1.1
          split at q1 <;> omega
        subst hc
        rw [ired_fix g3.no]
        unfold qstep
        rw [valley_no g4 d (by omega)]
        exact ired_upV _ (v' :: p' :: r') v' d (p' :: r') (Nat.le_refl _) rfl g3.red g4 (by omega)
/-! ### the same upside down -/
def negL (rs : List Int) : List Int := rs.map fun x => -x
theorem btw_neg (b a c : Int) : btw (-b) (-a) (-c) = btw b a c := by
  rw [Bool.eq_iff_iff, btw_iff, btw_iff]
  omega
theorem inn_neg (a b c d : Int) : inn (-a) (-b) (-c) (-d) = inn a b c d := by
  rw [Bool.eq_iff_iff]
  unfold inn
  simp only [Bool.and_eq_true, decide_eq_true_eq]
  constructor <;> (rintro ⟨⟨q1, q2⟩, q3, q4⟩; refine ⟨⟨?_, ?_⟩, ?_, ?_⟩ <;> (split at q1 <;> split at q2 <;> split <;> omega))
theorem rstep_neg (rs : List Int) (x : Int) : rstep (negL rs) (-x) = negL (rstep rs x) := by
  match rs with
  | [] => rfl
  | [l] =>
    show (if -l = -x then [-l] else [-x, -l]) = negL (if l = x then [l] else [x, l])
    by_cases h : l = x
    · rw [if_pos h, if_pos (by omega)]; rfl
    · rw [if_neg h, if_neg (by omega)]; rfl
  | l :: p :: r =>
    show (if -l = -x then -l :: -p :: negL r else if btw (-l) (-p) (-x) = true then -x :: -p :: negL r else -x :: -l :: -p :: negL r) = negL (if l = x then l :: p :: r else if btw l p x = true then x :: p :: r else x :: l :: p :: r)
    rw [btw_neg]
    by_cases h : l = x
    · rw [if_pos h, if_pos (by omega)]; rfl
    · rw [if_neg h, if_neg (by omega)]
      split <;> rfl
theorem ired_neg : ∀ (n : Nat) (rs : List Int), rs.length ≤ n → ired (negL rs) = negL (ired rs) := by
  intro n
  induction n with
  | zero =>
    intro rs hn
    have : rs = [] := List.length_eq_zero_iff.mp (by omega)
    subst this
    show ired [] = negL (ired [])
    rw [ired_no (rs := []) rfl]
    rfl
  | succ n ih =>
    intro rs hn
    match rs, hn with
    | [], _ => show ired [] = negL (ired []); rw [ired_no (rs := []) rfl]; rfl
    | [a], _ => show ired [-a] = negL (ired [a]); rw [ired_no (rs := [-a]) rfl, ired_no (rs := [a]) rfl]; rfl
    | [a, b], _ => show ired [-a, -b] = negL (ired [a, b]); rw [ired_no (rs := [-a, -b]) rfl, ired_no (rs := [a, b]) rfl]; rfl
    | [a, b, c], _ => show ired [-a, -b, -c] = negL (ired [a, b, c]); rw [ired_no (rs := [-a, -b, -c]) rfl, ired_no (rs := [a, b, c]) rfl]; rfl
    | d :: c :: b :: a :: r, hn =>
      show ired (-d :: -c :: -b :: -a :: negL r) = _
      cases hi : inn a b c d with
      | true =>
        rw [ired_yes hi, ired_yes (by rw [inn_neg]; exact hi)]
        exact ih (d :: a :: r) (by simp at hn ⊢; omega)
      | false =>
        rw [ired_no (show innR (d :: c :: b :: a :: r) = false from hi), ired_no (show innR (-d :: -c :: -b :: -a :: negL r) = false by show inn (-a) (-b) (-c) (-d) = false; rw [inn_neg]; exact hi)]
        rfl
theorem qstep_neg (rs : List Int) (x : Int) : qstep (negL rs) (-x) = negL (qstep rs x) := by
  unfold qstep
  rw [rstep_neg, ired_neg _ _ (Nat.le_refl _)]
theorem negL_inj {a b : List Int} (h : negL a = negL b) : a = b := by
  have e : ∀ l : List Int, negL (negL l) = l := by
    intro l
    induction l with
    | nil => rfl
    | cons q r ih => show - -q :: negL (negL r) = q :: r; rw [ih, Int.neg_neg]
  rw [← e a, h, e b]
theorem red_neg : ∀ rs : List Int, RedR rs → RedR (negL rs)
  | [], _ => trivial
  | [_], _ => trivial
  | [x, y], h => by
    have : x ≠ y := h
    exact fun e => this (Int.neg_inj.mp e)
  | x :: y :: z :: r, h => by
    have h1 : x ≠ y ∧ btw y z x = false ∧ RedR (y :: z :: r) := h
    refine ⟨fun e => h1.1 (Int.neg_inj.mp e), by rw [btw_neg]; exact h1.2.1, red_neg (y :: z :: r) h1.2.2⟩
theorem noinn_neg : ∀ rs : List Int, NoInn rs → NoInn (negL rs)
  | [], _ => trivial
  | [_], _ => trivial
  | [_, _], _ => trivial
  | [_, _, _], _ => trivial
  | d :: c :: b :: a :: r, h => ⟨by rw [inn_neg]; exact h.1, noinn_neg (c :: b :: a :: r) h.2⟩
theorem ResOk.neg {rs : List Int} (h : ResOk rs) : ResOk (negL rs) := ⟨red_neg _ h.red, noinn_neg _ h.no⟩
theorem one_in {a b d : Int} {r : List Int} (h : ResOk (a :: r)) (hb : (a ≤ b ∧ b ≤ d) ∨ (d ≤ b ∧ b ≤ a)) : qstep (qstep (a :: r) b) d = qstep (a :: r) d := by
  rcases hb with hb | hb
  · exact one_up h hb.1 hb.2
  · refine negL_inj ?_
    rw [← qstep_neg, ← qstep_neg, ← qstep_neg]
    exact one_up (a := -a) (r := negL r) h.neg (by omega) (by omega)
theorem two_in {a b c d : Int} {r : List Int} (h : ResOk (a :: r)) (hb : (a ≤ c ∧ c ≤ b ∧ b ≤ d) ∨ (d ≤ b ∧ b ≤ c ∧ c ≤ a)) : qstep (qstep (qstep (a :: r) b) c) d = qstep (a :: r) d := by
  rcases hb with hb | hb
  · exact two_up h hb.1 hb.2.1 hb.2.2
  · refine negL_inj ?_
    rw [← qstep_neg, ← qstep_neg, ← qstep_neg, ← qstep_neg]
    exact two_up (a := -a) (r := negL r) h.neg (by omega) (by omega) (by omega)
/-- in a history: between a and d -/
theorem res_one (s u v : List Int) {a b d : Int} (h : ResOk s) (hb : (a ≤ b ∧ b ≤ d) ∨ (d ≤ b ∧ b ≤ a)) : resR s (u ++ a :: b :: d :: v) = resR s (u ++ a :: d :: v) := by
  rw [resR_app, resR_app]
  show resR (qstep (qstep (qstep (resR s u) a) b) d) v = resR (qstep (qstep (resR s u) a) d) v
  have h1 := (resR_ok u s h).1
  obtain ⟨q, e⟩ := qstep_head (x := a) h1
  have h2 := qstep_ok (x := a) h1
  rw [e] at h2 ⊢
  rw [one_in h2 hb]
theorem res_two (s u v : List Int) {a b c d : Int} (h : ResOk s) (hb : (a ≤ c ∧ c ≤ b ∧ b ≤ d) ∨ (d ≤ b ∧ b ≤ c ∧ c ≤ a)) : resR s (u ++ a :: b :: c :: d :: v) = resR s (u ++ a :: d :: v) := by
  rw [resR_app, resR_app]
  show resR (qstep (qstep (qstep (qstep (resR s u) a) b) c) d) v = resR (qstep (qstep (resR s u) a) d) v
  have h1 := (resR_ok u s h).1
  obtain ⟨q, e⟩ := qstep_head (x := a) h1
  have h2 := qstep_ok (x := a) h1
  rw [e] at h2 ⊢
  rw [two_in h2 hb]
/-- the greatest and the least of all stay -/
theorem rstep_top {rs : List Int} {x y : Int} (h : y ∈ rs ∨ y = x) : (∃ z ∈ rstep rs x, y ≤ z) ∧ ∃ z ∈ rstep rs x, z ≤ y := by
  match rs, h with
  | [], h =>
    have : y = x := by simpa using h
    subst this
    exact ⟨⟨y, by simp [rstep], Int.le_refl _⟩, ⟨y, by simp [rstep], Int.le_refl _⟩⟩
  | [l], h =>
    have hm : y = l ∨ y = x := by simpa using h
    have : y ∈ rstep [l] x := by
      simp only [rstep]
      split
      · rename_i e; rcases hm with h | h <;> simp [h, e]
      · rcases hm with h | h <;> simp [h]
    exact ⟨⟨y, this, Int.le_refl _⟩, ⟨y, this, Int.le_refl _⟩⟩
  | l :: p :: r, h =>
    simp only [rstep]
    split
    · rename_i e
      have : y ∈ l :: p :: r := by
        rcases h with h | h
        · exact h
        · rw [h, e]; exact List.mem_cons_self ..
      exact ⟨⟨y, this, Int.le_refl _⟩, ⟨y, this, Int.le_refl _⟩⟩
    · split
      · rename_i hb
        have b := btw_iff.mp hb
        rcases h with h | h
        · rcases List.mem_cons.mp h with h | h
          · subst h
            refine ⟨?_, ?_⟩
            · by_cases q : y < x
              · exact ⟨x, List.mem_cons_self .., by omega⟩
              · exact ⟨p, List.mem_cons_of_mem _ (List.mem_cons_self ..), by omega⟩
            · by_cases q : y < x
              · exact ⟨p, List.mem_cons_of_mem _ (List.mem_cons_self ..), by omega⟩
              · exact ⟨x, List.mem_cons_self .., by omega⟩
          · exact ⟨⟨y, List.mem_cons_of_mem _ h, Int.le_refl _⟩, ⟨y, List.mem_cons_of_mem _ h, Int.le_refl _⟩⟩
        · subst h
          exact ⟨⟨y, List.mem_cons_self .., Int.le_refl _⟩, ⟨y, List.mem_cons_self .., Int.le_refl _⟩⟩
      · have : y ∈ x :: l :: p :: r := by
          rcases h with h | h
          · exact List.mem_cons_of_mem _ h
          · rw [h]; exact List.mem_cons_self ..
        exact ⟨⟨y, this, Int.le_refl _⟩, ⟨y, this, Int.le_refl _⟩⟩
theorem ired_top : ∀ (n : Nat) (rs : List Int) (y : Int), rs.length ≤ n → y ∈ rs → (∃ z ∈ ired rs, y ≤ z) ∧ ∃ z ∈ ired rs, z ≤ y := by
  intro n
  induction n with
  | zero =>
    intro rs y hn h
    have : rs = [] := List.length_eq_zero_iff.mp (by omega)
    subst this
    simp at h
  | succ n ih =>
    intro rs y hn h
    cases hi : innR rs with
    | false => rw [ired_no hi]; exact ⟨⟨y, h, Int.le_refl _⟩, ⟨y, h, Int.le_refl _⟩⟩
    | true =>
      match rs, hi with
      | d :: c :: b :: a :: r, hi =>
        have hi' : inn a b c d = true := hi
        rw [ired_yes hi']
        have up : ∀ z, z ∈ d :: a :: r → (∃ q ∈ ired (d :: a :: r), z ≤ q) ∧ ∃ q ∈ ired (d :: a :: r), q ≤ z := fun z hz => ih _ z (by simp at hn ⊢; omega) hz
        have ha := up a (by simp)
        have hd := up d (by simp)
        unfold inn at hi'
        simp only [Bool.and_eq_true, decide_eq_true_eq] at hi'
        have mid : ∀ z, (if d < a then d else a) ≤ z → z ≤ (if d > a then d else a) → (∃ q ∈ ired (d :: a :: r), z ≤ q) ∧ ∃ q ∈ ired (d :: a :: r), q ≤ z := fun z h1 h2 => by
          obtain ⟨⟨q1, m1, l1⟩, ⟨q2, m2, l2⟩⟩ := ha
          obtain ⟨⟨q3, m3, l3⟩, ⟨q4, m4, l4⟩⟩ := hd
          refine ⟨?_, ?_⟩
          · split at h2
            · exact ⟨q3, m3, by omega⟩
            · exact ⟨q1, m1, by omega⟩
          · split at h1
            · exact ⟨q4, m4, by omega⟩
            · exact ⟨q2, m2, by omega⟩
        simp only [List.mem_cons] at h
        rcases h with h | h | h | h | h
        · subst h; exact hd
        · subst h; exact mid y hi'.2.1 hi'.2.2
        · subst h; exact mid y hi'.1.1 hi'.1.2
        · subst h; exact ha
        · exact up y (by simp [h])
theorem resR_top : ∀ (xs rs : List Int) (y : Int), ResOk rs → y ∈ xs ∨ (∃ w ∈ rs, y ≤ w) → ∃ z ∈ resR rs xs, y ≤ z
  | [], rs, y, _, h => by
    rcases h with h | h
    · simp at h
    · exact h
  | x :: xs, rs, y, ho, h => by
    refine resR_top xs (qstep rs x) y (qstep_ok ho) ?_
    have go : ∀ w, w ∈ rs ∨ w = x → ∃ z ∈ qstep rs x, w ≤ z := fun w hw => by
      obtain ⟨⟨z, hz, l⟩, _⟩ := rstep_top hw
      obtain ⟨⟨z2, hz2, l2⟩, _⟩ := ired_top _ _ z (Nat.le_refl _) hz
      exact ⟨z2, hz2, by omega⟩
    rcases h with h | ⟨w, hw, l⟩
    · rcases List.mem_cons.mp h with h | h
      · right
        exact go y (.inr h)
      · exact .inl h
    · right
      obtain ⟨z, hz, l2⟩ := go w (.inl hw)
      exact ⟨z, hz, by omega⟩
theorem resR_low : ∀ (xs rs : List Int) (y : Int), ResOk rs → y ∈ xs ∨ (∃ w ∈ rs, w ≤ y) → ∃ z ∈ resR rs xs, z ≤ y
  | [], rs, y, _, h => by
    rcases h with h | h
    · simp at h
    · exact h
  | x :: xs, rs, y, ho, h => by
    refine resR_low xs (qstep rs x) y (qstep_ok ho) ?_
    have go : ∀ w, w ∈ rs ∨ w = x → ∃ z ∈ qstep rs x, z ≤ w := fun w hw => by
      obtain ⟨_, ⟨z, hz, l⟩⟩ := rstep_top hw
      obtain ⟨_, ⟨z2, hz2, l2⟩⟩ := ired_top _ _ z (Nat.le_refl _) hz
      exact ⟨z2, hz2, by omega⟩
    rcases h with h | ⟨w, hw, l⟩
    · rcases List.mem_cons.mp h with h | h
      · right
        exact go y (.inr h)
      · exact .inl h
    · right
      obtain ⟨z, hz, l2⟩ := go w (.inl hw)
      exact ⟨z, hz, by omega⟩
end My
/-! ### xs[lo:hi] = ys -/
namespace L2
open PySem PySem.Spec PyProof.Rows
def gSl (te : TE) (tl th : TO) : TG := fun v σ H Q => te σ H fun x H1 => tl σ H1 fun lo H2 => th σ H2 fun hi H3 => ∃ (l b : Addr) (xs ys : List V) (a c : Int), x = .ref l ∧ v = .ref b ∧ lo = some a ∧ hi = some c ∧ H3 l = some (.lst xs) ∧ H3 b = some (.lst ys) ∧ l ≠ b ∧ 0 ≤ a ∧ a ≤ c ∧ c ≤ xs.length ∧ xs.length + ys.length ≤ sizeLine ∧ Q σ (upd H3 l (.lst (xs.take a.toNat ++ ys ++ xs.drop c.toNat)))
section
variable {X : Cx} {o : Expr} {te : TE} {lo hi : Option Expr} {tl th : TO} {pos p2 : Pos}
theorem isPart_int {v : Value} {i : Int} (h : IsPart v (some i)) : RelV (.int i) v := by
  cases h with
  | int _ t => exact ⟨t, rfl⟩
theorem pg_subSl (ho : PE X o te) (hl : PO X lo tl) (hu : PO X hi th)
    (ha : ∀ v, assign (.Subscript o (.Slice lo hi none p2) pos) X.env v = (do
      let ov ← holding [v] (eval o X.env)
      let iv ← holding [v, ov] (eval (.Slice lo hi none p2) X.env)
      standAt pos
      holding [v, ov, iv] (setItem ov iv v)
      release [iv, v, ov] []) := by intro _; rfl) : PG X (.Subscript o (.Slice lo hi none p2) pos) (gSl te tl th) := by
  refine ⟨fun pins s σ H v u Q I r h => ?_⟩
  rw [ha]
  refine wpAny_bind (wpAny_holding (thn (ho.run pins s σ H _ I h) fun ov s1 ⟨x, H1, I1, r1, q1⟩ => ?_))
  refine wpAny_bind (wpAny_holding ?_)
  refine wpAny_Slice (thn (hl.run pins s1 σ H1 _ I1 q1) fun vl s2 ⟨l, H2, I2, pl, q2⟩ => thn (hu.run pins s2 σ H2 _ I2 q2) fun vu s3 ⟨u', H3, I3, pu, q3⟩ => ?_)
  rw [evalPart_none]
  refine wpAny_pure ?_
  have I4 : Inv X pins σ H3 { s3 with heap := s3.heap.push { cls := .type "slice", data := .fields #[vl, vu, .none] } } := I3.kept (t' := s3.toks) fun b ob q => Heap.get?_push_of_some _ q
  obtain ⟨a, b, xs, ys, i, j, ex, ev, el, eu, hH, hB, hne, h0, hij, hj, hz, q4⟩ := q3
  subst ex
  subst ev
  subst el
  subst eu
  cases (show ov = Value.ref a from r1)
  cases (show u = Value.ref b from r)
  refine wpAny_bind (wpAny_standAt (wpAny_bind (wpAny_holding ?_)))
  refine set_slice I4 hH hB hne (Heap.IsSliceOf.new ..) (isPart_int pl) (isPart_int pu) h0 hij hj hz fun s5 I5 => ?_
  exact wpAny_release ⟨σ, _, I5, q4⟩
end
end L2
namespace My
open PySem PySem.Spec PyProof.Rows L2
theorem rstep_last {rs : List Int} {x a : Int} (h : rs.getLast? = some a) : (rstep rs x).getLast? = some a := by
  match rs, h with
  | [], h => simp at h
  | [l], h =>
    simp only [rstep]
    split
    · exact h
    · simpa using h
  | l :: p :: r, h =>
    have h' : (p :: r).getLast? = some a := by rw [List.getLast?_cons_cons] at h; exact h
    simp only [rstep]
    split
    · exact h
    · split
      · rw [List.getLast?_cons_cons]; exact h'
      · rw [List.getLast?_cons_cons]; exact h
theorem ired_last : ∀ (n : Nat) (rs : List Int) (a : Int), rs.length ≤ n → rs.getLast? = some a → (ired rs).getLast? = some a := by
  intro n
  induction n with
  | zero =>
    intro rs a hn h
    have : rs = [] := List.length_eq_zero_iff.mp (by omega)
    subst this
    simp at h
  | succ n ih =>
    intro rs a hn h
    cases hi : innR rs with
    | false => rw [ired_no hi]; exact h
    | true =>
      match rs, hi with
      | d :: c :: b :: e :: r, hi =>
        rw [ired_yes (show inn e b c d = true from hi)]
        refine ih _ a (by simp at hn ⊢; omega) ?_
        rw [List.getLast?_cons_cons] at h ⊢
        rw [List.getLast?_cons_cons, List.getLast?_cons_cons] at h
        exact h
theorem resR_last : ∀ (xs rs : List Int) (a : Int), rs.getLast? = some a → (resR rs xs).getLast? = some a
  | [], _, _, h => h
  | x :: xs, rs, a, h => resR_last xs (qstep rs x) a (ired_last _ _ _ (Nat.le_refl _) (rstep_last h))
theorem resOf_head (f : Int) (xs : List Int) : ∃ r, resOf (f :: xs) = f :: r := by
  have h : (resR (qstep [] f) xs).getLast? = some f := resR_last xs _ f (by
    have : qstep [] f = [f] := by unfold qstep; rw [show rstep [] f = [f] from rfl, ired_no (rs := [f]) rfl]
    rw [this]; rfl)
  unfold resOf
  show ∃ r, (resR (qstep [] f) xs).reverse = f :: r
  cases hz : (resR (qstep [] f) xs).reverse with
  | nil =>
    have h2 := List.reverse_eq_nil_iff.mp hz
    rw [h2] at h
    simp at h
  | cons y r =>
    refine ⟨r, ?_⟩
    have h3 : (resR (qstep [] f) xs).reverse.head? = some f := by rw [List.head?_reverse]; exact h
    rw [hz] at h3
    simp at h3
    rw [h3]
theorem dl_cons {x : Int} {r : List Int} (h : r ≠ []) : (x :: r).dropLast = x :: r.dropLast := by
  cases r with
  | nil => exact absurd rfl h
  | cons _ _ => rfl
theorem rstep_dl {rs : List Int} {x y : Int} (hne : rs ≠ []) (h : y ∈ (rstep rs x).dropLast) : y = x ∨ y ∈ rs.dropLast := by
  match rs, hne, h with
  | [l], _, h =>
    simp only [rstep] at h
    split at h
    · simp at h
    · simp at h; exact .inl h
  | l :: p :: r, _, h =>
    simp only [rstep] at h
    split at h
    · exact .inr h
    · split at h
      · rw [dl_cons (by simp)] at h
        rcases List.mem_cons.mp h with h | h
        · exact .inl h
        · right
          rw [dl_cons (by simp)]
          exact List.mem_cons_of_mem _ h
      · rw [dl_cons (by simp)] at h
        rcases List.mem_cons.mp h with h | h
        · exact .inl h
        · exact .inr h
theorem ired_dl : ∀ (n : Nat) (rs : List Int) (y : Int), rs.length ≤ n → y ∈ (ired rs).dropLast → y ∈ rs.dropLast := by
  intro n
  induction n with
  | zero =>
    intro rs y hn h
    have : rs = [] := List.length_eq_zero_iff.mp (by omega)
    subst this
    rw [ired_no (rs := []) rfl] at h
    exact h
  | succ n ih =>
    intro rs y hn h
    cases hi : innR rs with
    | false => rw [ired_no hi] at h; exact h
    | true =>
      match rs, hi with
      | d :: c :: b :: e :: r, hi =>
        rw [ired_yes (show inn e b c d = true from hi)] at h
        have h2 := ih _ y (by simp at hn ⊢; omega) h
        rw [dl_cons (by simp)] at h2
        rw [dl_cons (by simp), dl_cons (by simp), dl_cons (by simp)]
        rcases List.mem_cons.mp h2 with h3 | h3
        · rw [h3]; exact List.mem_cons_self ..
        · exact List.mem_cons_of_mem _ (List.mem_cons_of_mem _ (List.mem_cons_of_mem _ h3))
theorem rstep_ne (rs : List Int) (x : Int) : rstep rs x ≠ [] := by
  obtain ⟨r, e⟩ := rstep_head rs x
  rw [e]
  simp
theorem resR_dl : ∀ (xs rs : List Int) (y : Int), ResOk rs → rs ≠ [] → y ∈ (resR rs xs).dropLast → y ∈ xs ∨ y ∈ rs.dropLast
  | [], _, _, _, _, h => .inr h
  | x :: xs, rs, y, ho, hne, h => by
    obtain ⟨r, e⟩ := qstep_head (x := x) ho
    rcases resR_dl xs (qstep rs x) y (qstep_ok ho) (by rw [e]; simp) h with g | g
    · exact .inl (List.mem_cons_of_mem _ g)
    · rcases rstep_dl hne (ired_dl _ _ y (Nat.le_refl _) g) with g | g
      · exact .inl (by rw [g]; exact List.mem_cons_self ..)
      · exact .inr g
theorem resR_one (f : Int) (xs : List Int) : resR [] (f :: xs) = resR [f] xs := by
  show resR (qstep [] f) xs = _
  unfold qstep
  rw [show rstep [] f = [f] from rfl, ired_no (rs := [f]) rfl]
theorem head_mem {f : Int} {xs r : List Int} (e : resOf (f :: xs) = f :: r) : ∀ x ∈ r, x ∈ xs := fun x hx => by
  have e2 : (resR [f] xs).reverse = f :: r := by rw [← e, ← resR_one]; rfl
  have e3 : resR [f] xs = r.reverse ++ [f] := by rw [← List.reverse_reverse (resR [f] xs), e2, List.reverse_cons]
  have hx2 : x ∈ (resR [f] xs).dropLast := by rw [e3, List.dropLast_concat]; exact List.mem_reverse.mpr hx
  rcases resR_dl xs [f] x ⟨trivial, trivial⟩ (by simp) hx2 with h | h
  · exact h
  · simp at h
/-- what the far one put ahead leaves: alone what the history has, its last one last -/
theorem far_cases {f : Option Bool} {xs fs : List Int} (h : AheadR f xs fs) : fs = [] ∨ ∃ g, fs = [g] ∧ (∀ y ∈ xs, y ≠ g) ∧ ((f = some true ∧ ∀ y ∈ xs, g < y) ∨ (f = some false ∧ ∀ y ∈ xs, y < g)) := by
  rcases h with ⟨_, h⟩ | ⟨b, m, hf, _, _, h⟩
  · exact .inl h
  · right
    rcases h with ⟨rfl, h, e⟩ | ⟨rfl, h, e⟩
    · exact ⟨_, e, fun y hy => by have := h y hy; omega, .inl ⟨hf, fun y hy => by have := h y hy; omega⟩⟩
    · exact ⟨_, e, fun y hy => by have := h y hy; omega, .inr ⟨hf, fun y hy => by have := h y hy; omega⟩⟩
theorem due_mem {f : Option Bool} {xs fs : List Int} (h : AheadR f xs fs) : ∀ y ∈ (resOf (fs ++ xs)).drop fs.length, y ∈ xs := by
  rcases far_cases h with rfl | ⟨g, rfl, _⟩
  · exact fun y hy => resOf_mem (xs := xs) hy
  · obtain ⟨r, e⟩ := resOf_head g xs
    show ∀ y ∈ (resOf (g :: xs)).drop 1, y ∈ xs
    rw [e]
    exact head_mem e
theorem due_keep {f : Option Bool} {xs fs : List Int} (h : AheadR f xs fs) {y : Int} (hy : y ∈ xs) (hm : y ∈ resOf (fs ++ xs)) : y ∈ (resOf (fs ++ xs)).drop fs.length := by
  rcases far_cases h with rfl | ⟨g, rfl, hg, _⟩
  · exact hm
  · obtain ⟨r, e⟩ := resOf_head g xs
    show y ∈ (resOf (g :: xs)).drop 1
    have hm2 : y ∈ resOf (g :: xs) := hm
    rw [e] at hm2 ⊢
    rcases List.mem_cons.mp hm2 with h | h
    · exact absurd h (hg y hy)
    · exact h
theorem due_last {f : Option Bool} {xs fs : List Int} {z : Int} (h : AheadR f (xs ++ [z]) fs) : ∃ w, (resOf (fs ++ (xs ++ [z]))).drop fs.length = w ++ [z] := by
  obtain ⟨r, e⟩ := qstep_head (rs := resR [] (fs ++ xs)) (x := z) (resR_ok (fs ++ xs) [] nil_ok).1
  have e2 : resOf (fs ++ (xs ++ [z])) = r.reverse ++ [z] := by
    unfold resOf
    rw [← List.append_assoc, resR_app]
    show (qstep (resR [] (fs ++ xs)) z).reverse = _
    rw [e, List.reverse_cons]
  rcases far_cases h with rfl | ⟨g, rfl, hg, _⟩
  · exact ⟨_, e2⟩
  · obtain ⟨r2, e3⟩ := resOf_head g (xs ++ [z])
    have e4 : g :: r2 = r.reverse ++ [z] := by rw [← e3, ← e2]; rfl
    cases hr : r.reverse with
    | nil =>
      rw [hr] at e4
      simp at e4
      exact absurd e4.1.symm (hg z (by simp))
    | cons a w =>
      refine ⟨w, ?_⟩
      rw [e2, hr]
      rfl
theorem due_top {f : Option Bool} {xs fs : List Int} {m : Int} (h : AheadR f xs fs) (hf : f ≠ some false) (hm : m ∈ xs) (hle : ∀ y ∈ xs, y ≤ m) : m ∈ (resOf (fs ++ xs)).drop fs.length := by
  obtain ⟨z, hz, hmz⟩ := resR_top (fs ++ xs) [] m nil_ok (.inl (List.mem_append_right _ hm))
  have hz2 : z ∈ resOf (fs ++ xs) := List.mem_reverse.mpr hz
  have hz3 := resOf_mem hz2
  refine due_keep h hm ?_
  have : z = m := by
    rcases List.mem_append.mp hz3 with g | g
    · rcases far_cases h with rfl | ⟨k, rfl, _, ⟨_, hk⟩ | ⟨hk, _⟩⟩
      · simp at g
      · have := List.mem_singleton.mp g
        have := hk m hm
        omega
      · exact absurd hk hf
    · have := hle z g
      omega
  rw [← this]
  exact hz2
theorem due_low {f : Option Bool} {xs fs : List Int} {m : Int} (h : AheadR f xs fs) (hf : f ≠ some true) (hm : m ∈ xs) (hle : ∀ y ∈ xs, m ≤ y) : m ∈ (resOf (fs ++ xs)).drop fs.length := by
  obtain ⟨z, hz, hmz⟩ := resR_low (fs ++ xs) [] m nil_ok (.inl (List.mem_append_right _ hm))
  have hz2 : z ∈ resOf (fs ++ xs) := List.mem_reverse.mpr hz
  have hz3 := resOf_mem hz2
  refine due_keep h hm ?_
  have : z = m := by
    rcases List.mem_append.mp hz3 with g | g
    · rcases far_cases h with rfl | ⟨k, rfl, _, ⟨hk, _⟩ | ⟨_, hk⟩⟩
      · simp at g
      · exact absurd hk hf
      · have := List.mem_singleton.mp g
        have := hk m hm
        omega
    · have := hle z g
      omega
  rw [← this]
  exact hz2
end My
/-! ### histories that leave the same behind whatever came -/
namespace My
open PySem PySem.Spec PyProof.Rows L2
def Same (xs ys : List Int) : Prop := ∀ s, ResOk s → resR s xs = resR s ys
theorem same_refl (xs : List Int) : Same xs xs := fun _ _ => rfl
theorem Same.trans {a b c : List Int} (h : Same a b) (g : Same b c) : Same a c := fun s hs => (h s hs).trans (g s hs)
theorem Same.symm {a b : List Int} (h : Same a b) : Same b a := fun s hs => (h s hs).symm
theorem Same.app {a b c d : List Int} (h : Same a b) (g : Same c d) : Same (a ++ c) (b ++ d) := fun s hs => by
  rw [resR_app, resR_app, h s hs, g _ (resR_ok b s hs).1]
theorem same_dup (a : Int) : Same [a, a] [a] := fun s hs => by
  obtain ⟨r, e⟩ := qstep_head (rs := s) (x := a) hs
  show qstep (qstep s a) a = qstep s a
  rw [e]
  exact qstep_same (by rw [← e]; exact qstep_ok hs)
theorem same_one {a b d : Int} (hb : (a ≤ b ∧ b ≤ d) ∨ (d ≤ b ∧ b ≤ a)) : Same [a, b, d] [a, d] := fun s hs => res_one s [] [] hs hb
theorem same_two {a b c d : Int} (hb : (a ≤ c ∧ c ≤ b ∧ b ≤ d) ∨ (d ≤ b ∧ b ≤ c ∧ c ≤ a)) : Same [a, b, c, d] [a, d] := fun s hs => res_two s [] [] hs hb
theorem same_inn {a b c d : Int} (h : inn a b c d = true) : Same [a, b, c, d] [a, d] := by
  have hb : (a ≤ b ∧ b ≤ d ∧ a ≤ c ∧ c ≤ d) ∨ (d ≤ b ∧ b ≤ a ∧ d ≤ c ∧ c ≤ a) := by
    unfold inn at h
    simp only [Bool.and_eq_true, decide_eq_true_eq] at h
    obtain ⟨⟨h1, h2⟩, h3, h4⟩ := h
    split at h1 <;> split at h2 <;> split at h3 <;> split at h4 <;> omega
  by_cases hc : (a ≤ b ∧ b ≤ c) ∨ (c ≤ b ∧ b ≤ a)
  · have h1 : Same ([a, b, c] ++ [d]) ([a, c] ++ [d]) := (same_one hc).app (same_refl [d])
    exact h1.trans (same_one (by omega))
  · exact same_two (by omega)
theorem Same.mid {a b : List Int} (h : Same a b) (u v : List Int) : Same (u ++ a ++ v) (u ++ b ++ v) := ((same_refl u).app h).app (same_refl v)
theorem same_rstep (rs : List Int) (x : Int) : Same (rstep rs x).reverse (rs.reverse ++ [x]) := by
  match rs with
  | [] => exact same_refl _
  | [l] =>
    simp only [rstep]
    split
    · rename_i e
      subst e
      exact (same_dup l).symm
    · exact same_refl _
  | l :: p :: r =>
    simp only [rstep]
    split
    · rename_i e
      subst e
      have := (same_dup l).symm.mid (r.reverse ++ [p]) []
      simpa using this
    · split
      · rename_i hb
        have h := btw_iff.mp hb
        have := (same_one (a := p) (b := l) (d := x) (by omega)).symm.mid r.reverse []
        simpa using this
      · simpa using same_refl _
theorem same_ired : ∀ (n : Nat) (rs : List Int), rs.length ≤ n → Same (ired rs).reverse rs.reverse := by
  intro n
  induction n with
  | zero =>
    intro rs hn
    have : rs = [] := List.length_eq_zero_iff.mp (by omega)
    subst this
    rw [ired_no (rs := []) rfl]
    exact same_refl _
  | succ n ih =>
    intro rs hn
    cases hi : innR rs with
    | false => rw [ired_no hi]; exact same_refl _
    | true =>
      match rs, hi with
      | d :: c :: b :: a :: r, hi =>
        rw [ired_yes (show inn a b c d = true from hi)]
        refine (ih _ (by simp at hn ⊢; omega)).trans ?_
        have := (same_inn (show inn a b c d = true from hi)).symm.mid r.reverse []
        simpa using this
theorem same_qstep (rs : List Int) (x : Int) : Same (qstep rs x).reverse (rs.reverse ++ [x]) := (same_ired _ _ (Nat.le_refl _)).trans (same_rstep rs x)
theorem same_resR : ∀ (xs rs : List Int), Same (resR rs xs).reverse (rs.reverse ++ xs)
  | [], rs => by rw [List.append_nil]; exact same_refl rs.reverse
  | x :: xs, rs => by
    have h := (same_resR xs (qstep rs x)).trans ((same_qstep rs x).app (same_refl xs))
    rw [List.append_assoc] at h
    exact h
/-- what is left stands for the whole -/
theorem same_res (xs : List Int) : Same (resOf xs) xs := same_resR xs []
theorem wipe : ∀ (n : Nat) (ws : List Int) (a d : Int), ws.length ≤ n → ((∀ w ∈ ws, a ≤ w ∧ w ≤ d) ∨ (∀ w ∈ ws, d ≤ w ∧ w ≤ a)) → (ws = [] → True) → Same (a :: (ws ++ [d])) [a, d] := by
  intro n
  induction n with
  | zero =>
    intro ws a d hn _ _
    have : ws = [] := List.length_eq_zero_iff.mp (by omega)
    subst this
    exact same_refl _
  | succ n ih =>
    intro ws a d hn hw _
    cases ws with
    | nil => exact same_refl _
    | cons w0 ws0 =>
      -- the one farthest towards d, then the one farthest back behind it
      have pick : ∀ (l : List Int), l ≠ [] → (∃ m ∈ l, ∀ y ∈ l, y ≤ m) ∧ ∃ m ∈ l, ∀ y ∈ l, m ≤ y := by
        intro l
        induction l with
        | nil => exact fun h => absurd rfl h
        | cons x r ih =>
          intro _
          cases r with
          | nil => exact ⟨⟨x, by simp, by simp⟩, x, by simp, by simp⟩
          | cons y t =>
            obtain ⟨⟨m, hm, h1⟩, k, hk, h2⟩ := ih (by simp)
            refine ⟨?_, ?_⟩
            · by_cases h : m ≤ x
              · exact ⟨x, by simp, fun z hz => (List.mem_cons.mp hz).elim (fun e => by omega) fun e => by have := h1 z e; omega⟩
              · exact ⟨m, List.mem_cons_of_mem _ hm, fun z hz => (List.mem_cons.mp hz).elim (fun e => by omega) fun e => h1 z e⟩
            · by_cases h : x ≤ k
              · exact ⟨x, by simp, fun z hz => (List.mem_cons.mp hz).elim (fun e => by omega) fun e => by have := h2 z e; omega⟩
              · exact ⟨k, List.mem_cons_of_mem _ hk, fun z hz => (List.mem_cons.mp hz).elim (fun e => by omega) fun e => h2 z e⟩
      have core : ∀ (M : Int) (P Q : List Int), w0 :: ws0 = P ++ M :: Q → (((a ≤ M ∧ M ≤ d) ∧ (∀ y ∈ P ++ Q, a ≤ y ∧ y ≤ M)) ∨ ((d ≤ M ∧ M ≤ a) ∧ (∀ y ∈ P ++ Q, M ≤ y ∧ y ≤ a))) → Same (a :: (w0 :: ws0 ++ [d])) [a, d] := by
        intro M P Q e hM
        rw [e]
        have lPQ : P.length + Q.length ≤ n := by
          have := congrArg List.length e
          simp at this hn
          omega
        have s1 : Same (a :: (P ++ [M])) [a, M] := ih P a M (by omega) (by
          rcases hM with ⟨_, h⟩ | ⟨_, h⟩
          · exact .inl fun y hy => h y (List.mem_append_left _ hy)
          · exact .inr fun y hy => h y (List.mem_append_left _ hy)) fun _ => trivial
        have s2 : Same (a :: ((P ++ M :: Q) ++ [d])) (a :: M :: (Q ++ [d])) := by
          have := s1.mid [] (Q ++ [d])
          simpa using this
        refine s2.trans ?_
        cases hQ : Q with
        | nil => exact same_one (by omega)
        | cons q0 q1 =>
          have fin : ∀ (q : Int) (Q1 Q2 : List Int), Q = Q1 ++ q :: Q2 → (((a ≤ M ∧ M ≤ d) ∧ a ≤ q ∧ q ≤ M ∧ ∀ y ∈ Q1 ++ Q2, q ≤ y ∧ y ≤ M) ∨ ((d ≤ M ∧ M ≤ a) ∧ M ≤ q ∧ q ≤ a ∧ ∀ y ∈ Q1 ++ Q2, M ≤ y ∧ y ≤ q)) → Same (a :: M :: (q0 :: q1 ++ [d])) [a, d] := by
            intro q Q1 Q2 e2 hq
            have l2 : Q1.length + Q2.length + 1 = Q.length := by rw [e2]; simp; omega
            rw [← hQ, e2]
            have t1 : Same (M :: (Q1 ++ [q])) [M, q] := ih Q1 M q (by omega) (by
              rcases hq with ⟨_, _, _, h⟩ | ⟨_, _, _, h⟩
              · exact .inr fun y hy => h y (List.mem_append_left _ hy)
              · exact .inl fun y hy => h y (List.mem_append_left _ hy)) fun _ => trivial
            have t2 : Same (q :: (Q2 ++ [d])) [q, d] := ih Q2 q d (by omega) (by
              rcases hq with ⟨_, _, _, h⟩ | ⟨_, _, _, h⟩
              · exact .inl fun y hy => by have := h y (List.mem_append_right _ hy); omega
              · exact .inr fun y hy => by have := h y (List.mem_append_right _ hy); omega) fun _ => trivial
            have u1 : Same (a :: M :: ((Q1 ++ q :: Q2) ++ [d])) ([a, M] ++ q :: (Q2 ++ [d])) := by
              have := t1.mid [a] (Q2 ++ [d])
              simpa using this
            refine u1.trans ?_
            have u2 : Same ([a, M] ++ q :: (Q2 ++ [d])) [a, M, q, d] := by
              have := t2.mid [a, M] []
              simpa using this
            exact u2.trans (same_two (by omega))
          rcases hM with ⟨h0, h⟩ | ⟨h0, h⟩
          · obtain ⟨_, q, hq, hle⟩ := pick Q (by rw [hQ]; simp)
            obtain ⟨Q1, Q2, e2⟩ := List.append_of_mem hq
            have hqb := h q (List.mem_append_right _ hq)
            refine fin q Q1 Q2 e2 (.inl ⟨h0, hqb.1, hqb.2, fun y hy => ?_⟩)
            have hyQ : y ∈ Q := by rw [e2]; exact (List.mem_append.mp hy).elim (fun g => List.mem_append_left _ g) fun g => List.mem_append_right _ (List.mem_cons_of_mem _ g)
            exact ⟨hle y hyQ, (h y (List.mem_append_right _ hyQ)).2⟩
          · obtain ⟨⟨q, hq, hle⟩, _⟩ := pick Q (by rw [hQ]; simp)
            obtain ⟨Q1, Q2, e2⟩ := List.append_of_mem hq
            have hqb := h q (List.mem_append_right _ hq)
            refine fin q Q1 Q2 e2 (.inr ⟨h0, hqb.1, hqb.2, fun y hy => ?_⟩)
            have hyQ : y ∈ Q := by rw [e2]; exact (List.mem_append.mp hy).elim (fun g => List.mem_append_left _ g) fun g => List.mem_append_right _ (List.mem_cons_of_mem _ g)
            exact ⟨(h y (List.mem_append_right _ hyQ)).1, hle y hyQ⟩
      obtain ⟨⟨M, hM, hle⟩, m, hm, hge⟩ := pick (w0 :: ws0) (by simp)
      have back : ∀ (P Q : List Int) (x y : Int), w0 :: ws0 = P ++ x :: Q → y ∈ P ++ Q → y ∈ w0 :: ws0 := fun P Q x y e hy => by
        rw [e]
        rcases List.mem_append.mp hy with g | g
        · exact List.mem_append_left _ g
        · exact List.mem_append_right _ (List.mem_cons_of_mem _ g)
      rcases hw with hw | hw
      · obtain ⟨P, Q, e⟩ := List.append_of_mem hM
        exact core M P Q e (.inl ⟨hw M hM, fun y hy => ⟨(hw y (back P Q M y e hy)).1, hle y (back P Q M y e hy)⟩⟩)
      · obtain ⟨P, Q, e⟩ := List.append_of_mem hm
        exact core m P Q e (.inr ⟨hw m hm, fun y hy => ⟨hge y (back P Q m y e hy), (hw y (back P Q m y e hy)).2⟩⟩)
theorem wiped {ws : List Int} {a d : Int} (h : (∀ w ∈ ws, a ≤ w ∧ w ≤ d) ∨ (∀ w ∈ ws, d ≤ w ∧ w ≤ a)) : Same (a :: (ws ++ [d])) [a, d] := wipe _ ws a d (Nat.le_refl _) h fun _ => trivial
theorem same_resOf {a b : List Int} (h : Same a b) : resOf a = resOf b := by
  unfold resOf
  rw [h [] nil_ok]
theorem ends_of : ∀ (l : List Int), l ≠ [] → (∃ m ∈ l, ∀ y ∈ l, y ≤ m) ∧ ∃ m ∈ l, ∀ y ∈ l, m ≤ y := by
  intro l
  induction l with
  | nil => exact fun h => absurd rfl h
  | cons x r ih =>
    intro _
    cases r with
    | nil => exact ⟨⟨x, by simp, by simp⟩, x, by simp, by simp⟩
    | cons y t =>
      obtain ⟨⟨m, hm, h1⟩, k, hk, h2⟩ := ih (by simp)
      refine ⟨?_, ?_⟩
      · by_cases h : m ≤ x
        · exact ⟨x, by simp, fun z hz => (List.mem_cons.mp hz).elim (fun e => by omega) fun e => by have := h1 z e; omega⟩
        · exact ⟨m, List.mem_cons_of_mem _ hm, fun z hz => (List.mem_cons.mp hz).elim (fun e => by omega) fun e => h1 z e⟩
      · by_cases h : x ≤ k
        · exact ⟨x, by simp, fun z hz => (List.mem_cons.mp hz).elim (fun e => by omega) fun e => by have := h2 z e; omega⟩
        · exact ⟨k, List.mem_cons_of_mem _ hk, fun z hz => (List.mem_cons.mp hz).elim (fun e => by omega) fun e => h2 z e⟩
theorem again2 {P Q R : List Int} {x y : Int} (h : (x ≤ y ∧ ∀ w ∈ P ++ (Q ++ R), x ≤ w ∧ w ≤ y) ∨ (y ≤ x ∧ ∀ w ∈ P ++ (Q ++ R), y ≤ w ∧ w ≤ x)) :
    Same ((P ++ x :: (Q ++ y :: R)) ++ (P ++ x :: (Q ++ y :: R))) (P ++ x :: (Q ++ y :: R)) := by
  have mP : ∀ w ∈ P, w ∈ P ++ (Q ++ R) := fun w hw => List.mem_append_left _ hw
  have mQ : ∀ w ∈ Q, w ∈ P ++ (Q ++ R) := fun w hw => List.mem_append_right _ (List.mem_append_left _ hw)
  have mR : ∀ w ∈ R, w ∈ P ++ (Q ++ R) := fun w hw => List.mem_append_right _ (List.mem_append_right _ hw)
  have w1 : Same (y :: ((R ++ P) ++ [x])) [y, x] := wiped (by
    rcases h with ⟨_, h⟩ | ⟨_, h⟩
    · exact .inr fun w hw => (List.mem_append.mp hw).elim (fun g => h w (mR w g)) fun g => h w (mP w g)
    · exact .inl fun w hw => (List.mem_append.mp hw).elim (fun g => h w (mR w g)) fun g => h w (mP w g))
  have w2 : Same (x :: (Q ++ [y])) [x, y] := wiped (by
    rcases h with ⟨_, h⟩ | ⟨_, h⟩
    · exact .inl fun w hw => h w (mQ w hw)
    · exact .inr fun w hw => h w (mQ w hw))
  have w3 : Same [x, y, x, y] [x, y] := same_two (by omega)
  have s1 : Same ((P ++ x :: (Q ++ y :: R)) ++ (P ++ x :: (Q ++ y :: R))) (P ++ x :: (Q ++ y :: x :: (Q ++ y :: R))) := by
    have := w1.mid (P ++ x :: Q) (Q ++ y :: R)
    simpa using this
  have s2 : Same (P ++ x :: (Q ++ y :: x :: (Q ++ y :: R))) (P ++ x :: y :: x :: (Q ++ y :: R)) := by
    have := w2.mid P (x :: (Q ++ y :: R))
    simpa using this
  have s3 : Same (P ++ x :: y :: x :: (Q ++ y :: R)) (P ++ x :: y :: x :: y :: R) := by
    have := w2.mid (P ++ [x, y]) R
    simpa using this
  have s4 : Same (P ++ x :: y :: x :: y :: R) (P ++ x :: y :: R) := by
    have := w3.mid P R
    simpa using this
  have s5 : Same (P ++ x :: (Q ++ y :: R)) (P ++ x :: y :: R) := by
    have := w2.mid P R
    simpa using this
  exact (((s1.trans s2).trans s3).trans s4).trans s5.symm
/-- a history once more leaves what it left -/
theorem same_again (row : List Int) : Same (row ++ row) row := by
  by_cases hne : row = []
  · subst hne
    exact same_refl _
  · obtain ⟨⟨M, hM, hle⟩, m, hm, hge⟩ := ends_of row hne
    obtain ⟨A, B, e⟩ := List.append_of_mem hM
    have hm2 : m ∈ A ++ M :: B := by rw [← e]; exact hm
    have all : ∀ w ∈ row, m ≤ w ∧ w ≤ M := fun w hw => ⟨hge w hw, hle w hw⟩
    rcases List.mem_append.mp hm2 with g | g
    · obtain ⟨A1, A2, e2⟩ := List.append_of_mem g
      have e3 : row = A1 ++ m :: (A2 ++ M :: B) := by rw [e, e2]; simp
      rw [e3] at all ⊢
      exact again2 (.inl ⟨(all m (by simp)).2, fun w hw => all w (by
        simp only [List.mem_append, List.mem_cons] at hw ⊢
        rcases hw with h | h | h
        · exact .inl h
        · exact .inr (.inr (.inl h))
        · exact .inr (.inr (.inr (.inr h))))⟩)
    · rcases List.mem_cons.mp g with g | g
      · subst g
        rw [e] at all ⊢
        have w1 : Same (m :: ((B ++ A) ++ [m])) [m, m] := wiped (.inl fun w hw => all w ((List.mem_append.mp hw).elim (fun g => List.mem_append_right _ (List.mem_cons_of_mem _ g)) fun g => List.mem_append_left _ g))
        have s1 : Same ((A ++ m :: B) ++ (A ++ m :: B)) (A ++ m :: m :: B) := by
          have := w1.mid A B
          simpa using this
        have s2 : Same (A ++ m :: m :: B) (A ++ m :: B) := by
          have := (same_dup m).mid A B
          simpa using this
        exact s1.trans s2
      · obtain ⟨B1, B2, e2⟩ := List.append_of_mem g
        have e3 : row = A ++ M :: (B1 ++ m :: B2) := by rw [e, e2]
        rw [e3] at all ⊢
        exact again2 (.inr ⟨(all m (by simp)).2, fun w hw => all w (by
          simp only [List.mem_append, List.mem_cons] at hw ⊢
          rcases hw with h | h | h
          · exact .inl h
          · exact .inr (.inr (.inl h))
          · exact .inr (.inr (.inr (.inr h))))⟩)
/-! ### how far the far one lies changes nothing -/
def Beyond (g h y : Int) : Prop := (g < y ∧ h < y) ∨ (y < g ∧ y < h)
def AllBeyond (g h : Int) (l : List Int) : Prop := (∀ y ∈ l, g < y ∧ h < y) ∨ ∀ y ∈ l, y < g ∧ y < h
theorem AllBeyond.sub {g h : Int} {l m : List Int} (a : AllBeyond g h l) (e : ∀ y ∈ m, y ∈ l) : AllBeyond g h m := by
  rcases a with a | a
  · exact .inl fun y hy => a y (e y hy)
  · exact .inr fun y hy => a y (e y hy)
theorem deep_rstep {g h x : Int} {w : List Int} (hb : AllBeyond g h (x :: w)) : ∃ v, rstep (w ++ [g]) x = v ++ [g] ∧ rstep (w ++ [h]) x = v ++ [h] ∧ ∀ y ∈ v, y ∈ x :: w := by
  have hx : g ≠ x ∧ h ≠ x := by
    rcases hb with a | a
    · have := a x (by simp); omega
    · have := a x (by simp); omega
  match w, hb with
  | [], _ => exact ⟨[x], by simp [rstep, hx.1], by simp [rstep, hx.2], by simp⟩
  | [l], hb =>
    have hl : btw l g x = btw l h x := by
      rw [Bool.eq_iff_iff, btw_iff, btw_iff]
      rcases hb with a | a
      · have := a x (by simp); have := a l (by simp); omega
      · have := a x (by simp); have := a l (by simp); omega
    show ∃ v, rstep [l, g] x = v ++ [g] ∧ rstep [l, h] x = v ++ [h] ∧ ∀ y ∈ v, y ∈ [x, l]
    simp only [rstep]
    rw [hl]
    split
    · exact ⟨[l], rfl, rfl, by simp⟩
    · split
      · exact ⟨[x], rfl, rfl, by simp⟩
      · exact ⟨[x, l], rfl, rfl, by simp⟩
  | l :: p :: r, hb =>
    show ∃ v, rstep (l :: p :: (r ++ [g])) x = v ++ [g] ∧ rstep (l :: p :: (r ++ [h])) x = v ++ [h] ∧ ∀ y ∈ v, y ∈ x :: l :: p :: r
    simp only [rstep]
    split
    · exact ⟨l :: p :: r, rfl, rfl, fun y hy => List.mem_cons_of_mem _ hy⟩
    · split
      · exact ⟨x :: p :: r, rfl, rfl, fun y hy => by simp at hy ⊢; rcases hy with h | h | h <;> simp [h]⟩
      · exact ⟨x :: l :: p :: r, rfl, rfl, fun y hy => hy⟩
theorem deep_ired {g h : Int} : ∀ (n : Nat) (w : List Int), w.length ≤ n → AllBeyond g h w → ∃ v, ired (w ++ [g]) = v ++ [g] ∧ ired (w ++ [h]) = v ++ [h] ∧ ∀ y ∈ v, y ∈ w := by
  intro n
  induction n with
  | zero =>
    intro w hn _
    have : w = [] := List.length_eq_zero_iff.mp (by omega)
    subst this
    exact ⟨[], ired_no rfl, ired_no rfl, fun _ h => h⟩
  | succ n ih =>
    intro w hn hb
    match w, hn, hb with
    | [], _, _ => exact ⟨[], ired_no rfl, ired_no rfl, fun _ h => h⟩
    | [a], _, _ => exact ⟨[a], ired_no rfl, ired_no rfl, fun _ h => h⟩
    | [a, b], _, _ => exact ⟨[a, b], ired_no rfl, ired_no rfl, fun _ h => h⟩
    | [d, c, b], hn, hb =>
      have hi : inn g b c d = inn h b c d := by
        unfold inn
        rw [Bool.eq_iff_iff]
        simp only [Bool.and_eq_true, decide_eq_true_eq]
        rcases hb with a | a
        · have h1 := a d (by simp); have h2 := a c (by simp); have h3 := a b (by simp)
          rw [if_neg (by omega), if_pos (by omega), if_neg (by omega), if_pos (by omega)]
          omega
        · have h1 := a d (by simp); have h2 := a c (by simp); have h3 := a b (by simp)
          rw [if_pos (by omega), if_neg (by omega), if_pos (by omega), if_neg (by omega)]
          omega
      show ∃ v, ired [d, c, b, g] = v ++ [g] ∧ ired [d, c, b, h] = v ++ [h] ∧ _
      cases hz : inn h b c d with
      | true =>
        rw [ired_yes (hi.trans hz), ired_yes hz]
        exact ⟨[d], ired_no rfl, ired_no rfl, by simp⟩
      | false =>
        exact ⟨[d, c, b], ired_no (show inn g b c d = false from hi.trans hz), ired_no (show inn h b c d = false from hz), fun _ h => h⟩
    | d :: c :: b :: a :: r, hn, hb =>
      show ∃ v, ired (d :: c :: b :: a :: (r ++ [g])) = v ++ [g] ∧ ired (d :: c :: b :: a :: (r ++ [h])) = v ++ [h] ∧ _
      cases hz : inn a b c d with
      | true =>
        rw [ired_yes hz, ired_yes hz]
        obtain ⟨v, h1, h2, h3⟩ := ih (d :: a :: r) (by simp at hn ⊢; omega) (hb.sub fun y hy => by simp at hy ⊢; rcases hy with h | h | h <;> simp [h])
        exact ⟨v, h1, h2, fun y hy => by have := h3 y hy; simp at this ⊢; rcases this with h | h | h <;> simp [h]⟩
      | false =>
        exact ⟨d :: c :: b :: a :: r, ired_no (show inn a b c d = false from hz), ired_no (show inn a b c d = false from hz), fun _ h => h⟩
theorem deep_qstep {g h x : Int} {w : List Int} (hb : AllBeyond g h (x :: w)) : ∃ v, qstep (w ++ [g]) x = v ++ [g] ∧ qstep (w ++ [h]) x = v ++ [h] ∧ ∀ y ∈ v, y ∈ x :: w := by
  obtain ⟨v, h1, h2, h3⟩ := deep_rstep hb
  obtain ⟨u, h4, h5, h6⟩ := deep_ired _ v (Nat.le_refl _) (hb.sub h3)
  unfold qstep
  exact ⟨u, by rw [h1, h4], by rw [h2, h5], fun y hy => h3 y (h6 y hy)⟩
theorem deep_res {g h : Int} : ∀ (xs w : List Int), AllBeyond g h (xs ++ w) → ∃ v, resR (w ++ [g]) xs = v ++ [g] ∧ resR (w ++ [h]) xs = v ++ [h]
  | [], w, _ => ⟨w, rfl, rfl⟩
  | x :: xs, w, hb => by
    obtain ⟨v, h1, h2, h3⟩ := deep_qstep (g := g) (h := h) (x := x) (w := w) (hb.sub fun y hy => by simp at hy ⊢; rcases hy with h | h <;> simp [h])
    have := deep_res xs v (hb.sub fun y hy => by
      rcases List.mem_append.mp hy with g | g
      · simp [g]
      · have := h3 y g
        simp at this ⊢
        rcases this with h | h <;> simp [h])
    rw [← h1, ← h2] at this
    exact this
/-- what is left behind a far one -/
def restOf (g : Int) (xs : List Int) : List Int := (resOf (g :: xs)).drop 1
theorem rest_cons (g : Int) (xs : List Int) : resOf (g :: xs) = g :: restOf g xs := by
  obtain ⟨r, e⟩ := resOf_head g xs
  unfold restOf
  rw [e]
  rfl
theorem rest_mem {g : Int} {xs : List Int} : ∀ y ∈ restOf g xs, y ∈ xs := head_mem (rest_cons g xs)
theorem rest_far {g h : Int} {xs : List Int} (hb : AllBeyond g h xs) : restOf g xs = restOf h xs := by
  obtain ⟨v, h1, h2⟩ := deep_res (g := g) (h := h) xs [] (by rw [List.append_nil]; exact hb)
  unfold restOf resOf
  rw [resR_one, resR_one, show [g] = [] ++ [g] from rfl, show [h] = [] ++ [h] from rfl, h1, h2]
  simp
theorem rest_step (g x : Int) (xs : List Int) : restOf g (restOf g xs ++ [x]) = restOf g (xs ++ [x]) := by
  have h : Same ((g :: restOf g xs) ++ [x]) ((g :: xs) ++ [x]) := by
    rw [← rest_cons]
    exact (same_res (g :: xs)).app (same_refl [x])
  unfold restOf
  have := same_resOf h
  rw [List.cons_append, List.cons_append] at this
  unfold restOf at this
  rw [this]
theorem far_rest {b : Bool} {xs fs : List Int} {g : Int} (h : AheadR (some b) xs fs) (hg : if b = true then ∀ y ∈ xs, g < y else ∀ y ∈ xs, y < g) : (resOf (fs ++ xs)).drop fs.length = restOf g xs := by
  by_cases hx : xs = []
  · subst hx
    have := ahead_nil h
    subst this
    have h1 := rest_mem (g := g) (xs := [])
    cases hr : restOf g [] with
    | nil => rfl
    | cons a r => have := h1 a (by rw [hr]; simp); simp at this
  · rcases h with ⟨h1, _⟩ | ⟨b', m, hf, _, hm, h⟩
    · rcases h1 with h1 | h1
      · cases h1
      · exact absurd h1 hx
    · cases hf
      rcases h with ⟨rfl, hle, rfl⟩ | ⟨rfl, hle, rfl⟩
      · exact rest_far (.inl fun y hy => ⟨by have := hle y hy; omega, by simpa using hg y hy⟩)
      · exact rest_far (.inr fun y hy => ⟨by have := hle y hy; omega, by simpa using hg y hy⟩)
theorem below_all : ∀ l : List Int, ∃ g : Int, ∀ y ∈ l, g < y
  | [] => ⟨0, by simp⟩
  | x :: l => by
    obtain ⟨g, hg⟩ := below_all l
    refine ⟨(if g < x then g else x) - 1, fun y hy => ?_⟩
    rcases List.mem_cons.mp hy with h | h
    · subst h; split <;> omega
    · have := hg y h; split <;> omega
theorem above_all : ∀ l : List Int, ∃ g : Int, ∀ y ∈ l, y < g
  | [] => ⟨0, by simp⟩
  | x :: l => by
    obtain ⟨g, hg⟩ := above_all l
    refine ⟨(if x < g then g else x) + 1, fun y hy => ?_⟩
    rcases List.mem_cons.mp hy with h | h
    · subst h; split <;> omega
    · have := hg y h; split <;> omega
/-- swell by swell -/
theorem due_step {f : Option Bool} {pre due fs gs hs : List Int} {x : Int} (h1 : AheadR f pre fs) (hd : due = (resOf (fs ++ pre)).drop fs.length) (h2 : AheadR f (due ++ [x]) gs) (h3 : AheadR f (pre ++ [x]) hs) :
    (resOf (gs ++ (due ++ [x]))).drop gs.length = (resOf (hs ++ (pre ++ [x]))).drop hs.length := by
  have hmem : ∀ y ∈ due, y ∈ pre := by rw [hd]; exact due_mem h1
  cases f with
  | none =>
    have z : ∀ {l m : List Int}, AheadR none l m → m = [] := fun h => by
      rcases h with ⟨_, h⟩ | ⟨_, _, h, _⟩
      · exact h
      · cases h
    have e1 := z h1
    have e2 := z h2
    have e3 := z h3
    subst e1 e2 e3
    subst hd
    exact same_resOf ((same_res pre).app (same_refl [x]))
  | some b =>
    obtain ⟨g, hg⟩ : ∃ g : Int, if b = true then ∀ y ∈ pre ++ [x], g < y else ∀ y ∈ pre ++ [x], y < g := by
      cases b with
      | true => obtain ⟨g, hg⟩ := below_all (pre ++ [x]); exact ⟨g, by simpa using hg⟩
      | false => obtain ⟨g, hg⟩ := above_all (pre ++ [x]); exact ⟨g, by simpa using hg⟩
    have sub : ∀ {l : List Int}, (∀ y ∈ l, y ∈ pre ++ [x]) → if b = true then ∀ y ∈ l, g < y else ∀ y ∈ l, y < g := fun hl => by
      cases b with
      | true => exact fun y hy => (show ∀ y ∈ pre ++ [x], g < y from hg) y (hl y hy)
      | false => exact fun y hy => (show ∀ y ∈ pre ++ [x], y < g from hg) y (hl y hy)
    rw [far_rest h1 (sub fun y hy => List.mem_append_left _ hy)] at hd
    rw [far_rest h3 hg, far_rest h2 (sub fun y hy => (List.mem_append.mp hy).elim (fun h => List.mem_append_left _ (hmem y h)) fun h => List.mem_append_right _ h), hd]
    exact rest_step g x pre
end My
/-! ### histories with the same ends that leave the same -/
namespace My
open PySem PySem.Spec PyProof.Rows L2
structure Kin (row left : List Int) : Prop where
  same : Same left row
  sub : ∀ y ∈ row, y ∈ left
  lo : ∀ m, (∀ y ∈ row, m ≤ y) → ∀ y ∈ left, m ≤ y
  hi : ∀ m, (∀ y ∈ row, y ≤ m) → ∀ y ∈ left, y ≤ m
theorem kin_refl (xs : List Int) : Kin xs xs := ⟨same_refl _, fun _ h => h, fun _ h => h, fun _ h => h⟩
theorem Kin.app {a b c d : List Int} (h : Kin a b) (g : Kin c d) : Kin (a ++ c) (b ++ d) := by
  refine ⟨h.same.app g.same, fun y hy => ?_, fun m hm y hy => ?_, fun m hm y hy => ?_⟩
  · exact (List.mem_append.mp hy).elim (fun e => List.mem_append_left _ (h.sub y e)) fun e => List.mem_append_right _ (g.sub y e)
  · exact (List.mem_append.mp hy).elim (fun e => h.lo m (fun z hz => hm z (List.mem_append_left _ hz)) y e) fun e => g.lo m (fun z hz => hm z (List.mem_append_right _ hz)) y e
  · exact (List.mem_append.mp hy).elim (fun e => h.hi m (fun z hz => hm z (List.mem_append_left _ hz)) y e) fun e => g.hi m (fun z hz => hm z (List.mem_append_right _ hz)) y e
theorem kin_res (xs : List Int) : Kin (resOf xs) xs := by
  refine ⟨(same_res xs).symm, fun y hy => resOf_mem hy, fun m hm y hy => ?_, fun m hm y hy => ?_⟩
  · obtain ⟨z, hz, h⟩ := resR_low xs [] y nil_ok (.inl hy)
    exact Int.le_trans (hm z (List.mem_reverse.mpr hz)) h
  · obtain ⟨z, hz, h⟩ := resR_top xs [] y nil_ok (.inl hy)
    exact Int.le_trans h (hm z (List.mem_reverse.mpr hz))
theorem kin_flat : ∀ pss : List (List Int), Kin (pss.map resOf).flatten pss.flatten
  | [] => kin_refl _
  | p :: r => by
    have := (kin_res p).app (kin_flat r)
    simpa using this
theorem kin_rep (row : List Int) : ∀ m : Nat, Kin row (List.replicate (m + 1) row).flatten
  | 0 => by simpa using kin_refl row
  | m + 1 => by
    have ih := kin_rep row m
    have e : (List.replicate (m + 1 + 1) row).flatten = row ++ (List.replicate (m + 1) row).flatten := rfl
    rw [e]
    refine ⟨((same_refl row).app ih.same).trans (same_again row), fun y hy => List.mem_append_left _ hy, fun k hk y hy => ?_, fun k hk y hy => ?_⟩
    · exact (List.mem_append.mp hy).elim (hk y) (ih.lo k hk y)
    · exact (List.mem_append.mp hy).elim (hk y) (ih.hi k hk y)
theorem Kin.far {row left fs gs : List Int} {f : Option Bool} (g : Kin row left) (h : AheadR f row fs) (h2 : AheadR f left gs) : (resOf (gs ++ left)).drop gs.length = (resOf (fs ++ row)).drop fs.length := by
  have h3 : AheadR f left fs := by
    rcases h with ⟨h1, e⟩ | ⟨b, m, hf, hx, hm, h⟩
    · refine .inl ⟨h1.imp id fun hr => ?_, e⟩
      cases left with
      | nil => rfl
      | cons a t =>
        have := g.lo (a + 1) (by rw [hr]; simp) a (by simp)
        omega
    · refine .inr ⟨b, m, hf, fun e => ?_, g.sub m hm, ?_⟩
      · have := g.sub m hm
        rw [e] at this
        simp at this
      · rcases h with ⟨hb, h, e⟩ | ⟨hb, h, e⟩
        · exact .inl ⟨hb, g.lo m h, e⟩
        · exact .inr ⟨hb, g.hi m h, e⟩
  have e := h2.uniq h3
  subst e
  unfold resOf
  rw [resR_app, resR_app, g.same _ (resR_ok gs [] nil_ok).1]
theorem ahead_ex (f : Option Bool) (xs : List Int) : ∃ fs, AheadR f xs fs := by
  by_cases hx : xs = []
  · exact ⟨[], .inl ⟨.inr hx, rfl⟩⟩
  · cases f with
    | none => exact ⟨[], .inl ⟨.inl rfl, rfl⟩⟩
    | some b =>
      obtain ⟨⟨M, hM, hle⟩, m, hm, hge⟩ := ends_of xs hx
      cases b with
      | true => exact ⟨_, .inr ⟨true, m, rfl, hx, hm, .inl ⟨rfl, hge, rfl⟩⟩⟩
      | false => exact ⟨_, .inr ⟨false, M, rfl, hx, hM, .inr ⟨rfl, hle, rfl⟩⟩⟩
/-- lists of whole numbers, none of them at j -/
def PartV (j : Addr) (H : Hp) (x : V) (ws : List Int) : Prop := ∃ b, x = V.ref b ∧ b ≠ j ∧ H b = some (.lst (ws.map V.int)) ∧ ws.length ≤ 101
theorem PartV.exB {j : Addr} {H H' : Hp} {x : V} {ws : List Int} (h : PartV j H x ws) (e : ExB j H H') : PartV j H' x ws := let ⟨b, h1, h2, h3, h4⟩ := h; ⟨b, h1, h2, e _ _ h2 h3, h4⟩
theorem PartV.ex {j : Addr} {H H' : Hp} {x : V} {ws : List Int} (h : PartV j H x ws) (e : Ex H H') : PartV j H' x ws := h.exB e.exB
theorem Al.take {α : Type} {R : V → α → Prop} {xs : List V} {as : List α} (h : Al R xs as) (n : Nat) : Al R (xs.take n) (as.take n) := by
  refine ⟨by rw [List.length_take, List.length_take, h.1], fun i x a h1 h2 => ?_⟩
  rw [List.getElem?_take] at h1 h2
  split at h1
  · rename_i hi
    rw [if_pos hi] at h2
    exact h.2 i x a h1 h2
  · cases h1
theorem Al.drop {α : Type} {R : V → α → Prop} {xs : List V} {as : List α} (h : Al R xs as) (n : Nat) : Al R (xs.drop n) (as.drop n) := by
  refine ⟨by rw [List.length_drop, List.length_drop, h.1], fun i x a h1 h2 => ?_⟩
  rw [List.getElem?_drop] at h1 h2
  exact h.2 _ x a h1 h2
theorem flat_len {B : Nat} : ∀ (pss : List (List Int)), (∀ p ∈ pss, p.length ≤ B) → pss.flatten.length ≤ B * pss.length
  | [], _ => by simp
  | p :: r, h => by
    have h1 := h p (by simp)
    have h2 := flat_len r fun q hq => h q (List.mem_cons_of_mem _ hq)
    rw [List.flatten_cons, List.length_append, List.length_cons, Nat.mul_add, Nat.mul_one]
    omega
theorem cutV_to (xs : List V) (n : Nat) : cutV xs none (some (n : Int)) = xs.take n := by
  unfold cutV
  rw [HT.sIx_none, HT.sIx_nat, Nat.sub_zero, List.drop_zero]
  rcases Nat.le_total n xs.length with h | h
  · rw [Nat.min_eq_left h]
  · rw [Nat.min_eq_right h, List.take_of_length_le (Nat.le_refl _), List.take_of_length_le h]
theorem cutV_from (xs : List V) (n : Nat) : cutV xs (some (n : Int)) none = xs.drop n := by
  unfold cutV
  rw [HT.sIx_nat, HT.sIx_none]
  rcases Nat.le_total n xs.length with h | h
  · rw [Nat.min_eq_left h]
    exact List.take_of_length_le (by rw [List.length_drop]; exact Nat.le_refl _)
  · rw [Nat.min_eq_right h, Nat.sub_self, List.take_zero]
    exact (List.drop_of_length_le h).symm
end My
/-! ### moved, stretched, turned over; from its end -/
namespace My
open PySem PySem.Spec PyProof.Rows L2
def Mono (φ : Int → Int) (up : Bool) : Prop := ∀ x y : Int, if up = true then (x < y ↔ φ x < φ y) else (x < y ↔ φ y < φ x)
section
variable {φ : Int → Int} {up : Bool}
theorem Mono.inj (h : Mono φ up) (x y : Int) : φ x = φ y ↔ x = y := by
  have h1 := h x y
  have h2 := h y x
  cases up <;> simp at h1 h2 <;> omega
theorem Mono.btw (h : Mono φ up) (b a c : Int) : btw (φ b) (φ a) (φ c) = btw b a c := by
  rw [Bool.eq_iff_iff, btw_iff, btw_iff]
  have h1 := h a b
  have h2 := h b c
  have h3 := h c b
  have h4 := h b a
  cases up <;> simp at h1 h2 h3 h4 <;> omega
theorem inn_iff {a b c d : Int} : inn a b c d = true ↔ (a ≤ b ∧ b ≤ d ∧ a ≤ c ∧ c ≤ d) ∨ (d ≤ b ∧ b ≤ a ∧ d ≤ c ∧ c ≤ a) := by
  unfold inn
  simp only [Bool.and_eq_true, decide_eq_true_eq]
  split <;> split <;> omega
theorem Mono.inn (h : Mono φ up) (a b c d : Int) : inn (φ a) (φ b) (φ c) (φ d) = inn a b c d := by
  rw [Bool.eq_iff_iff, inn_iff, inn_iff]
  have h1 := h b a
  have h2 := h d b
  have h3 := h c a
  have h4 := h d c
  have h5 := h a b
  have h6 := h b d
  have h7 := h a c
  have h8 := h c d
  cases up <;> simp at h1 h2 h3 h4 h5 h6 h7 h8 <;> omega
theorem rstep_map (h : Mono φ up) (rs : List Int) (x : Int) : rstep (rs.map φ) (φ x) = (rstep rs x).map φ := by
  match rs with
  | [] => rfl
  | [l] =>
    simp only [rstep, List.map_cons, List.map_nil]
    by_cases e : l = x
    · rw [if_pos e, if_pos (by rw [e])]; rfl
    · rw [if_neg e, if_neg (fun z => e ((h.inj l x).mp z))]; rfl
  | l :: p :: r =>
    simp only [rstep, List.map_cons]
    rw [h.btw]
    by_cases e : l = x
    · rw [if_pos e, if_pos (by rw [e])]; rfl
    · rw [if_neg e, if_neg (fun z => e ((h.inj l x).mp z))]
      split <;> rfl
theorem ired_map (h : Mono φ up) : ∀ (n : Nat) (rs : List Int), rs.length ≤ n → ired (rs.map φ) = (ired rs).map φ := by
  intro n
  induction n with
  | zero =>
    intro rs hn
    have : rs = [] := List.length_eq_zero_iff.mp (by omega)
    subst this
    rw [ired_no (rs := []) rfl]
    exact ired_no rfl
  | succ n ih =>
    intro rs hn
    match rs, hn with
    | [], _ => rw [ired_no (rs := []) rfl]; exact ired_no rfl
    | [a], _ => rw [ired_no (rs := [a]) rfl]; exact ired_no rfl
    | [a, b], _ => rw [ired_no (rs := [a, b]) rfl]; exact ired_no rfl
    | [a, b, c], _ => rw [ired_no (rs := [a, b, c]) rfl]; exact ired_no rfl
    | d :: c :: b :: a :: r, hn =>
      cases hz : My.inn a b c d with
      | true =>
        have e2 : My.inn (φ a) (φ b) (φ c) (φ d) = true := by rw [h.inn]; exact hz
        rw [ired_yes hz]
        show ired (φ d :: φ c :: φ b :: φ a :: r.map φ) = _
        rw [ired_yes e2]
        exact ih (d :: a :: r) (by simp at hn ⊢; omega)
      | false =>
        have e2 : My.inn (φ a) (φ b) (φ c) (φ d) = false := by rw [h.inn]; exact hz
        rw [ired_no (rs := d :: c :: b :: a :: r) (show innR (d :: c :: b :: a :: r) = false from hz)]
        exact ired_no (show innR (φ d :: φ c :: φ b :: φ a :: r.map φ) = false from e2)
theorem qstep_map (h : Mono φ up) (rs : List Int) (x : Int) : qstep (rs.map φ) (φ x) = (qstep rs x).map φ := by
  unfold qstep
  rw [rstep_map h, ired_map h _ _ (Nat.le_refl _)]
theorem resR_map (h : Mono φ up) : ∀ (xs rs : List Int), resR (rs.map φ) (xs.map φ) = (resR rs xs).map φ
  | [], _ => rfl
  | x :: xs, rs => by
    show resR (qstep (rs.map φ) (φ x)) (xs.map φ) = _
    rw [qstep_map h]
    exact resR_map h xs (qstep rs x)
theorem turnsR_map (h : Mono φ up) : ∀ (xs rs : List Int), turnsR (rs.map φ) (xs.map φ) = (turnsR rs xs).map φ
  | [], _ => rfl
  | x :: xs, rs => by
    show turnsR (rstep (rs.map φ) (φ x)) (xs.map φ) = _
    rw [rstep_map h]
    exact turnsR_map h xs (rstep rs x)
theorem resOf_map (h : Mono φ up) (xs : List Int) : resOf (xs.map φ) = (resOf xs).map φ := by
  unfold resOf
  rw [show ([] : List Int) = ([] : List Int).map φ from rfl, resR_map h, List.map_reverse]
  rfl
theorem turnsOf_map (h : Mono φ up) (xs : List Int) : turnsOf (xs.map φ) = (turnsOf xs).map φ := by
  unfold turnsOf
  rw [show ([] : List Int) = ([] : List Int).map φ from rfl, turnsR_map h, List.map_reverse]
  rfl
end
/-! turns behind a far one -/
theorem deep_turns {g h : Int} : ∀ (xs w : List Int), AllBeyond g h (xs ++ w) → ∃ v, turnsR (w ++ [g]) xs = v ++ [g] ∧ turnsR (w ++ [h]) xs = v ++ [h]
  | [], w, _ => ⟨w, rfl, rfl⟩
  | x :: xs, w, hb => by
    obtain ⟨v, h1, h2, h3⟩ := deep_rstep (g := g) (h := h) (x := x) (w := w) (hb.sub fun y hy => by simp at hy ⊢; rcases hy with h | h <;> simp [h])
    have := deep_turns xs v (hb.sub fun y hy => by
      rcases List.mem_append.mp hy with g | g
      · simp [g]
      · have := h3 y g
        simp at this ⊢
        rcases this with h | h <;> simp [h])
    rw [← h1, ← h2] at this
    exact this
def restT (g : Int) (xs : List Int) : List Int := (turnsOf (g :: xs)).drop 1
theorem restT_far {g h : Int} {xs : List Int} (hb : AllBeyond g h xs) : restT g xs = restT h xs := by
  obtain ⟨v, h1, h2⟩ := deep_turns (g := g) (h := h) xs [] (by rw [List.append_nil]; exact hb)
  unfold restT turnsOf
  show ((turnsR ([] ++ [g]) xs).reverse).drop 1 = ((turnsR ([] ++ [h]) xs).reverse).drop 1
  rw [h1, h2]
  simp
theorem farT_rest {b : Bool} {xs fs : List Int} {g : Int} (h : AheadR (some b) xs fs) (hg : if b = true then ∀ y ∈ xs, g < y else ∀ y ∈ xs, y < g) : (turnsOf (fs ++ xs)).drop fs.length = restT g xs := by
  by_cases hx : xs = []
  · subst hx
    have := ahead_nil h
    subst this
    rfl
  · rcases h with ⟨h1, _⟩ | ⟨b', m, hf, _, hm, h⟩
    · rcases h1 with h1 | h1
      · cases h1
      · exact absurd h1 hx
    · cases hf
      rcases h with ⟨rfl, hle, rfl⟩ | ⟨rfl, hle, rfl⟩
      · exact restT_far (.inl fun y hy => ⟨by have := hle y hy; omega, by simpa using hg y hy⟩)
      · exact restT_far (.inr fun y hy => ⟨by have := hle y hy; omega, by simpa using hg y hy⟩)
/-- the far one's side, turned over or not -/
def sideOf (up : Bool) : Option Bool → Option Bool
  | none => none
  | some b => some (if up = true then b else !b)
theorem ahead_none {xs fs : List Int} (h : AheadR none xs fs) : fs = [] := by
  rcases h with ⟨_, h⟩ | ⟨_, _, h, _⟩
  · exact h
  · cases h
theorem due_map {φ : Int → Int} {up : Bool} {f : Option Bool} {xs fs gs : List Int} (hm : Mono φ up) (h : AheadR f xs fs) (h2 : AheadR (sideOf up f) (xs.map φ) gs) :
    (resOf (gs ++ xs.map φ)).drop gs.length = ((resOf (fs ++ xs)).drop fs.length).map φ ∧ (turnsOf (gs ++ xs.map φ)).drop gs.length = ((turnsOf (fs ++ xs)).drop fs.length).map φ := by
  cases f with
  | none =>
    have e1 := ahead_none h
    have e2 := ahead_none h2
    subst e1 e2
    exact ⟨resOf_map hm xs, turnsOf_map hm xs⟩
  | some b =>
    obtain ⟨g, hg, hg2⟩ : ∃ g : Int, (if b = true then ∀ y ∈ xs, g < y else ∀ y ∈ xs, y < g) ∧ (if (if up = true then b else !b) = true then ∀ y ∈ xs.map φ, φ g < y else ∀ y ∈ xs.map φ, y < φ g) := by
      cases b with
      | true =>
        obtain ⟨g, hg⟩ := below_all xs
        refine ⟨g, by simpa using hg, ?_⟩
        cases up with
        | true =>
          simp only [if_true]
          intro y hy
          obtain ⟨z, hz, rfl⟩ := List.mem_map.mp hy
          exact (show (g < z ↔ φ g < φ z) from hm g z).mp (hg z hz)
        | false =>
          simp only [Bool.false_eq_true, if_false, Bool.not_true]
          intro y hy
          obtain ⟨z, hz, rfl⟩ := List.mem_map.mp hy
          exact (show (g < z ↔ φ z < φ g) from hm g z).mp (hg z hz)
      | false =>
        obtain ⟨g, hg⟩ := above_all xs
        refine ⟨g, by simpa using hg, ?_⟩
        cases up with
        | true =>
          simp only [if_true, Bool.false_eq_true, if_false]
          intro y hy
          obtain ⟨z, hz, rfl⟩ := List.mem_map.mp hy
          exact (show (z < g ↔ φ z < φ g) from hm z g).mp (hg z hz)
        | false =>
          simp only [Bool.false_eq_true, if_false, Bool.not_false, if_true]
          intro y hy
          obtain ⟨z, hz, rfl⟩ := List.mem_map.mp hy
          exact (show (z < g ↔ φ g < φ z) from hm z g).mp (hg z hz)
    refine ⟨?_, ?_⟩
    · rw [far_rest h hg, far_rest h2 hg2]
      unfold restOf
      rw [← List.map_cons, resOf_map hm, List.map_drop]
    · rw [farT_rest h hg, farT_rest h2 hg2]
      unfold restT
      rw [← List.map_cons, turnsOf_map hm, List.map_drop]
/-! turns of turns -/
def TSame (xs ys : List Int) : Prop := ∀ s, turnsR s xs = turnsR s ys
theorem TSame.trans {a b c : List Int} (h : TSame a b) (g : TSame b c) : TSame a c := fun s => (h s).trans (g s)
theorem tsame_refl (xs : List Int) : TSame xs xs := fun _ => rfl
theorem TSame.app {a b c d : List Int} (h : TSame a b) (g : TSame c d) : TSame (a ++ c) (b ++ d) := fun s => by rw [turnsR_app, turnsR_app, h s, g _]
theorem tsame_rstep (rs : List Int) (x : Int) : TSame (rstep rs x).reverse (rs.reverse ++ [x]) := by
  match rs with
  | [] => exact tsame_refl _
  | [l] =>
    simp only [rstep]
    split
    · rename_i e
      subst e
      exact fun s => (turnsR_dup s [] l []).symm
    · exact tsame_refl _
  | l :: p :: r =>
    simp only [rstep]
    split
    · rename_i e
      subst e
      intro s
      have := (turnsR_dup s (r.reverse ++ [p]) l []).symm
      simpa using this
    · split
      · rename_i hb
        intro s
        have := (turnsR_mid s r.reverse (a := p) (b := l) (c := x) [] hb).symm
        simpa using this
      · intro s
        simp
theorem tsame_turns : ∀ (xs rs : List Int), TSame (turnsR rs xs).reverse (rs.reverse ++ xs)
  | [], rs => by rw [List.append_nil]; exact tsame_refl rs.reverse
  | x :: xs, rs => by
    have h := (tsame_turns xs (rstep rs x)).trans ((tsame_rstep rs x).app (tsame_refl xs))
    rw [List.append_assoc] at h
    exact h
theorem turnsR_ends : ∀ (xs rs : List Int) (y : Int), y ∈ xs ∨ ((∃ w ∈ rs, y ≤ w) ∧ ∃ w ∈ rs, w ≤ y) → (∃ z ∈ turnsR rs xs, y ≤ z) ∧ ∃ z ∈ turnsR rs xs, z ≤ y
  | [], rs, y, h => by
    rcases h with h | h
    · simp at h
    · exact h
  | x :: xs, rs, y, h => by
    refine turnsR_ends xs (rstep rs x) y ?_
    rcases h with h | ⟨⟨w, hw, l⟩, v, hv, l2⟩
    · rcases List.mem_cons.mp h with h | h
      · right
        exact rstep_top (.inr h)
      · exact .inl h
    · right
      obtain ⟨⟨z, hz, l3⟩, _⟩ := rstep_top (x := x) (.inl hw)
      obtain ⟨_, z2, hz2, l4⟩ := rstep_top (x := x) (.inl hv)
      exact ⟨⟨z, hz, by omega⟩, z2, hz2, by omega⟩
theorem turns_twice {f : Option Bool} {xs fs gs : List Int} (h : AheadR f (turnsOf xs) gs) (h2 : AheadR f xs fs) : (turnsOf (gs ++ turnsOf xs)).drop gs.length = (turnsOf (fs ++ xs)).drop fs.length := by
  have mem : ∀ y ∈ turnsOf xs, y ∈ xs := fun y hy => by
    rcases turnsR_mem xs [] (List.mem_reverse.mp hy) with h | h
    · exact h
    · simp at h
  have h3 : AheadR f xs gs := by
    rcases h with ⟨h1, e⟩ | ⟨b, m, hf, hx, hm, h⟩
    · refine .inl ⟨h1.imp id fun hr => ?_, e⟩
      cases xs with
      | nil => rfl
      | cons a t =>
        obtain ⟨⟨z, hz, _⟩, _⟩ := turnsR_ends (a :: t) [] a (.inl (by simp))
        have : z ∈ turnsOf (a :: t) := List.mem_reverse.mpr hz
        rw [hr] at this
        simp at this
    · refine .inr ⟨b, m, hf, fun e => ?_, mem m hm, ?_⟩
      · have := mem m hm
        rw [e] at this
        simp at this
      · rcases h with ⟨hb, h, e⟩ | ⟨hb, h, e⟩
        · refine .inl ⟨hb, fun y hy => ?_, e⟩
          obtain ⟨_, z, hz, l⟩ := turnsR_ends xs [] y (.inl hy)
          have := h z (List.mem_reverse.mpr hz)
          omega
        · refine .inr ⟨hb, fun y hy => ?_, e⟩
          obtain ⟨⟨z, hz, l⟩, _⟩ := turnsR_ends xs [] y (.inl hy)
          have := h z (List.mem_reverse.mpr hz)
          omega
  have e := h2.uniq h3
  subst e
  have hs : TSame (turnsOf xs) xs := tsame_turns xs []
  unfold turnsOf at hs ⊢
  rw [turnsR_app, turnsR_app, hs _]
/-! from its end -/
def SameR (a b : List Int) : Prop := Same a b ∧ Same a.reverse b.reverse
theorem sameR_refl (a : List Int) : SameR a a := ⟨same_refl _, same_refl _⟩
theorem SameR.trans {a b c : List Int} (h : SameR a b) (g : SameR b c) : SameR a c := ⟨h.1.trans g.1, h.2.trans g.2⟩
theorem SameR.symm {a b : List Int} (h : SameR a b) : SameR b a := ⟨h.1.symm, h.2.symm⟩
theorem SameR.app {a b c d : List Int} (h : SameR a b) (g : SameR c d) : SameR (a ++ c) (b ++ d) := by
  refine ⟨h.1.app g.1, ?_⟩
  rw [List.reverse_append, List.reverse_append]
  exact g.2.app h.2
theorem SameR.mid {a b : List Int} (h : SameR a b) (u v : List Int) : SameR (u ++ a ++ v) (u ++ b ++ v) := ((sameR_refl u).app h).app (sameR_refl v)
theorem sameR_dup (a : Int) : SameR [a, a] [a] := ⟨same_dup a, same_dup a⟩
theorem sameR_one {a b d : Int} (hb : (a ≤ b ∧ b ≤ d) ∨ (d ≤ b ∧ b ≤ a)) : SameR [a, b, d] [a, d] := ⟨same_one hb, same_one (by omega)⟩
theorem sameR_inn {a b c d : Int} (h : inn a b c d = true) : SameR [a, b, c, d] [a, d] := ⟨same_inn h, same_inn (inn_iff.mpr (by have := inn_iff.mp h; omega))⟩
theorem sameR_rstep (rs : List Int) (x : Int) : SameR (rstep rs x).reverse (rs.reverse ++ [x]) := by
  match rs with
  | [] => exact sameR_refl _
  | [l] =>
    simp only [rstep]
    split
    · rename_i e
      subst e
      exact (sameR_dup l).symm
    · exact sameR_refl _
  | l :: p :: r =>
    simp only [rstep]
    split
    · rename_i e
      subst e
      have := (sameR_dup l).symm.mid (r.reverse ++ [p]) []
      simpa using this
    · split
      · rename_i hb
        have h := btw_iff.mp hb
        have := (sameR_one (a := p) (b := l) (d := x) (by omega)).symm.mid r.reverse []
        simpa using this
      · simpa using sameR_refl _
theorem sameR_ired : ∀ (n : Nat) (rs : List Int), rs.length ≤ n → SameR (ired rs).reverse rs.reverse := by
  intro n
  induction n with
  | zero =>
    intro rs hn
    have : rs = [] := List.length_eq_zero_iff.mp (by omega)
    subst this
    rw [ired_no (rs := []) rfl]
    exact sameR_refl _
  | succ n ih =>
    intro rs hn
    cases hi : innR rs with
    | false => rw [ired_no hi]; exact sameR_refl _
    | true =>
      match rs, hi with
      | d :: c :: b :: a :: r, hi =>
        rw [ired_yes (show inn a b c d = true from hi)]
        refine (ih _ (by simp at hn ⊢; omega)).trans ?_
        have := (sameR_inn (show inn a b c d = true from hi)).symm.mid r.reverse []
        simpa using this
theorem sameR_resR : ∀ (xs rs : List Int), SameR (resR rs xs).reverse (rs.reverse ++ xs)
  | [], rs => by rw [List.append_nil]; exact sameR_refl rs.reverse
  | x :: xs, rs => by
    have h := (sameR_resR xs (qstep rs x)).trans ((((sameR_ired _ _ (Nat.le_refl _)).trans (sameR_rstep rs x))).app (sameR_refl xs))
    rw [List.append_assoc] at h
    exact h
theorem red_of : ∀ rs : List Int, (∀ (i : Nat) (x y : Int), rs[i]? = some x → rs[i + 1]? = some y → x ≠ y) → (∀ (i : Nat) (x y z : Int), rs[i]? = some x → rs[i + 1]? = some y → rs[i + 2]? = some z → btw y z x = false) → RedR rs
  | [], _, _ => trivial
  | [_], _, _ => trivial
  | [x, y], h, _ => h 0 x y rfl rfl
  | x :: y :: z :: r, h, g => ⟨h 0 x y rfl rfl, g 0 x y z rfl rfl rfl, red_of (y :: z :: r) (fun i a b h1 h2 => h (i + 1) a b (by simpa using h1) (by simpa using h2)) fun i a b c h1 h2 h3 => g (i + 1) a b c (by simpa using h1) (by simpa using h2) (by simpa using h3)⟩
theorem noinn_of : ∀ rs : List Int, (∀ (i : Nat) (d c b a : Int), rs[i]? = some d → rs[i + 1]? = some c → rs[i + 2]? = some b → rs[i + 3]? = some a → inn a b c d = false) → NoInn rs
  | [], _ => trivial
  | [_], _ => trivial
  | [_, _], _ => trivial
  | [_, _, _], _ => trivial
  | d :: c :: b :: a :: r, h => ⟨h 0 d c b a rfl rfl rfl rfl, noinn_of (c :: b :: a :: r) fun i d' c' b' a' h1 h2 h3 h4 => h (i + 1) d' c' b' a' (by simpa using h1) (by simpa using h2) (by simpa using h3) (by simpa using h4)⟩
theorem ok_rev {rs : List Int} (h : ResOk rs) : ResOk rs.reverse := by
  obtain ⟨r1, r2⟩ := red_at rs h.red
  have r3 := noinn_at rs h.no
  refine ⟨red_of _ (fun i x y h1 h2 => ?_) (fun i x y z h1 h2 h3 => ?_), noinn_of _ fun i d c b a h1 h2 h3 h4 => ?_⟩
  · obtain ⟨l1, e1⟩ := rev_at h1
    obtain ⟨l2, e2⟩ := rev_at h2
    have := r1 (rs.length - 1 - (i + 1)) y x e2 (by rw [show rs.length - 1 - (i + 1) + 1 = rs.length - 1 - i by omega]; exact e1)
    exact fun e => this e.symm
  · obtain ⟨l1, e1⟩ := rev_at h1
    obtain ⟨l2, e2⟩ := rev_at h2
    obtain ⟨l3, e3⟩ := rev_at h3
    have := r2 (rs.length - 1 - (i + 2)) z y x e3 (by rw [show rs.length - 1 - (i + 2) + 1 = rs.length - 1 - (i + 1) by omega]; exact e2) (by rw [show rs.length - 1 - (i + 2) + 2 = rs.length - 1 - i by omega]; exact e1)
    rw [← Bool.not_eq_true, btw_iff] at this ⊢
    omega
  · obtain ⟨l1, e1⟩ := rev_at h1
    obtain ⟨l2, e2⟩ := rev_at h2
    obtain ⟨l3, e3⟩ := rev_at h3
    obtain ⟨l4, e4⟩ := rev_at h4
    have := r3 (rs.length - 1 - (i + 3)) a b c d e4 (by rw [show rs.length - 1 - (i + 3) + 1 = rs.length - 1 - (i + 2) by omega]; exact e3) (by rw [show rs.length - 1 - (i + 3) + 2 = rs.length - 1 - (i + 1) by omega]; exact e2) (by rw [show rs.length - 1 - (i + 3) + 3 = rs.length - 1 - i by omega]; exact e1)
    rw [← Bool.not_eq_true, inn_iff] at this ⊢
    omega
theorem ok_suffix : ∀ {a b : List Int}, ResOk (a ++ b) → ResOk b
  | [], _, h => h
  | x :: a, _, h => ok_suffix (a := a) (ResOk.tail h)
theorem qstep_fix {x : Int} {s : List Int} (h : ResOk (x :: s)) : qstep s x = x :: s := by
  have e : rstep s x = x :: s := by
    match s, h with
    | [], _ => rfl
    | [l], h =>
      have := red_two h.red
      simp only [rstep]
      rw [if_neg (fun e => this e.symm)]
    | l :: p :: r, h =>
      have h1 : x ≠ l ∧ btw l p x = false ∧ RedR (l :: p :: r) := h.red
      simp only [rstep]
      rw [if_neg (fun e => h1.1 e.symm), if_neg (by rw [h1.2.1]; exact Bool.false_ne_true)]
  unfold qstep
  rw [e, ired_fix h.no]
theorem res_fixed : ∀ (q p : List Int), ResOk (p ++ q).reverse → resR p.reverse q = (p ++ q).reverse
  | [], p, _ => by rw [List.append_nil]; rfl
  | x :: q, p, h => by
    have e : (p ++ x :: q).reverse = q.reverse ++ (x :: p.reverse) := by simp
    have h2 : ResOk (x :: p.reverse) := by rw [e] at h; exact ok_suffix h
    show resR (qstep p.reverse x) q = _
    rw [qstep_fix h2]
    have := res_fixed q (p ++ [x]) (by simpa using h)
    simpa using this
/-- read from its end -/
theorem res_rev (xs : List Int) : resOf xs.reverse = (resOf xs).reverse := by
  have h := (sameR_resR xs []).2
  have ok := (resR_ok xs [] nil_ok).1
  have h2 : Same (resOf xs).reverse xs.reverse := h
  rw [← same_resOf h2]
  have e : (resOf xs).reverse = resR [] xs := by unfold resOf; rw [List.reverse_reverse]
  rw [e]
  have h3 := res_fixed (resR [] xs) [] (by simpa using ok_rev ok)
  unfold resOf
  rw [show ([] : List Int).reverse = [] from rfl] at h3
  rw [h3]
  simp
end My
/-! ### a comprehension in a comprehension; lists of lists as data -/
namespace L2
open PySem PySem.Spec PyProof.Rows
theorem pi_listK {X : Cx} {K : PySem.W.Frag} {tg l : Expr} {tl : TE} (hl : PE X l tl) (hK : X.K = K := by rfl) : PI X tg l (iList K tl) := by subst hK; exact pi_list hl
end L2
namespace My
open PySem PySem.Spec PyProof.Rows L2
def NestV (H : Hp) (x : V) (ws : List Int) : Prop := ∃ b, x = V.ref b ∧ H b = some (.lst (ws.map V.int))
theorem NestV.ex {H H' : Hp} {x : V} {ws : List Int} (h : NestV H x ws) (e : Ex H H') : NestV H' x ws := let ⟨b, h1, h2⟩ := h; ⟨b, h1, e _ _ h2⟩
theorem lc_nest {K : PySem.W.Frag} {g : TG} {tl te : TE} {vs : List Nat} {σ : L2.St} {H : Hp} {r : Addr} {xs : List V} {as : List (List Int)} {φ : List Int → List Int}
    (htl : EvR tl σ H fun v _ => v = .ref r) (hr : H r = some (.lst xs)) (hal : Al (NestV H) xs as) (hl : as.length < 1000)
    (ht : ∀ H1, Ex H H1 → ∀ (x : V) (ws : List Int), ws ∈ as → NestV H1 x ws → ∃ σ2, GvR g x (L2.wipe σ vs) H1 σ2 ∧ L2.wipe σ2 vs = L2.wipe σ vs ∧ ∀ H2, Ex H1 H2 → EvR te σ2 H2 fun y H3 => ∃ b, y = V.ref b ∧ H2 b = none ∧ H3 b = some (.lst ((φ ws).map V.int))) :
    EvR (tLc (iList K tl) g tYes te vs) σ H fun v H1 => ∃ D ys, v = V.ref D ∧ H D = none ∧ H1 D = some (.lst ys) ∧ Al (NestV H1) ys (as.map φ) := fun Q k =>
  htl _ fun v H1 e1 hv => by
    subst hv
    refine ⟨r, rfl, ⟨_, .of (e1 _ _ hr)⟩, fun D hD => ?_⟩
    have hD0 := e1.free hD
    refine lc_list (K := K) (a := r) (xs := xs) (fun i H' => ∃ ys : List V, H' D = some (.lst ys) ∧ Al (fun y zs => ∃ b, y = V.ref b ∧ b ≠ D ∧ H' b = some (.lst (zs.map V.int))) ys ((as.take i).map φ) ∧ Ex H1 H') ⟨[], upd_same, Al.nil, Ex.new hD⟩ (fun i H' _ ⟨_, _, _, e⟩ => .of (e _ _ (e1 _ _ hr))) (fun i x H' hx pv => ?_) (fun H' pv => ?_)
    · obtain ⟨ys, p1, p2, p3⟩ := pv
      obtain ⟨ws, hws, hx2⟩ := hal.get hx
      obtain ⟨σ2, h1, h2, h3⟩ := ht H' (e1.trans p3) x ws (List.mem_of_getElem? hws) (hx2.ex (e1.trans p3))
      refine h1 _ fun H2 e2 => ⟨h2, ?_⟩
      unfold tYes
      dsimp only
      rw [if_pos rfl]
      refine h3 H2 e2 _ fun y H3 e3 hy => ?_
      obtain ⟨b, rfl, hb, hb3⟩ := hy
      have x3 := e2.trans e3
      have hbD : b ≠ D := fun e => by rw [e, e2 _ _ p1] at hb; cases hb
      refine ⟨_, x3 _ _ p1, ?_, ys ++ [V.ref b], upd_same, ?_, (p3.trans x3).mut hD⟩
      · rw [p2.1, List.length_map, List.length_take]
        exact Nat.lt_of_le_of_lt (show _ ≤ 1000 by omega) (by decide)
      · rw [take_snoc hws, List.map_append]
        refine Al.snoc (p2.imp fun x ws ⟨c, h1, h2, h3⟩ => ⟨c, h1, h2, ?_⟩) ⟨b, rfl, hbD, ?_⟩
        · rw [upd_ne h2]
          exact x3 _ _ h3
        · rw [upd_ne hbD]
          exact hb3
    · obtain ⟨ys, p1, p2, p3⟩ := pv
      rw [hal.1, List.take_length] at p2
      exact k _ H' (e1.trans p3) ⟨D, ys, rfl, hD0, p1, p2.imp fun x ws ⟨c, h1, _, h3⟩ => ⟨c, h1, h3⟩⟩
def dLL (ass : List (List Int)) : PyData := .list (ass.map dL)
theorem dpLL {K : PySem.W.Frag} {H : Hp} {r : Addr} {xs : List V} {ass : List (List Int)} (h : SqL K H r xs) (hal : Al (NestV H) xs ass) : Dp K H (.ref r) (dLL ass) := by
  refine .lst h ?_
  clear h
  induction ass generalizing xs with
  | nil =>
    have : xs = [] := List.length_eq_zero_iff.mp hal.1
    subst this
    exact .nil
  | cons a t ih =>
    cases xs with
    | nil => have := hal.1; simp at this
    | cons x xs =>
      obtain ⟨⟨b, rfl, hb⟩, h2⟩ := hal.inv
      exact .cons (dpL (.of hb)) (ih h2)
theorem lay_ll : ∀ ass : List (List Int), PyData.canLayAll0 (ass.map dL) = true ∧ PyData.depthAll (ass.map dL) ≤ 1
  | [] => by simp [PyData.canLayAll0, PyData.depthAll]
  | x :: r => by
    have h := lay_ll r
    have h1 := lay_int x
    have e : PyData.canLay0 (dL x) = true ∧ PyData.depth (dL x) ≤ 1 := by
      unfold dL
      simp [PyData.canLay0, PyData.depth, h1.1, h1.2]
    rw [List.map_cons]
    unfold PyData.canLayAll0 PyData.depthAll
    rw [h.1, e.1]
    have h2 := h.2
    have e2 := e.2
    exact ⟨rfl, by omega⟩
theorem shLL (ass : List (List Int)) : SeqAt.shaped (dLL ass) = true := by
  have h1 := lay_ll ass
  unfold SeqAt.shaped dLL
  simp [PyData.canLay0, PyData.depth, h1.1]
  omega
theorem eqAll_ll : ∀ ass : List (List Int), PyData.eqvAll (ass.map dL) (ass.map dL) = true
  | [] => by simp [PyData.eqvAll]
  | x :: r => by
    rw [List.map_cons]
    unfold PyData.eqvAll
    rw [eqAll_ll r, eqLL]
    rfl
theorem eqLLL (ass : List (List Int)) : PyData.eqv (dLL ass) (dLL ass) = true := by
  unfold dLL PyData.eqv
  exact eqAll_ll ass
end My
/-! ### swings taken out in any order -/
namespace My
open PySem PySem.Spec PyProof.Rows L2
theorem red_out0 {a b c d : Int} {v : List Int} (h : RedR (a :: b :: c :: d :: v)) (hi : inn a b c d = true) : RedR (a :: d :: v) := by
  have h1 := red_alt h
  have h2 := red_alt h.tail
  have hi := inn_iff.mp hi
  cases v with
  | nil =>
    show a ≠ d
    omega
  | cons e v =>
    have h3 := red_alt h.tail.tail
    refine ⟨by omega, ?_, h.tail.tail.tail⟩
    rw [← Bool.not_eq_true, btw_iff]
    omega
theorem red_out : ∀ (u : List Int) {a b c d : Int} {v : List Int}, RedR (u ++ a :: b :: c :: d :: v) → inn a b c d = true → RedR (u ++ a :: d :: v)
  | [], _, _, _, _, _, h, hi => red_out0 h hi
  | [w], a, b, c, d, v, h, hi => by
    have h0 : RedR (w :: a :: b :: c :: d :: v) := h
    have g1 := red_alt h0
    have g2 := red_alt h0.tail
    have g3 := red_alt h0.tail.tail
    have hi' := inn_iff.mp hi
    have r := red_out0 h0.tail hi
    refine ⟨by omega, ?_, r⟩
    rw [← Bool.not_eq_true, btw_iff]
    omega
  | [x, y], a, b, c, d, v, h, hi => by
    have h0 : x ≠ y ∧ btw y a x = false ∧ RedR (y :: a :: b :: c :: d :: v) := h
    exact ⟨h0.1, h0.2.1, red_out [y] h0.2.2 hi⟩
  | x :: y :: z :: t, a, b, c, d, v, h, hi => by
    have h0 : x ≠ y ∧ btw y z x = false ∧ RedR (y :: z :: t ++ a :: b :: c :: d :: v) := h
    exact ⟨h0.1, h0.2.1, red_out (y :: z :: t) h0.2.2 hi⟩
theorem same_turnsR : ∀ (xs rs : List Int), Same (turnsR rs xs).reverse (rs.reverse ++ xs)
  | [], rs => by rw [List.append_nil]; exact same_refl rs.reverse
  | x :: xs, rs => by
    have h := (same_turnsR xs (rstep rs x)).trans ((same_rstep rs x).app (same_refl xs))
    rw [List.append_assoc] at h
    exact h
theorem same_turnsOf (xs : List Int) : Same (turnsOf xs) xs := same_turnsR xs []
theorem red_rev {rs : List Int} (h : RedR rs) : RedR rs.reverse := by
  obtain ⟨r1, r2⟩ := red_at rs h
  refine red_of _ (fun i x y h1 h2 => ?_) (fun i x y z h1 h2 h3 => ?_)
  · obtain ⟨l1, e1⟩ := rev_at h1
    obtain ⟨l2, e2⟩ := rev_at h2
    have := r1 (rs.length - 1 - (i + 1)) y x e2 (by rw [show rs.length - 1 - (i + 1) + 1 = rs.length - 1 - i by omega]; exact e1)
    exact fun e => this e.symm
  · obtain ⟨l1, e1⟩ := rev_at h1
    obtain ⟨l2, e2⟩ := rev_at h2
    obtain ⟨l3, e3⟩ := rev_at h3
    have := r2 (rs.length - 1 - (i + 2)) z y x e3 (by rw [show rs.length - 1 - (i + 2) + 1 = rs.length - 1 - (i + 1) by omega]; exact e2) (by rw [show rs.length - 1 - (i + 2) + 2 = rs.length - 1 - i by omega]; exact e1)
    rw [← Bool.not_eq_true, btw_iff] at this ⊢
    omega
theorem red_turnsOf (xs : List Int) : RedR (turnsOf xs) := red_rev (turnsR_red xs [] trivial)
/-- what is left in any order is the residue -/
theorem left_is {xs L : List Int} (hs : Same L xs) (hr : RedR L) (hn : NoInn L) : resOf xs = L := by
  have h := res_fixed L [] (ok_rev (rs := L) ⟨hr, hn⟩)
  have e : resOf L = L := by
    unfold resOf
    have h2 : resR [] L = L.reverse := h
    rw [h2, List.reverse_reverse]
  rw [← same_resOf hs, e]
/-- whether the swing from a place lies within its neighbours -/
def withinL (L : List Int) (s : Nat) : Bool := decide (1 ≤ s) && decide (s + 2 < L.length) && inn (L.getD (s - 1) 0) (L.getD s 0) (L.getD (s + 1) 0) (L.getD (s + 2) 0)
theorem noinn_within {L : List Int} (h : ∀ s, s < L.length → withinL L s = false) : NoInn L := noinn_of L fun i d c b a h1 h2 h3 h4 => by
  have l4 := (List.getElem?_eq_some_iff.mp h4).1
  have := h (i + 1) (by omega)
  unfold withinL at this
  rw [decide_eq_true (by omega), decide_eq_true (by omega)] at this
  have g : ∀ {k : Nat} {z : Int}, L[k]? = some z → L.getD k 0 = z := fun hk => by rw [List.getD_eq_getElem?_getD, hk]; rfl
  rw [show i + 1 - 1 = i by omega, g h1, g h2, show i + 1 + 1 = i + 2 by omega, g h3, show i + 1 + 2 = i + 3 by omega, g h4] at this
  simp only [Bool.true_and] at this
  rw [← Bool.not_eq_true, inn_iff] at this ⊢
  omega
theorem within_at {L : List Int} {s : Nat} (h : withinL L s = true) : ∃ u a b c d v, L = u ++ a :: b :: c :: d :: v ∧ u.length + 1 = s ∧ inn a b c d = true := by
  unfold withinL at h
  simp only [Bool.and_eq_true, decide_eq_true_eq] at h
  obtain ⟨⟨h1, h2⟩, h3⟩ := h
  obtain ⟨k, rfl⟩ : ∃ k, s = k + 1 := ⟨s - 1, by omega⟩
  have e : L = L.take k ++ L.getD k 0 :: L.getD (k + 1) 0 :: L.getD (k + 2) 0 :: L.getD (k + 3) 0 :: L.drop (k + 4) := by
    have g : ∀ {j : Nat} (hj : j < L.length), L.getD j 0 = L[j] := fun hj => by rw [List.getD_eq_getElem?_getD, List.getElem?_eq_getElem hj]; rfl
    rw [g (by omega), g (by omega), g (by omega), g (by omega), ← List.drop_eq_getElem_cons (by omega), ← List.drop_eq_getElem_cons (by omega), ← List.drop_eq_getElem_cons (by omega), ← List.drop_eq_getElem_cons (by omega), List.take_append_drop]
  refine ⟨_, _, _, _, _, _, e, by rw [List.length_take]; omega, ?_⟩
  rw [show k + 1 - 1 = k by omega] at h3
  exact h3
theorem out_within {u v xs : List Int} {a b c d : Int} (hs : Same (u ++ a :: b :: c :: d :: v) xs) (hr : RedR (u ++ a :: b :: c :: d :: v)) (hi : inn a b c d = true) : Same (u ++ a :: d :: v) xs ∧ RedR (u ++ a :: d :: v) := by
  refine ⟨?_, red_out u hr hi⟩
  have := (same_inn hi).symm.mid u v
  have h2 : Same (u ++ a :: d :: v) (u ++ a :: b :: c :: d :: v) := by simpa using this
  exact h2.trans hs
end My
/-! ### readings, a step at a time -/
namespace My
open PySem PySem.Spec PyProof.Rows L2
inductive SetR {α : Type} : List α → Nat → α → List α → Prop where
  | z {x v : α} {r : List α} : SetR (x :: r) 0 v (v :: r)
  | s {x v : α} {r r' : List α} {i : Nat} (h : SetR r i v r') : SetR (x :: r) (i + 1) v (x :: r')
theorem SetR.eq {α : Type} {l : List α} {i : Nat} {v : α} {l' : List α} (h : SetR l i v l') : l.set i v = l' := by
  induction h with
  | z => rfl
  | s h ih => rw [List.set_cons_succ, ih]
def kBl (Q : Bool → Hp → Prop) : VK := fun x H => ∃ k, x = .bl k ∧ Q k H
def kIf (A B : Hp → Prop) : Bool → Hp → Prop := fun c H => if c = true then A H else B H
def kTru (K : PySem.W.Frag) (Q : Bool → Hp → Prop) : VK := fun x H => ∃ k, TruV K x H k ∧ Q k H
def kInt (Q : Option Int → Hp → Prop) : VK := fun x H => ∃ i, x = .int i ∧ Q (some i) H
def kTup (Q : VK) : List V → Hp → Prop := fun xs H1 => xs.length ≤ sizeLine ∧ ∀ p, H1 p = none → Q (.ref p) (upd H1 p (.tup xs))
def kLst (Q : VK) : List V → Hp → Prop := fun xs H1 => xs.length ≤ sizeLine ∧ ∀ p, H1 p = none → Q (.ref p) (upd H1 p (.lst xs))
def kBM (K : PySem.W.Frag) (T : String) (r : V → List V → Hp → VK → Prop) (t : TA) (σ : L2.St) (Q : VK) : VK := fun x H1 => tyV K T x H1 ∧ t σ H1 fun xs H2 => r x xs H2 Q
def kBM0 (K : PySem.W.Frag) (T : String) (r : V → List V → Hp → VK → Prop) (Q : VK) : VK := fun x H1 => tyV K T x H1 ∧ r x [] H1 Q
def kPar (i j : Nat) (σ : L2.St) (Q : L2.St → Hp → Prop) : List V → Hp → Prop := fun vs H1 => ∃ v w, vs = [v, w] ∧ Q ((σ.set i (some v)).set j (some w)) H1
def kIL (K : PySem.W.Frag) (R : It → Hp → Prop) : VK := fun x H1 => ∃ a, x = .ref a ∧ (∃ xs, SqL K H1 a xs) ∧ R (Itl K a) H1
def kIT (K : PySem.W.Frag) (R : It → Hp → Prop) : VK := fun x H1 => ∃ a, x = .ref a ∧ (∃ xs, SqT K H1 a xs) ∧ R (Itt K a) H1
def kR1 (R : It → Hp → Prop) : List V → Hp → Prop := fun vs H1 => ∃ j : Int, vs = [.int j] ∧ -(2 ^ 62) ≤ j ∧ j < 2 ^ 62 ∧ R (Itr 0 j.toNat) H1
def kR2 (R : It → Hp → Prop) : List V → Hp → Prop := fun vs H1 => ∃ i j : Int, vs = [.int i, .int j] ∧ (-(2 ^ 62) ≤ i ∧ i < 2 ^ 62 ∧ -(2 ^ 62) ≤ j ∧ j < 2 ^ 62) ∧ R (Itr i (j - i).toNat) H1
def kFor (g : TG) (tb : TS) (D : Ends) (σ : L2.St) : It → Hp → Prop := fun J H1 => ∃ W : Nat → Nat → L2.St → Hp → Prop, (∃ m, W 0 m σ H1) ∧ ∀ i m σ H, W i m σ H →
  (J.stop i H ∧ D.nx σ H) ∨ (J.go i H ∧ ∃ N : L2.St → Hp → Prop, (∀ σ' H', N σ' H' → ∃ m', m' < m ∧ W (i + 1) m' σ' H') ∧ ∀ x H', J.yld i H x H' → g x σ H' fun σ2 H2 => tb { D with nx := N, ct := N, bk := D.nx } σ2 H2)
section
variable {K : PySem.W.Frag} {σ σ' σ1 σ2 : L2.St} {H : Hp} {Q : VK} {QB : Bool → Hp → Prop} {A B : Hp → Prop} {ta tb tc te to tl : TE} {t u c : TT} {ts us : TS} {a b d : L2.St → Hp → Prop} {D : Ends} {v w x y : V} {i j : Int} {n k : Nat} {p : Addr} {xs ys : List V} {P : Prop} [Decidable P]
theorem s_var (h : σ[n]? = some (some v)) (q : Q v H) : tVar n σ H Q := ⟨v, h, q⟩
theorem s_c (q : Q v H) : tC v σ H Q := q
theorem s_op {r : R2} (q : ta σ H fun x H1 => tb σ H1 fun y H2 => r x y H2 Q) : tOp r ta tb σ H Q := q
theorem s_un {r : V → Hp → VK → Prop} (q : ta σ H fun x H1 => r x H1 Q) : tUn r ta σ H Q := q
theorem s_rI0 {g : Int → Int → V} (q : Q (g i j) H) : rI0 g (.int i) (.int j) H Q := ⟨i, j, rfl, rfl, q⟩
theorem s_rI {C : Int → Int → Prop} {g : Int → Int → V} (hc : C i j) (q : Q (g i j) H) : rI C g (.int i) (.int j) H Q := ⟨i, j, rfl, rfl, hc, q⟩
theorem s_rU {g : Int → V} (q : Q (g i) H) : rU g (.int i) H Q := ⟨i, rfl, q⟩
theorem s_test (q : ta σ H (kBl QB)) : tTest ta σ H QB := q
theorem s_tB (q : ta σ H (kBl QB)) : tB ta σ H QB := q
theorem s_kbl {b : Bool} (q : QB b H) : kBl QB (.bl b) H := ⟨b, rfl, q⟩
theorem s_and (q : t σ H (kIf (fun H1 => u σ H1 QB) (QB false))) : tAnd t u σ H QB := q
theorem s_or (q : t σ H (kIf (QB true) (fun H1 => u σ H1 QB))) : tOr t u σ H QB := q
theorem s_not (q : t σ H fun c H1 => QB (!c) H1) : tNot t σ H QB := q
theorem s_andV (q : ta σ H (kBl (kIf (fun H1 => tb σ H1 Q) (Q (.bl false))))) : tAndV ta tb σ H Q := q
theorem s_orV (q : ta σ H (kBl (kIf (Q (.bl true)) (fun H1 => tb σ H1 Q)))) : tOrV ta tb σ H Q := q
theorem s_notV (q : ta σ H (kBl fun c H1 => Q (.bl (!c)) H1)) : tNotV ta σ H Q := q
theorem s_tIf (q : t σ H (kIf (fun H1 => ta σ H1 Q) (fun H1 => tb σ H1 Q))) : tIf t ta tb σ H Q := q
theorem s_chain {r r' : R2} (q : ta σ H fun x H1 => tb σ H1 fun y H2 => r x y H2 (kBl (kIf (fun H3 => tc σ H3 fun w' H4 => r' y w' H4 Q) (Q (.bl false))))) : tChain r r' ta tb tc σ H Q := q
theorem s_tru (q : ta σ H (kTru K QB)) : tTruK K ta σ H QB := q
theorem s_truL (h : SqL K H p xs) (q : QB (!xs.isEmpty) H) : kTru K QB (.ref p) H := ⟨_, .inl ⟨xs, h, rfl⟩, q⟩
theorem s_truT (h : SqT K H p xs) (q : QB (!xs.isEmpty) H) : kTru K QB (.ref p) H := ⟨_, .inr (.inl ⟨xs, h, rfl⟩), q⟩
theorem s_truB {b : Bool} (q : QB b H) : kTru K QB (.bl b) H := ⟨_, rfl, q⟩
theorem s_truN (q : QB false H) : kTru K QB .non H := ⟨_, rfl, q⟩
theorem s_ift (q : A H) : kIf A B true H := iteT q
theorem s_iff (q : B H) : kIf A B false H := iteF q
theorem s_dT (h : P) (q : A H) : kIf A B (decide P) H := by rw [decide_eq_true h]; exact iteT q
theorem s_dF (h : ¬ P) (q : B H) : kIf A B (decide P) H := by rw [decide_eq_false h]; exact iteF q
theorem s_knot {b : Bool} (q : kIf B A b H) : kIf A B (!b) H := by cases b <;> exact q
theorem s_kand {b c : Bool} (q : kIf (kIf A B c) B b H) : kIf A B (b && c) H := by cases b <;> exact q
theorem s_kor {b c : Bool} (q : kIf A (kIf A B c) b H) : kIf A B (b || c) H := by cases b <;> exact q
theorem s_dec (q1 : P → A H) (q2 : ¬ P → B H) : kIf A B (decide P) H := by
  by_cases h : P
  · exact s_dT h (q1 h)
  · exact s_dF h (q2 h)
theorem s_bool {b : Bool} (q1 : b = true → A H) (q2 : b = false → B H) : kIf A B b H := by
  cases b
  · exact iteF (q2 rfl)
  · exact iteT (q1 rfl)
theorem s_boT {b : Bool} (h : b = true) (q : A H) : kIf A B b H := by rw [h]; exact iteT q
theorem s_boF {b : Bool} (h : b = false) (q : B H) : kIf A B b H := by rw [h]; exact iteF q
theorem s_eqI (q : Q (.bl (decide (i = j))) H) : rEq (.int i) (.int j) H Q := ⟨rfl, by
  have e : decide (V.int i = V.int j) = decide (i = j) := by congr 1; exact propext ⟨fun h => V.int.inj h, fun h => by rw [h]⟩
  rw [e]; exact q⟩
theorem s_neI (q : Q (.bl (!decide (i = j))) H) : rNe (.int i) (.int j) H Q := ⟨rfl, by
  have e : decide (V.int i = V.int j) = decide (i = j) := by congr 1; exact propext ⟨fun h => V.int.inj h, fun h => by rw [h]⟩
  rw [e]; exact q⟩
theorem s_eqS {z z' : PySem.Str} (q : Q (.bl (decide (z = z'))) H) : rEq (.str z) (.str z') H Q := ⟨rfl, by
  have e : decide (V.str z = V.str z') = decide (z = z') := by congr 1; exact propext ⟨fun h => V.str.inj h, fun h => by rw [h]⟩
  rw [e]; exact q⟩
theorem s_neS {z z' : PySem.Str} (q : Q (.bl (!decide (z = z'))) H) : rNe (.str z) (.str z') H Q := ⟨rfl, by
  have e : decide (V.str z = V.str z') = decide (z = z') := by congr 1; exact propext ⟨fun h => V.str.inj h, fun h => by rw [h]⟩
  rw [e]; exact q⟩
theorem s_eqB {z z' : Bool} (q : Q (.bl (decide (z = z'))) H) : rEq (.bl z) (.bl z') H Q := ⟨rfl, by
  have e : decide (V.bl z = V.bl z') = decide (z = z') := by congr 1; exact propext ⟨fun h => V.bl.inj h, fun h => by rw [h]⟩
  rw [e]; exact q⟩
theorem s_neB {z z' : Bool} (q : Q (.bl (!decide (z = z'))) H) : rNe (.bl z) (.bl z') H Q := ⟨rfl, by
  have e : decide (V.bl z = V.bl z') = decide (z = z') := by congr 1; exact propext ⟨fun h => V.bl.inj h, fun h => by rw [h]⟩
  rw [e]; exact q⟩
theorem s_eqSI {z : PySem.Str} (q : Q (.bl false) H) : rEq (.str z) (.int i) H Q := ⟨rfl, q⟩
theorem s_eqIS {z : PySem.Str} (q : Q (.bl false) H) : rEq (.int i) (.str z) H Q := ⟨rfl, q⟩
theorem s_isN {y : V} {f : V → Bool} (q : Q (.bl (f x)) H) (h : y = .non) : y = .non ∧ Q (.bl (f x)) H := ⟨h, q⟩
theorem s_rIxL (h : SqL K H p xs) (hv : atI xs i = some v) (q : Q v H) : rIxL K (.ref p) (.int i) H Q := ⟨p, xs, i, v, rfl, rfl, h, hv, q⟩
theorem s_rIxT (h : SqT K H p xs) (hv : atI xs i = some v) (q : Q v H) : rIxT K (.ref p) (.int i) H Q := ⟨p, xs, i, v, rfl, rfl, h, hv, q⟩
theorem s_ixTL (h : SqL K H p xs) (hv : atI xs i = some v) (q : Q v H) : rIx K (.ref p) (.int i) H Q := .inl (s_rIxL h hv q)
theorem s_ixTT (h : SqT K H p xs) (hv : atI xs i = some v) (q : Q v H) : rIx K (.ref p) (.int i) H Q := .inr (.inl (s_rIxT h hv q))
theorem s_rSlL {lo hi : Option Int} (h : SqL K H p xs) (q : ∀ l H', H l = none → Ex H H' → H' l = some (.lst (cutV xs lo hi)) → Q (.ref l) H') : rSlL K (.ref p) lo hi H Q := ⟨p, xs, rfl, h, fun l nl => q l _ nl (Ex.new nl) upd_same⟩
theorem s_tup {ta : TA} (q : ta σ H (kTup Q)) : tTup ta σ H Q := q
theorem s_lst {ta : TA} (q : ta σ H (kLst Q)) : tLst ta σ H Q := q
theorem s_kTup (hz : xs.length ≤ sizeLine) (q : ∀ l H', H l = none → Ex H H' → H' l = some (.tup xs) → Q (.ref l) H') : kTup Q xs H := ⟨hz, fun l nl => q l _ nl (Ex.new nl) upd_same⟩
theorem s_kLst (hz : xs.length ≤ sizeLine) (q : ∀ l H', H l = none → Ex H H' → H' l = some (.lst xs) → Q (.ref l) H') : kLst Q xs H := ⟨hz, fun l nl => q l _ nl (Ex.new nl) upd_same⟩
theorem s_nil {QA : List V → Hp → Prop} (q : QA [] H) : tNil σ H QA := q
theorem s_cons {tr : TA} {QA : List V → Hp → Prop} (q : ta σ H fun x H1 => tr σ H1 fun xs H2 => QA (x :: xs) H2) : tCons ta tr σ H QA := q
theorem s_cb {r : List V → Hp → VK → Prop} {ta : TA} (q : ta σ H fun vs H1 => r vs H1 Q) : tCB r ta σ H Q := q
theorem s_call {sp : Sp} {dvs : List V} {E : XK} {ta : TA} (q : ta σ H fun vs H1 => sp (vs ++ dvs) H1 Q E) : tCall sp dvs E ta σ H Q := q
theorem s_sl {r : V → Option Int → Option Int → Hp → VK → Prop} {tl th : TO} (q : te σ H fun x H1 => tl σ H1 fun l H2 => th σ H2 fun u H3 => r x l u H3 Q) : tSl r te tl th σ H Q := q
theorem s_part {QO : Option Int → Hp → Prop} (q : te σ H (kInt QO)) : tPart te σ H QO := q
theorem s_noPart {QO : Option Int → Hp → Prop} (q : QO none H) : tNoPart σ H QO := q
theorem s_kInt {QO : Option Int → Hp → Prop} (q : QO (some i) H) : kInt QO (.int i) H := ⟨i, rfl, q⟩
theorem s_bm {T : String} {r : V → List V → Hp → VK → Prop} {ta : TA} (q : to σ H (kBM K T r ta σ Q)) : tBM K T r to ta σ H Q := q
theorem s_bm0 {T : String} {r : V → List V → Hp → VK → Prop} (q : to σ H (kBM0 K T r Q)) : tBM0 K T r to σ H Q := q
theorem s_kbm {r : V → List V → Hp → VK → Prop} {ta : TA} (h : H p = some (.lst xs)) (q : ta σ H fun xs H2 => r (.ref p) xs H2 Q) : kBM K "list" r ta σ Q (.ref p) H := ⟨.inl ⟨rfl, xs, .of h⟩, q⟩
theorem s_kbm0 {r : V → List V → Hp → VK → Prop} (h : H p = some (.lst xs)) (q : r (.ref p) [] H Q) : kBM0 K "list" r Q (.ref p) H := ⟨.inl ⟨rfl, xs, .of h⟩, q⟩
theorem s_append (h : H p = some (.lst xs)) (hz : xs.length < sizeLine) (q : ∀ H', ExB p H H' → H' p = some (.lst (xs ++ [y])) → Q .non H') : rAppend (.ref p) [y] H Q := ⟨p, xs, y, rfl, rfl, h, hz, q _ ExB.upd upd_same⟩
theorem s_len (h : SqL K H p xs) (q : Q (.int xs.length) H) : rLenS K [.ref p] H Q := ⟨p, xs, rfl, .inl h, q⟩
theorem s_lenT (h : SqT K H p xs) (q : Q (.int xs.length) H) : rLenS K [.ref p] H Q := ⟨p, xs, rfl, .inr h, q⟩
theorem s_max2 (q : Q (.int (if j > i then j else i)) H) : rMax2 [.int i, .int j] H Q := ⟨i, j, rfl, q⟩
theorem s_min2 (q : Q (.int (if j < i then j else i)) H) : rMin2 [.int i, .int j] H Q := ⟨i, j, rfl, q⟩
theorem s_listL (h : SqL K H p xs) (q : ∀ l H', H l = none → Ex H H' → H' l = some (.lst xs) → Q (.ref l) H') : rListOf K [.ref p] H Q := ⟨p, xs, rfl, .inl h, fun l nl => q l _ nl (Ex.new nl) upd_same⟩
theorem s_listT (h : SqT K H p xs) (q : ∀ l H', H l = none → Ex H H' → H' l = some (.lst xs) → Q (.ref l) H') : rListOf K [.ref p] H Q := ⟨p, xs, rfl, .inr h, fun l nl => q l _ nl (Ex.new nl) upd_same⟩
theorem s_tupleL (h : SqL K H p xs) (q : ∀ l H', H l = none → Ex H H' → H' l = some (.tup xs) → Q (.ref l) H') : rTupleOf K [.ref p] H Q := ⟨p, xs, rfl, .inl ⟨h, fun l nl => q l _ nl (Ex.new nl) upd_same⟩⟩
theorem s_isi {n T : String} {b : Bool} (h : Sml K H x n) (e : kitB n T = some b) (q : Q (.bl b) H) : rIsi K [x, .ty T] H Q := isi_of h e q
theorem s_cat {l : Addr} (h1 : H p = some (.lst xs)) (h2 : H l = some (.lst ys)) (hz : xs.length + ys.length ≤ sizeLine) (q : ∀ m H', H m = none → Ex H H' → H' m = some (.lst (xs ++ ys)) → Q (.ref m) H') : rCat (.ref p) (.ref l) H Q :=
  ⟨p, l, xs, ys, rfl, rfl, h1, h2, hz, fun m nm => q m _ nm (Ex.new nm) upd_same⟩
-- statements
theorem s_seq (q : ts ⟨us D, D.rt, D.bk, D.ct⟩ σ H) : tSeq ts us D σ H := q
theorem s_next (q : D.nx σ H) : tNext D σ H := q
theorem s_nx (q : a σ H) : Ends.nx ⟨a, Q, b, d⟩ σ H := q
theorem s_rt (q : Q v H) : Ends.rt ⟨a, Q, b, d⟩ v H := q
theorem s_drop (q : te σ H fun _ H1 => D.nx σ H1) : tDrop te D σ H := q
theorem s_ret (q : te σ H D.rt) : tRet te D σ H := q
theorem s_retN (q : D.rt .non H) : tRetN D σ H := q
theorem s_ifs (q : c σ H (kIf (ts D σ) (us D σ))) : tIfS c ts us D σ H := q
theorem s_asg {g : TG} (q : te σ H fun x H1 => g x σ H1 D.nx) : tAsg te g D σ H := q
theorem s_gN {QS : L2.St → Hp → Prop} (h : SetR σ n (some v) σ') (q : QS σ' H) : gName n v σ H QS := by
  show QS (σ.set n (some v)) H
  rw [h.eq]; exact q
theorem s_gTup {QS : L2.St → Hp → Prop} {t : TGs} (h : SqT K H p xs) (hl : xs.length = n) (q : t xs σ H QS) : gTup K n t (.ref p) σ H QS := ⟨p, xs, rfl, h, hl, q⟩
theorem s_gC {QS : L2.St → Hp → Prop} {t : TG} {u : TGs} (q : t v σ H fun σ' H' => u xs σ' H' QS) : gCons t u (v :: xs) σ H QS := ⟨v, xs, rfl, q⟩
theorem s_gNil {QS : L2.St → Hp → Prop} (q : QS σ H) : gNil [] σ H QS := ⟨rfl, q⟩
theorem s_par {ta : TA} {m : Nat} (q : ta σ H (kPar n m σ D.nx)) : tPar n m ta D σ H := q
theorem s_kPar {m : Nat} {QS : L2.St → Hp → Prop} (h1 : SetR σ n (some v) σ1) (h2 : SetR σ1 m (some w) σ2) (q : QS σ2 H) : kPar n m σ QS [v, w] H := by
  refine ⟨v, w, rfl, ?_⟩
  rw [h1.eq, h2.eq]; exact q
theorem s_for {wi : TI} {g : TG} (q : wi σ H (kFor g ts D σ)) : tFor wi g ts D σ H := q
theorem s_iL {R : It → Hp → Prop} (q : tl σ H (kIL K R)) : iList K tl σ H R := q
theorem s_iT {R : It → Hp → Prop} (q : tl σ H (kIT K R)) : iTup K tl σ H R := q
theorem s_r1 {R : It → Hp → Prop} {ta : TA} (q : ta σ H (kR1 R)) : iRng1 ta σ H R := q
theorem s_r2 {R : It → Hp → Prop} {ta : TA} (q : ta σ H (kR2 R)) : iRng2 ta σ H R := q
theorem l_forL {g : TG} (I : Nat → L2.St → Hp → Prop) (hx : SqL K H p xs) (h0 : I 0 σ H) (hk : ∀ i σ H', I i σ H' → SqL K H' p xs)
    (hs : ∀ i x σ H', xs[i]? = some x → I i σ H' → g x σ H' fun σ2 H2 => ts ⟨I (i + 1), D.rt, D.nx, I (i + 1)⟩ σ2 H2) (hd : ∀ σ H', I xs.length σ H' → D.nx σ H') : kIL K (kFor g ts D σ) (.ref p) H :=
  ⟨p, rfl, ⟨_, hx⟩, for_list I h0 (fun i σ H' _ h => hk i σ H' h) hs hd⟩
theorem l_forR {g : TG} {m : Nat} (hm : i = (m : Int)) (hb : m < 100000) (I : Nat → L2.St → Hp → Prop) (h0 : I 0 σ H)
    (hs : ∀ (k : Nat) σ H', k < m → I k σ H' → g (.int (k : Int)) σ H' fun σ2 H2 => ts ⟨I (k + 1), D.rt, D.nx, I (k + 1)⟩ σ2 H2) (hd : ∀ σ H', I m σ H' → D.nx σ H') : kR1 (kFor g ts D σ) [.int i] H := by
  subst hm
  refine ⟨_, rfl, by omega, by omega, ?_⟩
  rw [Int.toNat_natCast]
  refine for_range (lo := 0) (n := m) I h0 (fun k σ H' hk h => ?_) hd
  have := hs k σ H' hk h
  rw [show ((0 : Int) + (k : Int)) = (k : Int) by omega]
  exact this
end
theorem x_ex {H H' : Hp} {p : Addr} {o : HO} (e : Ex H H') (h : H p = some o) : H' p = some o := e p o h
theorem x_exB {H H' : Hp} {p r : Addr} {o : HO} (e : ExB r H H') (n : p ≠ r) (h : H p = some o) : H' p = some o := e p o n h
theorem x_fr {H H' : Hp} {p : Addr} (h : H' p = none) (e : Ex H H') : H p = none := e.free h
theorem x_tr {H H1 H2 : Hp} (b : Ex H1 H2) (a : Ex H H1) : Ex H H2 := a.trans b
theorem x_ne {H : Hp} {p r : Addr} {o : HO} (n : H r = none) (h : H p = some o) : p ≠ r := ne_of_none h n
theorem sz1 {n : Nat} (h : n ≤ 1000000) : n ≤ sizeLine := Nat.le_trans h (by decide)
theorem sz2 {n : Nat} (h : n < 1000000) : n < sizeLine := Nat.lt_of_lt_of_le h (by decide)
end My
namespace My
open PySem PySem.Spec PyProof.Rows L2
theorem kb_NoneType_int : kitB "NoneType" "int" = some false := by decide +kernel
theorem kb_NoneType_bool : kitB "NoneType" "bool" = some false := by decide +kernel
theorem kb_NoneType_str : kitB "NoneType" "str" = some false := by decide +kernel
theorem kb_NoneType_list : kitB "NoneType" "list" = some false := by decide +kernel
theorem kb_NoneType_tuple : kitB "NoneType" "tuple" = some false := by decide +kernel
theorem kb_NoneType_dict : kitB "NoneType" "dict" = some false := by decide +kernel
theorem kb_bool_int : kitB "bool" "int" = some true := by decide +kernel
theorem kb_bool_bool : kitB "bool" "bool" = some true := by decide +kernel
theorem kb_bool_str : kitB "bool" "str" = some false := by decide +kernel
theorem kb_bool_list : kitB "bool" "list" = some false := by decide +kernel
theorem kb_bool_tuple : kitB "bool" "tuple" = some false := by decide +kernel
theorem kb_bool_dict : kitB "bool" "dict" = some false := by decide +kernel
theorem kb_int_int : kitB "int" "int" = some true := by decide +kernel
theorem kb_int_bool : kitB "int" "bool" = some false := by decide +kernel
theorem kb_int_str : kitB "int" "str" = some false := by decide +kernel
theorem kb_int_list : kitB "int" "list" = some false := by decide +kernel
theorem kb_int_tuple : kitB "int" "tuple" = some false := by decide +kernel
theorem kb_int_dict : kitB "int" "dict" = some false := by decide +kernel
theorem kb_str_int : kitB "str" "int" = some false := by decide +kernel
theorem kb_str_bool : kitB "str" "bool" = some false := by decide +kernel
theorem kb_str_str : kitB "str" "str" = some true := by decide +kernel
theorem kb_str_list : kitB "str" "list" = some false := by decide +kernel
theorem kb_str_tuple : kitB "str" "tuple" = some false := by decide +kernel
theorem kb_str_dict : kitB "str" "dict" = some false := by decide +kernel
theorem kb_list_int : kitB "list" "int" = some false := by decide +kernel
theorem kb_list_bool : kitB "list" "bool" = some false := by decide +kernel
theorem kb_list_str : kitB "list" "str" = some false := by decide +kernel
theorem kb_list_list : kitB "list" "list" = some true := by decide +kernel
theorem kb_list_tuple : kitB "list" "tuple" = some false := by decide +kernel
theorem kb_list_dict : kitB "list" "dict" = some false := by decide +kernel
theorem kb_tuple_int : kitB "tuple" "int" = some false := by decide +kernel
theorem kb_tuple_bool : kitB "tuple" "bool" = some false := by decide +kernel
theorem kb_tuple_str : kitB "tuple" "str" = some false := by decide +kernel
theorem kb_tuple_list : kitB "tuple" "list" = some false := by decide +kernel
theorem kb_tuple_tuple : kitB "tuple" "tuple" = some true := by decide +kernel
theorem kb_tuple_dict : kitB "tuple" "dict" = some false := by decide +kernel
theorem kb_dict_int : kitB "dict" "int" = some false := by decide +kernel
theorem kb_dict_bool : kitB "dict" "bool" = some false := by decide +kernel
theorem kb_dict_str : kitB "dict" "str" = some false := by decide +kernel
theorem kb_dict_list : kitB "dict" "list" = some false := by decide +kernel
theorem kb_dict_tuple : kitB "dict" "tuple" = some false := by decide +kernel
theorem kb_dict_dict : kitB "dict" "dict" = some true := by decide +kernel
inductive GetR : L2.St → Nat → V → Prop where
  | z {v : V} {r : L2.St} : GetR (some v :: r) 0 v
  | s {x : Option V} {v : V} {r : L2.St} {i : Nat} (h : GetR r i v) : GetR (x :: r) (i + 1) v
theorem GetR.eq {l : L2.St} {i : Nat} {v : V} (h : GetR l i v) : l[i]? = some (some v) := by
  induction h with
  | z => rfl
  | s h ih => rw [List.getElem?_cons_succ, ih]
theorem s_v {σ : L2.St} {n : Nat} {v : V} {H : Hp} {Q : VK} (h : GetR σ n v) (q : Q v H) : tVar n σ H Q := ⟨v, h.eq, q⟩
theorem mapI {xs : List Int} {i : Nat} {x : V} (h : (xs.map V.int)[i]? = some x) : ∃ z, xs[i]? = some z ∧ x = .int z := by
  rw [List.getElem?_map] at h
  cases e : xs[i]? with
  | none => rw [e] at h; cases h
  | some z => rw [e] at h; cases h; exact ⟨z, rfl, rfl⟩
end My
namespace My
open PySem PySem.Spec PyProof.Rows L2
theorem x_jar {H H' : Hp} {j : Addr} {n : Int} (e : Ex H H') (h : JarAt H j n) : JarAt H' j n := h.ex e
theorem x_jarB {H H' : Hp} {j r : Addr} {n : Int} (e : ExB r H H') (hn : j ≠ r) (h : JarAt H j n) : JarAt H' j n := by
  obtain ⟨x, y, z, h1, h2⟩ := h
  exact ⟨x, y, z, e _ _ hn h1, h2⟩
theorem x_jne {H : Hp} {j l : Addr} {n : Int} (hn : H l = none) (h : JarAt H j n) : j ≠ l := by
  obtain ⟨x, y, z, h1, h2⟩ := h
  exact ne_of_none h1 hn
theorem x_jle {H : Hp} {j : Addr} {n m : Int} (h : JarAt H j n) (hm : n ≤ m) : JarAt H j m := h.le hm
end My
namespace My
open PySem PySem.Spec PyProof.Rows L2
theorem x_sqt {K : PySem.W.Frag} {H H' : Hp} {a : Addr} {xs : List V} (e : Ex H H') (h : SqT K H a xs) : SqT K H' a xs := h.ki e.ki
theorem x_sql {K : PySem.W.Frag} {H H' : Hp} {a : Addr} {xs : List V} (e : Ex H H') (h : SqL K H a xs) : SqL K H' a xs := SqLex h e
end My
namespace My
open PySem PySem.Spec PyProof.Rows L2
section
variable {K : PySem.W.Frag} {σ σ' σ0 σ1 σ2 : L2.St} {H : Hp} {Q : VK} {ta tb tc te to tl : TE} {D : Ends} {v w x y : V} {i j k : Int} {n m : Nat} {p : Addr} {xs ys : List V} {vs : List Nat} {tt : TT}
theorem s_lenM {α : Type} {f : α → V} {L : List α} (h : SqL K H p (L.map f)) (q : Q (.int L.length) H) : rLenS K [.ref p] H Q := ⟨p, _, rfl, .inl h, by rw [List.length_map]; exact q⟩
theorem s_lenMT {α : Type} {f : α → V} {L : List α} (h : SqT K H p (L.map f)) (q : Q (.int L.length) H) : rLenS K [.ref p] H Q := ⟨p, _, rfl, .inr h, by rw [List.length_map]; exact q⟩
theorem ixI {L : List Int} (h0 : 0 ≤ i) (h1 : i < (L.length : Int)) : atI (L.map V.int) i = some (.int (L.getD i.toNat 0)) := by
  obtain ⟨n, rfl⟩ : ∃ n : Nat, i = (n : Int) := ⟨i.toNat, by omega⟩
  rw [Int.toNat_natCast]
  exact atI_nat (getD_at (by omega))
theorem ixN1 {L : List Int} (h1 : 0 < L.length) : atI (L.map V.int) (-1) = some (.int (L.getD (L.length - 1) 0)) := by
  unfold atI ixN
  rw [List.length_map, if_neg (by omega), if_pos (by omega)]
  show (L.map V.int)[((-1 : Int) + (L.length : Int)).toNat]? = _
  rw [show ((-1 : Int) + (L.length : Int)).toNat = L.length - 1 by omega]
  exact getD_at (by omega)
theorem s_gUnl {QS : L2.St → Hp → Prop} {t : TGs} (h : SqL K H p xs) (hl : xs.length = n) (q : t xs σ H QS) : gUnl K n t (.ref p) σ H QS := ⟨p, xs, rfl, h, hl, q⟩
theorem s_sortedI {L : List Int} (h : SqL K H p (L.map V.int)) (q : ∀ (ns : List Int) l H', ns.Perm L → ns.Pairwise (· ≤ ·) → H l = none → Ex H H' → H' l = some (.lst (ns.map V.int)) → Q (.ref l) H') : rSortedI K [.ref p] H Q :=
  ⟨p, L, rfl, h, fun ns l h1 h2 nl => q ns l _ h1 h2 nl (Ex.new nl) upd_same⟩
theorem s_gSub {t : TSet} {QS : L2.St → Hp → Prop} (q : to σ H fun o H1 => ta σ H1 fun i H2 => t o i v H2 fun H3 => QS σ H3) : gSub to ta t v σ H QS := q
theorem s_setL {QH : Hp → Prop} (h : H p = some (.lst xs)) (hj : ixN xs.length k = some n) (q : ∀ H', ExB p H H' → H' p = some (.lst (xs.set n v)) → QH H') : rSetL (.ref p) (.int k) v H QH := ⟨p, xs, k, n, rfl, rfl, h, hj, q _ ExB.upd upd_same⟩
theorem s_callk {sp : Sp} {gV : List V → List V → List V} {E : XK} {t tk : TA} (q : t σ H fun vs H1 => tk σ H1 fun zs H2 => sp (gV vs zs) H2 Q E) : tCallK sp gV E t tk σ H Q := q
def kRevL (K : PySem.W.Frag) (Q : VK) : VK := fun x H1 => ∃ a xs, x = .ref a ∧ SqL K H1 a xs ∧ ∀ p, H1 p = none → Q (.ref p) (upd H1 p (.lst xs.reverse))
theorem s_revL (q : te σ H (kRevL K Q)) : tRevL K te σ H Q := q
theorem s_kRevL (h : SqL K H p xs) (q : ∀ l H', H l = none → Ex H H' → H' l = some (.lst xs.reverse) → Q (.ref l) H') : kRevL K Q (.ref p) H := ⟨p, xs, rfl, h, fun l nl => q l _ nl (Ex.new nl) upd_same⟩
theorem s_reverse (h : H p = some (.lst xs)) (q : ∀ H', ExB p H H' → H' p = some (.lst xs.reverse) → Q .non H') : rReverse (.ref p) [] H Q := ⟨p, xs, rfl, rfl, h, q _ ExB.upd upd_same⟩
theorem s_clear (h : H p = some (.lst xs)) (q : ∀ H', ExB p H H' → H' p = some (.lst []) → Q .non H') : rClear (.ref p) [] H Q := ⟨p, xs, rfl, rfl, h, q _ ExB.upd upd_same⟩
theorem SetR.back {α : Type} {l l0 l1 : List α} {i : Nat} {a b : α} (h : SetR l i a l0) : SetR l0 i b l1 → SetR l1 i a l0 := by
  induction h generalizing l1 with
  | z => intro g; cases g; exact .z
  | s h ih => intro g; cases g with | s g => exact .s (ih g)
theorem turn1 {α : Type} {kp : α → Bool} {RB : α → V → Hp → Prop} {a : α} {f : V → L2.St} (hv : vs = [n]) (hw : SetR σ n none σ0) (hs : ∀ v, SetR σ0 n (some v) (f v))
    (ht : ∀ H2, Ex H H2 → TvR tt (f x) H2 (kp a)) (he : kp a = true → ∀ H2, Ex H H2 → EvR te (f x) H2 (RB a)) : Turns H x a kp RB (gName n) tt te vs σ := by
  intro H1 e1
  subst hv
  have hw' : L2.wipe σ [n] = σ0 := hw.eq
  rw [hw']
  refine ⟨f x, ?_, (hw.back (hs x)).eq, fun H2 e2 => ht H2 (e1.trans e2), fun h H2 e2 => he h H2 (e1.trans e2)⟩
  intro Q k
  show Q (σ0.set n (some x)) H1
  rw [(hs x).eq]
  exact k H1 Ex.rfl
/-- [te for k in tl if tt], tl a list of ints, te a value told by the item -/
theorem lc_mapI {L : List Int} {kp : Int → Bool} {g : Int → V} {f : V → L2.St} (hv : vs = [n]) (hw : SetR σ n none σ0) (hs : ∀ v, SetR σ0 n (some v) (f v))
    (htl : EvR tl σ H fun v H1 => ∃ a, v = .ref a ∧ SqL K H1 a (L.map V.int)) (hl : L.length < 100000)
    (ht : ∀ z ∈ L, ∀ H2, Ex H H2 → TvR tt (f (.int z)) H2 (kp z)) (he : ∀ z ∈ L, kp z = true → ∀ H2, Ex H H2 → EvR te (f (.int z)) H2 fun y _ => y = g z)
    (q : ∀ l H', H l = none → Ex H H' → H' l = some (.lst ((L.filter kp).map g)) → Q (.ref l) H') : tLc (iList K tl) (gName n) tt te vs σ H Q := by
  refine lcL_ev (K := K) (as := L) (kp := kp) (RA := fun _ x (z : Int) => x = .int z) (RB := fun z y _ => y = g z) ?_ hl (fun _ _ _ _ _ e => e) ?_ _ fun v H1 e1 hnew => ?_
  · exact fun Q k => htl _ fun v H1 e1 ⟨a, h1, h2⟩ => k v H1 e1 ⟨a, _, h1, h2, Al.of_map fun _ _ => rfl⟩
  · rintro H1 e1 i x z hk rfl
    have hz := List.mem_of_getElem? hk
    exact turn1 hv hw hs (fun H2 e2 => ht z hz H2 (e1.trans e2)) fun h H2 e2 => he z hz h H2 (e1.trans e2)
  · obtain ⟨l, rfl, nl, hl⟩ := hnew.vals (f := g)
    exact q l H1 nl e1 hl
/-- [te for k in range(m) if tt] -/
theorem lc_mapR {m : Nat} {kp : Nat → Bool} {g : Nat → V} {f : V → L2.St} {ta : TA} (hv : vs = [n]) (hw : SetR σ n none σ0) (hs : ∀ v, SetR σ0 n (some v) (f v))
    (hta : ∀ Q : List V → Hp → Prop, (∀ H', Ex H H' → Q [.int (m : Int)] H') → ta σ H Q) (hl : m < 100000)
    (ht : ∀ z, z < m → ∀ H2, Ex H H2 → TvR tt (f (.int (z : Int))) H2 (kp z)) (he : ∀ z, z < m → kp z = true → ∀ H2, Ex H H2 → EvR te (f (.int (z : Int))) H2 fun y _ => y = g z)
    (q : ∀ l H', H l = none → Ex H H' → H' l = some (.lst (((List.range m).filter kp).map g)) → Q (.ref l) H') : tLc (iRng1 ta) (gName n) tt te vs σ H Q := by
  refine lcR_ev (n := m) (kp := kp) (RB := fun z y _ => y = g z) hta hl (fun _ _ _ _ _ e => e) ?_ _ fun v H1 e1 hnew => ?_
  · intro H1 e1 i hi
    exact turn1 hv hw hs (fun H2 e2 => ht i hi H2 (e1.trans e2)) fun h H2 e2 => he i hi h H2 (e1.trans e2)
  · obtain ⟨l, rfl, nl, hl⟩ := hnew.vals (f := g)
    exact q l H1 nl e1 hl
theorem evM {P : V → Hp → Prop} (h : ∀ Q : VK, (∀ v H', Ex H H' → P v H' → Q v H') → te σ H Q) : EvR te σ H P := h
end
end My
namespace My
open PySem PySem.Spec PyProof.Rows L2
theorem ixL0 {α : Type} {x : α} {r : List α} : atI (x :: r) 0 = some x := atI_nat (xs := x :: r) (j := 0) rfl
theorem ixL1 {α : Type} {x y : α} {r : List α} : atI (x :: y :: r) 1 = some y := atI_nat (xs := x :: y :: r) (j := 1) rfl
theorem ixL2 {α : Type} {x y z : α} {r : List α} : atI (x :: y :: z :: r) 2 = some z := atI_nat (xs := x :: y :: z :: r) (j := 2) rfl
end My
namespace My
open PySem PySem.Spec PyProof.Rows L2
theorem x_ne2 {H : Hp} {p r : Addr} {o : HO} (n : H r = none) (h : H p = some o) : r ≠ p := (ne_of_none h n).symm
theorem x_jne2 {H : Hp} {j l : Addr} {n : Int} (hn : H l = none) (h : JarAt H j n) : l ≠ j := (x_jne hn h).symm
theorem two_sorted {ns : List Int} {a d : Int} (hp : ns.Perm [a, d]) (hs : ns.Pairwise (· ≤ ·)) : ∃ lo hi, ns = [lo, hi] ∧ lo ≤ hi ∧ ((lo = a ∧ hi = d) ∨ (lo = d ∧ hi = a)) := by
  have hl := hp.length_eq
  match ns, hp, hs, hl with
  | [x, y], hp, hs, _ =>
    have h1 := hp.mem_iff (a := x)
    have h2 := hp.mem_iff (a := y)
    have h3 := hp.mem_iff (a := a)
    have h4 := hp.mem_iff (a := d)
    simp at h1 h2 h3 h4 hs
    exact ⟨x, y, rfl, hs, by omega⟩
end My
namespace My
open PySem PySem.Spec PyProof.Rows L2
theorem s_gCM {α : Type} {f : α → V} {x : α} {xs : List α} {σ : L2.St} {H : Hp} {QS : L2.St → Hp → Prop} {t : TG} {u : TGs} (q : t (f x) σ H fun σ' H' => u (xs.map f) σ' H' QS) : gCons t u (List.map f (x :: xs)) σ H QS := ⟨_, _, rfl, q⟩
theorem s_gNM {α : Type} {f : α → V} {σ : L2.St} {H : Hp} {QS : L2.St → Hp → Prop} (q : QS σ H) : gNil (List.map f []) σ H QS := ⟨rfl, q⟩
end My
namespace My
open PySem PySem.Spec PyProof.Rows L2
section
variable {K : PySem.W.Frag} {H : Hp} {Q : VK} {p l : Addr} {L M : List Int} {i z : Int}
theorem cutTo (h : 0 ≤ i) : cutV (L.map V.int) none (some i) = (L.take i.toNat).map V.int := by
  obtain ⟨n, rfl⟩ : ∃ n : Nat, i = (n : Int) := ⟨i.toNat, by omega⟩
  rw [cutV_to, Int.toNat_natCast, List.map_take]
theorem cutFrom (h : 0 ≤ i) : cutV (L.map V.int) (some i) none = (L.drop i.toNat).map V.int := by
  obtain ⟨n, rfl⟩ : ∃ n : Nat, i = (n : Int) := ⟨i.toNat, by omega⟩
  rw [cutV_from, Int.toNat_natCast, List.map_drop]
theorem s_slTo (h : SqL K H p (L.map V.int)) (h0 : 0 ≤ i) (q : ∀ l H', H l = none → Ex H H' → H' l = some (.lst ((L.take i.toNat).map V.int)) → Q (.ref l) H') : rSlL K (.ref p) none (some i) H Q :=
  s_rSlL h fun l H' nl e hl => q l H' nl e (by rw [← cutTo h0]; exact hl)
theorem s_slFrom (h : SqL K H p (L.map V.int)) (h0 : 0 ≤ i) (q : ∀ l H', H l = none → Ex H H' → H' l = some (.lst ((L.drop i.toNat).map V.int)) → Q (.ref l) H') : rSlL K (.ref p) (some i) none H Q :=
  s_rSlL h fun l H' nl e hl => q l H' nl e (by rw [← cutFrom h0]; exact hl)
theorem s_catM (h1 : H p = some (.lst (L.map V.int))) (h2 : H l = some (.lst (M.map V.int))) (hz : L.length + M.length ≤ sizeLine) (q : ∀ m H', H m = none → Ex H H' → H' m = some (.lst ((L ++ M).map V.int)) → Q (.ref m) H') : rCat (.ref p) (.ref l) H Q :=
  s_cat h1 h2 (by rw [List.length_map, List.length_map]; exact hz) fun m H' nm e hm => q m H' nm e (by rw [List.map_append]; exact hm)
theorem s_catR (h1 : H p = some (.lst (L.map V.int))) (h2 : H l = some (.lst [.int z])) (hz : L.length + 1 ≤ sizeLine) (q : ∀ m H', H m = none → Ex H H' → H' m = some (.lst ((L ++ [z]).map V.int)) → Q (.ref m) H') : rCat (.ref p) (.ref l) H Q :=
  s_catM (M := [z]) h1 h2 hz q
theorem ixIc {z : Int} (h0 : 0 ≤ i) (h1 : i < (L.length : Int) + 1) : atI (L.map V.int ++ [V.int z]) i = some (.int ((L ++ [z]).getD i.toNat 0)) := by
  have := ixI (L := L ++ [z]) h0 (by rw [List.length_append, List.length_singleton]; omega)
  rw [List.map_append] at this
  exact this
theorem s_catLf (h1 : H p = some (.lst [.int z])) (h2 : H l = some (.lst (M.map V.int))) (hz : 1 + M.length ≤ sizeLine) (q : ∀ m H', H m = none → Ex H H' → H' m = some (.lst ((z :: M).map V.int)) → Q (.ref m) H') : rCat (.ref p) (.ref l) H Q :=
  s_catM (L := [z]) h1 h2 hz q
end
def Small (B : Int) (xs : List Int) : Prop := ∀ x ∈ xs, -B < x ∧ x < B
theorem smA {B : Int} {x y : List Int} (a : Small B x) (b : Small B y) : Small B (x ++ y) := fun z hz => (List.mem_append.mp hz).elim (a z) (b z)
theorem smT {B : Int} {x : List Int} (a : Small B x) {n : Nat} : Small B (x.take n) := fun z hz => a z (List.mem_of_mem_take hz)
theorem smD {B : Int} {x : List Int} (a : Small B x) {n : Nat} : Small B (x.drop n) := fun z hz => a z (List.mem_of_mem_drop hz)
theorem sm1 {B x : Int} (a : -B < x ∧ x < B) : Small B [x] := fun z hz => by rw [List.mem_singleton.mp hz]; exact a
theorem smM {A B : Int} {x : List Int} (a : Small A x) (h : A ≤ B) : Small B x := fun z hz => by have := a z hz; omega
theorem smG {B : Int} {x : List Int} (a : Small B x) (hB : 0 < B) (n : Nat) : -B < x.getD n 0 ∧ x.getD n 0 < B := by
  rw [List.getD_eq_getElem?_getD]
  cases h : x[n]? with
  | none => simp; omega
  | some z => exact a z (List.mem_of_getElem? h)
end My
namespace My
open PySem PySem.Spec PyProof.Rows L2
theorem s_ixAl {K : PySem.W.Frag} {α : Type} {R : V → α → Prop} {as : List α} {xs : List V} {p : Addr} {i : Int} {H : Hp} {Q : VK} (h : SqL K H p xs) (hal : Al R xs as) (h0 : 0 ≤ i) (h1 : i < (as.length : Int)) (q : ∀ v a, R v a → a ∈ as → Q v H) : rIxL K (.ref p) (.int i) H Q := by
  obtain ⟨n, rfl⟩ : ∃ n : Nat, i = (n : Int) := ⟨i.toNat, by omega⟩
  have hn : n < as.length := by omega
  obtain ⟨x, hx, hR⟩ := hal.get' (List.getElem?_eq_getElem hn)
  exact s_rIxL h (atI_nat hx) (q x _ hR (List.getElem_mem hn))
end My
namespace My
open PySem PySem.Spec PyProof.Rows L2
def kWT (I : L2.St → Hp → Prop) (μ : L2.St → Hp → Nat) (tb : TS) (D : Ends) (σ : L2.St) (m : Nat) : Hp → Prop := fun H1 => ∃ N : L2.St → Hp → Prop, (∀ σ' H', N σ' H' → ∃ m', m' < m ∧ (m' = μ σ' H' ∧ I σ' H')) ∧ tb { D with nx := N, ct := N, bk := D.nx } σ H1
theorem s_kWT {I : L2.St → Hp → Prop} {μ : L2.St → Hp → Nat} {tb : TS} {D : Ends} {σ : L2.St} {m : Nat} {H1 : Hp} (q : tb ⟨fun σ2 H2 => I σ2 H2 ∧ μ σ2 H2 < m, D.rt, D.nx, fun σ2 H2 => I σ2 H2 ∧ μ σ2 H2 < m⟩ σ H1) : kWT I μ tb D σ m H1 :=
  ⟨_, fun σ' H' h => ⟨μ σ' H', h.2, rfl, h.1⟩, q⟩
theorem l_while {c : TT} {tb : TS} {D : Ends} {σ : L2.St} {H : Hp} (I : L2.St → Hp → Prop) (μ : L2.St → Hp → Nat) (h0 : I σ H) (hs : ∀ σ H', I σ H' → c σ H' (kIf (kWT I μ tb D σ (μ σ H')) (D.nx σ))) : tWhile c tb D σ H :=
  ⟨fun m σ H' => m = μ σ H' ∧ I σ H', ⟨_, rfl, h0⟩, fun m σ H' h => by
    obtain ⟨rfl, h⟩ := h
    exact hs σ H' h⟩
/-- the length of the list at a slot -/
def lenSlot (i : Nat) (σ : L2.St) (H : Hp) : Nat := match σ[i]? with
  | some (some (V.ref p)) => (match H p with | some (.lst xs) => xs.length | _ => 0)
  | _ => 0
theorem s_appendM {H : Hp} {Q : VK} {p : Addr} {L : List Int} {z : Int} (h : H p = some (.lst (L.map V.int))) (hz : L.length < sizeLine) (q : ∀ H', ExB p H H' → H' p = some (.lst ((L ++ [z]).map V.int)) → Q .non H') : rAppend (.ref p) [.int z] H Q :=
  s_append h (by rw [List.length_map]; exact hz) fun H' e hp => q H' e (by rw [List.map_append]; exact hp)
end My
namespace My
open PySem PySem.Spec PyProof.Rows L2
theorem lenSlot_eq {i : Nat} {σ : L2.St} {H : Hp} {p : Addr} {xs : List V} (h : σ[i]? = some (some (.ref p))) (g : H p = some (.lst xs)) : lenSlot i σ H = xs.length := by
  unfold lenSlot; rw [h]; dsimp only; rw [g]
end My
namespace My
open PySem PySem.Spec PyProof.Rows L2
section
variable {K : PySem.W.Frag} {H : Hp} {Q : VK} {p r : Addr} {A B : List Int}
theorem eqL_dec' (A B : List Int) : PyData.eqv (dL A) (dL B) = decide (A = B) := eqL_dec A B
theorem s_eqL (h1 : SqL K H p (A.map V.int)) (h2 : SqL K H r (B.map V.int)) (q : Q (.bl (decide (A = B))) H) : rEqD K (.ref p) (.ref r) H Q := ⟨_, _, dpL h1, dpL h2, shL _, shL _, by rw [eqL_dec]; exact q⟩
theorem s_neL (h1 : SqL K H p (A.map V.int)) (h2 : SqL K H r (B.map V.int)) (q : Q (.bl (!decide (A = B))) H) : rNeD K (.ref p) (.ref r) H Q := ⟨_, _, dpL h1, dpL h2, shL _, shL _, by rw [eqL_dec]; exact q⟩
theorem s_eqL0 (h1 : SqL K H p (A.map V.int)) (h2 : SqL K H r []) (q : Q (.bl (decide (A = []))) H) : rEqD K (.ref p) (.ref r) H Q := s_eqL (B := []) h1 h2 q
theorem s_neL0 (h1 : SqL K H p (A.map V.int)) (h2 : SqL K H r []) (q : Q (.bl (!decide (A = []))) H) : rNeD K (.ref p) (.ref r) H Q := s_neL (B := []) h1 h2 q
theorem s_eqT (h1 : SqT K H p (A.map V.int)) (h2 : SqT K H r (B.map V.int)) (q : Q (.bl (decide (A = B))) H) : rEqD K (.ref p) (.ref r) H Q := ⟨_, _, dpT h1, dpT h2, shT _, shT _, by rw [eqT_dec]; exact q⟩
theorem s_neT (h1 : SqT K H p (A.map V.int)) (h2 : SqT K H r (B.map V.int)) (q : Q (.bl (!decide (A = B))) H) : rNeD K (.ref p) (.ref r) H Q := ⟨_, _, dpT h1, dpT h2, shT _, shT _, by rw [eqT_dec]; exact q⟩
theorem s_eqP {a b c d : Int} (h1 : SqT K H p [.int a, .int b]) (h2 : SqT K H r [.int c, .int d]) (q : Q (.bl (decide (a = c ∧ b = d))) H) : rEqD K (.ref p) (.ref r) H Q := s_eqT (A := [a, b]) (B := [c, d]) h1 h2 (by
  have e : decide ([a, b] = [c, d]) = decide (a = c ∧ b = d) := by congr 1; simp
  rw [e]; exact q)
end
/-- the int at a slot -/
def intSlot (i : Nat) (σ : L2.St) : Int := match σ[i]? with
  | some (some (V.int z)) => z
  | _ => 0
end My
namespace My
open PySem PySem.Spec PyProof.Rows L2
theorem l_whileE {c : TT} {tb : TS} {D : Ends} {σ : L2.St} {H : Hp} (I E : L2.St → Hp → Prop) (μ : L2.St → Hp → Nat) (h0 : I σ H) (hs : ∀ σ H', I σ H' → ∀ R : L2.St → Hp → Prop, (∀ σ2 H2, E σ2 H2 → R σ2 H2) → c σ H' (kIf (kWT I μ tb D σ (μ σ H')) (R σ))) (he : ∀ σ H', E σ H' → D.nx σ H') : tWhile c tb D σ H :=
  l_while I μ h0 fun σ H' h => hs σ H' h _ he
section
variable {K : PySem.W.Frag} {H : Hp} {Q : VK} {p r : Addr} {L : List Int} {i k : Int}
theorem s_slOne (h : SqL K H p (L.map V.int)) (h0 : 0 ≤ i) (q : ∀ l H', H l = none → Ex H H' → H' l = some (.lst (((L.drop i.toNat).take 1).map V.int)) → Q (.ref l) H') : rSlL K (.ref p) (some i) (some (i + 1)) H Q :=
  s_rSlL h fun l H' nl e hl => q l H' nl e (by
    rw [hl]
    obtain ⟨n, rfl⟩ : ∃ n : Nat, i = (n : Int) := ⟨i.toNat, by omega⟩
    unfold cutV
    rw [show ((n : Int) + 1) = ((n + 1 : Nat) : Int) by omega, HT.sIx_nat, HT.sIx_nat, List.length_map, Int.toNat_natCast, List.map_take, List.map_drop]
    rcases Nat.lt_or_ge n L.length with hn | hn
    · rw [Nat.min_eq_left (by omega), Nat.min_eq_left (by omega), show n + 1 - n = 1 by omega]
    · rw [Nat.min_eq_right (by omega), Nat.min_eq_right (by omega), Nat.sub_self, List.take_zero, List.drop_of_length_le (by rw [List.length_map]; omega), List.take_nil])
theorem s_minL (h : SqL K H p (L.map V.int)) (h0 : 0 < L.length) (q : ∀ m, m ∈ L → (∀ y, y ∈ L → m ≤ y) → Q (.int m) H) : rMin K [.ref p] H Q := ⟨p, L, rfl, h, h0, q⟩
theorem s_maxL (h : SqL K H p (L.map V.int)) (h0 : 0 < L.length) (q : ∀ m, m ∈ L → (∀ y, y ∈ L → y ≤ m) → Q (.int m) H) : rMax K [.ref p] H Q := ⟨p, L, rfl, h, h0, q⟩
end
end My
namespace My
open PySem PySem.Spec PyProof.Rows L2
def kCN (n m : Nat) (sp : Sp) (gV : List V → List V → List V) (E : XK) (Q : VK) (vs : List V) : List V → Hp → Prop := fun zs H2 => vs.length = n ∧ zs.length = m ∧ sp (gV vs zs) H2 Q E
theorem s_callN {n m : Nat} {sp : Sp} {gV : List V → List V → List V} {E : XK} {t tk : TA} {σ : L2.St} {H : Hp} {Q : VK} (q : t σ H fun vs H1 => tk σ H1 (kCN n m sp gV E Q vs)) : tCallN n m sp gV E t tk σ H Q := q
theorem s_kCN {n m : Nat} {sp : Sp} {gV : List V → List V → List V} {E : XK} {Q : VK} {vs zs : List V} {H : Hp} (h1 : vs.length = n) (h2 : zs.length = m) (q : sp (gV vs zs) H Q E) : kCN n m sp gV E Q vs zs H := ⟨h1, h2, q⟩
end My
namespace My
open PySem PySem.Spec PyProof.Rows L2
theorem l_cut {ts us : TS} {D : Ends} {σ : L2.St} {H : Hp} (Mid : L2.St → Hp → Prop) (h1 : ts ⟨Mid, D.rt, D.bk, D.ct⟩ σ H) (h2 : ∀ σ' H', Mid σ' H' → us D σ' H') : Evl.tCut ts us D σ H := ⟨Mid, h1, h2⟩
theorem s_neLL {K : PySem.W.Frag} {H : Hp} {Q : VK} {p r : Addr} {xs ys : List V} (ass : List (List Int)) (h1 : SqL K H p xs) (h2 : SqL K H r ys) (a1 : Al (NestV H) xs ass) (a2 : Al (NestV H) ys ass) (q : Q (.bl false) H) : rNeD K (.ref p) (.ref r) H Q :=
  ⟨_, _, dpLL h1 a1, dpLL h2 a2, shLL _, shLL _, by rw [eqLLL]; exact q⟩
theorem s_eqLL {K : PySem.W.Frag} {H : Hp} {Q : VK} {p r : Addr} {xs ys : List V} (ass : List (List Int)) (h1 : SqL K H p xs) (h2 : SqL K H r ys) (a1 : Al (NestV H) xs ass) (a2 : Al (NestV H) ys ass) (q : Q (.bl true) H) : rEqD K (.ref p) (.ref r) H Q :=
  ⟨_, _, dpLL h1 a1, dpLL h2 a2, shLL _, shLL _, by rw [eqLLL]; exact q⟩
theorem nv {H : Hp} {a : Addr} {L : List Int} (h : H a = some (.lst (L.map V.int))) : NestV H (.ref a) L := ⟨a, rfl, h⟩
end My
namespace My
open PySem PySem.Spec PyProof.Rows L2
theorem x_trB {H H1 H2 : Hp} {j : Addr} (b : Ex H1 H2) (a : ExB j H H1) : ExB j H H2 := a.trans b.exB
theorem x_trBB {H H1 H2 : Hp} {j : Addr} (b : ExB j H1 H2) (a : ExB j H H1) : ExB j H H2 := a.trans b
theorem neB (a b : Bool) : (!decide (a = b)) = (a != b) := by cases a <;> cases b <;> rfl
end My
/-! ### nested residues; one latch along a history -/
namespace My
open PySem PySem.Spec PyProof.Rows L2
/-- nested from the left: each lies strictly between the two ahead of it; the first one is the greatest, or the least -/
structure ClosingL (up : Bool) (L : List Int) : Prop where
  nest : ∀ (i : Nat) (a b c : Int), L[i]? = some a → L[i + 1]? = some b → L[i + 2]? = some c → (a < c ∧ c < b) ∨ (b < c ∧ c < a)
  head : ∀ a, L[0]? = some a → ∀ y ∈ L, if up = true then y ≤ a else a ≤ y
theorem closing_of {up : Bool} {f : Int} {xs : List Int} (hf : ∀ x ∈ xs, if up = true then f < x else x < f) : ∃ r, resOf (f :: xs) = f :: r ∧ ClosingL up r := by
  obtain ⟨r, e⟩ := resOf_head f xs
  have hL := resOf_L (f :: xs)
  have q0 : qstep [] f = [f] := by unfold qstep; rw [show rstep [] f = [f] from rfl, ired_no (rs := [f]) rfl]
  have hr : ∀ x ∈ r, x ∈ xs := fun x hx => by
    have e2 : (resR [f] xs).reverse = f :: r := by rw [← e]; unfold resOf; show _ = (resR (qstep [] f) xs).reverse; rw [q0]
    have e3 : resR [f] xs = r.reverse ++ [f] := by rw [← List.reverse_reverse (resR [f] xs), e2, List.reverse_cons]
    have hx2 : x ∈ (resR [f] xs).dropLast := by rw [e3, List.dropLast_concat]; exact List.mem_reverse.mpr hx
    rcases resR_dl xs [f] x ⟨trivial, trivial⟩ (by simp) hx2 with h | h
    · exact h
    · simp at h
  rw [e] at hL
  have far : ∀ (i : Nat) (a b c : Int), (f :: r)[i]? = some a → (f :: r)[i + 1]? = some b → (f :: r)[i + 2]? = some c → absI (c - b) < absI (b - a) := by
    intro i
    induction i with
    | zero =>
      intro a b c h1 h2 h3
      simp at h1
      subst h1
      have alt := hL.alt (i := 0) (x := f) rfl h2 h3
      have bx := hf b (hr b (List.mem_of_getElem? (show r[0]? = some b by simpa using h2)))
      have cx := hf c (hr c (List.mem_of_getElem? (show r[1]? = some c by simpa using h3)))
      unfold absI
      cases up <;> simp at bx cx <;> split <;> split <;> omega
    | succ i ih =>
      intro a b c h1 h2 h3
      have hk : i < (f :: r).length := by have := (List.getElem?_eq_some_iff.mp h1).1; omega
      have h0 := List.getElem?_eq_getElem hk
      have := ih _ a b h0 h1 h2
      rcases hL.nodip i _ _ _ (wids_get h0 h1) (wids_get h1 h2) (wids_get h2 h3) with h | h
      · omega
      · exact h
  have nest : ∀ (i : Nat) (a b c : Int), r[i]? = some a → r[i + 1]? = some b → r[i + 2]? = some c → (a < c ∧ c < b) ∨ (b < c ∧ c < a) := fun i a b c h1 h2 h3 => by
    have g1 : (f :: r)[i + 1]? = some a := by simpa using h1
    have g2 : (f :: r)[i + 1 + 1]? = some b := by simpa using h2
    have g3 : (f :: r)[i + 1 + 2]? = some c := by simpa using h3
    have alt := hL.alt g1 g2 g3
    have w := far (i + 1) a b c g1 g2 g3
    unfold absI at w
    split at w <;> split at w <;> omega
  refine ⟨r, e, nest, fun a ha y hy => ?_⟩
  obtain ⟨k, hk⟩ := List.getElem?_of_mem hy
  have fa := hf a (hr a (List.mem_of_getElem? ha))
  have one : ∀ b, r[1]? = some b → (if up = true then b ≤ a else a ≤ b) := fun b hb => by
    have alt := hL.alt (i := 0) (x := f) rfl (show (f :: r)[0 + 1]? = some a by simpa using ha) (show (f :: r)[0 + 2]? = some b by simpa using hb)
    cases up <;> simp at fa ⊢ <;> omega
  have key : ∀ (k : Nat), (∀ y, r[k]? = some y → (if up = true then y ≤ a else a ≤ y) ∧ ∀ b, r[1]? = some b → (if up = true then b ≤ y else y ≤ b)) ∧ (∀ y, r[k + 1]? = some y → (if up = true then y ≤ a else a ≤ y) ∧ ∀ b, r[1]? = some b → (if up = true then b ≤ y else y ≤ b)) := by
    intro k
    induction k with
    | zero =>
      refine ⟨fun y h => ?_, fun y h => ?_⟩
      · rw [ha] at h
        cases h
        exact ⟨by cases up <;> simp, one⟩
      · refine ⟨one y h, fun b hb => ?_⟩
        rw [show (0 + 1 : Nat) = 1 from rfl, hb] at h
        cases h
        cases up <;> simp
    | succ k ih =>
      refine ⟨ih.2, fun y h => ?_⟩
      have hk0 : k < r.length := by have := (List.getElem?_eq_some_iff.mp h).1; omega
      have hk1 : k + 1 < r.length := by have := (List.getElem?_eq_some_iff.mp h).1; omega
      have g0 := List.getElem?_eq_getElem hk0
      have g1 := List.getElem?_eq_getElem hk1
      have n := nest k _ _ y g0 g1 h
      have p0 := ih.1 _ g0
      have p1 := ih.2 _ g1
      refine ⟨?_, fun b hb => ?_⟩
      · have a0 := p0.1
        have a1 := p1.1
        cases up <;> simp at a0 a1 ⊢ <;> omega
      · have a0 := p0.2 b hb
        have a1 := p1.2 b hb
        cases up <;> simp at a0 a1 ⊢ <;> omega
  exact ((key k).1 y hk).1
theorem closing_nil (up : Bool) : ClosingL up [] := ⟨fun i a b c h => by simp at h, fun a h => by simp at h⟩

/-- what residues keep, whatever it is -/
structure Cong (R : List Int → List Int → Prop) : Prop where
  refl : ∀ a, R a a
  symm : ∀ a b, R a b → R b a
  trans : ∀ a b c, R a b → R b c → R a c
  app : ∀ a b c d, R a b → R c d → R (a ++ c) (b ++ d)
  dup : ∀ a, R [a, a] [a]
  one : ∀ a b d, (a ≤ b ∧ b ≤ d) ∨ (d ≤ b ∧ b ≤ a) → R [a, b, d] [a, d]
  inn : ∀ a b c d, inn a b c d = true → R [a, b, c, d] [a, d]
theorem Cong.mid {R : List Int → List Int → Prop} (C : Cong R) {a b : List Int} (h : R a b) (u v : List Int) : R (u ++ a ++ v) (u ++ b ++ v) := C.app _ _ _ _ (C.app _ _ _ _ (C.refl u) h) (C.refl v)
theorem Cong.rstep {R : List Int → List Int → Prop} (C : Cong R) (rs : List Int) (x : Int) : R (rstep rs x).reverse (rs.reverse ++ [x]) := by
  match rs with
  | [] => exact C.refl _
  | [l] =>
    simp only [My.rstep]
    split
    · rename_i e
      subst e
      exact C.symm _ _ (C.dup l)
    · exact C.refl _
  | l :: p :: r =>
    simp only [My.rstep]
    split
    · rename_i e
      subst e
      have := C.mid (C.symm _ _ (C.dup l)) (r.reverse ++ [p]) []
      simpa using this
    · split
      · rename_i hb
        have h := btw_iff.mp hb
        have := C.mid (C.symm _ _ (C.one p l x (by omega))) r.reverse []
        simpa using this
      · simpa using C.refl _
theorem Cong.ired {R : List Int → List Int → Prop} (C : Cong R) : ∀ (n : Nat) (rs : List Int), rs.length ≤ n → R (ired rs).reverse rs.reverse := by
  intro n
  induction n with
  | zero =>
    intro rs hn
    have : rs = [] := List.length_eq_zero_iff.mp (by omega)
    subst this
    rw [ired_no (rs := []) rfl]
    exact C.refl _
  | succ n ih =>
    intro rs hn
    cases hi : innR rs with
    | false => rw [ired_no hi]; exact C.refl _
    | true =>
      match rs, hi with
      | d :: c :: b :: a :: r, hi =>
        rw [ired_yes (show My.inn a b c d = true from hi)]
        refine C.trans _ _ _ (ih _ (by simp at hn ⊢; omega)) ?_
        have := C.mid (C.symm _ _ (C.inn a b c d (show My.inn a b c d = true from hi))) r.reverse []
        simpa using this
theorem Cong.resR {R : List Int → List Int → Prop} (C : Cong R) : ∀ (xs rs : List Int), R (resR rs xs).reverse (rs.reverse ++ xs)
  | [], rs => by rw [List.append_nil]; exact C.refl rs.reverse
  | x :: xs, rs => by
    have h := C.trans _ _ _ (C.resR xs (qstep rs x)) (C.app _ _ _ _ (C.trans _ _ _ (C.ired _ _ (Nat.le_refl _)) (C.rstep rs x)) (C.refl xs))
    rw [List.append_assoc] at h
    exact h
theorem Cong.resOf {R : List Int → List Int → Prop} (C : Cong R) (xs : List Int) : R (resOf xs) xs := C.resR xs []

/-! one latch (u, d) along a history -/
def upT (u d : Int) (b : Bool) (s : Int) : Bool := if u ≤ s then true else if s ≤ d then false else b
def upS (u d : Int) (b : Bool) (xs : List Int) : Bool := xs.foldl (upT u d) b
def upB (u d : Int) (xs : List Int) : Bool := upS u d false xs
theorem upS_app (u d : Int) (b : Bool) (xs ys : List Int) : upS u d b (xs ++ ys) = upS u d (upS u d b xs) ys := List.foldl_append
theorem upS_cons (u d : Int) (b : Bool) (x : Int) (ys : List Int) : upS u d b (x :: ys) = upS u d (upT u d b x) ys := rfl
theorem upS_nil (u d : Int) (b : Bool) : upS u d b [] = b := rfl
theorem upB_snoc (u d : Int) (xs : List Int) (s : Int) : upB u d (xs ++ [s]) = if u ≤ s then true else if s ≤ d then false else upB u d xs := by
  unfold upB; rw [upS_app]; rfl
theorem up_cong {u d : Int} (h : d < u) : Cong fun a b => ∀ s, upS u d s a = upS u d s b where
  refl := fun _ _ => rfl
  symm := fun _ _ h s => (h s).symm
  trans := fun _ _ _ h g s => (h s).trans (g s)
  app := fun a b c d' h g s => by rw [upS_app, upS_app, h, g]
  dup := fun a s => by simp only [upS_cons, upS_nil, upT]; grind
  one := fun a b e hb s => by simp only [upS_cons, upS_nil, upT]; grind
  inn := fun a b c e hi s => by
    have hi := inn_iff.mp hi
    simp only [upS_cons, upS_nil, upT]; grind
theorem up_res {u d : Int} (h : d < u) (s : Bool) (xs : List Int) : upS u d s (resOf xs) = upS u d s xs := (up_cong h).resOf xs s
theorem up_all {u d : Int} : ∀ (xs : List Int) (s : Bool), (∀ x ∈ xs, u ≤ x) → upS u d s xs = (s || !xs.isEmpty)
  | [], s, _ => by simp [upS]
  | x :: xs, s, h => by
    rw [upS_cons, up_all xs _ fun y hy => h y (List.mem_cons_of_mem _ hy)]
    have := h x (List.mem_cons_self ..)
    simp [upT, this]
theorem up_rest {u d g : Int} (h : d < u) {xs : List Int} (hg : ∀ x ∈ xs, g < x) : upB u d (restOf g xs) = upB u d xs := by
  have e := up_res h false (g :: xs)
  rw [rest_cons, upS_cons, upS_cons] at e
  unfold upB
  by_cases hu : u ≤ g
  · have h1 : ∀ x ∈ xs, u ≤ x := fun x hx => by have := hg x hx; omega
    have h2 : ∀ x ∈ restOf g xs, u ≤ x := fun x hx => h1 x (rest_mem x hx)
    rw [up_all _ _ h1, up_all _ _ h2]
    have e2 : (restOf g xs).isEmpty = xs.isEmpty := by
      cases xs with
      | nil =>
        have : restOf g [] = [] := List.eq_nil_iff_forall_not_mem.mpr fun y hy => by have := rest_mem y hy; simp at this
        rw [this]
      | cons x r =>
        cases hr : restOf g (x :: r) with
        | cons y w => rfl
        | nil =>
          exfalso
          have hk := kin_res (g :: x :: r)
          have hm : ∃ m ∈ (g :: x :: r), ∀ y ∈ (g :: x :: r), y ≤ m := (ends_of _ (by simp)).1
          have hl := resR_ok (x :: r) [g] ⟨trivial, trivial⟩
          have := (Cong.resOf (R := fun a b => (∀ m, (∀ y ∈ a, y ≤ m) ↔ (∀ y ∈ b, y ≤ m))) ⟨fun _ _ => Iff.rfl, fun _ _ h m => (h m).symm, fun _ _ _ h g m => (h m).trans (g m), fun a b c d h g m => by
            simp only [List.mem_append, or_imp, forall_and, h m, g m], fun a m => by simp, fun a b d hb m => by simp; omega, fun a b c d hi m => by
            have hi := inn_iff.mp hi
            simp; omega⟩ (g :: x :: r)) g
          rw [rest_cons, hr] at this
          have h3 := this.mp (by simp) x (by simp)
          have := hg x (by simp)
          omega
    rw [e2]
  · have e3 : upT u d false g = false := by unfold upT; rw [if_neg hu]; split <;> rfl
    rw [e3] at e
    exact e
/-! nested -/
def UpN : Bool → Int → Int → List Int → Prop
  | _, _, _, [] => True
  | true, lo, hi, x :: l => lo < x ∧ x < hi ∧ UpN false lo x l
  | false, lo, hi, x :: l => lo < x ∧ x < hi ∧ UpN true x hi l
def TopN : List Int → Prop
  | [] => True
  | [_] => True
  | M :: m :: l => m < M ∧ UpN true m M l
theorem UpN.mem : ∀ {l : List Int} {b : Bool} {lo hi : Int}, UpN b lo hi l → ∀ y ∈ l, lo < y ∧ y < hi
  | [], _, _, _, _, y, hy => by simp at hy
  | x :: l, true, lo, hi, h, y, hy => by
    rcases List.mem_cons.mp hy with rfl | hy
    · exact ⟨h.1, h.2.1⟩
    · have := UpN.mem h.2.2 y hy
      have h1 := h.1
      have h2 := h.2.1
      omega
  | x :: l, false, lo, hi, h, y, hy => by
    rcases List.mem_cons.mp hy with rfl | hy
    · exact ⟨h.1, h.2.1⟩
    · have := UpN.mem h.2.2 y hy
      have h1 := h.1
      have h2 := h.2.1
      omega
theorem UpN.walk : ∀ {P : List Int} {b : Bool} {lo hi z : Int} {A : List Int}, UpN b lo hi (P ++ z :: A) → if (b == (P.length % 2 == 0)) = true then ∃ l', UpN false l' z A else ∃ h', UpN true z h' A
  | [], true, lo, hi, z, A, h => ⟨lo, h.2.2⟩
  | [], false, lo, hi, z, A, h => ⟨hi, h.2.2⟩
  | x :: P, true, lo, hi, z, A, h => by
    have := UpN.walk (P := P) (b := false) h.2.2
    rw [List.length_cons]
    rcases Nat.mod_two_eq_zero_or_one P.length with e | e
    · rw [e] at this; rw [show (P.length + 1) % 2 = 1 by omega]; exact this
    · rw [e] at this; rw [show (P.length + 1) % 2 = 0 by omega]; exact this
  | x :: P, false, lo, hi, z, A, h => by
    have := UpN.walk (P := P) (b := true) h.2.2
    rw [List.length_cons]
    rcases Nat.mod_two_eq_zero_or_one P.length with e | e
    · rw [e] at this; rw [show (P.length + 1) % 2 = 1 by omega]; exact this
    · rw [e] at this; rw [show (P.length + 1) % 2 = 0 by omega]; exact this
theorem TopN.top : ∀ {M : Int} {l : List Int}, TopN (M :: l) → ∃ lo, UpN false lo M l
  | M, [], _ => ⟨0, trivial⟩
  | M, m :: l, h => ⟨m - 1, by omega, h.1, h.2⟩
theorem TopN.le {M : Int} {l : List Int} (h : TopN (M :: l)) : ∀ y ∈ l, y < M := fun y hy => let ⟨_, g⟩ := h.top; (g.mem y hy).2
theorem TopN.walk {P : List Int} {z : Int} {A : List Int} (h : TopN (P ++ z :: A)) : if P.length % 2 = 0 then ∃ l', UpN false l' z A else ∃ h', UpN true z h' A := by
  cases P with
  | nil => exact TopN.top h
  | cons M P =>
    obtain ⟨lo, g⟩ := TopN.top (show TopN (M :: (P ++ z :: A)) from h)
    have := UpN.walk g
    rw [List.length_cons]
    rcases Nat.mod_two_eq_zero_or_one P.length with e | e
    · rw [e] at this; rw [if_neg (by omega)]; exact this
    · rw [e] at this; rw [if_pos (by omega)]; exact this
theorem up_no {u d : Int} : ∀ (xs : List Int), (∀ x ∈ xs, x < u) → upS u d false xs = false
  | [], _ => rfl
  | x :: xs, h => by
    rw [upS_cons]
    have := h x (List.mem_cons_self ..)
    have e : upT u d false x = false := by unfold upT; rw [if_neg (by omega)]; split <;> rfl
    rw [e]
    exact up_no xs fun y hy => h y (List.mem_cons_of_mem _ hy)
theorem up_yes {u d : Int} : ∀ (xs : List Int), (∀ x ∈ xs, d < x) → upS u d true xs = true
  | [], _ => rfl
  | x :: xs, h => by
    rw [upS_cons]
    have := h x (List.mem_cons_self ..)
    have e : upT u d true x = true := by unfold upT; split; rfl; rw [if_neg (by omega)]
    rw [e]
    exact up_yes xs fun y hy => h y (List.mem_cons_of_mem _ hy)
def CommR (A B : List Int) (n : Nat) : Prop := n ≤ A.length ∧ n ≤ B.length ∧ A.take n = B.take n ∧ (A.drop n).head? ≠ (B.drop n).head?
def tips (A B : List Int) (n : Nat) : List Int := (A.drop n).take 1 ++ (B.drop n).take 1
def IsMx (l : List Int) (m : Int) : Prop := m ∈ l ∧ ∀ y ∈ l, y ≤ m
def IsMn (l : List Int) (m : Int) : Prop := m ∈ l ∧ ∀ y ∈ l, m ≤ y
theorem IsMx.uniq {l : List Int} {m k : Int} (a : IsMx l m) (b : IsMx l k) : m = k := by have := a.2 k b.1; have := b.2 m a.1; omega
theorem IsMn.uniq {l : List Int} {m k : Int} (a : IsMn l m) (b : IsMn l k) : m = k := by have := a.2 k b.1; have := b.2 m a.1; omega
structure PartR (A B : List Int) (u d : Int) : Prop where
  ex : ∃ n, CommR A B n ∧ ((n = 0 ∧ IsMx (tips A B n) u ∧ IsMn (A ++ B) (d + 1)) ∨ (n ≠ 0 ∧ n % 2 = 0 ∧ IsMx (tips A B n) u ∧ A[n - 1]? = some d) ∨ (n % 2 = 1 ∧ A[n - 1]? = some u ∧ IsMn (tips A B n) d))
theorem CommR.uniq {A B : List Int} {n m : Nat} (a : CommR A B n) (b : CommR A B m) : n = m := by
  have key : ∀ {n m : Nat}, CommR A B n → CommR A B m → n < m → False := fun {n m} a b h => by
    have e : (A.take m)[n]? = (B.take m)[n]? := by rw [b.2.2.1]
    rw [List.getElem?_take_of_lt h, List.getElem?_take_of_lt h] at e
    exact a.2.2.2 (by rw [List.head?_drop, List.head?_drop]; exact e)
  rcases Nat.lt_trichotomy n m with h | h | h
  · exact (key a b h).elim
  · exact h
  · exact (key b a h).elim
theorem PartR.uniq {A B : List Int} {u d u' d' : Int} (a : PartR A B u d) (b : PartR A B u' d') : u = u' ∧ d = d' := by
  obtain ⟨n, c, h⟩ := a.ex
  obtain ⟨m, c', g⟩ := b.ex
  have e := c.uniq c'
  subst e
  rcases h with ⟨h0, h1, h2⟩ | ⟨h0, h1, h2, h3⟩ | ⟨h1, h2, h3⟩ <;> rcases g with ⟨g0, g1, g2⟩ | ⟨g0, g1, g2, g3⟩ | ⟨g1, g2, g3⟩ <;> first | (exfalso; omega) | skip
  · have := h1.uniq g1; have := h2.uniq g2; omega
  · rw [h3] at g3; cases g3; exact ⟨h2.uniq g2, rfl⟩
  · rw [h2] at g2; cases g2; exact ⟨rfl, h3.uniq g3⟩
theorem head_top {X Y : List Int} {u : Int} (hne : X.head? ≠ Y.head?) (h : IsMx (X.take 1 ++ Y.take 1) u) : (∃ X', X = u :: X' ∧ ∀ y Y', Y = y :: Y' → y < u) ∨ (∃ Y', Y = u :: Y' ∧ ∀ x X', X = x :: X' → x < u) := by
  obtain ⟨hm, hle⟩ := h
  cases X with
  | nil =>
    cases Y with
    | nil => simp at hm
    | cons y Y => simp at hm; subst hm; exact .inr ⟨Y, rfl, fun x X' e => by cases e⟩
  | cons x X =>
    cases Y with
    | nil => simp at hm; subst hm; exact .inl ⟨X, rfl, fun y Y' e => by cases e⟩
    | cons y Y =>
      simp at hm hle hne
      rcases hm with rfl | rfl
      · exact .inl ⟨X, rfl, fun z Y' e => by cases e; omega⟩
      · exact .inr ⟨Y, rfl, fun z Y' e => by cases e; omega⟩
theorem head_low {X Y : List Int} {u : Int} (hne : X.head? ≠ Y.head?) (h : IsMn (X.take 1 ++ Y.take 1) u) : (∃ X', X = u :: X' ∧ ∀ y Y', Y = y :: Y' → u < y) ∨ (∃ Y', Y = u :: Y' ∧ ∀ x X', X = x :: X' → u < x) := by
  obtain ⟨hm, hle⟩ := h
  cases X with
  | nil =>
    cases Y with
    | nil => simp at hm
    | cons y Y => simp at hm; subst hm; exact .inr ⟨Y, rfl, fun x X' e => by cases e⟩
  | cons x X =>
    cases Y with
    | nil => simp at hm; subst hm; exact .inl ⟨X, rfl, fun y Y' e => by cases e⟩
    | cons y Y =>
      simp at hm hle hne
      rcases hm with rfl | rfl
      · exact .inl ⟨X, rfl, fun z Y' e => by cases e; omega⟩
      · exact .inr ⟨Y, rfl, fun z Y' e => by cases e; omega⟩
/-- behind a common beginning the one goes farther up -/
theorem base_up {X Y : List Int} {u d h h' : Int} (hX : UpN true d h X) (hY : UpN true d h' Y) (hx : ∃ X', X = u :: X' ∧ ∀ y Y', Y = y :: Y' → y < u) : d < u ∧ upS u d false X = true ∧ upS u d false Y = false := by
  obtain ⟨X', rfl, hy⟩ := hx
  have du := hX.1
  refine ⟨du, ?_, ?_⟩
  · rw [upS_cons, show upT u d false u = true by unfold upT; rw [if_pos (Int.le_refl _)]]
    exact up_yes _ fun x hm => (hX.2.2.mem x hm).1
  · cases Y with
    | nil => rfl
    | cons y Y' =>
      have := hy y Y' rfl
      refine up_no _ fun x hm => ?_
      rcases List.mem_cons.mp hm with rfl | hm
      · exact this
      · have := (hY.2.2.mem x hm).2; omega
theorem base_dn {X Y : List Int} {u d l l' : Int} (hX : UpN false l u X) (hY : UpN false l' u Y) (hx : ∃ X', X = d :: X' ∧ ∀ y Y', Y = y :: Y' → d < y) : d < u ∧ upS u d true X = false ∧ upS u d true Y = true := by
  obtain ⟨X', rfl, hy⟩ := hx
  have du := hX.2.1
  refine ⟨du, ?_, ?_⟩
  · rw [upS_cons, show upT u d true d = false by unfold upT; rw [if_neg (by omega), if_pos (Int.le_refl _)]]
    exact up_no _ fun x hm => (hX.2.2.mem x hm).2
  · cases Y with
    | nil => rfl
    | cons y Y' =>
      have := hy y Y' rfl
      refine up_yes _ fun x hm => ?_
      rcases List.mem_cons.mp hm with rfl | hm
      · exact this
      · have := (hY.2.2.mem x hm).1; omega
theorem take_last {A : List Int} {n : Nat} {z : Int} (hn : n ≠ 0) (hz : A[n - 1]? = some z) : A.take n = A.take (n - 1) ++ [z] := by
  have := take_snoc hz
  rw [show n - 1 + 1 = n by omega] at this
  exact this
theorem part_parts {A B : List Int} (hA : TopN A) (hB : TopN B) {u d : Int} (h : PartR A B u d) : d < u ∧ upB u d A ≠ upB u d B := by
  obtain ⟨n, ⟨c1, c2, c3, c4⟩, h⟩ := h.ex
  unfold tips at h
  rcases h with ⟨rfl, h1, h2⟩ | ⟨h0, h1, h2, h3⟩ | ⟨h1, h2, h3⟩
  · simp only [List.drop_zero] at h1 c4
    have far : ∀ y ∈ A ++ B, d < y := fun y hy => by have := h2.2 y hy; omega
    rcases head_top c4 h1 with ⟨X', rfl, hy⟩ | ⟨Y', rfl, hy⟩
    · refine ⟨far u (by simp), ?_⟩
      have e1 : upB u d (u :: X') = true := by
        unfold upB
        rw [upS_cons, show upT u d false u = true by unfold upT; rw [if_pos (Int.le_refl _)]]
        exact up_yes _ fun x hm => far x (by simp [hm])
      have e2 : upB u d B = false := by
        cases B with
        | nil => rfl
        | cons y Y' =>
          have := hy y Y' rfl
          refine up_no _ fun x hm => ?_
          rcases List.mem_cons.mp hm with rfl | hm
          · exact this
          · have := hB.le x hm; omega
      rw [e1, e2]; decide
    · refine ⟨far u (by simp), ?_⟩
      have e1 : upB u d (u :: Y') = true := by
        unfold upB
        rw [upS_cons, show upT u d false u = true by unfold upT; rw [if_pos (Int.le_refl _)]]
        exact up_yes _ fun x hm => far x (by simp [hm])
      have e2 : upB u d A = false := by
        cases A with
        | nil => rfl
        | cons y Y' =>
          have := hy y Y' rfl
          refine up_no _ fun x hm => ?_
          rcases List.mem_cons.mp hm with rfl | hm
          · exact this
          · have := hA.le x hm; omega
      rw [e1, e2]; decide
  all_goals
    have n0 : n ≠ 0 := by omega
    have lB : ∀ z, A[n - 1]? = some z → B.take n = A.take (n - 1) ++ [z] := fun z hz => by rw [← c3]; exact take_last n0 hz
  · have eA : A = A.take (n - 1) ++ d :: A.drop n := by rw [← List.singleton_append, ← List.append_assoc, ← take_last n0 h3, List.take_append_drop]
    have eB : B = A.take (n - 1) ++ d :: B.drop n := by rw [← List.singleton_append, ← List.append_assoc, ← lB d h3, List.take_append_drop]
    have wA := TopN.walk (eA ▸ hA : TopN (A.take (n - 1) ++ d :: A.drop n))
    have wB := TopN.walk (eB ▸ hB : TopN (A.take (n - 1) ++ d :: B.drop n))
    rw [List.length_take, if_neg (by omega)] at wA wB
    obtain ⟨h', wA⟩ := wA
    obtain ⟨h'', wB⟩ := wB
    have key : d < u ∧ upS u d false (A.drop n) ≠ upS u d false (B.drop n) := by
      rcases head_top c4 h2 with g | g
      · obtain ⟨q1, q2, q3⟩ := base_up wA wB g; rw [q2, q3]; exact ⟨q1, by decide⟩
      · obtain ⟨q1, q2, q3⟩ := base_up wB wA g; rw [q2, q3]; exact ⟨q1, by decide⟩
    refine ⟨key.1, ?_⟩
    have st : ∀ s, upT u d s d = false := fun s => by unfold upT; rw [if_neg (by omega), if_pos (Int.le_refl _)]
    unfold upB
    have l1 : upS u d false A = upS u d false (A.drop n) := by
      have : upS u d false (A.take (n - 1) ++ d :: A.drop n) = upS u d false (A.drop n) := by rw [upS_app, upS_cons, st]
      rw [← eA] at this; exact this
    have l2 : upS u d false B = upS u d false (B.drop n) := by
      have : upS u d false (A.take (n - 1) ++ d :: B.drop n) = upS u d false (B.drop n) := by rw [upS_app, upS_cons, st]
      rw [← eB] at this; exact this
    rw [l1, l2]
    exact key.2
  · have eA : A = A.take (n - 1) ++ u :: A.drop n := by rw [← List.singleton_append, ← List.append_assoc, ← take_last n0 h2, List.take_append_drop]
    have eB : B = A.take (n - 1) ++ u :: B.drop n := by rw [← List.singleton_append, ← List.append_assoc, ← lB u h2, List.take_append_drop]
    have wA := TopN.walk (eA ▸ hA : TopN (A.take (n - 1) ++ u :: A.drop n))
    have wB := TopN.walk (eB ▸ hB : TopN (A.take (n - 1) ++ u :: B.drop n))
    rw [List.length_take, if_pos (by omega)] at wA wB
    obtain ⟨h', wA⟩ := wA
    obtain ⟨h'', wB⟩ := wB
    have key : d < u ∧ upS u d true (A.drop n) ≠ upS u d true (B.drop n) := by
      rcases head_low c4 h3 with g | g
      · obtain ⟨q1, q2, q3⟩ := base_dn wA wB g; rw [q2, q3]; exact ⟨q1, by decide⟩
      · obtain ⟨q1, q2, q3⟩ := base_dn wB wA g; rw [q2, q3]; exact ⟨q1, by decide⟩
    refine ⟨key.1, ?_⟩
    have st : ∀ s, upT u d s u = true := fun s => by unfold upT; rw [if_pos (Int.le_refl _)]
    unfold upB
    have l1 : upS u d false A = upS u d true (A.drop n) := by
      have : upS u d false (A.take (n - 1) ++ u :: A.drop n) = upS u d true (A.drop n) := by rw [upS_app, upS_cons, st]
      rw [← eA] at this; exact this
    have l2 : upS u d false B = upS u d true (B.drop n) := by
      have : upS u d false (A.take (n - 1) ++ u :: B.drop n) = upS u d true (B.drop n) := by rw [upS_app, upS_cons, st]
      rw [← eB] at this; exact this
    rw [l1, l2]
    exact key.2
/-! what is left from below all is nested -/
theorem mk_up : ∀ (l : List Int) (a b : Int), (∀ (i : Nat) (x y z : Int), (a :: b :: l)[i]? = some x → (a :: b :: l)[i + 1]? = some y → (a :: b :: l)[i + 2]? = some z → (x < z ∧ z < y) ∨ (y < z ∧ z < x)) → (a < b → UpN false a b l) ∧ (b < a → UpN true b a l)
  | [], _, _, _ => ⟨fun _ => trivial, fun _ => trivial⟩
  | c :: l, a, b, h => by
    have ih := mk_up l b c fun i x y z h1 h2 h3 => h (i + 1) x y z (by simpa using h1) (by simpa using h2) (by simpa using h3)
    have h0 := h 0 a b c rfl rfl rfl
    refine ⟨fun hl => ?_, fun hl => ?_⟩
    · exact ⟨by omega, by omega, ih.2 (by omega)⟩
    · exact ⟨by omega, by omega, ih.1 (by omega)⟩
theorem top_rest {g : Int} {xs : List Int} (hg : ∀ x ∈ xs, g < x) : TopN (restOf g xs) := by
  obtain ⟨r, e, hc⟩ := closing_of (up := true) (f := g) (xs := xs) (by simpa using hg)
  have e2 : restOf g xs = r := by have := rest_cons g xs; rw [e] at this; cases this; rfl
  rw [e2]
  have hL := resOf_L (g :: xs)
  rw [e] at hL
  match r, hc, hL, e2 with
  | [], _, _, _ => trivial
  | [_], _, _, _ => trivial
  | M :: m :: l, hc, hL, e2 =>
    have hm : ∀ y ∈ (M :: m :: l), y ∈ xs := fun y hy => rest_mem y (by rw [e2]; exact hy)
    have alt := hL.alt (i := 0) (x := g) (y := M) (z := m) rfl rfl rfl
    have gM := hg M (hm M (by simp))
    have lt : m < M := by omega
    exact ⟨lt, (mk_up l M m hc.nest).2 lt⟩
/-- below all: what is left, whatever lies ahead -/
theorem ahead_rest {xs fs : List Int} (h : AheadR (some true) xs fs) : ∃ g, (∀ y ∈ xs, g < y) ∧ (resOf (fs ++ xs)).drop fs.length = restOf g xs := by
  obtain ⟨g, hg⟩ := below_all xs
  exact ⟨g, hg, far_rest h (by simpa using hg)⟩
theorem due_topN {xs fs : List Int} (h : AheadR (some true) xs fs) : TopN ((resOf (fs ++ xs)).drop fs.length) := by
  obtain ⟨g, hg, e⟩ := ahead_rest h
  rw [e]; exact top_rest hg
theorem due_up {u d : Int} (hu : d < u) {xs fs : List Int} (h : AheadR (some true) xs fs) : upB u d ((resOf (fs ++ xs)).drop fs.length) = upB u d xs := by
  obtain ⟨g, hg, e⟩ := ahead_rest h
  rw [e]; exact up_rest hu hg
/-! swings closed one by one, over turns -/
def clos (rs xs : List Int) : List Int := xs.foldl (fun rs x => ired (x :: rs)) rs
theorem RedR.suf : ∀ {u v : List Int}, RedR (u ++ v) → RedR v
  | [], _, h => h
  | _ :: u, _, h => RedR.suf (u := u) (RedR.tail h)
theorem rstep_cons {rs : List Int} {x : Int} (h : RedR (x :: rs)) : rstep rs x = x :: rs := by
  match rs, h with
  | [], _ => rfl
  | [l], h =>
    have h : x ≠ l := h
    simp only [rstep]
    rw [if_neg (fun e => h e.symm)]
  | l :: p :: r, h =>
    have h : x ≠ l ∧ btw l p x = false ∧ RedR (l :: p :: r) := h
    simp only [rstep]
    rw [if_neg (fun e => h.1 e.symm), if_neg (by rw [h.2.1]; exact Bool.false_ne_true)]
theorem red_ired : ∀ (n : Nat) (rs u : List Int), rs.length ≤ n → RedR (u ++ rs) → RedR (u ++ ired rs) := by
  intro n
  induction n with
  | zero =>
    intro rs u hn h
    have : rs = [] := List.length_eq_zero_iff.mp (by omega)
    subst this
    rw [ired_no (rs := []) rfl]
    exact h
  | succ n ih =>
    intro rs u hn h
    cases hi : innR rs with
    | false => rw [ired_no hi]; exact h
    | true =>
      match rs, hi, h with
      | d :: c :: b :: a :: r, hi, h =>
        have hi' : inn a b c d = true := hi
        rw [ired_yes hi']
        refine ih _ u (by simp at hn ⊢; omega) (red_out u h ?_)
        have := inn_iff.mp hi'
        exact inn_iff.mpr (by omega)
theorem clos_res : ∀ (xs rs : List Int), RedR (xs.reverse ++ rs) → NoInn rs → clos rs xs = resR rs xs
  | [], _, _, _ => rfl
  | x :: xs, rs, h, hn => by
    have h2 : RedR (xs.reverse ++ (x :: rs)) := by
      have e : (x :: xs).reverse ++ rs = xs.reverse ++ (x :: rs) := by simp
      rw [e] at h; exact h
    have h3 := RedR.suf h2
    obtain ⟨g1, g2, _⟩ := ired_ok _ (x :: rs) (Nat.le_refl _) h3 hn
    have ih := clos_res xs (ired (x :: rs)) (red_ired _ _ _ (Nat.le_refl _) h2) g2
    show clos (ired (x :: rs)) xs = resR (qstep rs x) xs
    rw [ih]
    unfold qstep
    rw [rstep_cons h3]
theorem clos_of (xs : List Int) : (clos [] (turnsOf xs)).reverse = resOf xs := by
  have h : RedR ((turnsOf xs).reverse ++ []) := by
    rw [List.append_nil]; exact red_rev (red_turnsOf xs)
  rw [clos_res _ _ h trivial]
  show resOf (turnsOf xs) = resOf xs
  exact same_resOf (same_turnsOf xs)
end My
namespace My
open PySem PySem.Spec PyProof.Rows L2
theorem ired_len : ∀ (n : Nat) (rs : List Int), rs.length ≤ n → (ired rs).length ≤ rs.length := by
  intro n
  induction n with
  | zero =>
    intro rs hn
    have : rs = [] := List.length_eq_zero_iff.mp (by omega)
    subst this
    rw [ired_no (rs := []) rfl]
    exact Nat.le_refl _
  | succ n ih =>
    intro rs hn
    cases hi : innR rs with
    | false => rw [ired_no hi]; exact Nat.le_refl _
    | true =>
      match rs, hi with
      | d :: c :: b :: a :: r, hi =>
        rw [ired_yes (show inn a b c d = true from hi)]
        have := ih (d :: a :: r) (by simp at hn ⊢; omega)
        simp at this ⊢
        omega
theorem clos_len : ∀ (xs rs : List Int), (clos rs xs).length ≤ rs.length + xs.length
  | [], rs => by simp [clos]
  | x :: xs, rs => by
    have h1 := clos_len xs (ired (x :: rs))
    have h2 := ired_len _ (x :: rs) (Nat.le_refl _)
    show (clos (ired (x :: rs)) xs).length ≤ _
    simp at h2 ⊢
    omega
theorem clos_snoc (rs xs : List Int) (x : Int) : clos rs (xs ++ [x]) = ired (x :: clos rs xs) := by unfold clos; rw [List.foldl_append]; rfl
end My
namespace My
open PySem PySem.Spec PyProof.Rows L2
theorem due_drop {b : Bool} {xs fs : List Int} (h : AheadR (some b) xs fs) : (resOf (fs ++ xs)).drop 1 = (resOf (fs ++ xs)).drop fs.length := by
  rcases h with ⟨h | h, rfl⟩ | ⟨b0, m, hb0, _, hm, h⟩
  · cases h
  · subst h; rfl
  · rcases h with ⟨_, _, rfl⟩ | ⟨_, _, rfl⟩ <;> rfl
end My
namespace My
open PySem PySem.Spec PyProof.Rows L2
theorem sorted_last {ns L : List Int} (hp : ns.Perm L) (hs : ns.Pairwise (· ≤ ·)) (h0 : 0 < L.length) : IsMx L (ns.getD (ns.length - 1) 0) := by
  have hl := hp.length_eq
  have h1 : ns.length - 1 < ns.length := by omega
  have e := getD_some (L := ns) h1
  refine ⟨hp.mem_iff.mp (List.mem_of_getElem? e), fun y hy => ?_⟩
  obtain ⟨k, hk⟩ := List.getElem?_of_mem (hp.mem_iff.mpr hy)
  have hkl := (List.getElem?_eq_some_iff.mp hk).1
  rcases Nat.lt_or_ge k (ns.length - 1) with h | h
  · have := List.pairwise_iff_getElem.mp hs k (ns.length - 1) hkl h1 h
    have e1 := (List.getElem?_eq_some_iff.mp hk).2
    have e2 := (List.getElem?_eq_some_iff.mp e).2
    omega
  · have : k = ns.length - 1 := by omega
    subst this
    rw [hk] at e
    cases e
    omega
theorem sorted_first {ns L : List Int} (hp : ns.Perm L) (hs : ns.Pairwise (· ≤ ·)) (h0 : 0 < L.length) : IsMn L (ns.getD 0 0) := by
  have hl := hp.length_eq
  have h1 : 0 < ns.length := by omega
  have e := getD_some (L := ns) h1
  refine ⟨hp.mem_iff.mp (List.mem_of_getElem? e), fun y hy => ?_⟩
  obtain ⟨k, hk⟩ := List.getElem?_of_mem (hp.mem_iff.mpr hy)
  have hkl := (List.getElem?_eq_some_iff.mp hk).1
  rcases Nat.eq_zero_or_pos k with h | h
  · subst h
    rw [hk] at e
    cases e
    omega
  · have := List.pairwise_iff_getElem.mp hs 0 k h1 hkl h
    have e1 := (List.getElem?_eq_some_iff.mp hk).2
    have e2 := (List.getElem?_eq_some_iff.mp e).2
    omega
theorem tips_pos {A B : List Int} {n : Nat} (h : CommR A B n) : 0 < (tips A B n).length := by
  unfold tips
  rcases h with ⟨_, _, _, h⟩
  cases hA : A.drop n with
  | cons a l => simp
  | nil =>
    cases hB : B.drop n with
    | cons b l => simp
    | nil => rw [hA, hB] at h; exact (h rfl).elim
theorem fmod2 (n : Nat) : Int.fmod (n : Int) 2 = ((n % 2 : Nat) : Int) := by
  rw [Int.fmod_eq_emod_of_nonneg _ (by decide)]; omega
end My
/-! ### houses: rows, numbers of fields, marks -/
namespace My
open PySem PySem.Spec PyProof.Rows L2
/-- a help of a house of n -/
def helpB (n : Int) (p : Int × Int × Int) : Bool := decide (0 ≤ p.1) && decide (p.1 < n) && (decide (0 ≤ p.2.1) && decide (p.2.1 < n)) && (!decide (p.1 = p.2.1) && (decide (1 ≤ p.2.2) && decide (p.2.2 ≤ 9)))
structure LatOk (lat : List (Int × Int)) : Prop where
  n1 : 1 ≤ lat.length
  n14 : lat.length ≤ 14
  lt : ∀ p ∈ lat, p.2 < p.1
structure HelOk (n : Int) (hel : List (Int × Int × Int)) : Prop where
  few : hel.length < 1000
  ok : ∀ p ∈ hel, helpB n p = true
  nd : (hel.map fst2).Nodup
theorem nodup_snoc {α β : Type} {f : α → β} {l : List α} {x : α} (h : (l.map f).Nodup) (hx : ∀ y ∈ l, f y ≠ f x) : ((l ++ [x]).map f).Nodup := by
  rw [List.map_append, List.nodup_append]
  refine ⟨h, by simp, fun a ha b hb => ?_⟩
  obtain ⟨y, hy, rfl⟩ := List.mem_map.mp ha
  simp at hb
  rw [hb]
  exact hx y hy
/-- what the helps drawn so far are: ahead of (i, j) -/
structure GoodH (m : Int) (i j : Int) (sm : List (Int × Int × Int)) : Prop where
  ok : ∀ h ∈ sm, helpB m h = true ∧ (h.1 < i ∨ (h.1 = i ∧ h.2.1 < j))
  nd : (sm.map fst2).Nodup
  len : (sm.length : Int) ≤ 14 * i + j
theorem GoodH.next {m i j : Int} {sm : List (Int × Int × Int)} (g : GoodH m i j sm) : GoodH m i (j + 1) sm := ⟨fun h hh => ⟨(g.ok h hh).1, by have := (g.ok h hh).2; omega⟩, g.nd, by have := g.len; omega⟩
theorem GoodH.row {m i j : Int} {sm : List (Int × Int × Int)} (g : GoodH m i j sm) (hj : j ≤ 14) : GoodH m (i + 1) 0 sm := ⟨fun h hh => ⟨(g.ok h hh).1, by have := (g.ok h hh).2; omega⟩, g.nd, by have := g.len; omega⟩
theorem GoodH.add {m i j : Int} {sm : List (Int × Int × Int)} (g : GoodH m i j sm) {x : Int × Int × Int} (hx : helpB m x = true) (h1 : x.1 = i) (h2 : x.2.1 = j) : GoodH m i (j + 1) (sm ++ [x]) := by
  refine ⟨fun h hh => ?_, nodup_snoc g.nd fun y hy e => ?_, by have := g.len; rw [List.length_append]; simp; omega⟩
  · rcases List.mem_append.mp hh with hh | hh
    · exact ⟨(g.ok h hh).1, by have := (g.ok h hh).2; omega⟩
    · rw [List.mem_singleton.mp hh]
      exact ⟨hx, by omega⟩
  · have := (g.ok y hy).2
    have e1 : y.1 = x.1 := (congrArg Prod.fst e : (fst2 y).1 = (fst2 x).1)
    have e2 : y.2.1 = x.2.1 := (congrArg Prod.snd e : (fst2 y).2 = (fst2 x).2)
    omega
theorem helpB_of {m a b c : Int} (h1 : 0 ≤ a) (h2 : a < m) (h3 : 0 ≤ b) (h4 : b < m) (h5 : a ≠ b) (h6 : 1 ≤ c) (h7 : c ≤ 9) : helpB m (a, b, c) = true := by
  show (decide (0 ≤ a) && decide (a < m) && (decide (0 ≤ b) && decide (b < m)) && (!decide (a = b) && (decide (1 ≤ c) && decide (c ≤ 9)))) = true
  rw [decide_eq_true h1, decide_eq_true h2, decide_eq_true h3, decide_eq_true h4, decide_eq_false h5, decide_eq_true h6, decide_eq_true h7]
  rfl

/-- what one lends other -/
def ent (hel : List (Int × Int × Int)) (i j : Int) : Int := ((hel.filter fun h => decide (h.1 = i) && decide (h.2.1 = j)).map (·.2.2)).sum
theorem ent_nil (i j : Int) : ent [] i j = 0 := rfl
theorem ent_cons (x : Int × Int × Int) (hel : List (Int × Int × Int)) (i j : Int) : ent (x :: hel) i j = (if x.1 = i ∧ x.2.1 = j then x.2.2 else 0) + ent hel i j := by
  unfold ent
  by_cases h : x.1 = i ∧ x.2.1 = j
  · rw [List.filter_cons_of_pos (by simp [h.1, h.2]), if_pos h]
    simp
  · rw [List.filter_cons_of_neg (by simp; intro h1; exact fun h2 => h ⟨h1, h2⟩), if_neg h]
    simp
theorem ent_no {hel : List (Int × Int × Int)} {i j : Int} (h : ∀ x ∈ hel, ¬ (x.1 = i ∧ x.2.1 = j)) : ent hel i j = 0 := by
  induction hel with
  | nil => rfl
  | cons x r ih =>
    rw [ent_cons, if_neg (h x (List.mem_cons_self ..)), ih fun y hy => h y (List.mem_cons_of_mem _ hy)]
    rfl
theorem ent_at {hel : List (Int × Int × Int)} (nd : (hel.map fst2).Nodup) {x : Int × Int × Int} (hx : x ∈ hel) : ent hel x.1 x.2.1 = x.2.2 := by
  induction hel with
  | nil => simp at hx
  | cons y r ih =>
    rw [List.map_cons, List.nodup_cons] at nd
    rw [ent_cons]
    rcases List.mem_cons.mp hx with rfl | hx
    · rw [if_pos ⟨rfl, rfl⟩, ent_no (i := x.1) (j := x.2.1) fun z hz h => nd.1 (List.mem_map.mpr ⟨z, hz, Prod.ext h.1 h.2⟩)]
      omega
    · have hn : ¬ (y.1 = x.1 ∧ y.2.1 = x.2.1) := fun h => nd.1 (List.mem_map.mpr ⟨x, hx, Prod.ext h.1.symm h.2.symm⟩)
      rw [if_neg hn, ih nd.2 hx]
      omega
theorem ent_perm {a b : List (Int × Int × Int)} (p : a.Perm b) (i j : Int) : ent a i j = ent b i j := by
  unfold ent
  have key : ∀ {a b : List Int}, a.Perm b → a.sum = b.sum := fun {a b} q => by
    induction q with
    | nil => rfl
    | cons x _ ih => simp [ih]
    | swap x y l => simp; omega
    | trans _ _ ih1 ih2 => exact ih1.trans ih2
  exact key ((p.filter _).map _)
theorem ent_le {n : Int} {hel : List (Int × Int × Int)} (o : HelOk n hel) (i j : Int) : 0 ≤ ent hel i j ∧ ent hel i j ≤ 9 := by
  by_cases h : ∃ x ∈ hel, x.1 = i ∧ x.2.1 = j
  · obtain ⟨x, hx, rfl, rfl⟩ := h
    rw [ent_at o.nd hx]
    have := o.ok x hx
    unfold helpB at this
    simp at this
    omega
  · rw [ent_no fun x hx hh => h ⟨x, hx, hh⟩]
    omega
theorem ent_mem {n : Int} {hel : List (Int × Int × Int)} (o : HelOk n hel) {i j m : Int} : (i, j, m) ∈ hel ↔ ent hel i j = m ∧ 0 < m := by
  constructor
  · intro h
    refine ⟨ent_at o.nd h, ?_⟩
    have := o.ok _ h
    unfold helpB at this
    simp at this
    omega
  · rintro ⟨h1, h2⟩
    by_cases h : ∃ x ∈ hel, x.1 = i ∧ x.2.1 = j
    · obtain ⟨x, hx, rfl, rfl⟩ := h
      rw [ent_at o.nd hx] at h1
      subst h1
      exact hx
    · rw [ent_no fun x hx hh => h ⟨x, hx, hh⟩] at h1
      omega
theorem sum_map_add {α : Type} (f g : α → Int) : ∀ st : List α, (st.map fun x => f x + g x).sum = (st.map f).sum + (st.map g).sum
  | [] => rfl
  | x :: r => by
    have := sum_map_add f g r
    simp at this ⊢
    omega
theorem sum_one (v : Int) (c : Prop) [Decidable c] (a : Int) : ∀ (st : List Int), st.Pairwise (· < ·) → (st.map fun i => if a = i ∧ c then v else 0).sum = if a ∈ st ∧ c then v else 0
  | [], _ => by simp
  | x :: r, hp => by
    have h := List.pairwise_cons.mp hp
    rw [List.map_cons, List.sum_cons, sum_one v c a r h.2]
    by_cases hc : c
    · by_cases hx : a = x
      · subst hx
        have hn : ¬ a ∈ r := fun hm => by have := h.1 a hm; omega
        simp [hc, hn]
      · simp [hc, hx]
    · simp [hc]
theorem lent_cons (lat : List (Int × Int)) (x : Int × Int × Int) (hel : List (Int × Int × Int)) (st : List Int) (l : Nat) : (Hs.mk lat (x :: hel)).lent st l = (if x.1 ∈ st ∧ x.2.1 = (l : Int) then x.2.2 else 0) + (Hs.mk lat hel).lent st l := by
  unfold Hs.lent lendOf
  dsimp only
  by_cases h : x.2.1 = (l : Int)
  · rw [List.filter_cons_of_pos (by simp [h]), List.map_cons]
    by_cases h2 : x.1 ∈ st
    · rw [List.filter_cons_of_pos (by simp [h2]), if_pos ⟨h2, h⟩]
      simp
    · rw [List.filter_cons_of_neg (by simp [h2]), if_neg (fun z => h2 z.1)]
      simp
  · rw [List.filter_cons_of_neg (by simp [h]), if_neg (fun z => h z.2)]
    simp
theorem lent_sum (lat : List (Int × Int)) (st : List Int) (hs : st.Pairwise (· < ·)) (l : Nat) : ∀ hel : List (Int × Int × Int), (st.map fun i => ent hel i l).sum = (Hs.mk lat hel).lent st l
  | [] => by
    have e1 : (st.map fun i => ent [] i l).sum = 0 := by
      have : st.map (fun i => ent [] i (l : Int)) = st.map fun _ => 0 := rfl
      rw [this]
      clear hs this
      induction st with
      | nil => rfl
      | cons x r ih => simp [ih]
    rw [e1]; rfl
  | x :: hel => by
    rw [lent_cons, ← lent_sum lat st hs l hel, ← sum_one x.2.2 (x.2.1 = (l : Int)) x.1 st hs, ← sum_map_add]
    congr 1
    exact List.map_congr_left fun i _ => ent_cons x hel i l
theorem lent_ent {h : Hs} {st : List Int} (o : StOk h.n st) (l : Nat) : (st.map fun i => ent h.hel i l).sum = h.lent st l := lent_sum h.lat st o.up l h.hel
theorem lent_bd {h : Hs} (k : HelOk (h.n : Int) h.hel) (n14 : h.n ≤ 14) {st : List Int} (o : StOk h.n st) (l : Nat) : 0 ≤ h.lent st l ∧ h.lent st l < 256 := by
  rw [← lent_ent o l]
  have hl := o.len
  have key : ∀ s : List Int, 0 ≤ (s.map fun i => ent h.hel i l).sum ∧ (s.map fun i => ent h.hel i l).sum ≤ 9 * (s.length : Int) := by
    intro s
    induction s with
    | nil => simp
    | cons x r ih =>
      have := ent_le k x l
      simp at ih ⊢
      omega
  have := key st
  omega
/-! rows in one number -/
def encL : List Int → Int
  | [] => 0
  | x :: r => encL r * 256 + x
def rowL (hel : List (Int × Int × Int)) (n : Nat) (i : Int) : List Int := (List.range n).map fun (j : Nat) => ent hel i (j : Int)
def Hs.row (h : Hs) (i : Nat) : List Int := rowL h.hel h.n (i : Int)
def Hs.num (h : Hs) (i : Nat) : Int := encL (h.row i)
theorem enc_add {α : Type} (f g : α → Int) : ∀ l : List α, encL (l.map fun x => f x + g x) = encL (l.map f) + encL (l.map g)
  | [] => rfl
  | x :: r => by
    have := enc_add f g r
    simp only [List.map_cons, encL]
    rw [this, Int.add_mul]
    omega
theorem enc_zero {α : Type} : ∀ l : List α, encL (l.map fun _ => (0 : Int)) = 0
  | [] => rfl
  | x :: r => by simp only [List.map_cons, encL]; rw [enc_zero r]; rfl
theorem enc_sum (hel : List (Int × Int × Int)) (n : Nat) : ∀ st : List Int, (st.map fun i => encL (rowL hel n i)).sum = encL ((List.range n).map fun (j : Nat) => (st.map fun i => ent hel i (j : Int)).sum)
  | [] => by
    have : (List.range n).map (fun (j : Nat) => (([] : List Int).map fun i => ent hel i (j : Int)).sum) = (List.range n).map fun _ => (0 : Int) := rfl
    rw [this, enc_zero]; rfl
  | x :: r => by
    rw [List.map_cons, List.sum_cons, enc_sum hel n r]
    have : (List.range n).map (fun (j : Nat) => ((x :: r).map fun i => ent hel i (j : Int)).sum) = (List.range n).map fun (j : Nat) => ent hel x (j : Int) + (r.map fun i => ent hel i (j : Int)).sum := List.map_congr_left fun j _ => by rw [List.map_cons, List.sum_cons]
    rw [this, enc_add]
    rfl
theorem enc_field : ∀ (L : List Int) (l : Nat), (∀ x ∈ L, 0 ≤ x ∧ x < 256) → encL L / 2 ^ (8 * l) % 256 = L.getD l 0
  | [], l, _ => by simp [encL]
  | x :: r, 0, h => by
    have := h x (List.mem_cons_self ..)
    have e : (2 : Int) ^ (8 * 0) = 1 := rfl
    rw [e]
    show (encL r * 256 + x) / 1 % 256 = x
    omega
  | x :: r, l + 1, h => by
    have hx := h x (List.mem_cons_self ..)
    have ih := enc_field r l fun y hy => h y (List.mem_cons_of_mem _ hy)
    have e : (2 : Int) ^ (8 * (l + 1)) = 256 * 2 ^ (8 * l) := by
      rw [show 8 * (l + 1) = 8 + 8 * l by omega, Int.pow_add]; rfl
    rw [e, ← Int.ediv_ediv_of_nonneg (by decide)]
    have e2 : encL (x :: r) / 256 = encL r := by
      show (encL r * 256 + x) / 256 = encL r
      omega
    rw [e2]
    exact ih
theorem enc_nn : ∀ (L : List Int), (∀ x ∈ L, 0 ≤ x ∧ x < 256) → 0 ≤ encL L ∧ encL L < 2 ^ (8 * L.length)
  | [], _ => by simp [encL]
  | x :: r, h => by
    have hx := h x (List.mem_cons_self ..)
    have ih := enc_nn r fun y hy => h y (List.mem_cons_of_mem _ hy)
    have e : (2 : Int) ^ (8 * (x :: r).length) = 256 * 2 ^ (8 * r.length) := by
      rw [List.length_cons, show 8 * (r.length + 1) = 8 + 8 * r.length by omega, Int.pow_add]; rfl
    rw [e]
    show 0 ≤ encL r * 256 + x ∧ encL r * 256 + x < 256 * 2 ^ (8 * r.length)
    generalize (2 : Int) ^ (8 * r.length) = B at *
    omega
/-- what a stand lends all, in one number -/
def Hs.lentAll (h : Hs) (st : List Int) : Int := (st.map fun i => encL (rowL h.hel h.n i)).sum
theorem lent_field {h : Hs} (k : HelOk (h.n : Int) h.hel) (n14 : h.n ≤ 14) {st : List Int} (o : StOk h.n st) {l : Nat} (hl : l < h.n) : h.lentAll st / 2 ^ (8 * l) % 256 = h.lent st l := by
  unfold Hs.lentAll
  rw [enc_sum]
  have e : (List.range h.n).map (fun (j : Nat) => (st.map fun i => ent h.hel i (j : Int)).sum) = (List.range h.n).map fun (j : Nat) => h.lent st j := List.map_congr_left fun j _ => lent_ent o j
  rw [e, enc_field _ _ (fun x hx => by obtain ⟨j, _, rfl⟩ := List.mem_map.mp hx; exact lent_bd k n14 o j), List.getD_eq_getElem?_getD, List.getElem?_map, List.getElem?_range hl]
  rfl
theorem lentAll_nn {h : Hs} (k : HelOk (h.n : Int) h.hel) (n14 : h.n ≤ 14) {st : List Int} (o : StOk h.n st) : 0 ≤ h.lentAll st := by
  unfold Hs.lentAll
  rw [enc_sum]
  refine (enc_nn _ fun x hx => ?_).1
  obtain ⟨j, _, rfl⟩ := List.mem_map.mp hx
  rw [lent_ent o]
  exact lent_bd k n14 o j
/-! the helps in order, out of the rows -/
def canonH (hel : List (Int × Int × Int)) (n : Nat) : List (Int × Int × Int) := (List.range n).flatMap fun (i : Nat) => ((List.range n).filter fun (j : Nat) => decide (0 < ent hel (i : Int) (j : Int))).map fun (j : Nat) => ((i : Int), (j : Int), ent hel (i : Int) (j : Int))
theorem canonH_mem {hel : List (Int × Int × Int)} {n : Nat} (o : HelOk (n : Int) hel) (x : Int × Int × Int) : x ∈ canonH hel n ↔ x ∈ hel := by
  unfold canonH
  rw [List.mem_flatMap]
  constructor
  · rintro ⟨i, hi, h⟩
    obtain ⟨j, hj, rfl⟩ := List.mem_map.mp h
    rw [List.mem_filter, decide_eq_true_eq] at hj
    exact (ent_mem o).mpr ⟨rfl, hj.2⟩
  · intro hx
    obtain ⟨i, j, m⟩ := x
    obtain ⟨h1, h2⟩ := (ent_mem o).mp hx
    have := o.ok _ hx
    unfold helpB at this
    simp at this
    obtain ⟨a, rfl⟩ : ∃ a : Nat, i = (a : Int) := ⟨i.toNat, by omega⟩
    obtain ⟨b, rfl⟩ : ∃ b : Nat, j = (b : Int) := ⟨j.toNat, by omega⟩
    refine ⟨a, List.mem_range.mpr (by omega), List.mem_map.mpr ⟨b, List.mem_filter.mpr ⟨List.mem_range.mpr (by omega), by rw [h1]; simpa using h2⟩, by rw [h1]⟩⟩
theorem canonH_lt (hel : List (Int × Int × Int)) (n : Nat) : (canonH hel n).Pairwise fun x y => x.1 < y.1 ∨ (x.1 = y.1 ∧ x.2.1 < y.2.1) := by
  unfold canonH
  rw [List.pairwise_flatMap]
  refine ⟨fun i _ => List.pairwise_map.mpr ((List.pairwise_lt_range).filter _ |>.imp fun {a b} h => .inr ⟨rfl, by show (a : Int) < (b : Int); omega⟩), ?_⟩
  refine (List.pairwise_lt_range).imp fun {a b} h x hx y hy => ?_
  obtain ⟨j, _, rfl⟩ := List.mem_map.mp hx
  obtain ⟨k, _, rfl⟩ := List.mem_map.mp hy
  exact .inl (by show (a : Int) < (b : Int); omega)
theorem canonH_sorted (hel : List (Int × Int × Int)) (n : Nat) : HelSorted (canonH hel n) := (canonH_lt hel n).imp fun {x y} h => SrtO.lex3_no.mpr (by omega)
theorem canonH_perm {hel : List (Int × Int × Int)} {n : Nat} (o : HelOk (n : Int) hel) : (canonH hel n).Perm hel := by
  refine (List.perm_ext_iff_of_nodup ?_ ?_).mpr fun x => canonH_mem o x
  · exact List.nodup_iff_pairwise_ne.mpr ((canonH_lt hel n).imp fun {x y} h e => by subst e; omega)
  · have := o.nd
    rw [List.nodup_iff_pairwise_ne] at this ⊢
    exact (List.pairwise_map.mp this).imp fun {a b} h e => h (by rw [e])
theorem HelOk.perm {n : Int} {a b : List (Int × Int × Int)} (o : HelOk n a) (p : b.Perm a) : HelOk n b := ⟨by rw [p.length_eq]; exact o.few, fun x hx => o.ok x (p.mem_iff.mp hx), ((p.map fst2).nodup_iff).mpr o.nd⟩
/-! the object -/
def fiveN (m : PySem.Str) : Prop := m ≠ "_latches" ∧ m ≠ "_marks" ∧ m ≠ "_rows" ∧ m ≠ "_numbers" ∧ m ≠ "_helps"
def MarkV (K : PySem.W.Frag) (H : Hp) (h : Hs) (v : V) (l : Nat) : Prop := ∃ t, v = .ref t ∧ SqT K H t [.int (l : Int), .int ((l : Int) * 8), .int (h.up l), .int (h.dn l)]
def RowV (K : PySem.W.Frag) (H : Hp) (v : V) (r : List Int) : Prop := ∃ t, v = .ref t ∧ SqT K H t (r.map V.int)
theorem MarkV.kt {K : PySem.W.Frag} {H H' : Hp} {h : Hs} {v : V} {l : Nat} (x : MarkV K H h v l) (e : Kt H H') : MarkV K H' h v l := let ⟨t, h1, h2⟩ := x; ⟨t, h1, h2.kt e⟩
theorem RowV.kt {K : PySem.W.Frag} {H H' : Hp} {v : V} {r : List Int} (x : RowV K H v r) (e : Kt H H') : RowV K H' v r := let ⟨t, h1, h2⟩ := x; ⟨t, h1, h2.kt e⟩
/-- what stands in the five tuples -/
structure HTup (K : PySem.W.Frag) (H : Hp) (tl tm tr tn th : Addr) (h : Hs) : Prop where
  lat : ∃ xs, SqT K H tl xs ∧ Al (PairV K H) xs h.lat
  mrk : ∃ xs, SqT K H tm xs ∧ Al (MarkV K H h) xs (List.range h.n)
  row : ∃ xs, SqT K H tr xs ∧ Al (RowV K H) xs ((List.range h.n).map h.row)
  num : SqT K H tn (((List.range h.n).map h.num).map V.int)
  hel : ∃ xs, SqT K H th xs ∧ Al (TripV K H) xs h.hel
theorem HTup.kt {K : PySem.W.Frag} {H H' : Hp} {tl tm tr tn th : Addr} {h : Hs} (x : HTup K H tl tm tr tn th h) (e : Kt H H') : HTup K H' tl tm tr tn th h := by
  obtain ⟨⟨a, a1, a2⟩, ⟨b, b1, b2⟩, ⟨c, c1, c2⟩, d, f, f1, f2⟩ := x
  exact ⟨⟨a, a1.kt e, a2.imp fun _ _ z => z.kt e⟩, ⟨b, b1.kt e, b2.imp fun _ _ z => z.kt e⟩, ⟨c, c1.kt e, c2.imp fun _ _ z => z.kt e⟩, d.kt e, f, f1.kt e, f2.imp fun _ _ z => z.kt e⟩
structure HouseV (K : PySem.W.Frag) (C : Addr) (H : Hp) (a : Addr) (h : Hs) : Prop where
  ob : ∃ dx fs tl tm tr tn th, H a = some (.ins C dx fs) ∧ (∀ m, fiveN m → fs.lookup m = none) ∧ fs.lookup ("_latches" : PySem.Str) = some (.ref tl) ∧ fs.lookup ("_marks" : PySem.Str) = some (.ref tm) ∧
    fs.lookup ("_rows" : PySem.Str) = some (.ref tr) ∧ fs.lookup ("_numbers" : PySem.Str) = some (.ref tn) ∧ fs.lookup ("_helps" : PySem.Str) = some (.ref th) ∧ HTup K H tl tm tr tn th h
  ok : HsOk h
  hok : HelOk (h.n : Int) h.hel
  pos : ∀ p ∈ h.lat, p.2 < p.1
theorem HouseV.ki {K : PySem.W.Frag} {C : Addr} {H H' : Hp} {a : Addr} {h : Hs} (x : HouseV K C H a h) (e : Ki H H') : HouseV K C H' a h := by
  obtain ⟨⟨dx, fs, tl, tm, tr, tn, th, h1, h2, h3, h4, h5, h6, h7, h8⟩, ok, hok, pos⟩ := x
  exact ⟨⟨dx, fs, tl, tm, tr, tn, th, e _ _ trivial h1, h2, h3, h4, h5, h6, h7, h8.kt e.kt⟩, ok, hok, pos⟩
theorem x_hv {K : PySem.W.Frag} {C : Addr} {H H' : Hp} {a : Addr} {h : Hs} (e : Ex H H') (x : HouseV K C H a h) : HouseV K C H' a h := x.ki e.ki
end My
/-! ### comprehensions of two loops; fields, methods and new things, a step at a time -/
namespace My
open PySem PySem.Spec PyProof.Rows L2
def ItOk (J : It) (n : Nat) (Y : Nat → V → Hp → Prop) (H0 : Hp) : Prop := ∀ H', Ex H0 H' → (∀ i, i < n → J.go i H' ∧ ∀ x H2, J.yld i H' x H2 → Ex H' H2 ∧ Y i x H2) ∧ J.stop n H'
theorem ItOk.ex {J : It} {n : Nat} {Y : Nat → V → Hp → Prop} {H0 H1 : Hp} (h : ItOk J n Y H0) (e : Ex H0 H1) : ItOk J n Y H1 := fun H' e' => h H' (e.trans e')
theorem ok_l {K : PySem.W.Frag} {a : Addr} {xs : List V} {H : Hp} (hx : SqL K H a xs) : ItOk (Itl K a) xs.length (fun i x _ => xs[i]? = some x) H := fun H' e => by
  have hx' := SqLex hx e
  refine ⟨fun i hi => ⟨⟨xs, xs[i], hx', List.getElem?_eq_getElem hi⟩, ?_⟩, ⟨xs, hx', Nat.le_refl _⟩⟩
  rintro x H2 ⟨rfl, h⟩
  exact ⟨Ex.rfl, h xs hx'⟩
theorem ok_t {K : PySem.W.Frag} {a : Addr} {xs : List V} {H : Hp} (hx : SqT K H a xs) : ItOk (Itt K a) xs.length (fun i x _ => xs[i]? = some x) H := fun H' e => by
  have hx' := hx.ki e.ki
  refine ⟨fun i hi => ⟨⟨xs, xs[i], hx', List.getElem?_eq_getElem hi⟩, ?_⟩, ⟨xs, hx', Nat.le_refl _⟩⟩
  rintro x H2 ⟨rfl, h⟩
  exact ⟨Ex.rfl, h xs hx'⟩
theorem ok_e {K : PySem.W.Frag} {a : Addr} {xs : List V} {H : Hp} (hx : SqL K H a xs) : ItOk (Ite K a) xs.length (fun i x H2 => ∃ T y, x = .ref T ∧ H2 T = some (.tup [.int (i : Nat), y]) ∧ xs[i]? = some y) H := fun H' e => by
  have hx' := SqLex hx e
  refine ⟨fun i hi => ⟨⟨xs, xs[i], hx', List.getElem?_eq_getElem hi⟩, ?_⟩, ⟨xs, hx', Nat.le_refl _⟩⟩
  rintro x H2 ⟨T, y, rfl, hT, rfl, h⟩
  exact ⟨Ex.new hT, T, y, rfl, upd_same, h xs hx'⟩
theorem ok_et {K : PySem.W.Frag} {a : Addr} {xs : List V} {H : Hp} (hx : SqT K H a xs) : ItOk (Itet K a) xs.length (fun i x H2 => ∃ T y, x = .ref T ∧ H2 T = some (.tup [.int (i : Nat), y]) ∧ xs[i]? = some y) H := fun H' e => by
  have hx' := hx.ki e.ki
  refine ⟨fun i hi => ⟨⟨xs, xs[i], hx', List.getElem?_eq_getElem hi⟩, ?_⟩, ⟨xs, hx', Nat.le_refl _⟩⟩
  rintro x H2 ⟨T, y, rfl, hT, rfl, h⟩
  exact ⟨Ex.new hT, T, y, rfl, upd_same, h xs hx'⟩
theorem loopW {J : It} {n : Nat} {Stop : Hp → Prop} {Body : V → Hp → (Hp → Prop) → Prop} {H0 : Hp} (P : Nat → Hp → Prop) (h0 : P 0 H0) (hn : ∀ H', P n H' → J.stop n H' ∧ Stop H')
    (hi : ∀ i H', i < n → P i H' → J.go i H' ∧ ∀ x H2, J.yld i H' x H2 → Body x H2 (P (i + 1))) :
    ∃ W : Nat → Nat → Hp → Prop, (∃ m, W 0 m H0) ∧ ∀ i m H, W i m H → (J.stop i H ∧ Stop H) ∨ (J.go i H ∧ ∃ Nx : Hp → Prop, (∀ H', Nx H' → ∃ m', m' < m ∧ W (i + 1) m' H') ∧ ∀ x H', J.yld i H x H' → Body x H' Nx) := by
  refine ⟨fun i m H => m = n - i ∧ i ≤ n ∧ P i H, ⟨n, by simp, Nat.zero_le _, h0⟩, ?_⟩
  rintro i m H ⟨rfl, hle, p⟩
  by_cases hlt : i < n
  · obtain ⟨g, b⟩ := hi i H hlt p
    exact .inr ⟨g, P (i + 1), fun H' p' => ⟨n - (i + 1), by omega, rfl, hlt, p'⟩, b⟩
  · have e : i = n := by omega
    subst e
    exact .inl (hn H p)
/-- what a source tells, whatever has come since H0: an iterable of n things -/
def EvI (wi : TI) (σ : L2.St) (H H0 : Hp) (n : Nat) (Y : Nat → V → Hp → Prop) : Prop := ∀ R : It → Hp → Prop, (∀ J H1, Ex H H1 → ItOk J n Y H0 → R J H1) → wi σ H R
def flat2 (n : Nat) (m : Nat → Nat) (kp : Nat → Nat → Bool) : List (Nat × Nat) := (List.range n).flatMap fun i => ((List.range (m i)).filter (kp i)).map fun j => (i, j)
def flat1 (i j : Nat) (kp : Nat → Nat → Bool) : List (Nat × Nat) := ((List.range j).filter (kp i)).map fun j => (i, j)
theorem flat2_succ (n : Nat) (m : Nat → Nat) (kp : Nat → Nat → Bool) : flat2 (n + 1) m kp = flat2 n m kp ++ flat1 n (m n) kp := by
  unfold flat2 flat1
  rw [List.range_succ, List.flatMap_append]
  simp
theorem flat1_succ (i j : Nat) (kp : Nat → Nat → Bool) : flat1 i (j + 1) kp = flat1 i j kp ++ (if kp i j = true then [(i, j)] else []) := by
  unfold flat1
  rw [List.range_succ, List.filter_append, List.map_append]
  cases h : kp i j <;> simp [h]
theorem flat2_le {n n' : Nat} (h : n ≤ n') (m : Nat → Nat) (kp : Nat → Nat → Bool) : (flat2 n m kp).length ≤ (flat2 n' m kp).length := by
  induction h with
  | refl => exact Nat.le_refl _
  | step _ ih => rw [flat2_succ, List.length_append]; omega
theorem flat1_le {i j j' : Nat} (h : j ≤ j') (kp : Nat → Nat → Bool) : (flat1 i j kp).length ≤ (flat1 i j' kp).length := by
  induction h with
  | refl => exact Nat.le_refl _
  | step _ ih => rw [flat1_succ, List.length_append]; omega
theorem lc2_ev {wi wi1 : TI} {g g1 : TG} {tt1 : TT} {te : TE} {vs vs1 : List Nat} {σ : L2.St} {H : Hp} {Q : VK} (n : Nat) (Y : Nat → V → Hp → Prop) (m : Nat → Nat) (Y1 : Nat → Nat → V → Hp → Prop) (kp : Nat → Nat → Bool) (RB : Nat → Nat → V → Hp → Prop)
    (hb : (flat2 n m kp).length < 100000) (mono : ∀ i j y H1 H2, Ki H1 H2 → RB i j y H1 → RB i j y H2) (ho : EvI wi σ H H n Y)
    (hi : ∀ i, i < n → ∀ x H1, Ex H H1 → Y i x H1 → ∃ σ2, GvR g x (L2.wipe σ vs) H1 σ2 ∧ L2.wipe σ2 vs = L2.wipe σ vs ∧ (∀ H2, Ex H H2 → EvI wi1 σ2 H2 H (m i) (Y1 i)) ∧
      ∀ j, j < m i → ∀ z H3, Ex H H3 → Y1 i j z H3 → ∃ σ3, GvR g1 z (L2.wipe σ2 vs1) H3 σ3 ∧ L2.wipe σ3 vs1 = L2.wipe σ2 vs1 ∧ (∀ H4, Ex H H4 → TvR tt1 σ3 H4 (kp i j)) ∧ (kp i j = true → ∀ H4, Ex H H4 → EvR te σ3 H4 (RB i j)))
    (q : ∀ l ys H', H l = none → Ex H H' → H' l = some (.lst ys) → Al (fun y (p : Nat × Nat) => RB p.1 p.2 y H') ys (flat2 n m kp) → Q (.ref l) H') : tLc2 wi g tYes wi1 g1 tt1 te vs vs1 σ H Q := by
  refine ho _ fun J H1 e1 hJ D hD => ?_
  have hDH : H D = none := e1.free hD
  refine loopW (n := n) (Body := fun x H' Nx => g x (L2.wipe σ vs) H' fun σ2 H2 => L2.wipe σ2 vs = L2.wipe σ vs ∧ tYes σ2 H2 fun b H3 => if b = true then wi1 σ2 H3 fun J1 H4 => ∃ W1 : Nat → Nat → Hp → Prop, (∃ m, W1 0 m H4) ∧ ∀ j k H, W1 j k H →
      (J1.stop j H ∧ Nx H) ∨ (J1.go j H ∧ ∃ Nx1 : Hp → Prop, (∀ H', Nx1 H' → ∃ k', k' < k ∧ W1 (j + 1) k' H') ∧ ∀ x H', J1.yld j H x H' → g1 x (L2.wipe σ2 vs1) H' fun σ3 H5 => L2.wipe σ3 vs1 = L2.wipe σ2 vs1 ∧ tt1 σ3 H5 fun b H6 =>
        if b = true then te σ3 H6 fun y H7 => ∃ acc, H7 D = some (.lst acc) ∧ acc.length < sizeLine ∧ Nx1 (upd H7 D (.lst (acc ++ [y]))) else Nx1 H6) else Nx H3)
    (fun i H' => Ex H H' ∧ ∃ ys, H' D = some (.lst ys) ∧ Al (fun y (p : Nat × Nat) => RB p.1 p.2 y H') ys (flat2 i m kp)) ⟨e1.trans (Ex.new hD), [], upd_same, by simpa [flat2] using Al.nil⟩ ?_ ?_
  · rintro H' ⟨e, ys, h1, h2⟩
    exact ⟨(hJ H' e).2, q D ys H' hDH e h1 h2⟩
  · rintro i H' hin ⟨e, ys, h1, h2⟩
    refine ⟨((hJ H' e).1 i hin).1, fun x H2 hy => ?_⟩
    obtain ⟨e2, hY⟩ := ((hJ H' e).1 i hin).2 x H2 hy
    obtain ⟨σ2, hg, hw, hI1, hbody⟩ := hi i hin x H2 (e.trans e2) hY
    refine hg _ fun H3 e3 => ⟨hw, ?_⟩
    refine tyes ?_
    have e23 := e2.trans e3
    refine hI1 H3 (e.trans e23) _ fun J1 H4 e4 hJ1 => ?_
    have e24 := e23.trans e4
    refine loopW (n := m i) (Body := fun x H' Nx1 => g1 x (L2.wipe σ2 vs1) H' fun σ3 H5 => L2.wipe σ3 vs1 = L2.wipe σ2 vs1 ∧ tt1 σ3 H5 fun b H6 =>
        if b = true then te σ3 H6 fun y H7 => ∃ acc, H7 D = some (.lst acc) ∧ acc.length < sizeLine ∧ Nx1 (upd H7 D (.lst (acc ++ [y]))) else Nx1 H6)
      (fun j H' => Ex H H' ∧ ∃ ys, H' D = some (.lst ys) ∧ Al (fun y (p : Nat × Nat) => RB p.1 p.2 y H') ys (flat2 i m kp ++ flat1 i j kp)) ⟨e.trans e24, ys, e24 _ _ h1, ?_⟩ ?_ ?_
    · rw [show flat1 i 0 kp = [] from rfl, List.append_nil]
      exact h2.imp fun y p => mono p.1 p.2 y _ _ e24.ki
    · rintro G ⟨eG, zs, g1', g2'⟩
      refine ⟨(hJ1 G eG).2, eG, zs, g1', ?_⟩
      rw [flat2_succ]
      exact g2'
    · rintro j G hjm ⟨eG, zs, g1', g2'⟩
      refine ⟨((hJ1 G eG).1 j hjm).1, fun z G2 hz => ?_⟩
      obtain ⟨f2, hZ⟩ := ((hJ1 G eG).1 j hjm).2 z G2 hz
      obtain ⟨σ3, hg3, hw3, ht3, he3⟩ := hbody j hjm z G2 (eG.trans f2) hZ
      refine hg3 _ fun G3 f3 => ⟨hw3, ht3 G3 ((eG.trans f2).trans f3) _ fun G4 f4 => ?_⟩
      have f24 := (f2.trans f3).trans f4
      cases hk : kp i j with
      | false =>
        refine iteF ⟨eG.trans f24, zs, f24 _ _ g1', ?_⟩
        rw [flat1_succ, hk, if_neg Bool.false_ne_true, List.append_nil]
        exact g2'.imp fun y p => mono p.1 p.2 y _ _ f24.ki
      | true =>
        refine iteT (he3 hk G4 (eG.trans f24) _ fun y G5 f5 hy => ?_)
        have f25 := f24.trans f5
        have hlen : zs.length < 100000 := by
          have h3 := g2'.1
          rw [List.length_append] at h3
          have h4 := flat2_le (n := i + 1) (n' := n) hin m kp
          rw [flat2_succ, List.length_append] at h4
          have h5 := flat1_le (i := i) (Nat.le_of_lt hjm) kp
          omega
        refine ⟨zs, f25 _ _ g1', Nat.lt_of_lt_of_le hlen (by decide), Ex.mut (eG.trans f25) hDH, zs ++ [y], upd_same, ?_⟩
        rw [flat1_succ, hk, if_pos rfl, ← List.append_assoc]
        have kd : Ki G5 (upd G5 D (.lst (zs ++ [y]))) := Ki.lst Ki.rfl (f25 _ _ g1')
        exact (g2'.imp fun y p hh => mono p.1 p.2 y _ _ (f25.ki.trans kd) hh).snoc (mono i j y _ _ kd hy)
/-! fields, methods, new things -/
def kFl (K : PySem.W.Frag) (f : PySem.Str) (Q : VK) : VK := fun x H1 => ∃ a C dx fs v, x = .ref a ∧ H1 a = some (.ins C dx fs) ∧ Cls K C ∧ NoAttr K C f ∧ fs.lookup f = some v ∧ Q v H1
def kMe (C : Addr) (m : PySem.Str) (sp : Sp) (dvs : List V) (E : XK) (t : TA) (σ : L2.St) (Q : VK) : VK := fun x H1 => ∃ a dx fs, x = .ref a ∧ H1 a = some (.ins C dx fs) ∧ fs.lookup m = none ∧ t σ H1 fun vs H2 => sp (x :: (vs ++ dvs)) H2 Q E
def kSFl (K : PySem.W.Frag) (ta : TE) (f : PySem.Str) (D : Ends) (σ : L2.St) : VK := fun y H1 => ta σ H1 fun x H2 => ∃ a C dx fs, x = .ref a ∧ H2 a = some (.ins C dx fs) ∧ Cls K C ∧ NoAttr K C f ∧ fs.length < 1000 ∧ D.nx σ (upd H2 a (.ins C dx (putF f y fs)))
section
variable {K : PySem.W.Frag} {σ : L2.St} {H : Hp} {Q : VK} {ta tv : TE} {t : TA} {a C dx : Addr} {fs : List (PySem.Str × V)} {f m : PySem.Str} {v : V} {sp : Sp} {dvs : List V} {E : XK} {D : Ends} {h : Hs}
theorem s_fl (q : ta σ H (kFl K f Q)) : tFldK K ta f σ H Q := q
theorem s_kFl (h : H a = some (.ins C dx fs)) (c : Cls K C) (n : NoAttr K C f) (l : fs.lookup f = some v) (q : Q v H) : kFl K f Q (.ref a) H := ⟨a, C, dx, fs, v, rfl, h, c, n, l, q⟩
theorem s_me (q : ta σ H (kMe C m sp dvs E t σ Q)) : tMeth C m sp dvs E ta t σ H Q := q
theorem s_kMe (h : H a = some (.ins C dx fs)) (l : fs.lookup m = none) (q : t σ H fun vs H2 => sp (.ref a :: (vs ++ dvs)) H2 Q E) : kMe C m sp dvs E t σ Q (.ref a) H := ⟨a, dx, fs, rfl, h, l, q⟩
theorem s_kMeH (hv : HouseV K C H a h) (hm : fiveN m) (q : t σ H fun vs H2 => sp (.ref a :: (vs ++ dvs)) H2 Q E) : kMe C m sp dvs E t σ Q (.ref a) H := by
  obtain ⟨dx, fs, tl, tm, tr, tn, th, h1, h2, _⟩ := hv.ob
  exact ⟨a, dx, fs, rfl, h1, h2 m hm, q⟩
theorem s_sfl (q : tv σ H (kSFl K ta f D σ)) : sFld K ta tv f D σ H := q
theorem s_make {t : TA} (q : t σ H fun vs H1 => ∀ x dx, H1 x = none → H1 dx = none → dx ≠ x → sp (.ref x :: (vs ++ dvs)) (upd (upd H1 dx (.own x)) x (.ins C dx [])) (fun v H2 => v = .non ∧ Q (.ref x) H2) E) : tMake C sp dvs E t σ H Q := q
end
theorem fn_latches : fiveN "latches" := by unfold fiveN; decide +kernel
theorem fn_helps : fiveN "helps" := by unfold fiveN; decide +kernel
theorem fn_rows : fiveN "rows" := by unfold fiveN; decide +kernel
theorem fn_numbers : fiveN "numbers" := by unfold fiveN; decide +kernel
theorem fn_marks : fiveN "marks" := by unfold fiveN; decide +kernel
theorem fn_up_at : fiveN "up_at" := by unfold fiveN; decide +kernel
theorem fn_down_at : fiveN "down_at" := by unfold fiveN; decide +kernel
theorem fn_all_help : fiveN "all_help" := by unfold fiveN; decide +kernel
theorem fn_with_latches : fiveN "with_latches" := by unfold fiveN; decide +kernel
theorem fn_put_in_order : fiveN "put_in_order" := by unfold fiveN; decide +kernel
theorem op_and255 {X : Cx} : OpR X (binaryOp .BitAnd) (rI (fun _ j => j = 255) fun i _ => .int (i % 256)) := by
  intro pins s σ H x y v u Q I rx ry h
  obtain ⟨i, j, rfl, rfl, rfl, q⟩ := h
  exact op_andM pins s σ H _ _ v u Q I rx ry ⟨i, 8, rfl, rfl, q⟩
section
variable {X : Cx} {K : PySem.W.Frag}
theorem pi_enumK {e : Expr} {ta : TA} {p pos tpos : Pos} {elts : List Expr} {kk : Nat} (hg : Gl X "enumerate") (hm : X.mg "enumerate" = none) (ha : PA X [e] ta) (hs : starEach [e] X.env = [(false, eval e X.env)] := by rfl) (hK : X.K = K := by rfl) :
    PI X (.Tuple elts kk tpos) (.Call (.Name "enumerate" p) [e] [] pos) (iEnum K ta) := by subst hK; exact pi_enum hg hm ha hs
end
def kEn (K : PySem.W.Frag) (R : It → Hp → Prop) : List V → Hp → Prop := fun vs H1 => ∃ a xs, vs = [.ref a] ∧ SqL K H1 a xs ∧ R (Ite K a) H1
def kEnT (K : PySem.W.Frag) (R : It → Hp → Prop) : List V → Hp → Prop := fun vs H1 => ∃ a xs, vs = [.ref a] ∧ SqT K H1 a xs ∧ R (Itet K a) H1
theorem s_en {K : PySem.W.Frag} {R : It → Hp → Prop} {ta : TA} {σ : L2.St} {H : Hp} (q : ta σ H (kEn K R)) : iEnum K ta σ H R := q
theorem lent_at {h : Hs} (k : HelOk (h.n : Int) h.hel) (n14 : h.n ≤ 14) {st : List Int} (o : StOk h.n st) {l : Nat} (hl : l < h.n) : h.lentAll st / 2 ^ ((l : Int) * 8).toNat % 256 = h.lent st l := by
  rw [show ((l : Int) * 8).toNat = 8 * l by omega]
  exact lent_field k n14 o hl
end My
namespace My
open PySem PySem.Spec PyProof.Rows L2
theorem op_isB {X : Cx} : OpR X (compareOp .Is) (fun x y H Q => ∃ b, y = .bl b ∧ Q (.bl (decide (x = .bl b))) H) := by
  intro pins s σ H x y v u Q I rx ry h
  obtain ⟨b, rfl, q⟩ := h
  cases (show u = Value.bool b from ry)
  by_cases e : x = .bl b
  · subst e
    cases (show v = Value.bool b from rx)
    exact wpAny_is_self rfl ⟨.bl true, H, I, rfl, by simpa using q⟩
  · have hv : v ≠ Value.bool b := by
      intro z
      subst z
      cases x <;> first | (exact e (by rw [Value.bool.inj (show Value.bool b = Value.bool _ from rx)])) | (obtain ⟨t, h⟩ := (rx : ∃ t, _); cases h) | (cases rx)
    refine wpAny_is_other ?_ hv ⟨.bl false, H, I, rfl, by simpa [e] using q⟩
    cases v <;> first | rfl | (exfalso; cases x <;> first | (obtain ⟨t, h⟩ := (rx : ∃ t, _); cases h) | cases rx)
theorem s_isB {x : V} {b : Bool} {H : Hp} {Q : VK} (q : Q (.bl (decide (x = .bl b))) H) : ∃ b', V.bl b = .bl b' ∧ Q (.bl (decide (x = .bl b'))) H := ⟨b, rfl, q⟩
end My
namespace My
open PySem PySem.Spec PyProof.Rows L2
theorem forW {J : It} {n : Nat} {g : TG} {ts : TS} {D : Ends} {σ : L2.St} {H : Hp} (I : Nat → L2.St → Hp → Prop) (h0 : I 0 σ H) (hn : ∀ σ H', I n σ H' → J.stop n H' ∧ D.nx σ H')
    (hi : ∀ i σ H', i < n → I i σ H' → J.go i H' ∧ ∀ x H2, J.yld i H' x H2 → g x σ H2 fun σ2 H3 => ts ⟨I (i + 1), D.rt, D.nx, I (i + 1)⟩ σ2 H3) : kFor g ts D σ J H := by
  refine ⟨fun i m σ H => m = n - i ∧ i ≤ n ∧ I i σ H, ⟨n, by simp, Nat.zero_le _, h0⟩, ?_⟩
  rintro i m σ H ⟨rfl, hle, p⟩
  by_cases hlt : i < n
  · obtain ⟨g, b⟩ := hi i σ H hlt p
    exact .inr ⟨g, I (i + 1), fun σ' H' p' => ⟨n - (i + 1), by omega, rfl, hlt, p'⟩, b⟩
  · have e : i = n := by omega
    subst e
    exact .inl (hn σ H p)
section
variable {K : PySem.W.Frag} {g : TG} {ts : TS} {D : Ends} {σ : L2.St} {H : Hp} {p : Addr} {xs : List V}
theorem l_forT (I : Nat → L2.St → Hp → Prop) (hx : SqT K H p xs) (h0 : I 0 σ H) (hk : ∀ i σ H', I i σ H' → SqT K H' p xs)
    (hs : ∀ i x σ H', xs[i]? = some x → I i σ H' → g x σ H' fun σ2 H2 => ts ⟨I (i + 1), D.rt, D.nx, I (i + 1)⟩ σ2 H2) (hd : ∀ σ H', I xs.length σ H' → D.nx σ H') : kIT K (kFor g ts D σ) (.ref p) H := by
  refine ⟨p, rfl, ⟨_, hx⟩, forW (n := xs.length) I h0 (fun σ H' h => ⟨⟨xs, hk _ σ H' h, Nat.le_refl _⟩, hd σ H' h⟩) fun i σ H' hi h => ⟨⟨xs, xs[i], hk _ σ H' h, List.getElem?_eq_getElem hi⟩, ?_⟩⟩
  rintro x H2 ⟨rfl, hz⟩
  exact hs i x σ H2 (hz xs (hk _ σ H2 h)) h
/-- for (i, x) in enumerate(a tuple): the pair at T -/
theorem l_forEnT (I : Nat → L2.St → Hp → Prop) (hx : SqT K H p xs) (h0 : I 0 σ H) (hk : ∀ i σ H', I i σ H' → SqT K H' p xs)
    (hs : ∀ i x T σ H' H2, xs[i]? = some x → I i σ H' → H' T = none → Ex H' H2 → H2 T = some (.tup [.int (i : Nat), x]) → g (.ref T) σ H2 fun σ2 H3 => ts ⟨I (i + 1), D.rt, D.nx, I (i + 1)⟩ σ2 H3) (hd : ∀ σ H', I xs.length σ H' → D.nx σ H') : kEnT K (kFor g ts D σ) [.ref p] H := by
  refine ⟨p, xs, rfl, hx, forW (n := xs.length) I h0 (fun σ H' h => ⟨⟨xs, hk _ σ H' h, Nat.le_refl _⟩, hd σ H' h⟩) fun i σ H' hi h => ⟨⟨xs, xs[i], hk _ σ H' h, List.getElem?_eq_getElem hi⟩, ?_⟩⟩
  rintro x H2 ⟨T, y, rfl, hT, rfl, hz⟩
  exact hs i y T σ H' _ (hz xs (hk _ σ H' h)) h hT (Ex.new hT) upd_same
theorem l_forEn (I : Nat → L2.St → Hp → Prop) (hx : SqL K H p xs) (h0 : I 0 σ H) (hk : ∀ i σ H', I i σ H' → SqL K H' p xs)
    (hs : ∀ i x T σ H' H2, xs[i]? = some x → I i σ H' → H' T = none → Ex H' H2 → H2 T = some (.tup [.int (i : Nat), x]) → g (.ref T) σ H2 fun σ2 H3 => ts ⟨I (i + 1), D.rt, D.nx, I (i + 1)⟩ σ2 H3) (hd : ∀ σ H', I xs.length σ H' → D.nx σ H') : kEn K (kFor g ts D σ) [.ref p] H := by
  refine ⟨p, xs, rfl, hx, forW (n := xs.length) I h0 (fun σ H' h => ⟨⟨xs, hk _ σ H' h, Nat.le_refl _⟩, hd σ H' h⟩) fun i σ H' hi h => ⟨⟨xs, xs[i], hk _ σ H' h, List.getElem?_eq_getElem hi⟩, ?_⟩⟩
  rintro x H2 ⟨T, y, rfl, hT, rfl, hz⟩
  exact hs i y T σ H' _ (hz xs (hk _ σ H' h)) h hT (Ex.new hT) upd_same
end
def kRv (K : PySem.W.Frag) (R : It → Hp → Prop) : List V → Hp → Prop := fun vs H1 => ∃ (a : Addr) (xs : List V), vs = [.ref a] ∧ SqL K H1 a xs ∧ R (Itv K a xs.length) H1
theorem s_rv {K : PySem.W.Frag} {R : It → Hp → Prop} {ta : TA} {σ : L2.St} {H : Hp} (q : ta σ H (kRv K R)) : iRev K ta σ H R := q
theorem s_enT {K : PySem.W.Frag} {R : It → Hp → Prop} {ta : TA} {σ : L2.St} {H : Hp} (q : ta σ H (kEnT K R)) : iEnumT K ta σ H R := q
theorem l_forRv {K : PySem.W.Frag} {g : TG} {ts : TS} {D : Ends} {σ : L2.St} {H : Hp} {p : Addr} {xs : List V} (I : Nat → L2.St → Hp → Prop) (hx : SqL K H p xs) (h0 : I 0 σ H) (hk : ∀ i σ H', I i σ H' → SqL K H' p xs)
    (hs : ∀ i x σ H', i < xs.length → xs[xs.length - 1 - i]? = some x → I i σ H' → g x σ H' fun σ2 H2 => ts ⟨I (i + 1), D.rt, D.nx, I (i + 1)⟩ σ2 H2) (hd : ∀ σ H', I xs.length σ H' → D.nx σ H') : kRv K (kFor g ts D σ) [.ref p] H := by
  refine ⟨p, xs, rfl, hx, forW (n := xs.length) I h0 (fun σ H' h => ⟨Nat.le_refl _, hd σ H' h⟩) fun i σ H' hi h => ⟨⟨hi, xs, xs[xs.length - 1 - i], hk _ σ H' h, List.getElem?_eq_getElem (by omega)⟩, ?_⟩⟩
  rintro x H2 ⟨rfl, hz⟩
  exact hs i x σ H2 hi (hz xs (hk _ σ H2 h)) h
theorem bits_le {i : Int} {n : Nat} (h : i.natAbs < 2 ^ n) (hn : 0 < n) : Builtin.Int.intBits i ≤ n := by
  unfold Builtin.Int.intBits
  split
  · omega
  · have := PySem.Flt.log2_lt_of hn h
    omega
theorem shl_ok {i : Int} (h0 : 0 ≤ i) (h : i < 2 ^ 150) : CShl i 8 := ⟨by decide, by
  have := bits_le (i := i) (n := 150) (by omega) (by decide)
  omega⟩
end My
namespace My
open PySem PySem.Spec PyProof.Rows L2
/-- [a new list each time for k in range(n)]: lists of their own -/
theorem lc_fresh {n k : Nat} {ta : TA} {te : TE} {vs : List Nat} {σ σ0 : L2.St} {f : V → L2.St} {H : Hp} {Q : VK} {zs : List V} (hv : vs = [k]) (hw : SetR σ k none σ0) (hs : ∀ v, SetR σ0 k (some v) (f v))
    (hta : ∀ Q : List V → Hp → Prop, (∀ H', Ex H H' → Q [.int (n : Int)] H') → ta σ H Q) (hn : n < 100000)
    (he : ∀ (i : Nat) H1, Ex H H1 → ∀ Q : VK, (∀ b H2, H1 b = none → Ex H1 H2 → H2 b = some (.lst zs) → Q (.ref b) H2) → te (f (.int (i : Int))) H1 Q)
    (q : ∀ (r : Addr) (bs : List Addr) (H' : Hp), H r = none → Ex H H' → H' r = some (.lst (bs.map V.ref)) → bs.length = n → bs.Nodup → r ∉ bs → (∀ b ∈ bs, H b = none ∧ H' b = some (.lst zs)) → Q (.ref r) H') : tLc (iRng1 ta) (gName k) tYes te vs σ H Q := by
  subst hv
  refine hta _ fun H1 e1 => ⟨_, rfl, by omega, by omega, fun D hD => ?_⟩
  rw [Int.toNat_natCast]
  have hDH := e1.free hD
  have hw' : L2.wipe σ [k] = σ0 := hw.eq
  refine lc_range (lo := 0) (n := n) (fun i H' => Ex H H' ∧ ∃ bs : List Addr, H' D = some (.lst (bs.map V.ref)) ∧ bs.length = i ∧ bs.Nodup ∧ D ∉ bs ∧ ∀ b ∈ bs, H b = none ∧ H' b = some (.lst zs)) ⟨e1.trans (Ex.new hD), [], upd_same, rfl, .nil, by simp, by simp⟩ ?_ ?_
  · rintro i H' hi ⟨e, bs, h1, h2, h3, h4, h5⟩
    rw [hw', show ((0 : Int) + (i : Int)) = (i : Int) by omega]
    show (fun σ2 H2 => L2.wipe σ2 [k] = σ0 ∧ _) (σ0.set k (some (.int (i : Int)))) H'
    rw [(hs _).eq]
    refine ⟨(hw.back (hs _)).eq, tyes (he i H' e _ fun b H2 nb e2 hb => ?_)⟩
    have hbD : b ≠ D := fun z => by rw [z, h1] at nb; cases nb
    refine ⟨bs.map V.ref, e2 _ _ h1, Nat.lt_of_lt_of_le (by rw [List.length_map]; omega) (show 100000 ≤ sizeLine by decide), Ex.mut (e.trans e2) hDH, bs ++ [b], by rw [upd_same, List.map_append]; rfl, by simp [h2], ?_, ?_, ?_⟩
    · rw [List.nodup_append]
      refine ⟨h3, by simp, fun x hx y hy => ?_⟩
      rw [List.mem_singleton.mp hy]
      intro z
      subst z
      rw [(h5 x hx).2] at nb
      cases nb
    · intro hm
      rcases List.mem_append.mp hm with hm | hm
      · exact h4 hm
      · exact hbD (List.mem_singleton.mp hm).symm
    · intro x hx
      rcases List.mem_append.mp hx with hx | hx
      · have hxD : x ≠ D := fun z => h4 (z ▸ hx)
        exact ⟨(h5 x hx).1, by rw [upd_ne hxD]; exact e2 _ _ (h5 x hx).2⟩
      · rw [List.mem_singleton.mp hx]
        exact ⟨e.free nb, by rw [upd_ne hbD]; exact hb⟩
  · rintro H' ⟨e, bs, h1, h2, h3, h4, h5⟩
    exact q D bs H' hDH e h1 h2 h3 h4 h5
end My
namespace My
open PySem PySem.Spec PyProof.Rows L2
theorem ixN_nat {n b : Nat} (h : b < n) : ixN n (b : Int) = some b := by
  unfold ixN
  rw [if_pos (by omega), if_pos (by omega), Int.toNat_natCast]
theorem ex_exB {H G G' : Hp} {b : Addr} (e : Ex H G) (f : ExB b G G') (n : H b = none) : Ex H G' := fun c o hc => f c o (ne_of_none hc n) (e c o hc)
theorem nd_at {α : Type} {l : List α} (h : l.Nodup) {i j : Nat} {x : α} (hi : l[i]? = some x) (hj : l[j]? = some x) : i = j := by
  have h1 := (List.getElem?_eq_some_iff.mp hi)
  have h2 := (List.getElem?_eq_some_iff.mp hj)
  obtain ⟨a, ea⟩ := h1
  obtain ⟨b, eb⟩ := h2
  exact (List.nodup_iff_pairwise_ne.mp h |> fun p => by
    rcases Nat.lt_trichotomy i j with g | g | g
    · exact absurd (ea.trans eb.symm) (List.pairwise_iff_getElem.mp p i j a b g)
    · exact g
    · exact absurd (eb.trans ea.symm) (List.pairwise_iff_getElem.mp p j i b a g))
end My
namespace My
open PySem PySem.Spec PyProof.Rows L2
theorem lenF {f : PySem.Str} {v : V} : ∀ {fs : List (PySem.Str × V)} {k : Nat}, fs.length ≤ k → (putF f v fs).length ≤ k + 1
  | [], k, _ => by simp [putF]
  | (g, u) :: fs, k, h => by
    unfold putF
    split
    · simp at h ⊢; omega
    · obtain ⟨k', rfl⟩ : ∃ k', k = k' + 1 := ⟨k - 1, by simp at h; omega⟩
      have := lenF (f := f) (v := v) (fs := fs) (k := k') (by simp at h; omega)
      simp at this ⊢; omega
theorem s_kSFl {K : PySem.W.Frag} {σ : L2.St} {H : Hp} {D : Ends} {n : Nat} {a C dx : Addr} {fs : List (PySem.Str × V)} {f : PySem.Str} {y : V} (g : GetR σ n (.ref a)) (h : H a = some (.ins C dx fs)) (c : Cls K C) (nn : NoAttr K C f) (l : fs.length < 1000)
    (q : ∀ H', ExB a H H' → H' a = some (.ins C dx (putF f y fs)) → D.nx σ H') : kSFl K (tVar n) f D σ y H := ⟨.ref a, g.eq, a, C, dx, fs, rfl, h, c, nn, l, q _ ExB.upd upd_same⟩
theorem x_neLI {H : Hp} {p r C dx : Addr} {fs : List (PySem.Str × V)} {xs : List V} (h2 : H r = some (.ins C dx fs)) (h1 : H p = some (.lst xs)) : p ≠ r := fun z => by rw [z, h2] at h1; cases h1
theorem x_neTI {H : Hp} {p r C dx : Addr} {fs : List (PySem.Str × V)} {xs : List V} (h2 : H r = some (.ins C dx fs)) (h1 : H p = some (.tup xs)) : p ≠ r := fun z => by rw [z, h2] at h1; cases h1
end My
namespace My
open PySem PySem.Spec PyProof.Rows L2
theorem lc_gen {K : PySem.W.Frag} {α : Type} {as : List α} {RA : Hp → V → α → Prop} {RB : α → V → Hp → Prop} {tl te : TE} {n : Nat} {vs : List Nat} {σ σ0 : L2.St} {f : V → L2.St} {H : Hp} {Q : VK} (hv : vs = [n]) (hw : SetR σ n none σ0) (hs : ∀ v, SetR σ0 n (some v) (f v))
    (htl : EvR tl σ H fun v H1 => ∃ a xs, v = .ref a ∧ SqL K H1 a xs ∧ Al (RA H1) xs as) (hl : as.length < 100000) (mono : ∀ a y H1 H2, Ki H1 H2 → RB a y H1 → RB a y H2)
    (he : ∀ (i : Nat) x b H1, Ex H H1 → as[i]? = some b → RA H1 x b → ∀ H2, Ex H1 H2 → EvR te (f x) H2 (RB b))
    (q : ∀ l ys H', H l = none → Ex H H' → H' l = some (.lst ys) → Al (fun y a => RB a y H') ys as → Q (.ref l) H') : tLc (iList K tl) (gName n) tYes te vs σ H Q := by
  refine lcL_ev (K := K) (as := as) (kp := fun _ => true) (RA := RA) (RB := RB) htl hl mono (fun H1 e1 i x b hk hR => turn1 hv hw hs (fun H2 e2 => tv_yes) fun _ H2 e2 => he i x b H1 e1 hk hR H2 e2) _ fun v H1 e1 hnew => ?_
  obtain ⟨p, ys, rfl, hp, hps, hy⟩ := hnew
  rw [fTrue] at hy
  exact q p ys H1 hp e1 hps hy
theorem Al.map_ints {xs : List V} {α : Type} {as : List α} {f : α → Int} {H : Hp} (h : Al (fun y a => y = V.int (f a)) xs as) : xs = (as.map f).map V.int := by
  rw [h.map, List.map_map]; rfl
theorem flat2_canon (hel : List (Int × Int × Int)) (n : Nat) : (flat2 n (fun _ => n) fun i j => decide (0 < ent hel (i : Int) (j : Int))).map (fun p => ((p.1 : Int), (p.2 : Int), ent hel (p.1 : Int) (p.2 : Int))) = canonH hel n := by
  unfold flat2 canonH
  rw [List.map_flatMap]
  congr 1
  funext i
  rw [List.map_map]
  rfl
theorem flat2_len (n : Nat) (m : Nat → Nat) (kp : Nat → Nat → Bool) (B : Nat) (h : ∀ i, m i ≤ B) : (flat2 n m kp).length ≤ n * B := by
  induction n with
  | zero => simp [flat2]
  | succ n ih =>
    rw [flat2_succ, List.length_append]
    have : (flat1 n (m n) kp).length ≤ B := by
      unfold flat1
      rw [List.length_map]
      exact Nat.le_trans (List.length_filter_le _ _) (by rw [List.length_range]; exact h n)
    rw [Nat.succ_mul]
    omega
end My
namespace My
open PySem PySem.Spec PyProof.Rows L2
section
variable {X : Cx} {K : PySem.W.Frag}
theorem pg_tupK {es : List Expr} {k : Nat} {t : TGs} {n : Nat} {pos : Pos} (hc : X.calm = true) (h : PGs X es t)
    (hn : (assignEach es X.env).length = n := by rfl) (hst : (assignEach es X.env).findIdx? (·.1) = none := by rfl) (hK : X.K = K := by rfl) : PG X (.Tuple es k pos) (gTup K n t) := by subst hK; exact pg_tup hc h hn hst
theorem pg_unlK {es : List Expr} {k : Nat} {t : TGs} {n : Nat} {pos : Pos} (hc : X.calm = true) (h : PGs X es t)
    (hn : (assignEach es X.env).length = n := by rfl) (hst : (assignEach es X.env).findIdx? (·.1) = none := by rfl) (hK : X.K = K := by rfl) : PG X (.Tuple es k pos) (gUnl K n t) := by subst hK; exact pg_unl hc h hn hst
theorem pi_tupK {tg l : Expr} {tl : TE} (hl : PE X l tl) (hK : X.K = K := by rfl) : PI X tg l (iTup K tl) := by subst hK; exact pi_tup hl
theorem pi_enumTK {e : Expr} {ta : TA} {p pos tpos : Pos} {elts : List Expr} {kk : Nat} (hg : Gl X "enumerate") (hm : X.mg "enumerate" = none) (ha : PA X [e] ta) (hs : starEach [e] X.env = [(false, eval e X.env)] := by rfl) (hK : X.K = K := by rfl) :
    PI X (.Tuple elts kk tpos) (.Call (.Name "enumerate" p) [e] [] pos) (iEnumT K ta) := by subst hK; exact pi_enumT hg hm ha hs
theorem pi_reversedK {tg e : Expr} {ta : TA} {p pos : Pos} (hg : Gl X "reversed") (hm : X.mg "reversed" = none) (ha : PA X [e] ta) (hs : starEach [e] X.env = [(false, eval e X.env)] := by rfl) (hK : X.K = K := by rfl) : PI X tg (.Call (.Name "reversed" p) [e] [] pos) (iRev K ta) := by subst hK; exact pi_reversed hg hm ha hs
theorem ps_fldK {o value : Expr} {f : PySem.Str} {pos pos' : Pos} {ta tv : TE} (ha : PE X o ta) (hv : PE X value tv) (hs : swapsWith value (some (.Attribute o f pos')) pos.line X.env = pure false) (hK : X.K = K := by rfl) : PS X (.Assign [.Attribute o f pos'] value pos) (sFld K ta tv f) := by subst hK; exact ps_fld ha hv hs
theorem kSortedI (hK : X.K = K := by rfl) : CallR X (.builtin "sorted") (rSortedI K) := by subst hK; exact cr_sortedI
theorem kAnyK (hc : X.calm = true := by rfl) (hK : X.K = K := by rfl) : CallR X (.builtin "any") (rAny K) := by subst hK; exact cr_any hc
end
/-- a comprehension with one generator over whatever tells n things -/
theorem lc_ev {wi : TI} {g : TG} {tt : TT} {te : TE} {vs : List Nat} {σ : L2.St} {H : Hp} {Q : VK} (n : Nat) (Y : Nat → V → Hp → Prop) (kp : Nat → Bool) (RB : Nat → V → Hp → Prop)
    (hb : n < 100000) (mono : ∀ i y H1 H2, Ki H1 H2 → RB i y H1 → RB i y H2) (ho : EvI wi σ H H n Y)
    (hi : ∀ i, i < n → ∀ x H1, Ex H H1 → Y i x H1 → ∃ σ2, GvR g x (L2.wipe σ vs) H1 σ2 ∧ L2.wipe σ2 vs = L2.wipe σ vs ∧ (∀ H2, Ex H1 H2 → TvR tt σ2 H2 (kp i)) ∧ (kp i = true → ∀ H2, Ex H1 H2 → EvR te σ2 H2 (RB i)))
    (q : ∀ l ys H', H l = none → Ex H H' → H' l = some (.lst ys) → Al (fun y i => RB i y H') ys ((List.range n).filter kp) → Q (.ref l) H') : tLc wi g tt te vs σ H Q := by
  refine ho _ fun J H1 e1 hJ D hD => ?_
  have hDH : H D = none := e1.free hD
  refine loopW (n := n) (Body := fun x H' Nx => g x (L2.wipe σ vs) H' fun σ2 H2 => L2.wipe σ2 vs = L2.wipe σ vs ∧ tt σ2 H2 fun b H3 => if b = true then te σ2 H3 fun y H4 => ∃ acc, H4 D = some (.lst acc) ∧ acc.length < sizeLine ∧ Nx (upd H4 D (.lst (acc ++ [y]))) else Nx H3)
    (fun i H' => Ex H H' ∧ ∃ ys, H' D = some (.lst ys) ∧ Al (fun y i => RB i y H') ys ((List.range i).filter kp)) ⟨e1.trans (Ex.new hD), [], upd_same, by simpa using Al.nil⟩ ?_ ?_
  · rintro H' ⟨e, ys, h1, h2⟩
    exact ⟨(hJ H' e).2, q D ys H' hDH e h1 h2⟩
  · rintro i H' hin ⟨e, ys, h1, h2⟩
    refine ⟨((hJ H' e).1 i hin).1, fun x H2 hy => ?_⟩
    obtain ⟨e2, hY⟩ := ((hJ H' e).1 i hin).2 x H2 hy
    obtain ⟨σ2, hg, hw, ht, he⟩ := hi i hin x H2 (e.trans e2) hY
    refine hg _ fun H3 e3 => ⟨hw, ht H3 e3 _ fun H4 e4 => ?_⟩
    have e24 := (e2.trans e3).trans e4
    cases hk : kp i with
    | false =>
      refine iteF ⟨e.trans e24, ys, e24 _ _ h1, ?_⟩
      rw [List.range_succ, List.filter_append, List.filter_cons_of_neg (by rw [hk]; decide), List.filter_nil, List.append_nil]
      exact h2.imp fun y p => mono p y _ _ e24.ki
    | true =>
      refine iteT (he hk H4 (e3.trans e4) _ fun y H5 e5 hy => ?_)
      have e25 := e24.trans e5
      have hlen : ys.length < 100000 := by
        have h3 := h2.1
        have h4 := List.length_filter_le kp (List.range i)
        rw [List.length_range] at h4
        omega
      refine ⟨ys, e25 _ _ h1, Nat.lt_of_lt_of_le hlen (by decide), Ex.mut (e.trans e25) hDH, ys ++ [y], upd_same, ?_⟩
      rw [List.range_succ, List.filter_append, List.filter_cons_of_pos hk, List.filter_nil]
      have kd : Ki H5 (upd H5 D (.lst (ys ++ [y]))) := Ki.lst Ki.rfl (e25 _ _ h1)
      exact (h2.imp fun y p hh => mono p y _ _ (e25.ki.trans kd) hh).snoc (mono i y _ _ kd hy)
/-- over a tuple of things told -/
theorem evi_t {K : PySem.W.Frag} {ta : TE} {σ : L2.St} {H H0 : Hp} {a : Addr} {xs : List V} (h0 : SqT K H0 a xs) (h : SqT K H a xs) (he : EvR ta σ H fun v _ => v = .ref a) : EvI (iTup K ta) σ H H0 xs.length (fun i x _ => xs[i]? = some x) := fun R k =>
  he _ fun v H1 e1 hv => by subst hv; exact ⟨a, rfl, ⟨xs, h.ki e1.ki⟩, k _ _ e1 (ok_t h0)⟩
theorem evi_l {K : PySem.W.Frag} {ta : TE} {σ : L2.St} {H H0 : Hp} {a : Addr} {xs : List V} (h0 : SqL K H0 a xs) (h : SqL K H a xs) (he : EvR ta σ H fun v _ => v = .ref a) : EvI (iList K ta) σ H H0 xs.length (fun i x _ => xs[i]? = some x) := fun R k =>
  he _ fun v H1 e1 hv => by subst hv; exact ⟨a, rfl, ⟨xs, SqLex h e1⟩, k _ _ e1 (ok_l h0)⟩
theorem filter_all {n : Nat} {kp : Nat → Bool} (h : ∀ i, kp i = true) : (List.range n).filter kp = List.range n := List.filter_eq_self.mpr fun i _ => h i
theorem pe_mth0 {X : Cx} {C : Addr} {m : PySem.Str} {k : Nat} {ps : List PySem.Str} {sp : Sp} {o : Expr} {ta : TE} {apos pos : Pos} {pl : Sem Bool} (D : Mtd X.prog X.w X.K X.mg X.base C m k ps sp) (ho : PE X o ta) (c : Cls X.K C) (hr : Room k X.A)
    (ht : eval (.Call (.Attribute o m apos) [] [] pos) X.env = (do
      let ov ← eval o X.env
      standAt apos.atName
      let (f, first) ← holding [ov] (getMethod ov m pl)
      callWith pos f first (backTo pos (starEach [] X.env)) (backToKw pos (keywordEach [] X.env))) := by rfl) :
    PE X (.Call (.Attribute o m apos) [] [] pos) (tMeth C m sp [] E0 ta tNil) := by
  obtain ⟨f, fd, h1, h3, h4⟩ := D.ex
  exact pe_meth0 ho c h1 h4 hr h3 .nil pass0 ht
/-- a source that is a tuple or a list -/
def iEi (t1 t2 : TI) : TI := fun σ H R => t1 σ H R ∨ t2 σ H R
theorem pi_ei {X : Cx} {tg e : Expr} {t1 t2 : TI} (h1 : PI X tg e t1) (h2 : PI X tg e t2) : PI X tg e (iEi t1 t2) := ⟨fun pins s σ H R I h => h.elim (h1.run pins s σ H R I) (h2.run pins s σ H R I)⟩
theorem pi_seqK {X : Cx} {K : PySem.W.Frag} {tg l : Expr} {tl : TE} (hl : PE X l tl) (hK : X.K = K := by rfl) : PI X tg l (iEi (iTup K tl) (iList K tl)) := pi_ei (pi_tupK hl hK) (pi_listK (K := K) hl hK)
def SqE (K : PySem.W.Frag) (H : Hp) (a : Addr) (xs : List V) : Prop := SqT K H a xs ∨ SqL K H a xs
theorem SqE.ex {K : PySem.W.Frag} {H H' : Hp} {a : Addr} {xs : List V} (h : SqE K H a xs) (e : Ex H H') : SqE K H' a xs := h.elim (fun h => .inl (h.ki e.ki)) (fun h => .inr (SqLex h e))
theorem evi_e {K : PySem.W.Frag} {ta : TE} {σ : L2.St} {H H0 : Hp} {a : Addr} {xs : List V} (h0 : SqE K H0 a xs) (e : Ex H0 H) (he : EvR ta σ H fun v _ => v = .ref a) : EvI (iEi (iTup K ta) (iList K ta)) σ H H0 xs.length (fun i x _ => xs[i]? = some x) := fun R k =>
  h0.elim (fun h => .inl (evi_t h (h.ki e.ki) he R k)) (fun h => .inr (evi_l h (SqLex h e) he R k))
theorem ok_tR {K : PySem.W.Frag} {a : Addr} {xs : List V} {H : Hp} {n : Nat} {R : Hp → V → Nat → Prop} (hx : SqT K H a xs) (hal : Al (R H) xs (List.range n)) (mono : ∀ H' x i, Ex H H' → R H x i → R H' x i) : ItOk (Itt K a) n (fun i x H2 => R H2 x i) H := fun H' e => by
  have hl : xs.length = n := by rw [hal.1, List.length_range]
  have h := ok_t hx H' e
  rw [hl] at h
  refine ⟨fun i hi => ⟨(h.1 i hi).1, fun x H2 hy => ?_⟩, h.2⟩
  obtain ⟨e2, h3⟩ := (h.1 i hi).2 x H2 hy
  exact ⟨e2, mono H2 x i (e.trans e2) (hal.2 i x i h3 (List.getElem?_range hi))⟩
theorem ok_lA {K : PySem.W.Frag} {α : Type} {a : Addr} {xs : List V} {H : Hp} {as : List α} {R : Hp → V → α → Prop} (hx : SqL K H a xs) (hal : Al (R H) xs as) (mono : ∀ H' x i, Ex H H' → R H x i → R H' x i) : ItOk (Itl K a) as.length (fun i x H2 => ∃ b, as[i]? = some b ∧ R H2 x b) H := fun H' e => by
  have h := ok_l hx H' e
  rw [hal.1] at h
  refine ⟨fun i hi => ⟨(h.1 i hi).1, fun x H2 hy => ?_⟩, h.2⟩
  obtain ⟨e2, h3⟩ := (h.1 i hi).2 x H2 hy
  obtain ⟨b, hb, hr⟩ := hal.get h3
  exact ⟨e2, b, hb, mono H2 x b (e.trans e2) hr⟩
theorem s_inT {K : PySem.W.Frag} {H : Hp} {Q : VK} {p : Addr} {z : Int} {st : List Int} (h : SqT K H p (st.map V.int)) (q : Q (.bl (decide (z ∈ st))) H) : rIn K false (.int z) (.ref p) H Q := by
  refine ⟨p, _, rfl, .inr h, rfl, flat_ints st, ?_⟩
  show Q (.bl (inV (V.int z) (st.map V.int))) H
  rw [inV_int]
  exact q
theorem s_ninT {K : PySem.W.Frag} {H : Hp} {Q : VK} {p : Addr} {z : Int} {st : List Int} (h : SqT K H p (st.map V.int)) (q : Q (.bl (!decide (z ∈ st))) H) : rIn K true (.int z) (.ref p) H Q := by
  refine ⟨p, _, rfl, .inr h, rfl, flat_ints st, ?_⟩
  show Q (.bl (!inV (V.int z) (st.map V.int))) H
  rw [inV_int]
  exact q
theorem s_inL {K : PySem.W.Frag} {H : Hp} {Q : VK} {p : Addr} {z : Int} {st : List Int} (h : SqL K H p (st.map V.int)) (q : Q (.bl (decide (z ∈ st))) H) : rIn K false (.int z) (.ref p) H Q := by
  refine ⟨p, _, rfl, .inl h, rfl, flat_ints st, ?_⟩
  show Q (.bl (inV (V.int z) (st.map V.int))) H
  rw [inV_int]
  exact q
theorem s_ninL {K : PySem.W.Frag} {H : Hp} {Q : VK} {p : Addr} {z : Int} {st : List Int} (h : SqL K H p (st.map V.int)) (q : Q (.bl (!decide (z ∈ st))) H) : rIn K true (.int z) (.ref p) H Q := by
  refine ⟨p, _, rfl, .inl h, rfl, flat_ints st, ?_⟩
  show Q (.bl (!inV (V.int z) (st.map V.int))) H
  rw [inV_int]
  exact q
theorem range_filter {α : Type} (as : List α) (kp : α → Bool) : ∀ k, k ≤ as.length → ((List.range k).filter fun i => (as[i]?).any kp).map (fun i => as[i]?) = ((as.take k).filter kp).map some
  | 0, _ => by simp
  | k + 1, hk => by
    have ih := range_filter as kp k (by omega)
    have hb : as[k]? = some as[k] := List.getElem?_eq_getElem hk
    rw [List.range_succ, List.filter_append, List.map_append, ih, List.take_succ, List.filter_append, List.map_append, hb]
    congr 1
    cases hkp : kp as[k] with
    | true => rw [List.filter_cons_of_pos (by rw [hb]; exact hkp), Option.toList_some, List.filter_cons_of_pos hkp, List.filter_nil, List.filter_nil, List.map_cons, hb]; rfl
    | false => rw [List.filter_cons_of_neg (by rw [hb]; show ¬ kp as[k] = true; rw [hkp]; decide), Option.toList_some, List.filter_cons_of_neg (by rw [hkp]; decide), List.filter_nil, List.filter_nil]; rfl
theorem al_filter {α : Type} {R : V → α → Prop} {as : List α} {kp : α → Bool} {ys : List V} (h : Al (fun y (i : Nat) => ∃ b, as[i]? = some b ∧ R y b) ys ((List.range as.length).filter fun i => (as[i]?).any kp)) : Al R ys (as.filter kp) := by
  have e := range_filter as kp as.length (Nat.le_refl _)
  rw [List.take_length] at e
  have hl := congrArg List.length e
  rw [List.length_map, List.length_map] at hl
  refine ⟨h.1.trans hl, fun i y a h1 h2 => ?_⟩
  have e2 := congrArg (fun l => l[i]?) e
  rw [List.getElem?_map, List.getElem?_map, h2] at e2
  obtain ⟨j, hj, hj2⟩ := Option.map_eq_some_iff.mp e2
  obtain ⟨b, hb, hr⟩ := h.2 i y j h1 hj
  rw [hj2] at hb
  cases hb
  exact hr
/-- a comprehension over whatever tells the things of a list -/
theorem lc_evA {α : Type} {wi : TI} {g : TG} {tt : TT} {te : TE} {vs : List Nat} {σ : L2.St} {H : Hp} {Q : VK} (as : List α) (Y : α → V → Hp → Prop) (kp : α → Bool) (RB : α → V → Hp → Prop)
    (hb : as.length < 100000) (mono : ∀ b y H1 H2, Ki H1 H2 → RB b y H1 → RB b y H2) (ho : EvI wi σ H H as.length fun i x H2 => ∃ b, as[i]? = some b ∧ Y b x H2)
    (hi : ∀ b, b ∈ as → ∀ x H1, Ex H H1 → Y b x H1 → ∃ σ2, GvR g x (L2.wipe σ vs) H1 σ2 ∧ L2.wipe σ2 vs = L2.wipe σ vs ∧ (∀ H2, Ex H1 H2 → TvR tt σ2 H2 (kp b)) ∧ (kp b = true → ∀ H2, Ex H1 H2 → EvR te σ2 H2 (RB b)))
    (q : ∀ l ys H', H l = none → Ex H H' → H' l = some (.lst ys) → Al (fun y b => RB b y H') ys (as.filter kp) → Q (.ref l) H') : tLc wi g tt te vs σ H Q := by
  refine lc_ev as.length _ (fun i => (as[i]?).any kp) (fun i y H1 => ∃ b, as[i]? = some b ∧ RB b y H1) hb (fun i y H1 H2 e ⟨b, h1, h2⟩ => ⟨b, h1, mono b y H1 H2 e h2⟩) ho ?_ fun l ys H' nl e hl h => q l ys H' nl e hl (al_filter h)
  rintro i hin x H1 e1 ⟨b, hbi, hy⟩
  obtain ⟨σ2, h1, h2, h3, h4⟩ := hi b (List.mem_of_getElem? hbi) x H1 e1 hy
  have ek : (as[i]?).any kp = kp b := by rw [hbi]; rfl
  refine ⟨σ2, h1, h2, fun H2 e2 => ?_, fun hk H2 e2 => ?_⟩
  · rw [ek]; exact h3 H2 e2
  · rw [ek] at hk
    exact fun Q2 k => h4 hk H2 e2 Q2 fun v H3 e3 hr => k v H3 e3 ⟨b, hbi, hr⟩
theorem evi_lA {K : PySem.W.Frag} {α : Type} {ta : TE} {σ : L2.St} {H : Hp} {a : Addr} {xs : List V} {as : List α} {R : Hp → V → α → Prop} (hx : SqL K H a xs) (hal : Al (R H) xs as) (mono : ∀ H' x i, Ex H H' → R H x i → R H' x i) (he : EvR ta σ H fun v _ => v = .ref a) : EvI (iList K ta) σ H H as.length (fun i x H2 => ∃ b, as[i]? = some b ∧ R H2 x b) := fun R2 k =>
  he _ fun v H1 e1 hv => by subst hv; exact ⟨a, rfl, ⟨xs, SqLex hx e1⟩, k _ _ e1 (ok_lA hx hal mono)⟩
/-! what waits, and what is left waiting -/
def zs (ls : List Nat) : List Int := ls.map fun (l : Nat) => (l : Int)
theorem mem_zs {ls : List Nat} {l : Nat} : (l : Int) ∈ zs ls ↔ l ∈ ls := by
  unfold zs
  rw [List.mem_map]
  exact ⟨fun ⟨a, h, e⟩ => by have : a = l := by omega
                             exact this ▸ h, fun h => ⟨l, h, rfl⟩⟩
theorem sum_or (T A B : List Int) : ∀ L : List (Int × Int), (∀ p ∈ L, (p.1 ∈ T ↔ p.1 ∈ A ∨ p.1 ∈ B) ∧ ¬ (p.1 ∈ A ∧ p.1 ∈ B)) → ((L.filter fun p => decide (p.1 ∈ T)).map (·.2)).sum = ((L.filter fun p => decide (p.1 ∈ A)).map (·.2)).sum + ((L.filter fun p => decide (p.1 ∈ B)).map (·.2)).sum
  | [], _ => rfl
  | p :: r, h => by
    have ih := sum_or T A B r fun q hq => h q (List.mem_cons_of_mem _ hq)
    obtain ⟨h1, h2⟩ := h p (List.mem_cons_self ..)
    by_cases ha : p.1 ∈ A
    · have hb : ¬ p.1 ∈ B := fun hb => h2 ⟨ha, hb⟩
      have ht := h1.mpr (.inl ha)
      rw [List.filter_cons_of_pos (by simpa using ht), List.filter_cons_of_pos (by simpa using ha), List.filter_cons_of_neg (by simpa using hb), List.map_cons, List.map_cons, List.sum_cons, List.sum_cons, ih]
      omega
    · by_cases hb : p.1 ∈ B
      · have ht := h1.mpr (.inr hb)
        rw [List.filter_cons_of_pos (by simpa using ht), List.filter_cons_of_neg (by simpa using ha), List.filter_cons_of_pos (by simpa using hb), List.map_cons, List.map_cons, List.sum_cons, List.sum_cons, ih]
        omega
      · have ht : ¬ p.1 ∈ T := fun h => (h1.mp h).elim ha hb
        rw [List.filter_cons_of_neg (by simpa using ht), List.filter_cons_of_neg (by simpa using ha), List.filter_cons_of_neg (by simpa using hb), ih]
theorem lend_nat {h : Hs} (k : HelOk (h.n : Int) h.hel) {l : Nat} {p : Int × Int} (hp : p ∈ lendOf h.hel (l : Int)) : ∃ i : Nat, p.1 = (i : Int) ∧ i < h.n := by
  unfold lendOf at hp
  obtain ⟨x, hx, rfl⟩ := List.mem_map.mp hp
  have := k.ok x (List.mem_filter.mp hx).1
  unfold helpB at this
  simp at this
  exact ⟨x.1.toNat, by show x.1 = _; omega, by omega⟩
theorem lent_up {h : Hs} (k : HelOk (h.n : Int) h.hel) {st : List Int} {ls : List Nat} (hl : ∀ l ∈ ls, l < h.n ∧ decide ((l : Int) ∈ st) = false) (l : Nat) : h.lent (stepS h.n st ls true) l = h.lent st l + h.lent (zs ls) l := by
  unfold Hs.lent
  refine sum_or _ _ _ _ fun p hp => ?_
  obtain ⟨i, e, hi⟩ := lend_nat k hp
  rw [e, mem_zs, mem_up]
  refine ⟨⟨fun h => h.2, fun h => ⟨hi, h⟩⟩, fun ⟨h1, h2⟩ => ?_⟩
  have := (hl i h2).2
  exact of_decide_eq_false this h1
theorem lent_dn {h : Hs} (k : HelOk (h.n : Int) h.hel) {st : List Int} {ls : List Nat} (hl : ∀ l ∈ ls, l < h.n ∧ decide ((l : Int) ∈ st) = true) (l : Nat) : h.lent st l = h.lent (stepS h.n st ls false) l + h.lent (zs ls) l := by
  unfold Hs.lent
  refine sum_or _ _ _ _ fun p hp => ?_
  obtain ⟨i, e, hi⟩ := lend_nat k hp
  rw [e, mem_zs, mem_down]
  refine ⟨⟨fun h => ?_, fun h => ?_⟩, fun ⟨h1, h2⟩ => h1.2.2 h2⟩
  · by_cases hm : i ∈ ls
    · exact .inr hm
    · exact .inl ⟨hi, h, hm⟩
  · rcases h with h | h
    · exact h.2.1
    · exact of_decide_eq_true (hl i h).2
/-- the level from which on a latch goes -/
def Hs.need (h : Hs) (st : List Int) (up : Bool) (l : Nat) : Int := if up then h.up l - h.lent st l else h.lent st l - h.dn l
theorem need_step {h : Hs} (k : HelOk (h.n : Int) h.hel) {st : List Int} {ls : List Nat} {up : Bool} (hl : ∀ l ∈ ls, l < h.n ∧ decide ((l : Int) ∈ st) = !up) (l : Nat) : h.need (stepS h.n st ls up) up l = h.need st up l - h.lent (zs ls) l := by
  unfold Hs.need
  cases up with
  | true => rw [if_pos rfl, if_pos rfl, lent_up k hl]; omega
  | false => rw [if_neg Bool.false_ne_true, if_neg Bool.false_ne_true, lent_dn k hl l]; omega
theorem need_goes (h : Hs) (st : List Int) (s : Int) (l : Nat) (up : Bool) : decide (h.need st up l ≤ if up then s else -s) = h.goes st s l up := by
  unfold Hs.need Hs.goes
  cases up with
  | true => rw [if_pos rfl, if_pos rfl, if_pos rfl]; exact decide_eq_decide.mpr (by omega)
  | false => rw [if_neg Bool.false_ne_true, if_neg Bool.false_ne_true, if_neg Bool.false_ne_true]; exact decide_eq_decide.mpr (by omega)
theorem mov_filter (h : Hs) (st : List Int) (ls : List Nat) (up : Bool) : h.mov (stepS h.n st ls up) up = (h.mov st up).filter fun l => !decide (l ∈ ls) := by
  unfold Hs.mov
  rw [List.filter_filter]
  refine List.filter_congr fun l hl2 => ?_
  have hl3 := List.mem_range.mp hl2
  cases up with
  | true =>
    have : decide ((l : Int) ∈ stepS h.n st ls true) = (decide ((l : Int) ∈ st) || decide (l ∈ ls)) := by
      rw [← Bool.decide_or]
      exact decide_eq_decide.mpr (by rw [mem_up]; simp [hl3])
    rw [this]
    cases decide ((l : Int) ∈ st) <;> cases decide (l ∈ ls) <;> rfl
  | false =>
    have : decide ((l : Int) ∈ stepS h.n st ls false) = (decide ((l : Int) ∈ st) && !decide (l ∈ ls)) := by
      rw [← decide_not, ← Bool.decide_and]
      exact decide_eq_decide.mpr (by rw [mem_down]; simp [hl3])
    rw [this]
    cases decide ((l : Int) ∈ st) <;> cases decide (l ∈ ls) <;> rfl
theorem zs_ok {n : Nat} {ls : List Nat} (hr : ls.Pairwise (· < ·)) (hl : ∀ l ∈ ls, l < n) : StOk n (zs ls) := by
  refine ⟨List.pairwise_map.mpr (hr.imp fun {a b} h => by omega), fun x hx => ?_, fun x hx => ?_⟩
  · obtain ⟨l, _, rfl⟩ := List.mem_map.mp hx
    omega
  · obtain ⟨l, h, rfl⟩ := List.mem_map.mp hx
    have := hl l h
    omega
/-- a list of those that wait, with their needs -/
structure WaitV (K : PySem.W.Frag) (H : Hp) (p : Addr) (h : Hs) (st : List Int) (up : Bool) : Prop where
  ex : ∃ xs, H p = some (.lst xs) ∧ Al (fun v (l : Nat) => ∃ T, v = .ref T ∧ H T = some (.tup [.int (h.need st up l), .int (l : Int)])) xs (h.mov st up)
theorem WaitV.up {K : PySem.W.Frag} {H H' : Hp} {p : Addr} {h : Hs} {st : List Int} {up : Bool} (w : WaitV K H p h st up) (e : Ex H H') : WaitV K H' p h st up := by
  obtain ⟨xs, h1, h2⟩ := w.ex
  exact ⟨xs, e _ _ h1, h2.imp fun v l ⟨T, a, b⟩ => ⟨T, a, e _ _ b⟩⟩
def Hs.rest (h : Hs) (st : List Int) (s : Int) : Bool := (h.want st s true).isEmpty && (h.want st s false).isEmpty
theorem mov_lt {h : Hs} {st : List Int} {up : Bool} {l : Nat} (hl : l ∈ h.mov st up) : l < h.n := by
  unfold Hs.mov at hl
  exact List.mem_range.mp (List.mem_filter.mp hl).1
theorem mov_len (h : Hs) (st : List Int) (up : Bool) : (h.mov st up).length ≤ h.n := by
  unfold Hs.mov
  exact Nat.le_trans (List.length_filter_le _ _) (by simp)
theorem nints_al (ls : List Nat) : Al (fun x (l : Nat) => x = .int (l : Int)) (nints ls) ls := Al.of_map (R := fun x (l : Nat) => x = .int (l : Int)) (f := fun (l : Nat) => V.int (l : Int)) fun _ _ => rfl
theorem nints_empty (ls : List Nat) : (nints ls).isEmpty = ls.isEmpty := by cases ls <;> rfl
theorem s_asg2 {te : TE} {g1 g2 : TG} {D : Ends} {σ : L2.St} {H : Hp} (q : te σ H fun x H1 => g1 x σ H1 fun σ1 H2 => g2 x σ1 H2 D.nx) : tAsg2 te g1 g2 D σ H := q
theorem s_brk {D : Ends} {σ : L2.St} {H : Hp} (q : D.bk σ H) : tBreak D σ H := q
theorem s_cnt {D : Ends} {σ : L2.St} {H : Hp} (q : D.ct σ H) : tCont D σ H := q
theorem ixL3 {α : Type} {x y z w : α} {r : List α} : atI (x :: y :: z :: w :: r) 3 = some w := atI_nat (xs := x :: y :: z :: w :: r) (j := 3) rfl
end My
/-! ### a dict's comprehension; rows that go by an order -/
namespace My
open PySem PySem.Spec PyProof.Rows L2
theorem ok_tA {K : PySem.W.Frag} {α : Type} {a : Addr} {xs : List V} {H : Hp} {as : List α} {R : Hp → V → α → Prop} (hx : SqT K H a xs) (hal : Al (R H) xs as) (mono : ∀ H' x i, Ex H H' → R H x i → R H' x i) : ItOk (Itt K a) as.length (fun i x H2 => ∃ b, as[i]? = some b ∧ R H2 x b) H := fun H' e => by
  have h := ok_t hx H' e
  rw [hal.1] at h
  refine ⟨fun i hi => ⟨(h.1 i hi).1, fun x H2 hy => ?_⟩, h.2⟩
  obtain ⟨e2, h3⟩ := (h.1 i hi).2 x H2 hy
  obtain ⟨b, hb, hr⟩ := hal.get h3
  exact ⟨e2, b, hb, mono H2 x b (e.trans e2) hr⟩
theorem evi_tA {K : PySem.W.Frag} {α : Type} {ta : TE} {σ : L2.St} {H : Hp} {a : Addr} {xs : List V} {as : List α} {R : Hp → V → α → Prop} (hx : SqT K H a xs) (hal : Al (R H) xs as) (mono : ∀ H' x i, Ex H H' → R H x i → R H' x i) (he : EvR ta σ H fun v _ => v = .ref a) : EvI (iTup K ta) σ H H as.length (fun i x H2 => ∃ b, as[i]? = some b ∧ R H2 x b) := fun R2 k =>
  he _ fun v H1 e1 hv => by subst hv; exact ⟨a, rfl, ⟨xs, hx.ki e1.ki⟩, k _ _ e1 (ok_tA hx hal mono)⟩
/-- the entries of a dict of numbers -/
def kvI {α : Type} (key val : α → Int) (as : List α) : List (L2.Key × V) := as.map fun b => (Sum.inl (key b), V.int (val b))
theorem putK_new {kvs : List (L2.Key × V)} {k : L2.Key} {v : V} (h : ∀ p ∈ kvs, p.1 ≠ k) : putK kvs k v = kvs ++ [(k, v)] := by
  unfold putK
  have : (kvs.any fun kv => decide (kv.1 = k)) = false := by
    rw [List.any_eq_false]
    intro p hp
    rw [decide_eq_false (h p hp)]
    exact Bool.false_ne_true
  rw [this]
  rfl
theorem valI_some {α : Type} {key val : α → Int} : ∀ {as : List α} {b : α}, (as.map key).Nodup → b ∈ as → valV (kvI key val as) (.inl (key b)) = some (.int (val b))
  | [], b, _, h => by cases h
  | a :: r, b, hn, h => by
    rw [List.map_cons, List.nodup_cons] at hn
    show ((((Sum.inl (key a), V.int (val a)) :: kvI key val r).find? fun kv => decide (kv.1 = Sum.inl (key b))).map (·.2)) = _
    by_cases e : key a = key b
    · rw [List.find?_cons_of_pos (by exact decide_eq_true (congrArg Sum.inl e))]
      rcases List.mem_cons.mp h with rfl | h
      · rfl
      · exact absurd (List.mem_map.mpr ⟨b, h, e.symm⟩) hn.1
    · rw [List.find?_cons_of_neg (by rw [decide_eq_true_eq]; exact fun z => e (Sum.inl.inj z))]
      rcases List.mem_cons.mp h with rfl | h
      · exact absurd rfl e
      · exact valI_some hn.2 h
theorem valI_none {α : Type} {key val : α → Int} {as : List α} {z : Int} (h : ∀ b ∈ as, key b ≠ z) : valV (kvI key val as) (.inl z) = none := by
  show (((kvI key val as).find? fun kv => decide (kv.1 = Sum.inl z)).map (·.2)) = none
  rw [List.find?_eq_none.mpr]
  · rfl
  · intro p hp
    obtain ⟨b, hb, rfl⟩ := List.mem_map.mp hp
    rw [decide_eq_true_eq]
    exact fun z => h b hb (Sum.inl.inj z)
/-- what a source tells, made on the way -/
def EvN (wi : TI) (σ : L2.St) (H : Hp) (n : Nat) (Y : Nat → V → Hp → Prop) : Prop := ∀ R : It → Hp → Prop, (∀ J H1, Ex H H1 → ItOk J n Y H1 → R J H1) → wi σ H R
theorem EvI.nn {wi : TI} {σ : L2.St} {H : Hp} {n : Nat} {Y : Nat → V → Hp → Prop} (h : EvI wi σ H H n Y) : EvN wi σ H n Y := fun R k => h R fun J H1 e j => k J H1 e (j.ex e)
theorem lc_evN {wi : TI} {g : TG} {tt : TT} {te : TE} {vs : List Nat} {σ : L2.St} {H : Hp} {Q : VK} (n : Nat) (Y : Nat → V → Hp → Prop) (kp : Nat → Bool) (RB : Nat → V → Hp → Prop)
    (hb : n < 100000) (mono : ∀ i y H1 H2, Ki H1 H2 → RB i y H1 → RB i y H2) (ho : EvN wi σ H n Y)
    (hi : ∀ i, i < n → ∀ x H1, Ex H H1 → Y i x H1 → ∃ σ2, GvR g x (L2.wipe σ vs) H1 σ2 ∧ L2.wipe σ2 vs = L2.wipe σ vs ∧ (∀ H2, Ex H1 H2 → TvR tt σ2 H2 (kp i)) ∧ (kp i = true → ∀ H2, Ex H1 H2 → EvR te σ2 H2 (RB i)))
    (q : ∀ l ys H', H l = none → Ex H H' → H' l = some (.lst ys) → Al (fun y i => RB i y H') ys ((List.range n).filter kp) → Q (.ref l) H') : tLc wi g tt te vs σ H Q := by
  refine ho _ fun J H1 e1 hJ D hD => ?_
  have hDH : H D = none := e1.free hD
  refine loopW (n := n) (Body := fun x H' Nx => g x (L2.wipe σ vs) H' fun σ2 H2 => L2.wipe σ2 vs = L2.wipe σ vs ∧ tt σ2 H2 fun b H3 => if b = true then te σ2 H3 fun y H4 => ∃ acc, H4 D = some (.lst acc) ∧ acc.length < sizeLine ∧ Nx (upd H4 D (.lst (acc ++ [y]))) else Nx H3)
    (fun i H' => Ex H1 H' ∧ ∃ ys, H' D = some (.lst ys) ∧ Al (fun y i => RB i y H') ys ((List.range i).filter kp)) ⟨Ex.new hD, [], upd_same, by simpa using Al.nil⟩ ?_ ?_
  · rintro H' ⟨e, ys, h1, h2⟩
    exact ⟨(hJ H' e).2, q D ys H' hDH (e1.trans e) h1 h2⟩
  · rintro i H' hin ⟨e, ys, h1, h2⟩
    refine ⟨((hJ H' e).1 i hin).1, fun x H2 hy => ?_⟩
    obtain ⟨e2, hY⟩ := ((hJ H' e).1 i hin).2 x H2 hy
    obtain ⟨σ2, hg, hw, ht, he⟩ := hi i hin x H2 ((e1.trans e).trans e2) hY
    refine hg _ fun H3 e3 => ⟨hw, ht H3 e3 _ fun H4 e4 => ?_⟩
    have e24 := (e2.trans e3).trans e4
    cases hk : kp i with
    | false =>
      refine iteF ⟨e.trans e24, ys, e24 _ _ h1, ?_⟩
      rw [List.range_succ, List.filter_append, List.filter_cons_of_neg (by rw [hk]; decide), List.filter_nil, List.append_nil]
      exact h2.imp fun y p => mono p y _ _ e24.ki
    | true =>
      refine iteT (he hk H4 (e3.trans e4) _ fun y H5 e5 hy => ?_)
      have e25 := e24.trans e5
      have hlen : ys.length < 100000 := by
        have h3 := h2.1
        have h4 := List.length_filter_le kp (List.range i)
        rw [List.length_range] at h4
        omega
      refine ⟨ys, e25 _ _ h1, Nat.lt_of_lt_of_le hlen (by decide), Ex.mut (e.trans e25) hD, ys ++ [y], upd_same, ?_⟩
      rw [List.range_succ, List.filter_append, List.filter_cons_of_pos hk, List.filter_nil]
      have kd : Ki H5 (upd H5 D (.lst (ys ++ [y]))) := Ki.lst Ki.rfl (e25 _ _ h1)
      exact (h2.imp fun y p hh => mono p y _ _ (e25.ki.trans kd) hh).snoc (mono i y _ _ kd hy)
/-- a comprehension over whatever tells the things of a list, made on the way -/
theorem lc_evAN {α : Type} {wi : TI} {g : TG} {tt : TT} {te : TE} {vs : List Nat} {σ : L2.St} {H : Hp} {Q : VK} (as : List α) (Y : α → V → Hp → Prop) (kp : α → Bool) (RB : α → V → Hp → Prop)
    (hb : as.length < 100000) (mono : ∀ b y H1 H2, Ki H1 H2 → RB b y H1 → RB b y H2) (ho : EvN wi σ H as.length fun i x H2 => ∃ b, as[i]? = some b ∧ Y b x H2)
    (hi : ∀ b, b ∈ as → ∀ x H1, Ex H H1 → Y b x H1 → ∃ σ2, GvR g x (L2.wipe σ vs) H1 σ2 ∧ L2.wipe σ2 vs = L2.wipe σ vs ∧ (∀ H2, Ex H1 H2 → TvR tt σ2 H2 (kp b)) ∧ (kp b = true → ∀ H2, Ex H1 H2 → EvR te σ2 H2 (RB b)))
    (q : ∀ l ys H', H l = none → Ex H H' → H' l = some (.lst ys) → Al (fun y b => RB b y H') ys (as.filter kp) → Q (.ref l) H') : tLc wi g tt te vs σ H Q := by
  refine lc_evN as.length _ (fun i => (as[i]?).any kp) (fun i y H1 => ∃ b, as[i]? = some b ∧ RB b y H1) hb (fun i y H1 H2 e ⟨b, h1, h2⟩ => ⟨b, h1, mono b y H1 H2 e h2⟩) ho ?_ fun l ys H' nl e hl h => q l ys H' nl e hl (al_filter h)
  rintro i hin x H1 e1 ⟨b, hbi, hy⟩
  obtain ⟨σ2, h1, h2, h3, h4⟩ := hi b (List.mem_of_getElem? hbi) x H1 e1 hy
  have ek : (as[i]?).any kp = kp b := by rw [hbi]; rfl
  refine ⟨σ2, h1, h2, fun H2 e2 => ?_, fun hk H2 e2 => ?_⟩
  · rw [ek]; exact h3 H2 e2
  · rw [ek] at hk
    exact fun Q2 k => h4 hk H2 e2 Q2 fun v H3 e3 hr => k v H3 e3 ⟨b, hbi, hr⟩
theorem dc_evA {α : Type} {wi : TI} {g : TG} {tk tv : TE} {vs : List Nat} {σ : L2.St} {H : Hp} {Q : VK} (as : List α) (Y : α → V → Hp → Prop) (key val : α → Int)
    (hb : as.length < 100000) (hnd : (as.map key).Nodup) (ho : EvN wi σ H as.length fun i x H2 => ∃ b, as[i]? = some b ∧ Y b x H2)
    (hi : ∀ b, b ∈ as → ∀ x H1, Ex H H1 → Y b x H1 → ∃ σ2, GvR g x (L2.wipe σ vs) H1 σ2 ∧ L2.wipe σ2 vs = L2.wipe σ vs ∧ (∀ H2, Ex H1 H2 → EvR tk σ2 H2 fun v _ => v = .int (key b)) ∧ (∀ H2, Ex H1 H2 → EvR tv σ2 H2 fun v _ => v = .int (val b)))
    (q : ∀ D H', H D = none → Ex H H' → H' D = some (.dK (kvI key val as)) → Q (.ref D) H') : tDc wi g tYes tk tv vs σ H Q := by
  refine ho _ fun J H1 e1 hJ D hD => ?_
  have hDH : H D = none := e1.free hD
  refine loopW (n := as.length) (Body := fun x H' Nx => g x (L2.wipe σ vs) H' fun σ2 H2 => L2.wipe σ2 vs = L2.wipe σ vs ∧ tYes σ2 H2 fun b H3 => if b = true then tk σ2 H3 fun y H4 => tv σ2 H4 fun z H5 => ∃ kvs k, y = kV k ∧ H5 D = some (.dK kvs) ∧ kvs.length < sizeLine ∧ Nx (upd H5 D (.dK (putK kvs k z))) else Nx H3)
    (fun i H' => Ex H1 H' ∧ H' D = some (.dK (kvI key val (as.take i)))) ⟨Ex.new hD, upd_same⟩ ?_ ?_
  · rintro H' ⟨e, h1⟩
    rw [List.take_length] at h1
    exact ⟨(hJ H' e).2, q D H' hDH (e1.trans e) h1⟩
  · rintro i H' hin ⟨e, h1⟩
    refine ⟨((hJ H' e).1 i hin).1, fun x H2 hy => ?_⟩
    obtain ⟨e2, b, hbi, hY⟩ := ((hJ H' e).1 i hin).2 x H2 hy
    obtain ⟨σ2, hg, hw, hk, hv⟩ := hi b (List.mem_of_getElem? hbi) x H2 ((e1.trans e).trans e2) hY
    refine hg _ fun H3 e3 => ⟨hw, tv_yes _ fun H4 e4 => ?_⟩
    refine iteT (hk H4 (e3.trans e4) _ fun y H5 e5 hy => hv H5 ((e3.trans e4).trans e5) _ fun z H6 e6 hz => ?_)
    subst hy hz
    have e26 := (((e2.trans e3).trans e4).trans e5).trans e6
    refine ⟨_, .inl (key b), rfl, e26 _ _ h1, ?_, Ex.mut (e.trans e26) hD, ?_⟩
    · unfold kvI
      rw [List.length_map, List.length_take]
      exact Nat.lt_of_le_of_lt (Nat.min_le_right ..) (Nat.lt_of_lt_of_le hb (by decide))
    · rw [upd_same, putK_new]
      · rw [take_snoc hbi]
        unfold kvI
        rw [List.map_append]
        rfl
      · intro p hp
        obtain ⟨c, hc, rfl⟩ := List.mem_map.mp hp
        obtain ⟨j, hj, ej⟩ := List.mem_take_iff_getElem.mp hc
        intro z
        have z2 : key c = key b := Sum.inl.inj z
        have hn := List.nodup_iff_pairwise_ne.mp hnd
        have hbl := (List.getElem?_eq_some_iff.mp hbi)
        have := List.pairwise_iff_getElem.mp (List.pairwise_map.mp hn) j i (by omega) hbl.1 (by omega)
        rw [ej, hbl.2] at this
        exact this z2
section
variable {ta td ty : TE} {σ : L2.St} {H : Hp} {Q : VK} {D : Addr} {kvs : List (L2.Key × V)} {z : Int} {v : V}
theorem s_din (q : ty σ H fun y H1 => td σ H1 fun x H2 => ∃ a o, x = .ref a ∧ DGet H2 a y o ∧ Q (.bl o.isSome) H2) : tDIn ty td σ H Q := q
theorem s_dnotin (q : ty σ H fun y H1 => td σ H1 fun x H2 => ∃ a o, x = .ref a ∧ DGet H2 a y o ∧ Q (.bl (!o.isSome)) H2) : tDNotIn ty td σ H Q := q
theorem s_dget (q : td σ H fun x H1 => ty σ H1 fun y H2 => ∃ a v, x = .ref a ∧ DGet H2 a y (some v) ∧ Q v H2) : tDGet td ty σ H Q := q
theorem s_kdin (h : H D = some (.dK kvs)) (q : Q (.bl (valV kvs (.inl z)).isSome) H) : ∃ a o, V.ref D = .ref a ∧ DGet H a (.int z) o ∧ Q (.bl o.isSome) H := ⟨D, _, rfl, DGet.k (k := Sum.inl z) h, q⟩
theorem s_kdnotin (h : H D = some (.dK kvs)) (q : Q (.bl (!(valV kvs (.inl z)).isSome)) H) : ∃ a o, V.ref D = .ref a ∧ DGet H a (.int z) o ∧ Q (.bl (!o.isSome)) H := ⟨D, _, rfl, DGet.k (k := Sum.inl z) h, q⟩
theorem s_kdget (h : H D = some (.dK kvs)) (hv : valV kvs (.inl z) = some v) (q : Q v H) : ∃ a v', V.ref D = .ref a ∧ DGet H a (.int z) (some v') ∧ Q v' H := ⟨D, v, rfl, hv ▸ DGet.k (k := Sum.inl z) h, q⟩
theorem s_popAt {xs : List V} {k : Nat} {y : V} (h : H D = some (.lst xs)) (hk : xs[k]? = some y) (hl : xs.length ≤ 100000) (q : ∀ H', ExB D H H' → H' D = some (.lst (xs.eraseIdx k)) → Q y H') : rPopAt (.ref D) [.int (k : Int)] H Q := by
  have hkl := (List.getElem?_eq_some_iff.mp hk).1
  exact ⟨D, xs, _, k, y, rfl, rfl, h, by omega, by omega, seqIx _ _ hkl, hk, q _ ExB.upd upd_same⟩
end
/-! rows by an order -/
def OrR (h : Hs) (s : Int) (up : Bool) (st : List Int) (ord row : List Nat) : Prop := ∀ i l, row[i]? = some l → (ord.filter fun k => decide (k ∈ h.want (endR h.n up st (row.take i)) s up)).head? = some l
theorem OrR.hd {h : Hs} {s : Int} {up : Bool} {st : List Int} {row : List Nat} (x : OrR h s up st (List.range h.n) row) : HdR h s up st row := fun i l e => by
  have := x i l e
  rw [want_ord] at this
  exact this
theorem OrR.any {h : Hs} {s : Int} {up : Bool} {st : List Int} {ord row : List Nat} (x : OrR h s up st ord row) : AnyR h s up st row := fun i l e => by
  have := List.mem_of_mem_head? (show l ∈ _ from x i l e)
  exact of_decide_eq_true (List.mem_filter.mp this).2
theorem OrR.nil {h : Hs} {s : Int} {up : Bool} {st : List Int} {ord : List Nat} : OrR h s up st ord [] := fun i l e => by simp at e
theorem OrR.snoc {h : Hs} {s : Int} {up : Bool} {st : List Int} {ord row : List Nat} {x : Nat} (a : OrR h s up st ord row) (b : (ord.filter fun k => decide (k ∈ h.want (endR h.n up st row) s up)).head? = some x) : OrR h s up st ord (row ++ [x]) := snocI (P := fun r l => (ord.filter fun k => decide (k ∈ h.want (endR h.n up st r) s up)).head? = some l) a b
def needR (h : Hs) (up : Bool) : List Int → List Nat → List (Int × Nat)
  | _, [] => []
  | c, l :: r => (h.need c up l, l) :: needR h up (stepS h.n c [l] up) r
theorem needR_snoc (h : Hs) (up : Bool) (l : Nat) : ∀ (row : List Nat) (st : List Int), needR h up st (row ++ [l]) = needR h up st row ++ [(h.need (endR h.n up st row) up l, l)]
  | [], _ => rfl
  | k :: r, st => by
    show _ :: needR h up (stepS h.n st [k] up) (r ++ [l]) = _ :: (needR h up (stepS h.n st [k] up) r ++ [_])
    rw [needR_snoc h up l r]
    rfl
theorem needR_len (h : Hs) (up : Bool) : ∀ (row : List Nat) (st : List Int), (needR h up st row).length = row.length
  | [], _ => rfl
  | l :: r, st => by
    show (needR h up (stepS h.n st [l] up) r).length + 1 = r.length + 1
    rw [needR_len h up r]
theorem needR_snd (h : Hs) (up : Bool) : ∀ (row : List Nat) (st : List Int), (needR h up st row).map (·.2) = row
  | [], _ => rfl
  | l :: r, st => by
    show l :: (needR h up (stepS h.n st [l] up) r).map (·.2) = l :: r
    rw [needR_snd h up r]
/-- all that went, at once -/
theorem endR_step {h : Hs} {up : Bool} {st : List Int} (o : StOk h.n st) : ∀ (row : List Nat), endR h.n up st row = stepS h.n st row up := by
  intro row
  refine StOk.ext (endR_ok o) (stepS_ok _ _ _ _) fun l => ?_
  have : ∀ (row : List Nat) (c : List Int), StOk h.n c → ((l : Int) ∈ endR h.n up c row ↔ (l : Int) ∈ stepS h.n c row up) := by
    intro row
    induction row with
    | nil =>
      intro c oc
      show (l : Int) ∈ c ↔ _
      cases up with
      | true =>
        rw [mem_up]
        refine ⟨fun hm => ⟨?_, .inl hm⟩, fun hm => hm.2.resolve_right (by simp)⟩
        obtain ⟨k, hk, hk2⟩ := oc.nat hm
        omega
      | false =>
        rw [mem_down]
        refine ⟨fun hm => ⟨?_, hm, by simp⟩, fun hm => hm.2.1⟩
        obtain ⟨k, hk, hk2⟩ := oc.nat hm
        omega
    | cons x r ih =>
      intro c oc
      show (l : Int) ∈ endR h.n up (stepS h.n c [x] up) r ↔ _
      rw [ih _ (stepS_ok _ _ _ _)]
      cases up with
      | true =>
        rw [mem_up, mem_up, mem_up, List.mem_singleton, List.mem_cons]
        constructor
        · rintro ⟨h1, ⟨_, h2 | h2⟩ | h2⟩
          · exact ⟨h1, .inl h2⟩
          · exact ⟨h1, .inr (.inl h2)⟩
          · exact ⟨h1, .inr (.inr h2)⟩
        · rintro ⟨h1, h2 | h2 | h2⟩
          · exact ⟨h1, .inl ⟨h1, .inl h2⟩⟩
          · exact ⟨h1, .inl ⟨h1, .inr h2⟩⟩
          · exact ⟨h1, .inr h2⟩
      | false =>
        rw [mem_down, mem_down, mem_down, List.mem_singleton, List.mem_cons]
        constructor
        · rintro ⟨h1, ⟨_, h2, h3⟩, h4⟩
          exact ⟨h1, h2, fun z => z.elim h3 h4⟩
        · rintro ⟨h1, h2, h3⟩
          exact ⟨h1, ⟨h1, h2, fun z => h3 (.inl z)⟩, fun z => h3 (.inr z)⟩
  exact this row st o
/-- rising: the numbers of a row -/
def srt (n : Nat) (row : List Nat) : List Nat := (List.range n).filter fun l => decide (l ∈ row)
theorem mem_srt {n : Nat} {row : List Nat} (hl : ∀ l ∈ row, l < n) {l : Nat} : l ∈ srt n row ↔ l ∈ row := by
  unfold srt
  rw [List.mem_filter, List.mem_range, decide_eq_true_eq]
  exact ⟨fun h => h.2, fun h => ⟨hl l h, h⟩⟩
theorem srt_ok {n : Nat} {row : List Nat} : StOk n (zs (srt n row)) := zs_ok (List.pairwise_lt_range.filter _) fun l hl => List.mem_range.mp (List.mem_filter.mp hl).1
theorem srt_perm {n : Nat} {row : List Nat} (hl : ∀ l ∈ row, l < n) (hd : row.Nodup) : (srt n row).Perm row := (List.perm_ext_iff_of_nodup (List.nodup_range.filter _) hd).mpr fun l => mem_srt hl
theorem sum_perm {l l' : List Int} (h : l.Perm l') : l.sum = l'.sum := by
  induction h with
  | nil => rfl
  | cons x _ ih => rw [List.sum_cons, List.sum_cons, ih]
  | swap x y l => rw [List.sum_cons, List.sum_cons, List.sum_cons, List.sum_cons]; omega
  | trans _ _ a b => exact a.trans b
theorem lentAll_srt {h : Hs} {row : List Nat} (hl : ∀ l ∈ row, l < h.n) (hd : row.Nodup) : h.lentAll (zs (srt h.n row)) = h.lentAll (zs row) := by
  unfold Hs.lentAll zs
  exact sum_perm (((srt_perm hl hd).map _).map _)
theorem lentAll_snoc (h : Hs) (row : List Nat) (l : Nat) : h.lentAll (zs (row ++ [l])) = h.lentAll (zs row) + h.num l := by
  unfold Hs.lentAll zs
  rw [List.map_append, List.map_append, List.sum_append]
  show _ + (encL (rowL h.hel h.n (l : Int)) + 0) = _
  rw [Int.add_zero]
  rfl
theorem lent_srt {h : Hs} {row : List Nat} (hl : ∀ l ∈ row, l < h.n) (l : Nat) : h.lent (zs (srt h.n row)) l = h.lent (zs row) l := by
  unfold Hs.lent
  congr 2
  refine List.filter_congr fun p _ => decide_eq_decide.mpr ?_
  unfold zs
  rw [List.mem_map, List.mem_map]
  exact ⟨fun ⟨k, h1, h2⟩ => ⟨k, (mem_srt hl).mp h1, h2⟩, fun ⟨k, h1, h2⟩ => ⟨k, (mem_srt hl).mpr h1, h2⟩⟩
/-- each of a row could go where it began, each once -/
theorem AnyR.row {h : Hs} {s : Int} {up : Bool} {st : List Int} (o : StOk h.n st) : ∀ {row : List Nat}, AnyR h s up st row → row.Nodup ∧ ∀ l ∈ row, l < h.n ∧ decide ((l : Int) ∈ st) = !up := by
  intro row a
  have key : ∀ i l, row[i]? = some l → l < h.n ∧ decide ((l : Int) ∈ st) = !up ∧ l ∉ row.take i := fun i l hi => by
    have h1 := mem_want.mp (a i l hi)
    rw [endR_step o] at h1
    obtain ⟨h2, h3, _⟩ := h1
    refine ⟨h2, ?_⟩
    cases up with
    | true =>
      have h4 := of_decide_eq_false h3
      rw [mem_up] at h4
      exact ⟨decide_eq_false fun z => h4 ⟨h2, .inl z⟩, fun z => h4 ⟨h2, .inr z⟩⟩
    | false =>
      have h4 := of_decide_eq_true h3
      rw [mem_down] at h4
      exact ⟨decide_eq_true h4.2.1, h4.2.2⟩
  refine ⟨?_, fun l hl => ?_⟩
  · rw [List.nodup_iff_pairwise_ne, List.pairwise_iff_getElem]
    intro i j hi hj hij e
    obtain ⟨_, _, h3⟩ := key j row[j] (List.getElem?_eq_getElem hj)
    exact h3 (e ▸ List.mem_take_iff_getElem.mpr ⟨i, by omega, rfl⟩)
  · obtain ⟨i, hi⟩ := List.getElem?_of_mem hl
    exact ⟨(key i l hi).1, (key i l hi).2.1⟩
theorem need_row {h : Hs} (k : HelOk (h.n : Int) h.hel) {s : Int} {up : Bool} {st : List Int} (o : StOk h.n st) {row : List Nat} (a : AnyR h s up st row) (l : Nat) : h.need (endR h.n up st row) up l = h.need st up l - h.lent (zs (srt h.n row)) l := by
  obtain ⟨_, h2⟩ := a.row o
  rw [endR_step o, need_step k h2, lent_srt fun l hl => (h2 l hl).1]
/-- what is left waiting, by an order -/
def left (h : Hs) (up : Bool) (st : List Int) (ord row : List Nat) : List Nat := ord.filter fun l => decide (l ∈ h.mov (endR h.n up st row) up)
theorem mem_mov {h : Hs} {st : List Int} {up : Bool} {l : Nat} : l ∈ h.mov st up ↔ l < h.n ∧ decide ((l : Int) ∈ st) = !up := by
  unfold Hs.mov
  rw [List.mem_filter, List.mem_range]
  cases up <;> cases decide ((l : Int) ∈ st) <;> simp
theorem want_mov {h : Hs} {st : List Int} {s : Int} {up : Bool} {l : Nat} : l ∈ h.want st s up ↔ l ∈ h.mov st up ∧ h.goes st s l up = true := by
  unfold Hs.want
  rw [List.mem_filter]
theorem erase_filter {l : List Nat} (hd : l.Nodup) : ∀ {k x : Nat}, l[k]? = some x → l.eraseIdx k = l.filter fun y => !decide (y = x) := by
  induction l with
  | nil => intro k x e; simp at e
  | cons a r ih =>
    intro k x e
    rw [List.nodup_cons] at hd
    cases k with
    | zero =>
      cases e
      rw [List.filter_cons_of_neg (by simp)]
      show r = _
      exact (List.filter_eq_self.mpr fun y hy => by
        rw [decide_eq_false (fun (z : y = a) => hd.1 (z ▸ hy))]; rfl).symm
    | succ k =>
      have e' : r[k]? = some x := e
      have hx := List.mem_of_getElem? e'
      rw [List.filter_cons_of_pos (by rw [decide_eq_false (fun (z : a = x) => hd.1 (z ▸ hx))]; rfl)]
      show a :: r.eraseIdx k = _
      rw [ih hd.2 e']
theorem Al.erase {α : Type} {R : V → α → Prop} {xs : List V} {as : List α} (h : Al R xs as) (k : Nat) : Al R (xs.eraseIdx k) (as.eraseIdx k) := by
  refine ⟨by rw [List.length_eraseIdx, List.length_eraseIdx, h.1], fun i y b h1 h2 => ?_⟩
  rw [List.getElem?_eraseIdx] at h1 h2
  split at h1
  · rename_i hi
    rw [if_pos hi] at h2
    exact h.2 i y b h1 h2
  · rename_i hi
    rw [if_neg hi] at h2
    exact h.2 (i + 1) y b h1 h2
theorem left_snoc {h : Hs} {s : Int} {up : Bool} {st : List Int} (o : StOk h.n st) {ord row : List Nat} (hd : ord.Nodup) {k l : Nat} (e : (left h up st ord row)[k]? = some l) : left h up st ord (row ++ [l]) = (left h up st ord row).eraseIdx k := by
  rw [erase_filter (show (left h up st ord row).Nodup from hd.filter _) e]
  unfold left
  rw [List.filter_filter, endR_snoc, mov_filter]
  refine List.filter_congr fun x _ => ?_
  rw [Bool.eq_iff_iff]
  simp [List.mem_filter]
  exact and_comm
theorem left_head {h : Hs} {s : Int} {up : Bool} {st : List Int} {ord row : List Nat} {k l : Nat} (e : (left h up st ord row)[k]? = some l) (hg : h.goes (endR h.n up st row) s l up = true)
    (hn : ∀ j m, j < k → (left h up st ord row)[j]? = some m → h.goes (endR h.n up st row) s m up = false) : (ord.filter fun x => decide (x ∈ h.want (endR h.n up st row) s up)).head? = some l := by
  have e1 : (ord.filter fun x => decide (x ∈ h.want (endR h.n up st row) s up)) = (left h up st ord row).filter fun x => h.goes (endR h.n up st row) s x up := by
    unfold left
    rw [List.filter_filter]
    refine List.filter_congr fun x _ => ?_
    rw [Bool.eq_iff_iff]
    simp [want_mov, and_comm]
  rw [e1]
  generalize left h up st ord row = L at *
  clear e1
  induction L generalizing k with
  | nil => simp at e
  | cons a r ih =>
    cases k with
    | zero =>
      cases e
      rw [List.filter_cons_of_pos (p := fun x => h.goes (endR h.n up st row) s x up) hg]
      rfl
    | succ k =>
      have h0 := hn 0 a (by omega) rfl
      rw [List.filter_cons_of_neg (p := fun x => h.goes (endR h.n up st row) s x up) (by rw [h0]; exact Bool.false_ne_true)]
      exact ih e fun j m hj hm => hn (j + 1) m (by omega) hm
theorem left_none {h : Hs} {s : Int} {up : Bool} {st : List Int} {ord row : List Nat} (ho : ∀ l, l < h.n → l ∈ ord) (hn : ∀ m ∈ left h up st ord row, h.goes (endR h.n up st row) s m up = false) : h.want (endR h.n up st row) s up = [] := by
  refine List.eq_nil_iff_forall_not_mem.mpr fun l hl => ?_
  obtain ⟨h1, h2⟩ := want_mov.mp hl
  have := hn l (List.mem_filter.mpr ⟨ho l (mov_lt h1), decide_eq_true h1⟩)
  rw [h2] at this
  cases this
theorem left_ord (h : Hs) (up : Bool) (st : List Int) (row : List Nat) : left h up st (List.range h.n) row = h.mov (endR h.n up st row) up := by
  unfold left Hs.mov
  refine List.filter_congr fun l hl => ?_
  rw [Bool.eq_iff_iff, decide_eq_true_eq, List.mem_filter]
  exact ⟨fun z => z.2, fun z => ⟨hl, z⟩⟩
/-- the first of those that wait that goes, when so much more is lent -/
def goesAt (h : Hs) (need : Nat → Int) (ls : List Nat) (lv : Int) (l : Nat) : Bool := decide (need l - h.lent (zs ls) l ≤ lv)
def lev (s : Int) (up : Bool) : Int := if up = true then s else -s
theorem goesAt_row {h : Hs} (k : HelOk (h.n : Int) h.hel) {s : Int} {up : Bool} {st : List Int} (o : StOk h.n st) {row : List Nat} (a : AnyR h s up st row) (m : Nat) : goesAt h (h.need st up) (srt h.n row) (lev s up) m = h.goes (endR h.n up st row) s m up := by
  unfold goesAt
  rw [← need_row k o a m, ← need_goes]
  rfl
theorem ordL {n : Nat} {ord : List Nat} (hd : ord.Nodup) (hm : ∀ l, l ∈ ord ↔ l < n) : ord.Perm (List.range n) := (List.perm_ext_iff_of_nodup hd List.nodup_range).mpr fun l => by rw [hm l, List.mem_range]
theorem left_len {h : Hs} {up : Bool} {st : List Int} {ord row : List Nat} : (left h up st ord row).length ≤ ord.length := List.length_filter_le _ _
theorem al_exB {α : Type} {f : α → List V} {H H' : Hp} {j : Addr} {zs xs : List V} {as : List α} (h : Al (fun v (q : α) => ∃ T, v = .ref T ∧ H T = some (.tup (f q))) xs as) (e : ExB j H H') (hj : H j = some (.lst zs)) : Al (fun v (q : α) => ∃ T, v = .ref T ∧ H' T = some (.tup (f q))) xs as :=
  h.imp fun v q ⟨T, a, b⟩ => ⟨T, a, e _ _ (fun z => by rw [z, hj] at b; cases b) b⟩
theorem al_ex {α : Type} {f : α → List V} {H H' : Hp} {xs : List V} {as : List α} (h : Al (fun v (q : α) => ∃ T, v = .ref T ∧ H T = some (.tup (f q))) xs as) (e : Ex H H') : Al (fun v (q : α) => ∃ T, v = .ref T ∧ H' T = some (.tup (f q))) xs as := h.imp fun v q ⟨T, a, b⟩ => ⟨T, a, e _ _ b⟩
/-- where the first one goes that waits, by an order -/
def PlaceG (h : Hs) (s : Int) (up : Bool) (st : List Int) (ord row : List Nat) (v : V) : Prop := (∃ k l : Nat, v = .int (k : Int) ∧ (left h up st ord row)[k]? = some l ∧ h.goes (endR h.n up st row) s l up = true ∧ ∀ j m, j < k → (left h up st ord row)[j]? = some m → h.goes (endR h.n up st row) s m up = false) ∨
  (v = .non ∧ ∀ m ∈ left h up st ord row, h.goes (endR h.n up st row) s m up = false)
theorem rgV_nat (n : Nat) : rgV 0 (n : Int) = nints (List.range n) := by
  rw [rgV_ord]
  unfold ordI nints
  rw [List.map_map]
  rfl
def pullOf (h : Hs) (s : Int) (up : Bool) (q : Int × Nat) : Int := if up then s + h.up q.2 - q.1 else s + h.dn q.2 + q.1
theorem pullOf_need (h : Hs) (s : Int) (up : Bool) (c : List Int) (l : Nat) : pullOf h s up (h.need c up l, l) = s + h.lent c l := by
  unfold pullOf Hs.need
  cases up with
  | true => rw [if_pos rfl, if_pos rfl]; show s + h.up l - (h.up l - h.lent c l) = _; omega
  | false => rw [if_neg Bool.false_ne_true, if_neg Bool.false_ne_true]; show s + h.dn l + (h.lent c l - h.dn l) = _; omega
theorem pulR_need (h : Hs) (s : Int) (up : Bool) : ∀ (row : List Nat) (st : List Int), pulR h s up st row = (needR h up st row).map fun q => ((q.2 : Int), pullOf h s up q)
  | [], _ => rfl
  | l :: r, st => by
    show _ :: pulR h s up (stepS h.n st [l] up) r = _ :: (needR h up (stepS h.n st [l] up) r).map _
    rw [pulR_need h s up r]
    show _ = ((l : Int), pullOf h s up (h.need st up l, l)) :: _
    rw [pullOf_need]
theorem stayR_need (h : Hs) (s : Int) (up : Bool) (e : List Int) : stayR h s up e = (h.mov e up).map ((fun q => ((q.2 : Int), pullOf h s up q)) ∘ fun l => (h.need e up l, l)) := by
  unfold stayR
  refine List.map_congr_left fun l _ => ?_
  show _ = ((l : Int), pullOf h s up (h.need e up l, l))
  rw [pullOf_need]
end My
/-! ### what is led along a history is led so along what is left of it -/
namespace My
open PySem PySem.Spec PyProof.Rows L2
def SetAt (h : Hs) (st : List Int) (s : Int) : Prop := h.want st s true = [] ∧ h.want st s false = []
theorem SetAt.w {h : Hs} {st : List Int} {s : Int} (x : SetAt h st s) : ∀ up, h.want st s up = []
  | true => x.1
  | false => x.2
theorem leg_settled {h : Hs} (hp : HsPos h) {st T : List Int} {s f : Int} (x : SetAt h st s) (c : Clo h f (decide (s ≤ f)) st T) : SetAt h T f := by
  generalize hup : decide (s ≤ f) = up at c
  have other : h.want T f (!up) = [] := by
    refine List.eq_nil_iff_forall_not_mem.mpr fun l hl => ?_
    obtain ⟨m1, m2, m3⟩ := mem_want.mp hl
    rw [Bool.not_not] at m2
    by_cases hin : decide ((l : Int) ∈ st) = up
    · -- it stood so before
      have hle : Lq (!up) T st := lq_not.mpr c.ge
      have g := goes_mono hp hle m3
      have g2 : h.goes st s l (!up) = true := by
        unfold Hs.goes at g ⊢
        cases up with
        | true => have := of_decide_eq_true hup; simp at g ⊢; omega
        | false => have := of_decide_eq_false hup; simp at g ⊢; omega
      have : l ∈ h.want st s (!up) := mem_want.mpr ⟨m1, by rw [Bool.not_not]; exact hin, g2⟩
      rw [x.w] at this
      cases this
    · -- T without its going
      have oU : StOk h.n (stepS h.n T [l] (!up)) := stepS_ok _ _ _ _
      have hUT : Lq up (stepS h.n T [l] (!up)) T := lq_not.mp (step_ge (up := !up) c.ok [l])
      have hSU : Lq up st (stepS h.n T [l] (!up)) := by
        have hg := c.ge
        unfold Lq at hg ⊢
        cases up with
        | true =>
          refine fun y hy => ?_
          obtain ⟨k, rfl, hk⟩ := c.ok.nat (hg y hy)
          exact mem_down.mpr ⟨hk, hg _ hy, fun z => by rw [List.mem_singleton.mp z] at hy; simp [hy] at hin⟩
        | false =>
          refine fun y hy => ?_
          obtain ⟨k, rfl, hk⟩ := oU.nat hy
          rcases (mem_up.mp hy).2 with z | z
          · exact hg _ z
          · rw [List.mem_singleton.mp z]
            simpa using hin
      have hw : h.want (stepS h.n T [l] (!up)) f up = [] := by
        refine List.eq_nil_iff_forall_not_mem.mpr fun k hk => ?_
        obtain ⟨k1, k2, k3⟩ := mem_want.mp hk
        by_cases hkl : k = l
        · subst hkl
          have := goes_not (up := !up) hp (step_ge (up := !up) c.ok [k]) k1 m3
          rw [Bool.not_not] at this
          rw [this] at k3
          cases k3
        · have kT : decide ((k : Int) ∈ T) = !up := by
            cases up with
            | true =>
              have z := of_decide_eq_false k2
              exact decide_eq_false fun z2 => z (mem_down.mpr ⟨k1, z2, fun z3 => hkl (List.mem_singleton.mp z3)⟩)
            | false =>
              rcases (mem_up.mp (of_decide_eq_true k2)).2 with z | z
              · exact decide_eq_true z
              · exact absurd (List.mem_singleton.mp z) hkl
          have : k ∈ h.want T f up := mem_want.mpr ⟨k1, kT, goes_mono hp hUT k3⟩
          rw [c.fin] at this
          cases this
      have hle := c.least _ oU hSU hw
      unfold Lq at hle
      cases up with
      | true => exact (mem_down.mp (hle _ (of_decide_eq_true m2))).2.2 (List.mem_singleton.mpr rfl)
      | false =>
        have := hle _ (mem_up.mpr ⟨m1, .inr (List.mem_singleton.mpr rfl)⟩)
        simp at m2
        exact m2 this
  cases up with
  | true => exact ⟨c.fin, other⟩
  | false => exact ⟨other, c.fin⟩
structure LedOk (h : Hs) (st : List Int) (ns : List Int) (Ts : List (List Int)) : Prop where
  first : Ts[0]? = some st
  ok : ∀ T ∈ Ts, StOk h.n T
  leg : ∀ (i : Nat) (s f : Int) (T T' : List Int), ns[i]? = some s → ns[i + 1]? = some f → Ts[i]? = some T → Ts[i + 1]? = some T' → Clo h f (decide (s ≤ f)) T T'
def swLe (up : Bool) (a b : Int) : Prop := if up = true then a ≤ b else b ≤ a
theorem want_weak {h : Hs} {A : List Int} {s n : Int} {up : Bool} (w : h.want A s up = []) (le : swLe up n s) : h.want A n up = [] := by
  refine List.eq_nil_iff_forall_not_mem.mpr fun l hl => ?_
  obtain ⟨m1, m2, m3⟩ := mem_want.mp hl
  have : l ∈ h.want A s up := mem_want.mpr ⟨m1, m2, by
    unfold Hs.goes at m3 ⊢
    unfold swLe at le
    cases up <;> simp at m3 le ⊢ <;> omega⟩
  rw [w] at this
  simp at this
theorem lq_flip {up : Bool} {A B : List Int} (h : Lq up A B) : Lq (!up) B A := lq_not.mpr h
theorem lq_flip' {up : Bool} {A B : List Int} (h : Lq (!up) A B) : Lq up B A := lq_not.mp h

theorem clo_ex {h : Hs} (hp : HsPos h) {s : Int} {up : Bool} : ∀ (m : Nat) (st : List Int), StOk h.n st → (h.mov st up).length ≤ m → ∃ T, Clo h s up st T := by
  intro m
  induction m with
  | zero =>
    intro st o hm
    refine ⟨st, Clo.self o ?_⟩
    unfold Hs.want
    rw [List.length_eq_zero_iff.mp (Nat.le_zero.mp hm)]
    rfl
  | succ m ih =>
    intro st o hm
    cases hw : h.want st s up with
    | nil => exact ⟨st, Clo.self o hw⟩
    | cons l r =>
      have hl : ∀ k ∈ [l], k ∈ h.want st s up := fun k hk => by rw [List.mem_singleton.mp hk, hw]; exact List.mem_cons_self ..
      have := mov_step (h := h) (s := s) (up := up) (st := st) (ls := [l]) (by simp) hl
      obtain ⟨T, c⟩ := ih _ (stepS_ok h.n st [l] up) (by omega)
      exact ⟨T, Clo.step hp o hl c⟩
theorem clo_any {h : Hs} (hp : HsPos h) (s : Int) (up : Bool) {st : List Int} (o : StOk h.n st) : ∃ T, Clo h s up st T := clo_ex hp _ st o (Nat.le_refl _)
def Leds (h : Hs) : List Int → Int → List Int → List Int → Prop
  | st, _, [], T => T = st
  | st, s, f :: r, T => ∃ U, Clo h f (decide (s ≤ f)) st U ∧ Leds h U f r T
def lastW : Int → List Int → Int
  | s, [] => s
  | _, f :: r => lastW f r
theorem lastW_app : ∀ (a b : List Int) (s : Int), lastW s (a ++ b) = lastW (lastW s a) b
  | [], _, _ => rfl
  | f :: r, b, _ => lastW_app r b f
theorem leds_app {h : Hs} : ∀ (a b : List Int) (st : List Int) (s : Int) (T : List Int), Leds h st s (a ++ b) T ↔ ∃ U, Leds h st s a U ∧ Leds h U (lastW s a) b T
  | [], b, st, s, T => ⟨fun x => ⟨st, rfl, x⟩, fun ⟨U, h1, h2⟩ => by cases h1; exact h2⟩
  | f :: r, b, st, s, T => ⟨fun ⟨U, c, x⟩ => by
      obtain ⟨W, h1, h2⟩ := (leds_app r b U f T).mp x
      exact ⟨W, ⟨U, c, h1⟩, h2⟩, fun ⟨W, ⟨U, c, h1⟩, h2⟩ => ⟨U, c, (leds_app r b U f T).mpr ⟨W, h1, h2⟩⟩⟩
theorem leds_set {h : Hs} (hp : HsPos h) : ∀ {a : List Int} {st : List Int} {s : Int} {T : List Int}, StOk h.n st → SetAt h st s → Leds h st s a T → StOk h.n T ∧ SetAt h T (lastW s a)
  | [], st, s, T, o, x, e => by cases e; exact ⟨o, x⟩
  | f :: r, st, s, T, o, x, ⟨U, c, e⟩ => leds_set hp (a := r) c.ok (leg_settled hp x c) e
theorem leds_uniq {h : Hs} : ∀ {a : List Int} {st : List Int} {s : Int} {T U : List Int}, Leds h st s a T → Leds h st s a U → T = U
  | [], _, _, _, _, e, e' => by cases e; cases e'; rfl
  | f :: r, st, s, T, U, ⟨V, c, e⟩, ⟨W, d, e'⟩ => by
    have := c.uniq d
    subst this
    exact leds_uniq e e'
/-- led alike, from whatever is settled -/
def SameL (h : Hs) (a b : List Int) : Prop := ∀ st s, StOk h.n st → SetAt h st s → lastW s a = lastW s b ∧ ∀ T, Leds h st s a T ↔ Leds h st s b T
theorem sameL_refl (h : Hs) (a : List Int) : SameL h a a := fun _ _ _ _ => ⟨rfl, fun _ => Iff.rfl⟩
theorem SameL.trans {h : Hs} {a b c : List Int} (x : SameL h a b) (y : SameL h b c) : SameL h a c := fun st s o e => ⟨(x st s o e).1.trans (y st s o e).1, fun T => ((x st s o e).2 T).trans ((y st s o e).2 T)⟩
theorem SameL.symm {h : Hs} {a b : List Int} (x : SameL h a b) : SameL h b a := fun st s o e => ⟨(x st s o e).1.symm, fun T => ((x st s o e).2 T).symm⟩
theorem SameL.app {h : Hs} (hp : HsPos h) {a b c d : List Int} (x : SameL h a b) (y : SameL h c d) : SameL h (a ++ c) (b ++ d) := fun st s o e => by
  obtain ⟨x1, x2⟩ := x st s o e
  refine ⟨?_, fun T => ?_⟩
  · obtain ⟨U, hU⟩ : ∃ U, Leds h st s a U := by
      clear x1 x2
      induction a generalizing st s with
      | nil => exact ⟨st, rfl⟩
      | cons f r ih =>
        obtain ⟨V, c⟩ := clo_any hp f (decide (s ≤ f)) o
        have : ∀ (r : List Int) (st : List Int) (s : Int), StOk h.n st → ∃ U, Leds h st s r U := by
          intro r
          induction r with
          | nil => exact fun st s _ => ⟨st, rfl⟩
          | cons g r ih2 =>
            intro st s o
            obtain ⟨V, c⟩ := clo_any hp g (decide (s ≤ g)) o
            obtain ⟨W, w⟩ := ih2 V g c.ok
            exact ⟨W, V, c, w⟩
        obtain ⟨W, w⟩ := this r V f c.ok
        exact ⟨W, V, c, w⟩
    obtain ⟨o2, e2⟩ := leds_set hp o e hU
    rw [lastW_app, lastW_app, ← x1]
    exact (y U _ o2 e2).1
  · rw [leds_app, leds_app]
    constructor
    · rintro ⟨U, h1, h2⟩
      obtain ⟨o2, e2⟩ := leds_set hp o e h1
      refine ⟨U, (x2 U).mp h1, ?_⟩
      rw [← x1]
      exact ((y U _ o2 e2).2 T).mp h2
    · rintro ⟨U, h1, h2⟩
      have h1' := (x2 U).mpr h1
      obtain ⟨o2, e2⟩ := leds_set hp o e h1'
      rw [← x1] at h2
      exact ⟨U, h1', ((y U _ o2 e2).2 T).mpr h2⟩
theorem SameL.mid {h : Hs} (hp : HsPos h) {a b : List Int} (x : SameL h a b) (u v : List Int) : SameL h (u ++ a ++ v) (u ++ b ++ v) := SameL.app hp (SameL.app hp (sameL_refl h u) x) (sameL_refl h v)
/-- the way that a leg goes, also where it goes nowhere -/
theorem leg_way {h : Hs} {U V : List Int} {s f : Int} {up : Bool} (o : StOk h.n U) (x : SetAt h U s) (le : swLe up s f) : Clo h f (decide (s ≤ f)) U V ↔ Clo h f up U V := by
  cases up with
  | true => rw [decide_eq_true (show s ≤ f from le)]
  | false =>
    have le' : f ≤ s := le
    by_cases e : s = f
    · subst e
      rw [decide_eq_true (Int.le_refl s)]
      constructor
      · intro c
        have := c.uniq (Clo.self o x.1)
        subst this
        exact Clo.self o x.2
      · intro c
        have := c.uniq (Clo.self o x.2)
        subst this
        exact Clo.self o x.1
    · rw [decide_eq_false (by omega)]
theorem swLe_trans {up : Bool} {a b c : Int} (x : swLe up a b) (y : swLe up b c) : swLe up a c := by
  unfold swLe at *
  cases up <;> simp at * <;> omega
theorem swLe_not {up : Bool} {a b : Int} : swLe (!up) a b ↔ swLe up b a := by
  unfold swLe
  cases up <;> simp
theorem clo_comp {h : Hs} {U V T : List Int} {b d : Int} {up : Bool} (le : swLe up b d) (c : Clo h b up U V) (e : Clo h d up V T) : Clo h d up U T :=
  ⟨e.ok, c.ge.trans e.ge, e.fin, fun W oW gW wW => e.least W oW (c.least W oW gW (want_weak wW le)) wW⟩
theorem sameL_dup {h : Hs} (hp : HsPos h) (a : Int) : SameL h [a, a] [a] := fun st s o e => ⟨rfl, fun T => by
  constructor
  · rintro ⟨U, c, V, d, rfl⟩
    have x := leg_settled hp e c
    rw [decide_eq_true (Int.le_refl a)] at d
    have := d.uniq (Clo.self c.ok x.1)
    subst this
    exact ⟨_, c, rfl⟩
  · rintro ⟨U, c, rfl⟩
    have x := leg_settled hp e c
    refine ⟨_, c, _, ?_, rfl⟩
    rw [decide_eq_true (Int.le_refl a)]
    exact Clo.self c.ok x.1⟩
theorem sameL_way {h : Hs} (hp : HsPos h) {a b d : Int} {up : Bool} (h1 : swLe up a b) (h2 : swLe up b d) : SameL h [a, b, d] [a, d] := fun st s o e => ⟨rfl, fun T => by
  constructor
  · rintro ⟨U, c, V, c1, W, c2, rfl⟩
    have x := leg_settled hp e c
    have y := leg_settled hp x c1
    rw [leg_way c.ok x h1] at c1
    rw [leg_way c1.ok y h2] at c2
    exact ⟨U, c, _, (leg_way c.ok x (swLe_trans h1 h2)).mpr (clo_comp h2 c1 c2), rfl⟩
  · rintro ⟨U, c, W, c2, rfl⟩
    have x := leg_settled hp e c
    obtain ⟨V, c1⟩ := clo_any hp b up c.ok
    obtain ⟨Z, c3⟩ := clo_any hp d up c1.ok
    have c1' := (leg_way c.ok x h1).mpr c1
    have y := leg_settled hp x c1'
    rw [leg_way c.ok x (swLe_trans h1 h2)] at c2
    have := (clo_comp h2 c1 c3).uniq c2
    subst this
    exact ⟨U, c, V, c1', _, (leg_way c1.ok y h2).mpr c3, rfl⟩⟩
theorem sameL_one {h : Hs} (hp : HsPos h) {a b d : Int} (hb : (a ≤ b ∧ b ≤ d) ∨ (d ≤ b ∧ b ≤ a)) : SameL h [a, b, d] [a, d] := by
  rcases hb with ⟨h1, h2⟩ | ⟨h1, h2⟩
  · exact sameL_way (up := true) hp h1 h2
  · exact sameL_way (up := false) hp h2 h1
theorem sameL_back {h : Hs} (hp : HsPos h) {a b c d : Int} {up : Bool} (hab : swLe up a b) (hbd : swLe up b d) (hac : swLe up a c) (hcd : swLe up c d) (hcb : swLe up c b) : SameL h [a, b, c, d] [a, d] := fun st s o e => ⟨rfl, fun T => by
  have mid : ∀ {U V W : List Int}, StOk h.n U → SetAt h U a → Clo h b up U V → Clo h c (!up) V W → Lq up U W ∧ Lq up W V := fun {U V W} oU x c1 c2 =>
    ⟨lq_flip' (c2.least U oU (lq_flip c1.ge) (want_weak (x.w _) (swLe_not.mpr hac))), lq_flip' c2.ge⟩
  have all : ∀ {U V W Z : List Int}, StOk h.n U → SetAt h U a → Clo h b up U V → Clo h c (!up) V W → Clo h d up W Z → Clo h d up U Z := fun {U V W Z} oU x c1 c2 c3 => by
    obtain ⟨m1, m2⟩ := mid oU x c1 c2
    exact ⟨c3.ok, m1.trans c3.ge, c3.fin, fun X oX gX wX => c3.least X oX (m2.trans (c1.least X oX gX (want_weak wX hbd))) wX⟩
  constructor
  · rintro ⟨U, c0, V, c1, W, c2, Z, c3, rfl⟩
    have x := leg_settled hp e c0
    have y := leg_settled hp x c1
    have z := leg_settled hp y c2
    rw [leg_way c0.ok x hab] at c1
    rw [leg_way (up := !up) c1.ok y (swLe_not.mpr hcb)] at c2
    rw [leg_way c2.ok z hcd] at c3
    exact ⟨U, c0, _, (leg_way c0.ok x (swLe_trans hab hbd)).mpr (all c0.ok x c1 c2 c3), rfl⟩
  · rintro ⟨U, c0, Z, c4, rfl⟩
    have x := leg_settled hp e c0
    obtain ⟨V, c1⟩ := clo_any hp b up c0.ok
    have c1' := (leg_way c0.ok x hab).mpr c1
    have y := leg_settled hp x c1'
    obtain ⟨W, c2⟩ := clo_any hp c (!up) c1.ok
    have c2' := (leg_way (up := !up) c1.ok y (swLe_not.mpr hcb)).mpr c2
    have z := leg_settled hp y c2'
    obtain ⟨Y, c3⟩ := clo_any hp d up c2.ok
    rw [leg_way c0.ok x (swLe_trans hab hbd)] at c4
    have := (all c0.ok x c1 c2 c3).uniq c4
    subst this
    exact ⟨U, c0, V, c1', W, c2', _, (leg_way c2.ok z hcd).mpr c3, rfl⟩⟩
theorem swLe_total (up : Bool) (a b : Int) : swLe up a b ∨ swLe up b a := by
  unfold swLe
  cases up <;> simp <;> omega
theorem sameL_inn {h : Hs} (hp : HsPos h) {a b c d : Int} (hi : inn a b c d = true) : SameL h [a, b, c, d] [a, d] := by
  obtain ⟨up, hab, hbd, hac, hcd⟩ : ∃ up, swLe up a b ∧ swLe up b d ∧ swLe up a c ∧ swLe up c d := by
    rcases inn_iff.mp hi with ⟨h1, h2, h3, h4⟩ | ⟨h1, h2, h3, h4⟩
    · exact ⟨true, h1, h2, h3, h4⟩
    · exact ⟨false, h2, h1, h4, h3⟩
  rcases swLe_total up b c with hbc | hcb
  · exact ((sameL_way hp hab hbc).app hp (sameL_refl h [d])).trans (sameL_way hp hac hcd)
  · exact sameL_back hp hab hbd hac hcd hcb
theorem sameL_rstep {h : Hs} (hp : HsPos h) (rs : List Int) (x : Int) : SameL h (rstep rs x).reverse (rs.reverse ++ [x]) := by
  match rs with
  | [] => exact sameL_refl h _
  | [l] =>
    simp only [rstep]
    split
    · rename_i e
      subst e
      exact (sameL_dup hp l).symm
    · exact sameL_refl h _
  | l :: p :: r =>
    simp only [rstep]
    split
    · rename_i e
      subst e
      have := (sameL_dup hp l).symm.mid hp (r.reverse ++ [p]) []
      simpa using this
    · split
      · rename_i hb
        have h := btw_iff.mp hb
        have := (sameL_one hp (a := p) (b := l) (d := x) (by omega)).symm.mid hp r.reverse []
        simpa using this
      · simpa using sameL_refl h _
theorem sameL_ired {h : Hs} (hp : HsPos h) : ∀ (n : Nat) (rs : List Int), rs.length ≤ n → SameL h (ired rs).reverse rs.reverse := by
  intro n
  induction n with
  | zero =>
    intro rs hn
    have : rs = [] := List.length_eq_zero_iff.mp (by omega)
    subst this
    rw [ired_no (rs := []) rfl]
    exact sameL_refl h _
  | succ n ih =>
    intro rs hn
    cases hi : innR rs with
    | false => rw [ired_no hi]; exact sameL_refl h _
    | true =>
      match rs, hi with
      | d :: c :: b :: a :: r, hi =>
        rw [ired_yes (show inn a b c d = true from hi)]
        refine (ih _ (by simp at hn ⊢; omega)).trans ?_
        have := (sameL_inn hp (show inn a b c d = true from hi)).symm.mid hp r.reverse []
        simpa using this
theorem sameL_resR {h : Hs} (hp : HsPos h) : ∀ (xs rs : List Int), SameL h (resR rs xs).reverse (rs.reverse ++ xs)
  | [], rs => by rw [List.append_nil]; exact sameL_refl h rs.reverse
  | x :: xs, rs => by
    have h := (sameL_resR hp xs (qstep rs x)).trans ((((sameL_ired hp _ _ (Nat.le_refl _)).trans (sameL_rstep hp rs x))).app hp (sameL_refl h xs))
    rw [List.append_assoc] at h
    exact h
theorem sameL_res {h : Hs} (hp : HsPos h) (xs : List Int) : SameL h (resOf xs) xs := sameL_resR hp xs []
/-! what is left begins as the whole -/
theorem ired_end : ∀ (n : Nat) (rs : List Int), rs.length ≤ n → (ired rs).getLast? = rs.getLast? := by
  intro n
  induction n with
  | zero =>
    intro rs hn
    rw [List.length_eq_zero_iff.mp (Nat.le_zero.mp hn), ired_no (rs := []) rfl]
  | succ n ih =>
    intro rs hn
    cases hi : innR rs with
    | false => rw [ired_no hi]
    | true =>
      match rs, hi with
      | d :: c :: b :: a :: r, hi =>
        rw [ired_yes (show inn a b c d = true from hi), ih _ (by simp at hn ⊢; omega)]
        simp [List.getLast?_cons_cons]
theorem rstep_end {rs : List Int} (hr : rs ≠ []) (x : Int) : (rstep rs x).getLast? = rs.getLast? := by
  match rs, hr with
  | [l], _ =>
    simp only [rstep]
    split
    · rfl
    · simp [List.getLast?_cons_cons]
  | l :: p :: r, _ =>
    simp only [rstep]
    split
    · rfl
    · split <;> simp [List.getLast?_cons_cons]
theorem resR_end : ∀ (xs : List Int) {rs : List Int}, rs ≠ [] → (resR rs xs).getLast? = rs.getLast?
  | [], _, _ => rfl
  | x :: xs, rs, hr => by
    have e : (qstep rs x).getLast? = rs.getLast? := by
      unfold qstep
      rw [ired_end _ _ (Nat.le_refl _), rstep_end hr]
    have hne : qstep rs x ≠ [] := fun z => by
      rw [z] at e
      exact hr (List.getLast?_eq_none_iff.mp e.symm)
    exact (resR_end xs hne).trans e
theorem res_cons (x : Int) (r : List Int) : ∃ r', resOf (x :: r) = x :: r' := by
  have e0 : qstep [] x = [x] := by
    unfold qstep
    exact ired_no (rs := [x]) rfl
  have h1 : (resR [x] r).getLast? = some x := resR_end r (by simp)
  unfold resOf
  show ∃ r', (resR (qstep [] x) r).reverse = _
  rw [e0]
  cases hq : (resR [x] r).reverse with
  | nil =>
    rw [List.reverse_eq_nil_iff.mp hq] at h1
    simp at h1
  | cons y q =>
    have : (resR [x] r).reverse.head? = some x := by rw [List.head?_reverse]; exact h1
    rw [hq] at this
    cases this
    exact ⟨q, rfl⟩
/-- the swell of a stand that stays may be told otherwise -/
theorem leds_start {h : Hs} {st : List Int} {s s' : Int} (o : StOk h.n st) (x : SetAt h st s) (y : SetAt h st s') {ns T : List Int} : Leds h st s ns T ↔ Leds h st s' ns T := by
  have key : ∀ {s s' : Int}, SetAt h st s → SetAt h st s' → ∀ ns, Leds h st s ns T → Leds h st s' ns T := by
    intro s s' x y ns
    cases ns with
    | nil => exact fun e => e
    | cons f r =>
      rintro ⟨U, c, e⟩
      refine ⟨U, ?_, e⟩
      by_cases h1 : s ≤ f
      · by_cases h2 : s' ≤ f
        · rw [decide_eq_true h2]; rw [decide_eq_true h1] at c; exact c
        · rw [decide_eq_false h2]; rw [decide_eq_true h1] at c
          have := c.uniq (Clo.self o (want_weak (up := true) y.1 (show f ≤ s' by omega)))
          subst this
          exact Clo.self o (want_weak (up := false) x.2 (show s ≤ f from h1))
      · by_cases h2 : s' ≤ f
        · rw [decide_eq_true h2]; rw [decide_eq_false h1] at c
          have := c.uniq (Clo.self o (want_weak (up := false) y.2 (show s' ≤ f from h2)))
          subst this
          exact Clo.self o (want_weak (up := true) x.1 (show f ≤ s by omega))
        · rw [decide_eq_false h2]; rw [decide_eq_false h1] at c; exact c
  exact ⟨key x y ns, key y x ns⟩
theorem leds_self {h : Hs} {st : List Int} {s : Int} (o : StOk h.n st) (x : SetAt h st s) {ns T : List Int} : Leds h st s (s :: ns) T ↔ Leds h st s ns T := by
  constructor
  · rintro ⟨U, c, e⟩
    rw [decide_eq_true (Int.le_refl s)] at c
    have := c.uniq (Clo.self o x.1)
    subst this
    exact e
  · intro e
    refine ⟨st, ?_, e⟩
    rw [decide_eq_true (Int.le_refl s)]
    exact Clo.self o x.1
/-- a history and what is left of it, from its first swell on -/
theorem leds_res {h : Hs} (hp : HsPos h) {st : List Int} {x0 : Int} {r r' T : List Int} (o : StOk h.n st) (x : SetAt h st x0) (e : resOf (x0 :: r) = x0 :: r') : Leds h st x0 r T ↔ Leds h st x0 r' T := by
  have := (sameL_res hp (x0 :: r) st x0 o x).2 T
  rw [e, leds_self o x, leds_self o x] at this
  exact this.symm
/-- as one ahead of all tells, where the stand is none's or all's -/
theorem leds_far {h : Hs} (hp : HsPos h) {st : List Int} {begin : Int} {up : Bool} {xs fs T : List Int} (o : StOk h.n st) (x : SetAt h st begin) (hf : ∀ M, h.want st M (!up) = []) (ha : AheadR (some up) xs fs) : Leds h st begin xs T ↔ Leds h st begin ((resOf (fs ++ xs)).drop fs.length) T := by
  have ha' : ∃ L, (xs = [] ∧ fs = []) ∨ (xs ≠ [] ∧ fs = [L] ∧ ∀ y ∈ xs, swLe up L y ∧ y ≠ L) := by
    rcases ha with ⟨h1, h2⟩ | ⟨b, m, hb, hx, hm, h3⟩
    · rcases h1 with h1 | h1
      · cases h1
      · exact ⟨0, .inl ⟨h1, h2⟩⟩
    · cases hb
      rcases h3 with ⟨rfl, h4, h5⟩ | ⟨rfl, h4, h5⟩
      · exact ⟨m - 1, .inr ⟨hx, h5, fun y hy => ⟨by show m - 1 ≤ y; have := h4 y hy; omega, by have := h4 y hy; omega⟩⟩⟩
      · exact ⟨m + 1, .inr ⟨hx, h5, fun y hy => ⟨by show y ≤ m + 1; have := h4 y hy; omega, by have := h4 y hy; omega⟩⟩⟩
  obtain ⟨L, ⟨rfl, rfl⟩ | ⟨hx, rfl, hL⟩⟩ := ha'
  · rfl
  · obtain ⟨M, h1, h2⟩ : ∃ M, swLe up M L ∧ swLe up M begin := by
      rcases swLe_total up L begin with h | h
      · exact ⟨L, by unfold swLe; cases up <;> simp, h⟩
      · exact ⟨begin, h, by unfold swLe; cases up <;> simp⟩
    have y : SetAt h st M := by
      have w1 := want_weak (x.w up) h2
      have w2 := hf M
      cases up with
      | true => exact ⟨w1, w2⟩
      | false => exact ⟨w2, w1⟩
    obtain ⟨r', e⟩ := res_cons L xs
    have e2 : (resOf ([L] ++ xs)).drop [L].length = r' := by
      show (resOf (L :: xs)).drop 1 = r'
      rw [e]
      rfl
    rw [e2]
    have k := kin_res (L :: xs)
    have hr' : r' ≠ [] ∧ ∀ z ∈ r', swLe up L z := by
      refine ⟨fun z => ?_, fun z hz => ?_⟩
      · subst z
        obtain ⟨w, hw⟩ := List.exists_mem_of_ne_nil _ hx
        have hwL := hL w hw
        rw [e] at k
        have := (sameL_res hp (L :: xs) st M o y).1
        rw [e] at this
        have e3 : lastW M (L :: xs) = lastW L xs := rfl
        have e4 : lastW M [L] = L := rfl
        rw [e3, e4] at this
        have : ∀ (xs : List Int) (s : Int), xs ≠ [] → lastW s xs ∈ xs := by
          intro xs
          induction xs with
          | nil => exact fun _ h => absurd rfl h
          | cons a q ih =>
            intro s _
            cases q with
            | nil => exact List.mem_cons_self ..
            | cons b q => exact List.mem_cons_of_mem _ (ih a (by simp))
        have h5 := this xs L hx
        rw [← ‹L = lastW L xs›] at h5
        exact (hL L h5).2 rfl
      · have hz2 : z ∈ L :: xs := k.sub z (by rw [e]; exact List.mem_cons_of_mem _ hz)
        rcases List.mem_cons.mp hz2 with rfl | hz2
        · unfold swLe; cases up <;> simp
        · exact (hL z hz2).1
    have put : ∀ ys : List Int, ys ≠ [] → (∀ z ∈ ys, swLe up L z) → ∀ T, Leds h st M (M :: L :: ys) T ↔ Leds h st M (M :: ys) T := by
      intro ys hy hz T
      cases ys with
      | nil => exact absurd rfl hy
      | cons a q => exact (((sameL_way hp h1 (hz a (List.mem_cons_self ..))).app hp (sameL_refl h q)) st M o y).2 T
    rw [leds_start o x y, leds_start o x y (ns := r'), ← leds_self o y, ← leds_self o y (ns := r'), ← put xs hx (fun z hz => (hL z hz).1), ← put r' hr'.1 hr'.2]
    have := (((sameL_refl h [M]).app hp (sameL_res hp (L :: xs))) st M o y).2 T
    rw [e] at this
    exact this.symm
/-- the last stand that is told of a history -/
theorem led_last {h : Hs} : ∀ {r : List Int} {s0 : Int} {st : List Int} {Ts : List (List Int)}, LedOk h st (s0 :: r) Ts → Ts.length = r.length + 1 → ∃ Ts0 T, Ts = Ts0 ++ [T] ∧ Leds h st s0 r T ∧ StOk h.n T
  | [], s0, st, Ts, k, hl => by
    match Ts, hl with
    | [T], _ =>
      have := k.first
      cases this
      exact ⟨[], _, rfl, rfl, k.ok _ (List.mem_cons_self ..)⟩
  | f :: r, s0, st, Ts, k, hl => by
    match Ts, hl with
    | T :: U :: q, hl =>
      have := k.first
      cases this
      have c := k.leg 0 s0 f st U rfl rfl rfl rfl
      have k2 : LedOk h U (f :: r) (U :: q) := ⟨rfl, fun Z hZ => k.ok Z (List.mem_cons_of_mem _ hZ), fun i a b A B h1 h2 h3 h4 => k.leg (i + 1) a b A B h1 h2 h3 h4⟩
      obtain ⟨Ts0, W, e, l, o⟩ := led_last k2 (by simp at hl ⊢; omega)
      exact ⟨st :: Ts0, W, by rw [e]; rfl, ⟨U, c, l⟩, o⟩
theorem pickJ (ns : List Int) {d : Int} (h0 : 0 ≤ d) (h1 : d < (ns.length : Int)) : ∃ w, w ∈ ns ∧ atI (ns.map V.int) d = some (V.int w) := by
  obtain ⟨j, rfl⟩ : ∃ j : Nat, d = (j : Int) := ⟨d.toNat, by omega⟩
  have hj : j < ns.length := by omega
  exact ⟨ns[j], List.getElem_mem hj, atI_nat (by rw [List.getElem?_map, List.getElem?_eq_getElem hj]; rfl)⟩
theorem exB_none {j p : Addr} {H H' : Hp} (e : ExB j H H') (n : p ≠ j) (h : H' p = none) : H p = none := by
  cases hq : H p with
  | none => rfl
  | some o => rw [e p o n hq] at h; cases h
theorem exBB {j p : Addr} {H G G' : Hp} (a : ExB j H G) (b : ExB p G G') (n : H p = none) : ExB j H G' := fun c o hc h => b c o (fun z => by rw [z, n] at h; cases h) (a c o hc h)
def lawLent (hel : List (Int × Int × Int)) (st : List Int) (l : Int) : Int := ((hel.filter fun h => decide (h.2.1 = l) && decide (h.1 ∈ st)).map (·.2.2)).sum
/-- a sum over what passes a look -/
def sumIf (p : Int × Int × Int → Bool) (hel : List (Int × Int × Int)) : Int := ((hel.filter p).map (·.2.2)).sum
theorem sumIf_cons (p : Int × Int × Int → Bool) (x : Int × Int × Int) (r : List (Int × Int × Int)) : sumIf p (x :: r) = (if p x = true then x.2.2 else 0) + sumIf p r := by
  unfold sumIf
  rw [List.filter_cons]
  split
  · rw [List.map_cons, List.sum_cons]
  · simp
theorem perm_sum {a b : List Int} (h : a.Perm b) : a.sum = b.sum := by
  induction h with
  | nil => rfl
  | cons x _ ih => rw [List.sum_cons, List.sum_cons, ih]
  | swap x y l => rw [List.sum_cons, List.sum_cons, List.sum_cons, List.sum_cons]; omega
  | trans _ _ h1 h2 => exact h1.trans h2
theorem sumIf_perm {p : Int × Int × Int → Bool} {a b : List (Int × Int × Int)} (h : a.Perm b) : sumIf p a = sumIf p b := by
  unfold sumIf
  exact perm_sum ((h.filter p).map _)
theorem lawLent_sumIf (hel : List (Int × Int × Int)) (st : List Int) (l : Int) : lawLent hel st l = sumIf (fun h => decide (h.2.1 = l) && decide (h.1 ∈ st)) hel := rfl
theorem lent_sumIf (hel : List (Int × Int × Int)) (st : List Int) (l : Int) : (((lendOf hel l).filter fun p => decide (p.1 ∈ st)).map (·.2)).sum = sumIf (fun h => decide (h.2.1 = l) && decide (h.1 ∈ st)) hel := by
  induction hel with
  | nil => rfl
  | cons x r ih =>
    rw [sumIf_cons, ← ih]
    unfold lendOf
    rw [List.filter_cons]
    by_cases h1 : x.2.1 = l
    · rw [if_pos (decide_eq_true h1), List.map_cons, List.filter_cons]
      by_cases h2 : x.1 ∈ st
      · simp [h1, h2]
      · simp [h1, h2]
    · simp [h1]
theorem lent_law {h : Hs} {hel : List (Int × Int × Int)} (hp : h.hel.Perm hel) (st : List Int) (l : Nat) : h.lent st l = lawLent hel st (l : Int) := by
  unfold Hs.lent
  rw [lent_sumIf, lawLent_sumIf]
  exact sumIf_perm hp
theorem s_listE {K : PySem.W.Frag} {a : Addr} {xs : List V} {H : Hp} {Q : VK} (h : SqE K H a xs) (q : ∀ l H', H l = none → Ex H H' → H' l = some (.lst xs) → Q (.ref l) H') : rListOf K [.ref a] H Q := h.elim (fun h => s_listT h q) (fun h => s_listL h q)
theorem s_remove {l : Addr} {ns : List Int} {k : Int} {j : Nat} {H : Hp} {Q : VK} (h : H l = some (.lst (ns.map V.int))) (hk : ns[j]? = some k) (hn : ns.Nodup) (q : ∀ H', ExB l H H' → H' l = some (.lst ((ns.eraseIdx j).map V.int)) → Q .non H') : rRemI (.ref l) [.int k] H Q :=
  ⟨l, ns, k, j, rfl, rfl, h, hk, fun m hm hm2 => by have := nd_at hn hm2 hk; omega, q _ ExB.upd upd_same⟩
/-- the length of the list at a slot; where there is none, a hundred -/
def lenOr (i : Nat) (σ : L2.St) (H : Hp) : Nat := match σ[i]? with
  | some (some (V.ref p)) => (match H p with | some (.lst xs) => xs.length | _ => 100)
  | _ => 100
theorem lenOr_eq {i : Nat} {σ : L2.St} {H : Hp} {p : Addr} {xs : List V} (h : σ[i]? = some (some (.ref p))) (g : H p = some (.lst xs)) : lenOr i σ H = xs.length := by
  unfold lenOr; rw [h]; dsimp only; rw [g]
structure NetV (K : PySem.W.Frag) (H : Hp) (r : Addr) (h : Hs) : Prop where
  ex : ∃ tp tl xs ys hel, H r = some (.tup [.ref tp, .ref tl]) ∧ H tp = some (.tup xs) ∧ Al (PairV K H) xs h.lat ∧ H tl = some (.tup ys) ∧ Al (TripV K H) ys hel ∧ h.hel.Perm hel
  ok : HsOk h
  pos : HsPos h
theorem NetV.ki {K : PySem.W.Frag} {H H' : Hp} {r : Addr} {h : Hs} (x : NetV K H r h) (e : Ki H H') : NetV K H' r h := by
  obtain ⟨⟨tp, tl, xs, ys, hel, h1, h2, h3, h4, h5, h6⟩, ok, pos⟩ := x
  exact ⟨⟨tp, tl, xs, ys, hel, e _ _ trivial h1, e _ _ trivial h2, h3.imp fun _ _ z => z.ki e, e _ _ trivial h4, h5.imp fun _ _ z => TripV.ki z e, h6⟩, ok, pos⟩
/-- what a list of latches, each once, tells -/
structure RepL (n : Nat) (hs : List Nat) (c : List Int) : Prop where
  ok : StOk n c
  nd : hs.Nodup
  mem : ∀ l : Nat, l ∈ hs ↔ (l : Int) ∈ c
theorem RepL.lt {n : Nat} {hs : List Nat} {c : List Int} (r : RepL n hs c) {l : Nat} (hl : l ∈ hs) : l < n := by
  obtain ⟨k, hk, hk2⟩ := r.ok.nat ((r.mem l).mp hl)
  omega
theorem RepL.len {n : Nat} {hs : List Nat} {c : List Int} (r : RepL n hs c) : hs.length ≤ n := by
  have h1 := (srt_perm (n := n) (row := hs) (fun l hl => r.lt hl) r.nd).length_eq
  have h2 : (srt n hs).length ≤ n := by unfold srt; exact Nat.le_trans (List.length_filter_le _ _) (by simp)
  omega
theorem RepL.up {n : Nat} {hs : List Nat} {c : List Int} (r : RepL n hs c) {l : Nat} (hl : l < n) (hn : l ∉ hs) : RepL n (hs ++ [l]) (stepS n c [l] true) := by
  refine ⟨stepS_ok _ _ _ _, ?_, fun k => ?_⟩
  · rw [List.nodup_append]
    exact ⟨r.nd, by simp, fun a ha b hb z => hn (by rw [List.mem_singleton.mp hb] at z; exact z ▸ ha)⟩
  · rw [mem_up, List.mem_append, List.mem_singleton, r.mem k]
    refine ⟨fun h => ⟨?_, h⟩, fun h => h.2⟩
    rcases h with h | rfl
    · obtain ⟨q, hq, hq2⟩ := r.ok.nat h
      omega
    · exact hl
theorem RepL.down {n : Nat} {hs : List Nat} {c : List Int} (r : RepL n hs c) {j l : Nat} (hj : hs[j]? = some l) : RepL n (hs.eraseIdx j) (stepS n c [l] false) := by
  refine ⟨stepS_ok _ _ _ _, ?_, fun k => ?_⟩
  · exact r.nd.sublist (List.eraseIdx_sublist ..)
  · rw [mem_down, erase_filter r.nd hj, List.mem_filter, List.mem_singleton, r.mem k]
    constructor
    · rintro ⟨h1, h2⟩
      obtain ⟨q, hq, hq2⟩ := r.ok.nat h1
      refine ⟨by omega, h1, fun z => ?_⟩
      subst z
      simp at h2
    · rintro ⟨_, h1, h2⟩
      exact ⟨h1, by rw [decide_eq_false h2]; rfl⟩
theorem RepL.of {n : Nat} {c : List Int} (o : StOk n c) : RepL n (c.map Int.toNat) c := by
  refine ⟨o, ?_, fun l => ?_⟩
  · rw [List.nodup_iff_pairwise_ne, List.pairwise_map]
    refine List.Pairwise.imp_of_mem ?_ o.up
    intro a b ha hb hab
    have := o.lo a ha
    have := o.lo b hb
    omega
  · rw [List.mem_map]
    constructor
    · rintro ⟨x, hx, rfl⟩
      have := o.lo x hx
      rw [Int.toNat_of_nonneg this]
      exact hx
    · intro hl
      exact ⟨_, hl, by simp⟩
theorem nints_of {n : Nat} {c : List Int} (o : StOk n c) : nints (c.map Int.toNat) = c.map V.int := by
  unfold nints
  rw [List.map_map]
  refine List.map_congr_left fun x hx => ?_
  show V.int ((x.toNat : Nat) : Int) = V.int x
  rw [Int.toNat_of_nonneg (o.lo x hx)]
/-- the sorted row is the stand -/
theorem RepL.sorted {n : Nat} {hs : List Nat} {c : List Int} (r : RepL n hs c) {ms : List Int} (hp : ms.Perm (hs.map fun (l : Nat) => (l : Int))) (hs2 : ms.Pairwise (· ≤ ·)) : ms = c := by
  have hn : (hs.map fun (l : Nat) => (l : Int)).Nodup := by
    rw [List.nodup_iff_pairwise_ne, List.pairwise_map]
    exact (List.nodup_iff_pairwise_ne.mp r.nd).imp fun {a b} h => by omega
  have hn2 : ms.Nodup := hp.nodup_iff.mpr hn
  have hst : ms.Pairwise (· < ·) := (List.pairwise_and_iff.mpr ⟨hs2, List.nodup_iff_pairwise_ne.mp hn2⟩).imp fun {a b} h => by have := h.1; have := h.2; omega
  refine sorted_ext _ _ hst r.ok.up fun x => ?_
  rw [hp.mem_iff, List.mem_map]
  constructor
  · rintro ⟨l, hl, rfl⟩
    exact (r.mem l).mp hl
  · intro hx
    obtain ⟨l, rfl, _⟩ := r.ok.nat hx
    exact ⟨l, (r.mem l).mpr hx, rfl⟩
theorem s_neNL {K : PySem.W.Frag} {p : Addr} {A : List Int} {H : Hp} {Q : VK} (h : SqL K H p (A.map V.int)) (q : Q (.bl true) H) : rNeD K .non (.ref p) H Q :=
  ⟨_, _, .non, dpL h, by decide +kernel, shL _, q⟩
theorem nints_zs (ls : List Nat) : nints ls = (zs ls).map V.int := nints_ints ls
theorem zs_inj {a b : List Nat} (h : zs a = zs b) : a = b := by
  have := congrArg (List.map Int.toNat) h
  unfold zs at this
  rw [List.map_map, List.map_map] at this
  have e : (Int.toNat ∘ fun (l : Nat) => (l : Int)) = id := by funext x; simp
  rw [e, List.map_id, List.map_id] at this
  exact this
theorem map_erase {α β : Type} (f : α → β) : ∀ (l : List α) (k : Nat), (l.map f).eraseIdx k = (l.eraseIdx k).map f
  | [], _ => rfl
  | _ :: _, 0 => rfl
  | a :: r, k + 1 => by
    show f a :: (r.map f).eraseIdx k = f a :: (r.eraseIdx k).map f
    rw [map_erase f r k]
theorem zs_snoc (l : List Nat) (i : Nat) : zs (l ++ [i]) = zs l ++ [(i : Int)] := by unfold zs; rw [List.map_append]; rfl
/-- [k for k in range(m) if tt], tt a draw -/
theorem lc_drawn {m n : Nat} {ta : TA} {tt : TT} {te : TE} {vs : List Nat} {σ σ0 : L2.St} {f : V → L2.St} {H : Hp} {Q : VK} {j : Addr} {n0 c : Int} (hv : vs = [n]) (hw : SetR σ n none σ0) (hs : ∀ v, SetR σ0 n (some v) (f v))
    (hta : ∀ Q2 : List V → Hp → Prop, Q2 [.int (m : Int)] H → ta σ H Q2) (hm : m ≤ 1000) (hj : JarAt H j n0)
    (ht : ∀ i : Nat, i < m → ∀ H1, ExB j H H1 → JarAt H1 j (n0 + c * (i : Int)) → ∀ Q2 : Bool → Hp → Prop, (∀ b H2, ExB j H1 H2 → JarAt H2 j (n0 + c * ((i + 1 : Nat) : Int)) → Q2 b H2) → tt (f (.int (i : Int))) H1 Q2)
    (he : ∀ v H2 (Q2 : VK), Q2 v H2 → te (f v) H2 Q2)
    (q : ∀ l st H', H l = none → ExB j H H' → JarAt H' j (n0 + c * (m : Int)) → H' l = some (.lst (st.map V.int)) → StOk m st → Q (.ref l) H') : tLc (iRng1 ta) (gName n) tt te vs σ H Q := by
  subst hv
  have hw' : L2.wipe σ [n] = σ0 := hw.eq
  refine hta _ ?_
  refine ⟨_, rfl, by omega, by omega, fun D hD => ?_⟩
  have hDj := hj.free hD
  rw [Int.toNat_natCast]
  refine lc_range (lo := 0) (n := m) (fun i H' => ∃ st : List Int, H' D = some (.lst (st.map V.int)) ∧ st.Pairwise (· < ·) ∧ (∀ x ∈ st, 0 ≤ x ∧ x < (i : Int)) ∧ st.length ≤ i ∧ ExB j H H' ∧ JarAt H' j (n0 + c * (i : Int))) ⟨[], upd_same, by simp, by simp, by simp, (Ex.new hD).exB, by simpa using hj.ex (Ex.new hD)⟩ (fun i H' hi p => ?_) (fun H' p => ?_)
  · obtain ⟨st, h1, h2, h3, h4, h5, h6⟩ := p
    rw [Int.zero_add, hw']
    have key : ∀ (Q2 : L2.St → Hp → Prop), Q2 (f (.int (i : Int))) H' → gName n (.int (i : Int)) σ0 H' Q2 := fun Q2 k => by
      show Q2 (σ0.set n (some _)) H'
      rw [(hs _).eq]
      exact k
    refine key _ ⟨(hw.back (hs _)).eq, ht i hi H' h5 h6 _ fun b H2 e2 j2 => ?_⟩
    cases b with
    | true =>
      refine iteT (he _ _ _ ⟨_, e2 _ _ hDj h1, ?_, st ++ [(i : Int)], ?_, ?_, ?_, by simp; omega, (h5.trans e2).mut hD, j2.upd hDj⟩)
      · rw [List.length_map]
        exact Nat.lt_of_le_of_lt (show st.length ≤ 1000 by omega) (by decide)
      · rw [upd_same, List.map_append]; rfl
      · rw [List.pairwise_append]
        exact ⟨h2, by simp, fun x hxw y hy => by rw [List.mem_singleton.mp hy]; have := (h3 x hxw).2; omega⟩
      · intro x hxw
        rcases List.mem_append.mp hxw with hxw | hxw
        · have := h3 x hxw; omega
        · rw [List.mem_singleton.mp hxw]; omega
    | false =>
      exact iteF ⟨st, e2 _ _ hDj h1, h2, fun x hxw => by have := h3 x hxw; omega, by omega, h5.trans e2, j2⟩
  · obtain ⟨st, h1, h2, h3, h4, h5, h6⟩ := p
    exact q D st H' hD h5 h6 h1 ⟨h2, fun x hxw => (h3 x hxw).1, fun x hxw => (h3 x hxw).2⟩
theorem l_forR2 {g : TG} {ts : TS} {D : Ends} {σ : L2.St} {H : Hp} {k1 : Int} {i : Int} {m : Nat} (hm : i = 1 + (m : Int)) (h1 : k1 = 1) (hb : m < 100000) (I : Nat → L2.St → Hp → Prop) (h0 : I 0 σ H)
    (hs : ∀ (k : Nat) σ H', k < m → I k σ H' → g (.int (1 + (k : Int))) σ H' fun σ2 H2 => ts ⟨I (k + 1), D.rt, D.nx, I (k + 1)⟩ σ2 H2) (hd : ∀ σ H', I m σ H' → D.nx σ H') : kR2 (kFor g ts D σ) [.int k1, .int i] H := by
  subst hm h1
  refine ⟨_, _, rfl, ⟨by omega, by omega, by omega, by omega⟩, ?_⟩
  rw [show (1 + (m : Int) - 1).toNat = m by omega]
  exact for_range (lo := 1) (n := m) I h0 (fun k σ H' hk h => hs k σ H' hk h) hd
theorem leds_snoc {h : Hs} {st T U : List Int} {s f : Int} {ns : List Int} (a : Leds h st s ns T) (c : Clo h f (decide (lastW s ns ≤ f)) T U) : Leds h st s (ns ++ [f]) U := (leds_app ns [f] st s U).mpr ⟨T, a, U, c, rfl⟩
theorem lastW_take {s : Int} : ∀ {ns : List Int} {k : Nat} {x : Int}, (s :: ns)[k]? = some x → lastW s (ns.take k) = x
  | ns, 0, x, e => by cases e; rw [List.take_zero]; rfl
  | [], k + 1, x, e => by simp at e
  | a :: r, k + 1, x, e => by
    rw [List.take_succ_cons]
    exact lastW_take (s := a) (ns := r) (k := k) (x := x) e
theorem settled_both {h : Hs} (hp : HsPos h) {s : Int} {S C E : List Int} (c : Clo h s true S C) (d : Clo h s false C E) : SetAt h E s := ⟨settle1 (up := true) hp c d, d.fin⟩
def LatB (lat : List (Int × Int)) : Prop := ∀ p ∈ lat, p.2 < p.1 ∧ -20 ≤ p.2 ∧ p.2 ≤ 20 ∧ p.1 ≤ 61
theorem lat_at {h : Hs} (b : LatB h.lat) {l : Nat} (hl : l < h.n) : h.dn l < h.up l ∧ -20 ≤ h.dn l ∧ h.dn l ≤ 20 ∧ h.up l ≤ 61 := b (h.up l, h.dn l) (List.mem_of_getElem? (lat_get hl))
theorem lent_none (h : Hs) (l : Nat) : h.lent [] l = 0 := by
  unfold Hs.lent
  rw [List.filter_eq_nil_iff.mpr fun p _ => by simp]
  rfl
theorem nil_ok0 (n : Nat) : StOk n [] := ⟨by simp, by simp, by simp⟩
theorem low_set {h : Hs} (b : LatB h.lat) : (∀ M, h.want [] M false = []) ∧ SetAt h [] (-400) := by
  have h1 : ∀ M, h.want [] M false = [] := fun M => List.eq_nil_iff_forall_not_mem.mpr fun l hl => by
    have := (mem_want.mp hl).2.1
    simp at this
  refine ⟨h1, List.eq_nil_iff_forall_not_mem.mpr fun l hl => ?_, h1 _⟩
  obtain ⟨m1, _, m3⟩ := mem_want.mp hl
  have := lat_at b m1
  unfold Hs.goes at m3
  rw [lent_none] at m3
  simp at m3
  omega
theorem ord_ok (n : Nat) : StOk n (ordI n) := by
  refine ⟨ordI_up n, fun x hx => ?_, fun x hx => ?_⟩
  · obtain ⟨l, _, rfl⟩ := List.mem_map.mp hx
    omega
  · obtain ⟨l, hl, rfl⟩ := List.mem_map.mp hx
    have := List.mem_range.mp hl
    omega
theorem mem_ordI {n l : Nat} (hl : l < n) : (l : Int) ∈ ordI n := List.mem_map.mpr ⟨l, List.mem_range.mpr hl, rfl⟩
theorem high_set {h : Hs} (b : LatB h.lat) (k : HelOk (h.n : Int) h.hel) (n14 : h.n ≤ 14) : (∀ M, h.want (ordI h.n) M true = []) ∧ SetAt h (ordI h.n) 400 := by
  have h1 : ∀ M, h.want (ordI h.n) M true = [] := fun M => List.eq_nil_iff_forall_not_mem.mpr fun l hl => by
    obtain ⟨m1, m2, _⟩ := mem_want.mp hl
    simp at m2
    exact m2 (mem_ordI m1)
  refine ⟨h1, h1 _, List.eq_nil_iff_forall_not_mem.mpr fun l hl => ?_⟩
  obtain ⟨m1, _, m3⟩ := mem_want.mp hl
  have := lat_at b m1
  have := (lent_bd k n14 (ord_ok h.n) l).1
  unfold Hs.goes at m3
  simp at m3
  omega
theorem al_last {R : V → List Int → Prop} {rs : List V} {Ts0 : List (List Int)} {T : List Int} (h : Al R rs (Ts0 ++ [T])) : ∃ rs0 x, rs = rs0 ++ [x] ∧ R x T := by
  obtain ⟨x, hx, hr⟩ := h.get' (i := Ts0.length) (a := T) (by rw [List.getElem?_append_right (Nat.le_refl _), Nat.sub_self]; rfl)
  have hl : rs.length = Ts0.length + 1 := by rw [h.1, List.length_append]; rfl
  refine ⟨rs.take Ts0.length, x, ?_, hr⟩
  have e := List.take_append_drop Ts0.length rs
  have hd : rs.drop Ts0.length = [x] := by
    obtain ⟨h1, h2⟩ := List.getElem?_eq_some_iff.mp hx
    rw [List.drop_eq_getElem_cons h1, h2, List.drop_of_length_le (by omega)]
  rw [hd] at e
  exact e.symm
theorem atI_end (xs : List V) (x : V) : atI (xs ++ [x]) (-1) = some x := by
  unfold atI ixN
  rw [List.length_append, List.length_singleton, if_neg (by omega), if_pos (by omega)]
  show (xs ++ [x])[((-1 : Int) + ((xs.length + 1 : Nat) : Int)).toNat]? = _
  rw [show ((-1 : Int) + ((xs.length + 1 : Nat) : Int)).toNat = xs.length by omega, List.getElem?_append_right (Nat.le_refl _), Nat.sub_self]
  rfl
section
variable {ta : TE} {σ : L2.St} {H : Hp} {Q : VK}
def kTR (Q : VK) : VK := fun x H1 => ∃ n, x = .int n ∧ RgOk 0 n ∧ ∀ q, H1 q = none → Q (.ref q) (upd H1 q (.tup (rgV 0 n)))
theorem s_tupRg (q : ta σ H (kTR Q)) : tTupRg (tRg1 ta) σ H Q := q
theorem s_kTR {n : Nat} (hn : n ≤ 1000) (q : ∀ t H', H t = none → Ex H H' → H' t = some (.tup (nints (List.range n))) → Q (.ref t) H') : kTR Q (.int (n : Int)) H :=
  ⟨_, rfl, RgOk.of_le (by decide) (by omega) (by decide) (by omega), fun t nt => by rw [rgV_nat]; exact q t _ nt (Ex.new nt) upd_same⟩
end
theorem res_len (xs : List Int) : (resOf xs).length ≤ xs.length := by
  have h1 := (resR_ok xs [] nil_ok).2.1
  have h2 : (resOf xs).length = (resR [] xs).length := by unfold resOf; rw [List.length_reverse]
  rw [List.length_nil] at h1
  omega
theorem res_far_len {f : Option Bool} {xs fs : List Int} (h : AheadR f xs fs) : ((resOf (fs ++ xs)).drop fs.length).length ≤ xs.length + 1 := by
  have h1 := res_len (fs ++ xs)
  have h2 := h.len
  rw [List.length_append] at h1
  rw [List.length_drop]
  omega
section
variable {ta : TE} {σ : L2.St} {H : Hp} {Q : VK}
def kLR (Q : VK) : VK := fun x H1 => ∃ n, x = .int n ∧ RgOk 0 n ∧ ∀ q, H1 q = none → Q (.ref q) (upd H1 q (.lst (rgV 0 n)))
theorem s_lstRg (q : ta σ H (kLR Q)) : tLstRg (tRg1 ta) σ H Q := q
theorem s_kLR {n : Nat} (hn : n ≤ 1000) (q : ∀ t H', H t = none → Ex H H' → H' t = some (.lst (nints (List.range n))) → Q (.ref t) H') : kLR Q (.int (n : Int)) H :=
  ⟨_, rfl, RgOk.of_le (by decide) (by omega) (by decide) (by omega), fun t nt => by rw [rgV_nat]; exact q t _ nt (Ex.new nt) upd_same⟩
end
theorem nints_perm {ys : List V} {l : List Nat} (h : ys.Perm (nints l)) : ∃ m, ys = nints m ∧ m.Perm l := by
  have back : ∀ v ∈ nints l, V.int (((fun v => match v with | V.int z => z.toNat | _ => 0) v : Nat) : Int) = v := fun v hv => by
    obtain ⟨k, _, rfl⟩ := List.mem_map.mp hv
    simp
  refine ⟨ys.map fun v => match v with | V.int z => z.toNat | _ => 0, ?_, ?_⟩
  · unfold nints
    rw [List.map_map]
    conv => lhs; rw [← List.map_id ys]
    exact List.map_congr_left fun v hv => (back v (h.mem_iff.mp hv)).symm
  · refine (h.map _).trans (List.Perm.of_eq ?_)
    unfold nints
    rw [List.map_map]
    conv => rhs; rw [← List.map_id l]
    exact List.map_congr_left fun k _ => by simp
theorem OrR.tail {h : Hs} {s : Int} {up : Bool} {st : List Int} {ord : List Nat} {l : Nat} {r : List Nat} (a : OrR h s up st ord (l :: r)) : (ord.filter fun k => decide (k ∈ h.want st s up)).head? = some l ∧ OrR h s up (stepS h.n st [l] up) ord r := ⟨a 0 l rfl, fun i k e => a (i + 1) k e⟩
theorem OrR.uniq {h : Hs} {s : Int} {up : Bool} {ord : List Nat} : ∀ {r r' : List Nat} {st : List Int}, OrR h s up st ord r → OrR h s up st ord r' → h.want (endR h.n up st r) s up = [] → h.want (endR h.n up st r') s up = [] → r = r'
  | [], [], _, _, _, _, _ => rfl
  | [], l :: r', st, _, b, e, _ => by
    have := b.tail.1
    rw [show h.want st s up = [] from e, List.filter_eq_nil_iff.mpr fun k _ => by simp] at this
    cases this
  | l :: r, [], st, a, _, _, e => by
    have := a.tail.1
    rw [show h.want st s up = [] from e, List.filter_eq_nil_iff.mpr fun k _ => by simp] at this
    cases this
  | l :: r, l' :: r', st, a, b, e, e' => by
    have h1 := a.tail.1
    rw [b.tail.1] at h1
    cases h1
    rw [OrR.uniq a.tail.2 b.tail.2 e e']
theorem AnyR.back {h : Hs} (hp : HsPos h) {s : Int} {up : Bool} {E : List Int} : ∀ {r : List Nat} {st : List Int}, StOk h.n st → AnyR h s up st r → Clo h s up (endR h.n up st r) E → Clo h s up st E
  | [], _, _, _, c => c
  | l :: r, st, o, a, c => Clo.step hp o (ls := [l]) (fun k hk => by rw [List.mem_singleton.mp hk]; exact a.tail.1) (AnyR.back hp (stepS_ok _ _ _ _) a.tail.2 c)
theorem AnyR.take {h : Hs} {s : Int} {up : Bool} {st : List Int} {r : List Nat} (a : AnyR h s up st r) (d : Nat) : AnyR h s up st (r.take d) := fun i l e => by
  have hi := (List.getElem?_eq_some_iff.mp e).1
  rw [List.length_take] at hi
  rw [List.take_take, Nat.min_eq_left (by omega)]
  refine a i l ?_
  rw [List.getElem?_take] at e
  split at e
  · exact e
  · cases e
/-- a stand on the way, and the way of the next one -/
theorem AnyR.dir {h : Hs} {s : Int} {up : Bool} {st : List Int} {r : List Nat} (a : AnyR h s up st r) {i l : Nat} (e : r[i]? = some l) : l < h.n ∧ (!decide ((l : Int) ∈ endR h.n up st (r.take i))) = up := by
  have := mem_want.mp (a i l e)
  exact ⟨this.1, by rw [this.2.1, Bool.not_not]⟩
end My
/-! ### the least of a list of pairs, by its items -/
namespace SrtO
open PySem PyProof.Rows
/-- a tuple of two whole numbers -/
def IsDuo (h : Heap) (v : Value) (x : Int × Int) : Prop := ∃ a o t u n, v = .ref a ∧ h.get? a = some o ∧ o.cls = .type "tuple" ∧ o.data = .seq #[.int x.1 t, .int x.2 u] n
theorem IsDuo.up {h h' : Heap} {v : Value} {x : Int × Int} (p : IsDuo h v x) (e : ∀ b o, h.get? b = some o → h'.get? b = some o) : IsDuo h' v x := by
  obtain ⟨a, o, t, u, n, e1, e2, e3⟩ := p
  exact ⟨a, o, t, u, n, e1, e _ _ e2, e3⟩
def lex2 (p q : Int × Int) : Bool := if p.1 = q.1 then decide (p.2 < q.2) else decide (p.1 < q.1)
theorem lex2_iff {p q : Int × Int} : lex2 p q = true ↔ p.1 < q.1 ∨ (p.1 = q.1 ∧ p.2 < q.2) := by
  unfold lex2
  by_cases e : p.1 = q.1
  · rw [if_pos e, decide_eq_true_eq]
    omega
  · rw [if_neg e, decide_eq_true_eq]
    omega
theorem lex2_no {p q : Int × Int} : lex2 p q = false ↔ ¬ (p.1 < q.1 ∨ (p.1 = q.1 ∧ p.2 < q.2)) := by
  rw [← lex2_iff]
  cases lex2 p q <;> simp
theorem duo_lt {A : Around} {s : Shared} {v u : Value} {x y : Int × Int} (h1 : IsDuo s.heap v x) (h2 : IsDuo s.heap u y) (hu : A.units < cLine) : Ob.RcOp .Lt A s v u (lex2 x y) := by
  obtain ⟨a, o, t, t2, n, rfl, ho, hc, hd⟩ := h1
  obtain ⟨b, o2, r, r2, m, rfl, ho2, hc2, hd2⟩ := h2
  have R := Ob.RcOp.tuples_lt (A := A) (s := s) (e := fun j => if j = 0 then x.1 == y.1 else x.2 == y.2) (r := fun j => if j = 0 then decide (x.1 < y.1) else decide (x.2 < y.2)) ⟨o, ho, hc, n, hd⟩ ⟨o2, ho2, hc2, m, hd2⟩ hu (fun j g1 g2 => by
    match j, g1, g2 with
    | 0, _, _ => exact SeqAt.EqAt.int_int x.1 t y.1 r
    | 1, _, _ => exact SeqAt.EqAt.int_int x.2 t2 y.2 r2
    | j + 2, g1, _ => simp at g1; omega) (fun j g1 g2 _ => by
    match j, g1, g2 with
    | 0, _, _ => exact fun _ _ _ _ g => PyProof.Rows.lt_int g
    | 1, _, _ => exact fun _ _ _ _ g => PyProof.Rows.lt_int g
    | j + 2, g1, _ => simp at g1; omega)
  have e : Ob.lexAt (fun j => if j = 0 then x.1 == y.1 else x.2 == y.2) (fun j => if j = 0 then decide (x.1 < y.1) else decide (x.2 < y.2)) (decide (2 < 2)) 0 2 = lex2 x y := by
    rw [Ob.lexAt_succ, Ob.lexAt_succ, Ob.lexAt_zero]
    unfold lex2
    by_cases e1 : x.1 = y.1
    · by_cases e2 : x.2 = y.2
      · simp [e1, e2]
      · simp [e1, e2]
    · simp [e1]
  have R' : Ob.RcOp .Lt A s (.ref a) (.ref b) (Ob.lexAt (fun j => if j = 0 then x.1 == y.1 else x.2 == y.2) (fun j => if j = 0 then decide (x.1 < y.1) else decide (x.2 < y.2)) (decide (2 < 2)) 0 2) := R
  rw [e] at R'
  exact R'
theorem lex2_tr {p q r : Int × Int} (h1 : lex2 p q = false) (h2 : lex2 q r = false) : lex2 p r = false := by
  have a := lex2_no.mp h1
  have b := lex2_no.mp h2
  refine lex2_no.mpr ?_
  omega
section
variable {prog : Program} {w : World} {A : Around} {h0 : Heap} {l itr bx : Addr} {vs : List Value} {k : Value → Int × Int} {R : Result → Shared → Prop}
theorem duo_loop (hh : A.handled = none) (hu : A.units + 1 < cLine) (hl : ∀ h : Heap, (∀ b o, h0.get? b = some o → h.get? b = some o) → h.IsList l vs.toArray) (hv : ∀ v ∈ vs, IsDuo h0 v (k v)) (hi0 : h0.get? itr = none) (hb0 : h0.get? bx = none) (hne : itr ≠ bx) :
    ∀ (m j : Nat) (s : Shared) (vb : Value) (c : Nat), vs.length - (j + 1) = m → j + 1 ≤ vs.length → s.heap.IsListIter itr l (j + 1) → (∀ b o, h0.get? b = some o → s.heap.get? b = some o) → vb ∈ vs → (∀ i v, i < j + 1 → vs[i]? = some v → lex2 (k v) (k vb) = false) →
      s.heap.get? bx = some { cls := .type "list", dict := none, data := .seq #[vb, vb] c, slots := #[] } →
      (∀ v h' tk, v ∈ vs → (∀ u ∈ vs, lex2 (k u) (k v) = false) → (∀ b o, h0.get? b = some o → h'.get? b = some o) → R (.ok (.ret v)) { s with heap := h', toks := tk }) →
      codeAny (model prog w) A (.builtin "min.loop" ⟨[.ref itr, .none, .ref bx], []⟩) R s := by
  have nm : (toString "min" ++ toString ".loop" : String) = "min.loop" := by decide
  intro m
  induction m with
  | zero =>
    intro j s vb c hm hj hit hk hvb hle hbx q
    refine codeAny_builtin F.entry_min_loop (?g0)
    rw [Around.under_plainId F.plain_min_loop ⟨[.ref itr, .none, .ref bx], []⟩]
    show wpAny (model prog w) A.in1 (seqItems? (.ref bx) >>= _) _ _ s
    refine wpAny_bind (wpAny_seqItems hbx rfl (?g1))
    show wpAny (model prog w) A.in1 (tryCatch (pyNext (.ref itr)) _ >>= _) _ _ s
    refine wpAny_bind (wpAny_tryCatch (wpAny_pyNext_list_end (l := l) (i := j + 1) (items := vs.toArray) hh hit (hl _ hk) (by simp; omega) fun h1 e1 => ?_))
    have hbx1 := e1 bx _ (Ne.symm hne) hbx
    show wpAny (model prog w) A.in1 (updateSeq bx (fun _ => #[]) >>= _) _ _ _
    refine wpAny_bind (wpAny_updateSeq hbx1 rfl (wpAny_bind (wpAny_letGo (wpAny_pure (?g2)))))
    refine q vb _ _ hvb (fun u hu2 => ?_) fun b o hb => ?_
    · obtain ⟨i, hi⟩ := List.getElem?_of_mem hu2
      exact hle i u (by have := (List.getElem?_eq_some_iff.mp hi).1; omega) hi
    · have n1 : b ≠ bx := fun z => by rw [z, hb0] at hb; cases hb
      have n2 : b ≠ itr := fun z => by rw [z, hi0] at hb; cases hb
      exact (Heap.get?_update_other _ _ n1.symm).trans (e1 b o n2 (hk b o hb))
  | succ m ih =>
    intro j s vb c hm hj hit hk hvb hle hbx q
    have hlt : j + 1 < vs.length := (by omega)
    have hx : vs[j + 1]? = some vs[j + 1] := List.getElem?_eq_getElem hlt
    generalize vs[j + 1] = v at hx
    have hvm := List.mem_of_getElem? hx
    refine codeAny_builtin F.entry_min_loop (?k0)
    rw [Around.under_plainId F.plain_min_loop ⟨[.ref itr, .none, .ref bx], []⟩]
    show wpAny (model prog w) A.in1 (seqItems? (.ref bx) >>= _) _ _ s
    refine wpAny_bind (wpAny_seqItems hbx rfl (?k1))
    show wpAny (model prog w) A.in1 (tryCatch (pyNext (.ref itr)) _ >>= _) _ _ s
    refine wpAny_bind (wpAny_tryCatch (wpAny_pyNext_list_item (l := l) (i := j + 1) (items := vs.toArray) (x := v) hit (hl _ hk) (by simpa using hx) fun h1 it1 e1 => ?_))
    have hbx1 : h1.get? bx = _ := (e1.2 bx (Ne.symm hne)).trans hbx
    have hk1 : ∀ b o, h0.get? b = some o → h1.get? b = some o := fun b o hb => (e1.2 b (fun z => by rw [z, hi0] at hb; cases hb)).trans (hk b o hb)
    show wpAny (model prog w) A.in1 (tryCatch (holding [v, v] (richCompare .Lt v vb >>= _)) _ >>= _) _ _ _
    have cmp := duo_lt (A := A.in1) (s := { s with heap := h1 }) ((hv v hvm).up hk1) ((hv vb hvb).up hk1) hu
    refine wpAny_bind (wpAny_tryCatch (wpAny_holding (wpAny_bind (cmp prog w _ _ (?k2)))))
    refine wpAny_bind (wpAny_holding (wpAny_truthy_bool (?k3)))
    refine wpAny_bind (wpAny_letGo (wpAny_pure (?k4)))
    cases hc : lex2 (k v) (k vb) with
    | true =>
      rw [if_pos rfl]
      refine wpAny_bind (wpAny_updateSeq hbx1 rfl (wpAny_bind (wpAny_letGo (?k5))))
      rw [nm]
      refine wpAny_pure ⟨plainId_quiet F.plain_min_loop ⟨[.ref itr, .none, .ref bx], []⟩, ih (j + 1) _ v _ (by omega) hlt ?_ (fun b o hb => ?_) hvm (fun i u hi hu2 => ?_) (Heap.get?_update_self _ hbx1 rfl) fun v' h2 tk a1 a2 a3 => q v' h2 tk a1 a2 a3⟩
      · obtain ⟨o, ho, hr⟩ := it1
        exact ⟨o, (Heap.get?_update_other _ _ hne.symm).trans ho, hr⟩
      · exact (Heap.get?_update_other _ _ (fun z => by rw [← z, hb0] at hb; cases hb)).trans (hk1 b o hb)
      · by_cases z : i = j + 1
        · subst z
          rw [hx] at hu2
          cases hu2
          exact lex2_no.mpr (by omega)
        · have := hle i u (by omega) hu2
          have h3 := lex2_iff.mp hc
          have h4 := lex2_no.mp this
          exact lex2_no.mpr (by omega)
    | false =>
      rw [if_neg Bool.false_ne_true]
      refine wpAny_bind (wpAny_letGo (?k6))
      rw [nm]
      refine wpAny_pure ⟨plainId_quiet F.plain_min_loop ⟨[.ref itr, .none, .ref bx], []⟩, ih (j + 1) _ vb c (by omega) hlt it1 hk1 hvb (fun i u hi hu2 => ?_) hbx1 fun v' h2 tk a1 a2 a3 => q v' h2 tk a1 a2 a3⟩
      by_cases z : i = j + 1
      · subst z
        rw [hx] at hu2
        cases hu2
        exact hc
      · exact hle i u (by omega) hu2
end
section
variable {prog : Program} {w : World} {A : Around} {E : Value → Shared → Prop} {s : Shared} {l : Addr} {vs : List Value} {k : Value → Int × Int} {Q : Value → Shared → Prop}
theorem no_size {h : Heap} {b : Addr} (g : h.objs.size ≤ b) : h.get? b = none := by
  cases e : h.get? b with
  | none => rfl
  | some o => exact absurd (Heap.lt_size e) (Nat.not_lt.mpr g)
theorem call_min_duo (hh : A.handled = none) (hu : A.units + 1 < cLine) (hl : s.heap.IsList l vs.toArray) (hn : 0 < vs.length) (hv : ∀ v ∈ vs, IsDuo s.heap v (k v))
    (q : ∀ v h' tk, v ∈ vs → (∀ u ∈ vs, lex2 (k u) (k v) = false) → (∀ b o, s.heap.get? b = some o → h'.get? b = some o) → Q v { s with heap := h', toks := tk }) : wpAny (model prog w) A (call (.builtin "min") [.ref l]) Q E s := by
  have nm : (toString "min" ++ toString ".loop" : String) = "min.loop" := by decide
  have hlk : ∀ h : Heap, (∀ b o, s.heap.get? b = some o → h.get? b = some o) → h.IsList l vs.toArray := fun h e => by
    obtain ⟨o, g1, g2, g3⟩ := hl
    exact ⟨o, e _ _ g1, g2, g3⟩
  have hx : vs[0]? = some vs[0] := List.getElem?_eq_getElem hn
  generalize vs[0] = v0 at hx
  refine call_function_tree (id := "min") F.kind_min F.plain_min F.entry_min (F.args_min1 (.ref l)) ?_
  show wpAny (model prog w) A.in1 (Builtin.Builtins.bindParams "min" ["key", "default"] 0 ⟨[], []⟩ >>= _) _ _ s
  refine wpAny_bind (wpAny_of_eq (show Builtin.Builtins.bindParams "min" ["key", "default"] 0 ⟨[], []⟩ = pure [none, none] from rfl) (?m0))
  refine wpAny_bind (wpAny_pure (?m1))
  refine wpAny_bind (wpAny_pyIter_list hl (?m2))
  refine wpAny_bind (wpAny_newObj_type (?m3))
  rw [nm]
  generalize hH : s.heap.push { cls := Value.type "list_iterator", data := Data.fields #[Value.ref l, Value.int 0 0] } = H1
  have ks : H1.objs.size = s.heap.objs.size + 1 := by rw [← hH]; exact Heap.size_push _ _
  have hi1 : H1.IsListIter s.heap.objs.size l 0 := by
    rw [← hH]
    exact ⟨_, (Heap.get?_push_size _ rfl), rfl, rfl⟩
  have k1 : ∀ b o, s.heap.get? b = some o → H1.get? b = some o := fun b o e => by rw [← hH]; exact Heap.get?_push_of_some _ e
  generalize hG : H1.push _ = H2
  have hb2 : H2.get? H1.objs.size = some { cls := .type "list", dict := none, data := .seq #[] 0, slots := #[] } := by
    rw [← hG]
    exact (Heap.get?_push_size _ rfl)
  have k2 : ∀ b o, H1.get? b = some o → H2.get? b = some o := fun b o e => by rw [← hG]; exact Heap.get?_push_of_some _ e
  have hi2 : H2.IsListIter s.heap.objs.size l 0 := by
    obtain ⟨o, g1, g2⟩ := hi1
    exact ⟨o, k2 _ _ g1, g2⟩
  have hne : s.heap.objs.size ≠ H1.objs.size := by omega
  refine wpAny_pure ⟨plainId_quiet F.plain_min_loop ⟨[.ref s.heap.objs.size, .none, .ref H1.objs.size], []⟩, ?_⟩
  refine codeAny_builtin F.entry_min_loop (?m4)
  rw [(Around.under_plainId F.plain_min_loop _)]
  show wpAny (model prog w) A.in1 (seqItems? (.ref H1.objs.size) >>= _) _ _ _
  refine wpAny_bind (wpAny_seqItems hb2 rfl (?m5))
  show wpAny (model prog w) A.in1 (tryCatch (pyNext (.ref s.heap.objs.size)) _ >>= _) _ _ _
  refine wpAny_bind (wpAny_tryCatch (wpAny_pyNext_list_item (l := l) (i := 0) (items := vs.toArray) (x := v0) hi2 (hlk _ fun b o e => k2 b o (k1 b o e)) (by simpa using hx) fun h1 it1 e1 => ?_))
  have hb3 : h1.get? H1.objs.size = _ := (e1.2 _ (Ne.symm hne)).trans hb2
  have k3 : ∀ b o, s.heap.get? b = some o → h1.get? b = some o := fun b o e => (e1.2 b (fun z => by have g := Heap.lt_size e; rw [z] at g; exact Nat.lt_irrefl _ g)).trans (k2 b o (k1 b o e))
  show wpAny (model prog w) A.in1 (updateSeq H1.objs.size (fun _ => #[v0, v0]) >>= _) _ _ _
  refine wpAny_bind (wpAny_updateSeq hb3 rfl (?m6))
  rw [nm]
  refine wpAny_pure ⟨plainId_quiet F.plain_min_loop ⟨[.ref s.heap.objs.size, .none, .ref H1.objs.size], []⟩, duo_loop (h0 := s.heap) (l := l) (k := k) hh hu hlk hv (no_size (Nat.le_refl _)) (no_size (by omega)) hne _ 0 _ v0 _ rfl hn ?_ (fun b o e => ?_) (List.mem_of_getElem? hx) (fun i u hi hu2 => ?_) (Heap.get?_update_self _ hb3 rfl) fun v h' tk a1 a2 a3 => q v h' tk a1 a2 a3⟩
  · obtain ⟨o, ho, hr⟩ := it1
    exact ⟨o, (Heap.get?_update_other _ _ hne.symm).trans ho, hr⟩
  · exact (Heap.get?_update_other _ _ (fun z => by have g := Heap.lt_size e; rw [← z, ks] at g; exact Nat.not_lt.mpr (Nat.le_succ _) g)).trans (k3 b o e)
  · have : i = 0 := by omega
    subst this
    rw [hx] at hu2
    cases hu2
    exact lex2_no.mpr (by omega)
end
end SrtO
namespace L2
open PySem PySem.Spec PyProof.Rows
/-- min(xs), xs a list of pairs of whole numbers: one of them, none less -/
def rMin2 (K : PySem.W.Frag) : List V → Hp → VK → Prop := fun vs H Q => ∃ (a : Addr) (xs : List V) (k : V → Int × Int), vs = [V.ref a] ∧ SqL K H a xs ∧ 0 < xs.length ∧ (∀ x ∈ xs, ∃ t, x = V.ref t ∧ H t = some (.tup [.int (k x).1, .int (k x).2])) ∧ ∀ x, x ∈ xs → (∀ y ∈ xs, SrtO.lex2 (k y) (k x) = false) → Q x H
theorem vals2' {x y : V} {us : List Value} (r : Vals [x, y] us) : ∃ u w', us = [u, w'] ∧ RelV x u ∧ RelV y w' := by
  cases r with
  | cons a r => cases r with
    | cons b r => cases r; exact ⟨_, _, rfl, a, b⟩
theorem cr_min2 {X : Cx} (hu : X.A.units + 1 < cLine) (hc : X.calm = true := by rfl) : CallR X (.builtin "min") (rMin2 X.K) := by
  intro pins s σ H vs us Q I r h
  obtain ⟨a, xs, k, rfl, hs, hne, hx, q⟩ := h
  obtain ⟨its, rv, hl, hz⟩ := I.list hs
  rw [Vals.ref1 r]
  obtain ⟨e1, e2⟩ := refs_back rv fun x m => by
    obtain ⟨t, e, _⟩ := hx x m
    exact ⟨t, e⟩
  have mem : ∀ v ∈ its, backV v ∈ xs := fun v hv => by rw [e1]; exact List.mem_map.mpr ⟨v, hv, rfl⟩
  refine SrtO.call_min_duo (k := fun u => k (backV u)) (I.ok.hd hc) hu hl.isList (by rw [← rv.length]; exact hne) (fun v hv => ?_) fun v h' tk hvm hmin hk => ⟨backV v, H, I.kept hk, ?_, q _ (mem v hvm) fun y hy => ?_⟩
  · obtain ⟨t, rfl⟩ := e2 v hv
    obtain ⟨t', e, ht⟩ := hx _ (mem _ hv)
    cases e
    obtain ⟨_, its2, r2, o, ho, ho2, n, hd⟩ := I.hok _ _ ht
    obtain ⟨u1, u2, rfl, ri, rj⟩ := vals2' r2
    obtain ⟨t1, rfl⟩ := ri
    obtain ⟨t2, rfl⟩ := rj
    exact ⟨t, o, t1, t2, n, rfl, ho, ho2, hd⟩
  · obtain ⟨t, rfl⟩ := e2 v hvm
    exact rfl
  · rw [e1] at hy
    obtain ⟨u, hu2, rfl⟩ := List.mem_map.mp hy
    exact hmin u hu2
theorem kMinP {X : Cx} {K : PySem.W.Frag} (hu : X.A.units + 1 < cLine) (hc : X.calm = true := by rfl) (hK : X.K = K := by rfl) : CallR X (.builtin "min") (rMin2 K) := by subst hK; exact cr_min2 hu hc
end L2
namespace My
open PySem PySem.Spec PyProof.Rows L2
theorem range_getD {α : Type} (l : List α) (d : α) : ((List.range l.length).map fun j => l.getD j d) = l := by
  refine List.ext_getElem? fun i => ?_
  rw [List.getElem?_map]
  by_cases hi : i < l.length
  · rw [List.getElem?_range hi, List.getElem?_eq_getElem hi]
    show some (l.getD i d) = _
    rw [List.getD_eq_getElem?_getD, List.getElem?_eq_getElem hi]
    rfl
  · rw [List.getElem?_eq_none (by rw [List.length_range]; omega), List.getElem?_eq_none (by omega)]
    rfl
theorem flat2_flatten (ws : List (List Nat)) : (flat2 ws.length (fun i => (ws.getD i []).length) fun _ _ => true).map (fun p => (ws.getD p.1 []).getD p.2 0) = ws.flatten := by
  unfold flat2
  rw [List.map_flatMap]
  have e : (fun i => (((List.range (ws.getD i []).length).filter fun _ => true).map fun j => (i, j)).map fun p : Nat × Nat => (ws.getD p.1 []).getD p.2 0) = fun i => ws.getD i [] := by
    funext i
    rw [List.map_map, List.filter_eq_self.mpr fun _ _ => rfl]
    exact range_getD (ws.getD i []) 0
  rw [e, List.flatMap_def, range_getD]
theorem fold_flat {n : Nat} : ∀ (ws : List (List Nat)) {st : List Int}, StOk n st → foldS n true st ws = stepS n st ws.flatten true
  | [], st, o => o.ext (stepS_ok _ _ _ _) fun l => by
    rw [mem_up]
    exact ⟨fun h => ⟨by have := o.hi _ h; omega, .inl h⟩, fun h => h.2.elim id fun h => by simp at h⟩
  | w :: ws, st, o => by
    show foldS n true (stepS n st w true) ws = _
    rw [fold_flat ws (stepS_ok n st w true)]
    refine (stepS_ok _ _ _ _).ext (stepS_ok _ _ _ _) fun l => ?_
    rw [mem_up, mem_up, mem_up, List.flatten_cons, List.mem_append]
    constructor
    · rintro ⟨h1, h2 | h2⟩
      · exact ⟨h1, h2.2.elim .inl fun h => .inr (.inl h)⟩
      · exact ⟨h1, .inr (.inr h2)⟩
    · rintro ⟨h1, h2 | h2 | h2⟩
      · exact ⟨h1, .inl ⟨h1, .inl h2⟩⟩
      · exact ⟨h1, .inl ⟨h1, .inr h2⟩⟩
      · exact ⟨h1, .inr h2⟩
theorem flat_good {h : Hs} {s : Int} {st : List Int} (o : StOk h.n st) {ws : List (List Nat)} (r : RunOk h s true st ws) : ∀ k, k ≤ ws.length → (ws.take k).flatten.Nodup ∧ ∀ l ∈ (ws.take k).flatten, l < h.n ∧ ¬ (l : Int) ∈ st
  | 0, _ => by simp
  | k + 1, hk => by
    obtain ⟨h1, h2⟩ := flat_good o r k (by omega)
    have e := r k ws[k] (List.getElem?_eq_getElem hk)
    have eg : (ws.take (k + 1)).flatten = (ws.take k).flatten ++ ws[k] := by
      rw [List.take_succ, List.getElem?_eq_getElem hk, List.flatten_append]
      show _ ++ [ws[k]].flatten = _
      rw [List.flatten_cons, List.flatten_nil, List.append_nil]
    have key : ∀ l ∈ ws[k], l < h.n ∧ ¬ (l : Int) ∈ st ∧ l ∉ (ws.take k).flatten := fun l hl => by
      rw [e] at hl
      obtain ⟨a, b, _⟩ := mem_want.mp hl
      have b2 := of_decide_eq_false b
      rw [fold_flat _ o, mem_up] at b2
      exact ⟨a, fun z => b2 ⟨a, .inl z⟩, fun z => b2 ⟨a, .inr z⟩⟩
    rw [eg]
    refine ⟨List.nodup_append.mpr ⟨h1, ?_, fun a ha b hb ab => (key b hb).2.2 (ab ▸ ha)⟩, fun l hl => ?_⟩
    · rw [e]
      exact List.nodup_iff_pairwise_ne.mpr ((want_rise h _ s true).imp fun {a b} hab => by omega)
    · rcases List.mem_append.mp hl with hl | hl
      · exact h2 l hl
      · exact ⟨(key l hl).1, (key l hl).2.1⟩
theorem nodup_len {n : Nat} {ls : List Nat} (nd : ls.Nodup) (hl : ∀ l ∈ ls, l < n) : ls.length ≤ n := by
  have p : ls.Perm ((List.range n).filter fun l => decide (l ∈ ls)) := (List.perm_ext_iff_of_nodup nd (List.nodup_iff_pairwise_ne.mpr ((List.pairwise_lt_range).imp fun {a b} hab => by omega) |>.filter _)).mpr fun l => by
    rw [List.mem_filter, List.mem_range, decide_eq_true_eq]
    exact ⟨fun h => ⟨hl l h, h⟩, fun h => h.2⟩
  rw [p.length_eq]
  exact Nat.le_trans (List.length_filter_le _ _) (by simp)
theorem mov_self {h : Hs} {T : List Int} (o : StOk h.n T) : nints (h.mov T false) = T.map V.int := by
  rw [nints_ints]
  congr 1
  have e : T = canon h.n fun l => decide ((l : Int) ∈ T) != false := o.ext (canon_ok _ _) fun l => by
    rw [mem_canon]
    exact ⟨fun h => ⟨by have := o.hi _ h; omega, by simpa using h⟩, fun h => by simpa using h.2⟩
  exact e.symm

theorem fold_flatU {n : Nat} {up : Bool} : ∀ (ws : List (List Nat)) {st : List Int}, StOk n st → foldS n up st ws = stepS n st ws.flatten up
  | [], st, o => by
    refine o.ext (stepS_ok _ _ _ _) fun l => ?_
    cases up with
    | true =>
      rw [mem_up]
      exact ⟨fun h => ⟨by have := o.hi _ h; omega, .inl h⟩, fun h => h.2.elim id fun h => by simp at h⟩
    | false =>
      rw [mem_down]
      exact ⟨fun h => ⟨by have := o.hi _ h; omega, h, by simp⟩, fun h => h.2.1⟩
  | w :: ws, st, o => by
    show foldS n up (stepS n st w up) ws = _
    rw [fold_flatU ws (stepS_ok n st w up)]
    refine (stepS_ok _ _ _ _).ext (stepS_ok _ _ _ _) fun l => ?_
    cases up with
    | true =>
      rw [mem_up, mem_up, mem_up, List.flatten_cons, List.mem_append]
      constructor
      · rintro ⟨h1, h2 | h2⟩
        · exact ⟨h1, h2.2.elim .inl fun h => .inr (.inl h)⟩
        · exact ⟨h1, .inr (.inr h2)⟩
      · rintro ⟨h1, h2 | h2 | h2⟩
        · exact ⟨h1, .inl ⟨h1, .inl h2⟩⟩
        · exact ⟨h1, .inl ⟨h1, .inr h2⟩⟩
        · exact ⟨h1, .inr h2⟩
    | false =>
      rw [mem_down, mem_down, mem_down, List.flatten_cons, List.mem_append]
      constructor
      · rintro ⟨h1, ⟨_, h2, h3⟩, h4⟩
        exact ⟨h1, h2, fun z => z.elim h3 h4⟩
      · rintro ⟨h1, h2, h3⟩
        exact ⟨h1, ⟨h1, h2, fun z => h3 (.inl z)⟩, fun z => h3 (.inr z)⟩
theorem flat_goodU {h : Hs} {s : Int} {up : Bool} {st : List Int} (o : StOk h.n st) {ws : List (List Nat)} (r : RunOk h s up st ws) : ∀ k, k ≤ ws.length → (ws.take k).flatten.Nodup ∧ ∀ l ∈ (ws.take k).flatten, l < h.n ∧ decide ((l : Int) ∈ st) = !up
  | 0, _ => by simp
  | k + 1, hk => by
    obtain ⟨h1, h2⟩ := flat_goodU o r k (by omega)
    have e := r k ws[k] (List.getElem?_eq_getElem hk)
    have eg : (ws.take (k + 1)).flatten = (ws.take k).flatten ++ ws[k] := by
      rw [List.take_succ, List.getElem?_eq_getElem hk, List.flatten_append]
      show _ ++ [ws[k]].flatten = _
      rw [List.flatten_cons, List.flatten_nil, List.append_nil]
    have key : ∀ l ∈ ws[k], l < h.n ∧ decide ((l : Int) ∈ st) = (!up) ∧ l ∉ (ws.take k).flatten := fun l hl => by
      rw [e] at hl
      obtain ⟨a, b, _⟩ := mem_want.mp hl
      rw [fold_flatU _ o] at b
      cases up with
      | true =>
        have b2 := of_decide_eq_false b
        rw [mem_up] at b2
        exact ⟨a, decide_eq_false fun z => b2 ⟨a, .inl z⟩, fun z => b2 ⟨a, .inr z⟩⟩
      | false =>
        have b2 := of_decide_eq_true b
        rw [mem_down] at b2
        exact ⟨a, decide_eq_true b2.2.1, b2.2.2⟩
    rw [eg]
    refine ⟨List.nodup_append.mpr ⟨h1, ?_, fun a ha b hb ab => (key b hb).2.2 (ab ▸ ha)⟩, fun l hl => ?_⟩
    · rw [e]
      exact List.nodup_iff_pairwise_ne.mpr ((want_rise h _ s up).imp fun {a b} hab => by omega)
    · rcases List.mem_append.mp hl with hl | hl
      · exact h2 l hl
      · exact ⟨(key l hl).1, (key l hl).2.1⟩
/-! falls, one behind the other -/
def endF (n : Nat) (up : Bool) (st : List Int) (fs : List (Int × List (List Nat))) : List Int := fs.foldl (fun c f => foldS n up c f.2) st
theorem endF_snoc (n : Nat) (up : Bool) (st : List Int) (fs : List (Int × List (List Nat))) (f : Int × List (List Nat)) : endF n up st (fs ++ [f]) = foldS n up (endF n up st fs) f.2 := by
  unfold endF
  rw [List.foldl_append]
  rfl
def NextAt (h : Hs) (up : Bool) (c : List Int) (s : Int) : Prop := (∃ l ∈ h.mov c up, h.need c up l = lev s up) ∧ ∀ l ∈ h.mov c up, lev s up ≤ h.need c up l
structure FallsR (h : Hs) (up : Bool) (st : List Int) (fs : List (Int × List (List Nat))) : Prop where
  next : ∀ (i : Nat) (f : Int × List (List Nat)), fs[i]? = some f → NextAt h up (endF h.n up st (fs.take i)) f.1
  run : ∀ (i : Nat) (f : Int × List (List Nat)), fs[i]? = some f → RunOk h f.1 up (endF h.n up st (fs.take i)) f.2
  clo : ∀ (i : Nat) (f : Int × List (List Nat)), fs[i]? = some f → Clo h f.1 up (endF h.n up st (fs.take i)) (endF h.n up st (fs.take (i + 1)))
  ne : ∀ (i : Nat) (f : Int × List (List Nat)), fs[i]? = some f → ∀ w ∈ f.2, w ≠ []
theorem FallsR.nil {h : Hs} {up : Bool} {st : List Int} : FallsR h up st [] := ⟨fun i f e => by simp at e, fun i f e => by simp at e, fun i f e => by simp at e, fun i f e => by simp at e⟩
theorem FallsR.snoc {h : Hs} {up : Bool} {st : List Int} {fs : List (Int × List (List Nat))} {s : Int} {ws : List (List Nat)} (a : FallsR h up st fs) (b : NextAt h up (endF h.n up st fs) s) (c : RunOk h s up (endF h.n up st fs) ws) (d : Clo h s up (endF h.n up st fs) (foldS h.n up (endF h.n up st fs) ws)) (e : ∀ w ∈ ws, w ≠ []) : FallsR h up st (fs ++ [(s, ws)]) := by
  have key : ∀ {P : Nat → (Int × List (List Nat)) → Prop}, (∀ i f, fs[i]? = some f → P i f) → P fs.length (s, ws) → ∀ i f, (fs ++ [(s, ws)])[i]? = some f → P i f := by
    intro P h1 h2 i f hi
    rcases Nat.lt_or_ge i fs.length with hl | hl
    · rw [List.getElem?_append_left hl] at hi
      exact h1 i f hi
    · rw [List.getElem?_append_right hl] at hi
      have e0 : i - fs.length = 0 := by
        have := (List.getElem?_eq_some_iff.mp hi).1
        simp at this
        omega
      rw [e0] at hi
      simp at hi
      have e2 : i = fs.length := by omega
      subst e2 hi
      exact h2
  have tk : ∀ i, i ≤ fs.length → (fs ++ [(s, ws)]).take i = fs.take i := fun i hi => List.take_append_of_le_length hi
  have ta : (fs ++ [(s, ws)]).take (fs.length + 1) = fs ++ [(s, ws)] := List.take_of_length_le (by simp)
  refine ⟨key (fun i f hi => ?_) ?_, key (fun i f hi => ?_) ?_, key (fun i f hi => ?_) ?_, key (fun i f hi => a.ne i f hi) e⟩
  · rw [tk i (by have := (List.getElem?_eq_some_iff.mp hi).1; omega)]
    exact a.next i f hi
  · rw [tk _ (Nat.le_refl _), List.take_length]
    exact b
  · rw [tk i (by have := (List.getElem?_eq_some_iff.mp hi).1; omega)]
    exact a.run i f hi
  · rw [tk _ (Nat.le_refl _), List.take_length]
    exact c
  · have hl := (List.getElem?_eq_some_iff.mp hi).1
    rw [tk i (by omega), tk (i + 1) (by omega)]
    exact a.clo i f hi
  · rw [ta, tk _ (Nat.le_refl _), List.take_length, endF_snoc]
    exact d
def FallV (K : PySem.W.Frag) (H : Hp) (x : V) (f : Int × List (List Nat)) : Prop := ∃ T pw rs, x = .ref T ∧ H T = some (.tup [.int f.1, .ref pw]) ∧ H pw = some (.lst rs) ∧ WavesV pw H rs f.2
theorem FallV.up {K : PySem.W.Frag} {H H' : Hp} {x : V} {f : Int × List (List Nat)} (w : FallV K H x f) (e : Ex H H') : FallV K H' x f := by
  obtain ⟨T, pw, rs, h1, h2, h3, h4⟩ := w
  exact ⟨T, pw, rs, h1, e _ _ h2, e _ _ h3, h4.exB e.exB⟩
/-- the two numbers of a pair -/
def duoOf (H : Hp) (x : V) : Int × Int := match x with
  | .ref T => (match H T with | some (.tup [.int a, .int b]) => (a, b) | _ => (0, 0))
  | _ => (0, 0)
theorem duoOf_eq {H : Hp} {T : Addr} {a b : Int} (h : H T = some (.tup [.int a, .int b])) : duoOf H (.ref T) = (a, b) := by
  unfold duoOf
  dsimp only
  rw [h]
theorem s_minW {K : PySem.W.Frag} {H : Hp} {Q : VK} {p : Addr} {xs : List V} {as : List Nat} {f : Nat → Int} (hp : H p = some (.lst xs)) (hal : Al (fun v (l : Nat) => ∃ T, v = .ref T ∧ H T = some (.tup [.int (f l), .int (l : Int)])) xs as) (hne : 0 < as.length)
    (q : ∀ l T, l ∈ as → (∀ m ∈ as, f l ≤ f m) → H T = some (.tup [.int (f l), .int (l : Int)]) → Q (.ref T) H) : L2.rMin2 K [.ref p] H Q := by
  refine ⟨p, xs, duoOf H, rfl, .of hp, by rw [hal.1]; exact hne, fun x hx => ?_, fun x hx hmin => ?_⟩
  · obtain ⟨i, hi⟩ := List.getElem?_of_mem hx
    obtain ⟨l, hl, T, rfl, hT⟩ := hal.get hi
    refine ⟨T, rfl, ?_⟩
    rw [duoOf_eq hT]
    exact hT
  · obtain ⟨i, hi⟩ := List.getElem?_of_mem hx
    obtain ⟨l, hl, T, rfl, hT⟩ := hal.get hi
    refine q l T (List.mem_of_getElem? hl) (fun m hm => ?_) hT
    obtain ⟨j, hj⟩ := List.getElem?_of_mem hm
    obtain ⟨y, hy, T2, rfl, hT2⟩ := hal.get' hj
    have := SrtO.lex2_no.mp (hmin _ (List.mem_of_getElem? hy))
    rw [duoOf_eq hT, duoOf_eq hT2] at this
    dsimp only at this
    omega
def optV : Option Int → V
  | none => .non
  | some z => .int z
/-- a comprehension over what a call tells: the call first -/
theorem lc_call {K : PySem.W.Frag} {ta te : TE} {g : TG} {tt : TT} {vs : List Nat} {σ : L2.St} {H : Hp} {Q : VK} (h : ta σ H fun v H1 => ∃ a, v = .ref a ∧ (∃ xs, SqL K H1 a xs) ∧ tLc (fun _ H2 R => R (Itl K a) H2) g tt te vs σ H1 Q) : tLc (iList K ta) g tt te vs σ H Q := h
theorem evn_lA {K : PySem.W.Frag} {α : Type} {σ : L2.St} {H : Hp} {a : Addr} {xs : List V} {as : List α} {R : Hp → V → α → Prop} (hx : SqL K H a xs) (hal : Al (R H) xs as) (mono : ∀ H' x i, Ex H H' → R H x i → R H' x i) : EvN (fun _ H2 R => R (Itl K a) H2) σ H as.length (fun i x H2 => ∃ b, as[i]? = some b ∧ R H2 x b) := fun R2 k => k _ _ Ex.rfl (ok_lA hx hal mono)
theorem al_lastG {α : Type} {R : V → α → Prop} {rs : List V} {as : List α} {a : α} (h : Al R rs (as ++ [a])) : ∃ rs0 x, rs = rs0 ++ [x] ∧ R x a := by
  obtain ⟨x, hx, hr⟩ := h.get' (i := as.length) (a := a) (by rw [List.getElem?_append_right (Nat.le_refl _), Nat.sub_self]; rfl)
  have hl : rs.length = as.length + 1 := by rw [h.1, List.length_append]; rfl
  refine ⟨rs.take as.length, x, ?_, hr⟩
  have e := List.take_append_drop as.length rs
  have hd : rs.drop as.length = [x] := by
    obtain ⟨h1, h2⟩ := List.getElem?_eq_some_iff.mp hx
    rw [List.drop_eq_getElem_cons h1, h2, List.drop_of_length_le (by omega)]
  rw [hd] at e
  exact e.symm
end My

namespace My
open PySem PySem.Spec PyProof.Rows L2
/-! ### lists of tuples of numbers, compared -/
def dLT (ass : List (List Int)) : PyData := .list (ass.map dT)
theorem dpLT {K : PySem.W.Frag} {H : Hp} {r : Addr} {xs : List V} {ass : List (List Int)} (h : SqL K H r xs) (hal : Al (fun x T => ∃ t, x = V.ref t ∧ SqT K H t (T.map V.int)) xs ass) : Dp K H (.ref r) (dLT ass) := by
  refine .lst h ?_
  clear h
  induction ass generalizing xs with
  | nil =>
    have : xs = [] := List.length_eq_zero_iff.mp hal.1
    subst this
    exact .nil
  | cons a t ih =>
    cases xs with
    | nil => have := hal.1; simp at this
    | cons x xs =>
      obtain ⟨⟨b, rfl, hb⟩, h2⟩ := hal.inv
      exact .cons (dpT hb) (ih h2)
theorem lay_lt : ∀ ass : List (List Int), PyData.canLayAll0 (ass.map dT) = true ∧ PyData.depthAll (ass.map dT) ≤ 1
  | [] => by simp [PyData.canLayAll0, PyData.depthAll]
  | x :: r => by
    have h := lay_lt r
    have h1 := lay_int x
    have e : PyData.canLay0 (dT x) = true ∧ PyData.depth (dT x) ≤ 1 := by
      unfold dT
      simp [PyData.canLay0, PyData.depth, h1.1, h1.2]
    rw [List.map_cons]
    unfold PyData.canLayAll0 PyData.depthAll
    rw [h.1, e.1]
    have h2 := h.2
    have e2 := e.2
    exact ⟨rfl, by omega⟩
theorem shLT (ass : List (List Int)) : SeqAt.shaped (dLT ass) = true := by
  have h1 := lay_lt ass
  unfold SeqAt.shaped dLT
  simp [PyData.canLay0, PyData.depth, h1.1]
  omega
theorem eqAll_lt : ∀ ass : List (List Int), PyData.eqvAll (ass.map dT) (ass.map dT) = true
  | [] => by simp [PyData.eqvAll]
  | x :: r => by
    rw [List.map_cons]
    unfold PyData.eqvAll
    rw [eqAll_lt r, eqT]
    rfl
theorem eqLT (ass : List (List Int)) : PyData.eqv (dLT ass) (dLT ass) = true := by
  unfold dLT PyData.eqv
  exact eqAll_lt ass
section
variable {K : PySem.W.Frag} {H : Hp} {Q : VK} {p r : Addr} {xs ys : List V} {Ts : List (List Int)}
theorem s_neLT (h1 : SqL K H p xs) (a1 : Al (fun x T => ∃ t, x = V.ref t ∧ SqT K H t (T.map V.int)) xs Ts) (h2 : SqL K H r ys) (a2 : Al (fun x T => ∃ t, x = V.ref t ∧ SqT K H t (T.map V.int)) ys Ts) (q : Q (.bl false) H) : rNeD K (.ref p) (.ref r) H Q := ⟨_, _, dpLT h1 a1, dpLT h2 a2, shLT _, shLT _, by rw [eqLT]; exact q⟩
theorem s_eqLT (h1 : SqL K H p xs) (a1 : Al (fun x T => ∃ t, x = V.ref t ∧ SqT K H t (T.map V.int)) xs Ts) (h2 : SqL K H r ys) (a2 : Al (fun x T => ∃ t, x = V.ref t ∧ SqT K H t (T.map V.int)) ys Ts) (q : Q (.bl true) H) : rEqD K (.ref p) (.ref r) H Q := ⟨_, _, dpLT h1 a1, dpLT h2 a2, shLT _, shLT _, by rw [eqLT]; exact q⟩
end
end My
/-! ### sorted of two tuples, the one empty, the other of a nought -/
namespace SrtO
open PySem PySem.Calls PyProof.Rows Srt
def IsZs (h : Heap) (v : Value) (k : Nat) : Prop := ∃ a o xs n, v = .ref a ∧ h.get? a = some o ∧ o.cls = .type "tuple" ∧ o.data = .seq xs n ∧ xs.size = k ∧ ∀ i (hi : i < xs.size), ∃ t, xs[i] = Value.int 0 t
theorem IsZs.keeps {h h' : Heap} {v : Value} {k : Nat} (p : IsZs h v k) (kp : ∀ b o, h.get? b = some o → o.cls = .type "tuple" → h'.get? b = some o) : IsZs h' v k := by
  obtain ⟨a, o, xs, n, e, ho, hc, hd⟩ := p
  exact ⟨a, o, xs, n, e, kp _ _ ho hc, hc, hd⟩
theorem firstLt_all (r : Nat → Bool) (fin : Bool) : ∀ l : List Nat, SeqAt.firstLt (fun _ => true) r fin l = fin
  | [] => rfl
  | i :: l => by
    rw [SeqAt.firstLt_yes rfl]
    exact firstLt_all r fin l
theorem swo_len {α : Type} (k : α → Nat) : Swo fun v u => decide (k v < k u) := by
  refine ⟨fun x y h => ?_, fun x y z h1 h2 => ?_⟩
  · have := of_decide_eq_true h
    exact decide_eq_false (by omega)
  · have a := of_decide_eq_false h1
    have b := of_decide_eq_false h2
    exact decide_eq_false (by omega)
section
variable {prog : Program} {w : World} {A : Around} {E : Value → Shared → Prop} {s : Shared}
theorem zs_rc {v u : Value} {k m : Nat} (h1 : IsZs s.heap v k) (h2 : IsZs s.heap u m) (hu : A.units < cLine) : SeqAt.RcLt A s v u (decide (k < m)) := by
  obtain ⟨a, o, xs, n, rfl, ho, hc, hd, hk, hz⟩ := h1
  obtain ⟨b, o2, ys, n2, rfl, ho2, hc2, hd2, hk2, hz2⟩ := h2
  have R := SeqAt.RcLt.tuples (A := A) (s := s) (e := fun _ => true) (r := fun _ => false) ⟨o, ho, hc, n, hd⟩ ⟨o2, ho2, hc2, n2, hd2⟩ hu (fun j g1 g2 => by
    obtain ⟨t, e⟩ := hz j g1
    obtain ⟨t2, e2⟩ := hz2 j g2
    rw [e, e2]
    exact SeqAt.EqAt.int_int 0 t 0 t2) (fun j g1 g2 h => by cases h)
  rw [firstLt_all, hk, hk2] at R
  exact R
theorem zs_one {v u : Value} {k m : Nat} {c : Bool} {Q : Bool → Shared → Prop} (h1 : IsZs s.heap v k) (h2 : IsZs s.heap u m) (hu : A.units < cLine) (q : Q (decide (k < m)) s) : wpAny (model prog w) A (oneLt' c v u) Q E s := by
  cases c with
  | false =>
    rw [oneLt'_eq]
    simp only [Bool.false_eq_true, if_false]
    exact wpAny_bind (zs_rc h1 h2 hu prog w E _ (wpAny_truthy_bool q))
  | true =>
    obtain ⟨a, ⟨cls, dd, data, sl⟩, xs, n, rfl, ho, hc, hd, hk, hz⟩ := h1
    obtain ⟨b, ⟨cls2, dd2, data2, sl2⟩, ys, n2, rfl, ho2, hc2, hd2, hk2, hz2⟩ := h2
    simp only at hc hd hc2 hd2
    subst hc hd hc2 hd2
    rw [oneLt'_eq]
    simp only [if_true]
    refine wpAny_bind (wpAny_cRoomFor hu ?_)
    refine wpAny_bind (wpAny_callSpecialIfBound?_slot (T := "tuple") ⟨_, ho, rfl⟩ F.slot_tuple_lt (call_meets F.slot_tuple_lt ⟨_, ho, rfl⟩ F.entry_tuple_lt (F.args_tuple_lt_2 _ _) (SeqAt.tuple_ltAt a b xs ys n n2 dd dd2 sl sl2 (fun _ => true) (fun _ => false)) ⟨ho, ho2, fun j g1 g2 => ?_, fun j g1 g2 h => ?_, ?_⟩))
    · obtain ⟨t, e⟩ := hz j g1
      obtain ⟨t2, e2⟩ := hz2 j g2
      rw [e, e2]
      exact SeqAt.EqAt.int_int 0 t 0 t2
    · cases h
    · rw [firstLt_all, hk, hk2]
      exact wpAny_truthy_bool q
theorem zs_first {M : Model} {v : Value} {k : Nat} {Q : Option Value → Shared → Prop} (h : IsZs s.heap v k) (q : ∀ f, (f.isSome = true ↔ 0 < k) → Q f s) : wpAny M A (firstOfTuple' v) Q E s := by
  obtain ⟨a, o, xs, n, rfl, ho, hc, hd, hk, hz⟩ := h
  rw [PySem.W.kas_first_eq]
  refine wpAny_bind (PySem.W.Looks.here (show PySem.W.Looks M s.heap (typeOf (.ref a)) o.cls from (PySem.W.Looks.ld ho).andThen .now) ?_)
  rw [hc, if_neg (by first | decide | simp)]
  refine wpAny_bind (listItems_at ho hd (wpAny_pure (q _ ?_)))
  rw [← hk]
  simp
theorem zs_type {M : Model} {v : Value} {k : Nat} (h : IsZs s.heap v k) : PySem.W.Looks M s.heap (typeOf v) (.type "tuple") := by
  obtain ⟨a, o, xs, n, rfl, ho, hc, hd, hk, hz⟩ := h
  rw [← hc]
  exact (PySem.W.Looks.ld ho).andThen .now
theorem zs_firsts {v u : Value} {k m : Nat} {Q : List (Option Value) → Shared → Prop} {M : Model} (h1 : IsZs s.heap v k) (h2 : IsZs s.heap u m) (q : ∀ f g, (f.isSome = true ↔ 0 < k) → (g.isSome = true ↔ 0 < m) → Q [f, g] s) : wpAny M A ([v, u].mapM firstOfTuple') Q E s := by
  rw [List.mapM_cons, List.mapM_cons, List.mapM_nil]
  exact wpAny_bind (zs_first h1 fun f hf => wpAny_bind (wpAny_bind (zs_first h2 fun g hg => wpAny_bind (wpAny_pure (wpAny_pure (wpAny_pure (q f g hf hg)))))))
theorem zs_kind0 {v u : Value} {m : Nat} {Q : SortKind → Shared → Prop} {M : Model} (h1 : IsZs s.heap v 0) (h2 : IsZs s.heap u m) (q : Q oneType' s) : wpAny M A (keyKind' [v, u].toArray) Q E s := by
  rw [keyKind'_eq, List.mapM_toArray, map_eq_pure_bind]
  refine wpAny_bind (wpAny_bind (zs_firsts h1 h2 fun f g hf hg => wpAny_pure ?_))
  have e : f = none := by
    cases f with
    | none => rfl
    | some _ => have := hf.mp rfl; omega
  subst e
  rw [if_neg (by simp), if_neg (by simp)]
  rw [oneTypeOnly'_eq, List.mapM_toArray, map_eq_pure_bind]
  refine wpAny_bind (wpAny_bind (wpAny_bind (PySem.W.kas_mapM (r := Value.type "tuple") _ (fun x hx Q' hq => ?_) (wpAny_pure ?_))))
  · rcases List.mem_cons.mp hx with rfl | hx
    · exact (zs_type h1).here hq
    · rw [List.mem_singleton.mp hx]
      exact (zs_type h2).here hq
  · have hall : ((List.map (fun _ => Value.type "tuple") [v, u]).toArray.all fun x => x == Value.type "tuple") = true := by
      simp only [List.all_toArray, List.all_map, List.all_eq_true]
      intro _ _
      rfl
    have h0 : (List.map (fun _ => Value.type "tuple") [v, u]).toArray[0]? = some (Value.type "tuple") := by simp
    rw [h0]
    simp only [hall, if_true]
    exact wpAny_pure (wpAny_pure q)
theorem zs_kind1 {v u : Value} {k : Nat} {Q : SortKind → Shared → Prop} {M : Model} (h1 : IsZs s.heap v k) (hk : 0 < k) (h2 : IsZs s.heap u 0) (q : Q general' s) : wpAny M A (keyKind' [v, u].toArray) Q E s := by
  rw [keyKind'_eq, List.mapM_toArray, map_eq_pure_bind]
  refine wpAny_bind (wpAny_bind (zs_firsts h1 h2 fun f g hf hg => wpAny_pure ?_))
  have e : g = none := by
    cases g with
    | none => rfl
    | some _ => have := hg.mp rfl; omega
  subst e
  obtain ⟨x, rfl⟩ : ∃ x, f = some x := Option.isSome_iff_exists.mp (hf.mpr hk)
  rw [if_neg (by simp), if_pos (by simp)]
  exact wpAny_pure q
end
end SrtO
namespace SrtO
open PySem PySem.Calls PyProof.Rows Srt
section
variable {prog : Program} {w : World} {A : Around} {E : Value → Shared → Prop} {s : Shared}
theorem zs_cmp {vs : List Value} {k : Value → Nat} {κ : SortKind} {c : Bool} (hκ : ∀ x y, keyLt' κ x y = oneLt' c x y) (hp : ∀ v ∈ vs, IsZs s.heap v (k v)) (hu : A.units < cLine) : Cmp prog w A s κ (fun p => p.1 ∈ vs) (lt2 fun v u => decide (k v < k u)) := by
  intro p q hm hm'
  rw [hκ]
  exact zs_one (hp _ hm) (hp _ hm') hu ⟨rfl, rfl⟩
theorem sorted_zs {l : Addr} {v u : Value} {k : Value → Nat} {Q : Value → Shared → Prop} (hl : s.heap.IsList l [v, u].toArray) (h1 : IsZs s.heap v (k v)) (h2 : IsZs s.heap u (k u)) (hkm : k v = 0 ∨ k u = 0) (hu : A.units + 64 < cLine)
    (h : ∀ (h' : Heap) (d : Addr) (out : List Value), Srtd (fun v u => decide (k v < k u)) out → Stb (fun v u => decide (k v < k u)) out [v, u] → (∀ b o, s.heap.get? b = some o → h'.get? b = some o) → s.heap.objs.size ≤ d → (∃ n, h'.get? d = some (seqObj "list" out.toArray n)) → Q (.ref d) { s with heap := h' }) :
    wpAny (model prog w) A (call (.builtin "sorted") [.ref l]) Q E s := by
  have hp : ∀ x ∈ [v, u], IsZs s.heap x (k x) := fun x hx => by
    rcases List.mem_cons.mp hx with rfl | hx
    · exact h1
    · rw [List.mem_singleton.mp hx]; exact h2
  refine sorted_ord (swo_len k) hl (by show 2 ≤ sizeLine; decide) (fun _ h₁ a ha kk => ?_) fun out hs hb => ?_
  · intro h' keep
    have hp' : ∀ x ∈ [v, u], IsZs h' x (k x) := fun x hx => ((hp x hx).keeps fun b o e _ => (kk b o e).2).keeps fun b o e c => keep b o (fun z => by
      subst z
      have e' : some o = some (seqObj "list" [v, u].toArray 0) := e.symm.trans ha
      cases e'
      exact absurd (Value.type.inj c) (by decide)) e
    have hu2 : A.in1.in1.units < cLine := by
      have : A.in1.in1.units = A.units + 1 + 1 := rfl
      omega
    have kd : ∃ κ, (∃ c, ∀ x y, keyLt' κ x y = oneLt' c x y) ∧ ∀ (Q : SortKind → Shared → Prop) (E : Value → Shared → Prop), Q κ { s with heap := h' } → wpAny (model prog w) A.in1.in1 (keyKind' [v, u].toArray) Q E { s with heap := h' } := by
      by_cases z : k v = 0
      · exact ⟨oneType', ⟨true, fun _ _ => rfl⟩, fun Q E q => zs_kind0 (s := { s with heap := h' }) (z ▸ hp' v (by simp)) (hp' u (by simp)) q⟩
      · exact ⟨general', ⟨false, fun _ _ => rfl⟩, fun Q E q => zs_kind1 (s := { s with heap := h' }) (hp' v (by simp)) (by omega) ((hkm.resolve_left z) ▸ hp' u (by simp)) q⟩
    obtain ⟨κ, ⟨c, hκ⟩, hk⟩ := kd
    exact ⟨κ, hk, zs_cmp (s := { s with heap := h' }) hκ hp' hu2⟩
  · exact h _ _ out hs hb (fun b o e => sortedAll_old e) (Nat.le_succ _) (sortedAll_at s.heap [v, u] out.toArray)
end
end SrtO
namespace L2
open PySem PySem.Spec PyProof.Rows
def noughts (k : Nat) : List V := List.replicate k (V.int 0)
def rSorted2Z (K : PySem.W.Frag) : List V → Hp → VK → Prop := fun vs H Q => ∃ (a t0 t1 : Addr) (xs : List V), vs = [V.ref a] ∧ SqL K H a xs ∧ SqT K H t0 [] ∧ SqT K H t1 [.int 0] ∧ (xs = [.ref t0, .ref t1] ∨ xs = [.ref t1, .ref t0]) ∧ ∀ p, H p = none → Q (.ref p) (upd H p (.lst [.ref t0, .ref t1]))
section
variable {X : Cx}
theorem Inv.zs0 {pins : List (Addr × Obj)} {σ : St} {H : Hp} {s : Shared} {b : Addr} (I : Inv X pins σ H s) (h : SqT X.K H b []) : SrtO.IsZs s.heap (.ref b) 0 := by
  obtain ⟨its, r, ⟨o, ho, hc, n, hd⟩, _⟩ := I.tuple h
  cases r
  exact ⟨b, o, _, n, rfl, ho, hc, hd, rfl, fun i hi => by simp at hi⟩
theorem Inv.zs1 {pins : List (Addr × Obj)} {σ : St} {H : Hp} {s : Shared} {b : Addr} (I : Inv X pins σ H s) (h : SqT X.K H b [.int 0]) : SrtO.IsZs s.heap (.ref b) 1 := by
  obtain ⟨its, r, ⟨o, ho, hc, n, hd⟩, _⟩ := I.tuple h
  obtain ⟨u, rfl, t, rfl⟩ := vals1 r
  exact ⟨b, o, _, n, rfl, ho, hc, hd, rfl, fun i hi => ⟨t, by
    have : i = 0 := by simp at hi; omega
    subst this
    rfl⟩⟩
theorem cr_sorted2Z (hu : X.A.units + 64 < cLine) : CallR X (.builtin "sorted") (rSorted2Z X.K) := by
  intro pins s σ H vs us Q I r h
  obtain ⟨a, t0, t1, xs, rfl, hs, h0, h1, hx, q⟩ := h
  obtain ⟨its, rv, hl, hz⟩ := I.list hs
  rw [Vals.ref1 r]
  have z0 := I.zs0 h0
  have z1 := I.zs1 h1
  have hne : t0 ≠ t1 := fun e => by
    subst e
    obtain ⟨_, o, xs, n, e1, ho, _, hd, hk, _⟩ := z0
    obtain ⟨_, o', xs', n', e1', ho', _, hd', hk', _⟩ := z1
    cases e1
    cases e1'
    rw [ho] at ho'
    cases ho'
    rw [hd] at hd'
    cases hd'
    omega
  have go : ∀ (x y : Addr) (k : Value → Nat), its = [Value.ref x, Value.ref y] → (x = t0 ∧ y = t1) ∨ (x = t1 ∧ y = t0) → k (.ref t0) = 0 → k (.ref t1) = 1 → wpAny (model X.prog X.w) X.A (call (.builtin "sorted") [.ref a]) (EP X pins σ Q) X.xe s := by
    intro x y k e hxy k0 k1
    subst e
    refine SrtO.sorted_zs (k := k) hl.isList ?_ ?_ ?_ hu fun h' d out hs hb kp hd hn => ?_
    · rcases hxy with ⟨rfl, rfl⟩ | ⟨rfl, rfl⟩
      · rw [k0]; exact z0
      · rw [k1]; exact z1
    · rcases hxy with ⟨rfl, rfl⟩ | ⟨rfl, rfl⟩
      · rw [k1]; exact z1
      · rw [k0]; exact z0
    · rcases hxy with ⟨rfl, rfl⟩ | ⟨rfl, rfl⟩
      · exact .inl k0
      · exact .inr k0
    · have eo : out = [Value.ref t0, Value.ref t1] := by
        have pm : out.Perm [Value.ref t0, Value.ref t1] := by
          rcases hxy with ⟨rfl, rfl⟩ | ⟨rfl, rfl⟩
          · exact hb.perm
          · exact hb.perm.trans (List.Perm.swap _ _ _)
        obtain ⟨p, r, rfl⟩ : ∃ p r, out = [p, r] := by
          have hl := pm.length_eq
          match out, hl with
          | [p, r], _ => exact ⟨p, r, rfl⟩
        have hp : p = .ref t0 ∨ p = .ref t1 := by simpa using pm.mem_iff.mp (List.mem_cons_self (a := p))
        have hr : r = .ref t0 ∨ r = .ref t1 := by simpa using pm.mem_iff.mp (show r ∈ [p, r] by simp)
        have nd : [p, r].Nodup := pm.nodup_iff.mpr (by simp [hne])
        have hpr : p ≠ r := by simpa using nd
        have hs2 : decide (k r < k p) = false := by
          have := List.pairwise_cons.mp hs
          exact this.1 r (by simp)
        rcases hp with rfl | rfl
        · rcases hr with rfl | rfl
          · exact absurd rfl hpr
          · rfl
        · rcases hr with rfl | rfl
          · rw [k0, k1] at hs2
            cases hs2
          · exact absurd rfl hpr
      subst eo
      obtain ⟨n, hn⟩ := hn
      refine ⟨.ref d, upd H d (.lst [.ref t0, .ref t1]), I.laid (t' := s.toks) kp hd ⟨by show 2 ≤ sizeLine; decide, [Value.ref t0, Value.ref t1], n, .cons rfl (.cons rfl .nil), hn⟩, rfl, q d (I.hok.fresh hd)⟩
  let k : Value → Nat := fun v => match v with
    | .ref z => if z = t1 then 1 else 0
    | _ => 0
  have k0 : k (.ref t0) = 0 := if_neg hne
  have k1 : k (.ref t1) = 1 := if_pos rfl
  rcases hx with rfl | rfl
  · obtain ⟨u1, u2, rfl, r1, r2⟩ := vals2' rv
    cases r1
    cases r2
    exact go _ _ k rfl (.inl ⟨rfl, rfl⟩) k0 k1
  · obtain ⟨u1, u2, rfl, r1, r2⟩ := vals2' rv
    cases r1
    cases r2
    exact go _ _ k rfl (.inr ⟨rfl, rfl⟩) k0 k1
theorem kSorted2Z {K : PySem.W.Frag} (hu : X.A.units + 64 < cLine) (hK : X.K = K := by rfl) : CallR X (.builtin "sorted") (rSorted2Z K) := by subst hK; exact cr_sorted2Z hu
end
end L2
namespace My
open PySem PySem.Spec PyProof.Rows L2
theorem s_sorted2Z {K : PySem.W.Frag} {H : Hp} {Q : VK} {a t0 t1 : Addr} {xs : List V} (h : SqL K H a xs) (h0 : SqT K H t0 []) (h1 : SqT K H t1 [.int 0]) (hx : xs = [.ref t0, .ref t1] ∨ xs = [.ref t1, .ref t0]) (q : ∀ l H', H l = none → Ex H H' → H' l = some (.lst [.ref t0, .ref t1]) → Q (.ref l) H') : rSorted2Z K [.ref a] H Q := ⟨a, t0, t1, xs, rfl, h, h0, h1, hx, fun p np => q p _ np (Ex.new np) upd_same⟩
/-- a house of one latch: where it stands behind a history -/
theorem one_latch {h : Hs} {u d : Int} (hl : h.lat = [(u, d)]) (hh : h.hel = []) (hp : HsPos h) : ∀ {xs : List Int} {b : Bool} {s : Int} {T : List Int}, SetAt h (if b = true then [0] else []) s → Leds h (if b = true then [0] else []) s xs T → T = if upS u d b xs = true then [0] else [] := by
  have hn : h.n = 1 := by unfold Hs.n; rw [hl]; rfl
  have hlt : ∀ st l, h.lent st l = 0 := fun st l => by unfold Hs.lent lendOf; rw [hh]; rfl
  have hup : h.up 0 = u := by unfold Hs.up; rw [hl]; rfl
  have hdn : h.dn 0 = d := by unfold Hs.dn; rw [hl]; rfl
  have ok : ∀ b : Bool, StOk h.n (if b = true then [0] else []) := fun b => by
    rw [hn]
    cases b
    · exact ⟨by simp, by simp, by simp⟩
    · exact ⟨by simp, by simp, by simp⟩
  have wt : ∀ (c : Bool) (s : Int) (up : Bool), (c = !up → ¬ (if up = true then u ≤ s else s ≤ d)) → h.want (if c = true then [0] else []) s up = [] := fun c s up hc => by
    refine List.eq_nil_iff_forall_not_mem.mpr fun l hl => ?_
    obtain ⟨m1, m2, m3⟩ := mem_want.mp hl
    rw [hn] at m1
    have : l = 0 := by omega
    subst this
    unfold Hs.goes at m3
    rw [hlt, hup, hdn] at m3
    have hcu : c = !up := by
      rw [← m2]
      cases c <;> simp
    have := hc hcu
    cases up <;> simp at m3 this <;> omega
  intro xs
  induction xs with
  | nil =>
    intro b s T _ h
    exact h
  | cons f r ih =>
    rintro b s T hset ⟨U, c, hr⟩
    have hU : U = if upT u d b f = true then [0] else [] := by
      have key : ∀ c2 : Bool, c2 = upT u d b f → Clo h f (decide (s ≤ f)) (if b = true then [0] else []) (if c2 = true then [0] else []) := by
        intro c2 e
        have s1 : b = false → s < u := fun e => by
          subst e
          refine Int.not_le.mp fun z => ?_
          have : (0 : Nat) ∈ h.want (if false = true then [0] else []) s true := mem_want.mpr ⟨by omega, by simp, by unfold Hs.goes; rw [hlt, hup]; simpa using z⟩
          rw [hset.1] at this
          simp at this
        have s2 : b = true → d < s := fun e => by
          subst e
          refine Int.not_le.mp fun z => ?_
          have : (0 : Nat) ∈ h.want (if true = true then [0] else []) s false := mem_want.mpr ⟨by omega, by simp, by unfold Hs.goes; rw [hlt, hdn]; simpa using z⟩
          rw [hset.2] at this
          simp at this
        have hud : d < u := by
          have := hp.gap (u, d) (by rw [hl]; simp)
          exact this
        unfold upT at e
        by_cases hsf : s ≤ f
        · rw [decide_eq_true hsf]
          by_cases h1 : u ≤ f
          · rw [if_pos h1] at e
            subst e
            refine ⟨ok true, ?_, wt true f true (by simp), fun V oV hge hV => ?_⟩
            · cases b <;> simp [Lq]
            · intro x hx
              have : x = 0 := by simpa using hx
              subst this
              by_cases hz : (0 : Int) ∈ V
              · exact hz
              · have : (0 : Nat) ∈ h.want V f true := mem_want.mpr ⟨by omega, by simpa using hz, by unfold Hs.goes; rw [hlt, hup]; simpa using h1⟩
                rw [hV] at this
                simp at this
          · rw [if_neg h1] at e
            have eb : c2 = b := by
              rw [e]
              by_cases h2 : f ≤ d
              · rw [if_pos h2]
                cases b
                · rfl
                · have := s2 rfl; omega
              · rw [if_neg h2]
            subst eb
            exact Clo.self (ok _) (wt _ f true fun _ => by simpa using h1)
        · rw [decide_eq_false hsf]
          by_cases h2 : f ≤ d
          · have h1 : ¬ u ≤ f := by omega
            rw [if_neg h1, if_pos h2] at e
            subst e
            refine ⟨ok false, ?_, wt false f false (by simp), fun V oV hge hV => ?_⟩
            · cases b <;> simp [Lq]
            · intro x hx
              have hx0 : x = 0 := by
                have a := oV.lo x hx
                have b := oV.hi x hx
                omega
              subst hx0
              have : (0 : Nat) ∈ h.want V f false := mem_want.mpr ⟨by omega, by simpa using hx, by unfold Hs.goes; rw [hlt, hdn]; simpa using h2⟩
              rw [hV] at this
              simp at this
          · have eb : c2 = b := by
              rw [e]
              by_cases h1 : u ≤ f
              · rw [if_pos h1]
                cases b
                · have := s1 rfl; omega
                · rfl
              · rw [if_neg h1, if_neg h2]
            subst eb
            exact Clo.self (ok _) (wt _ f false fun _ => by simpa using h2)
      exact c.uniq (key _ rfl)
    subst hU
    exact ih (leg_settled hp hset c) hr
theorem splice_intsZ (L w : List Int) (k : Nat) : (L.map V.int).take k ++ w.map V.int ++ (L.map V.int).drop k = (L.take k ++ w ++ L.drop k).map V.int := by
  rw [← List.map_take, ← List.map_drop, ← List.map_append, ← List.map_append]
end My
/-! ### defs that run where nothing is being written out (repr of lists and tuples asks it) -/
namespace My
open PySem PySem.Spec PyProof.Rows L2
abbrev Quiet (A : Around) : Prop := A.guards = some []
structure FnG (P : Program) (w : World) (K : PySem.W.Frag) (mg : PySem.Str → Option Value) (base : Heap) (k : Nat) (f : Addr) (fd : FuncData) (ps : List PySem.Str) (sp : Sp) : Prop where
  len : ∀ vs H Q E, sp vs H Q E → vs.length = ps.length
  go : ∀ (A : Around) (outer : List Env) (s : Shared) (H : Hp) (a : Args) (us : List Value) (vs : List V) (Q : VK) (E : XK), Quiet A → Room k A → Env0 P w K mg base A outer s H → BindsTo s fd a (ps.zip us) → Vals vs us → sp vs H Q E → codeAny (model P w) A (.call (.ref f) a) (CR CX0 outer P w H s Q E) s
section
variable {P : Program} {w : World} {K : PySem.W.Frag} {mg : PySem.Str → Option Value} {base : Heap}
theorem fnG_of {k : Nat} {x qual : PySem.Str} {st : Stmt} {f : Addr} {fd : FuncData} {N ps : List PySem.Str} {sp : Sp} (F : Fun K x qual st f fd) (S : FnScope N ps (defScope st)) (len : ∀ vs H Q E, sp vs H Q E → vs.length = ps.length)
    (hb : ∀ (cdv : Value) (A : Around) (outer : List Env) (s : Shared) (H : Hp) (vs : List V) (Q : VK) (E : XK), Quiet A → Room k (A.deeper (envOfC qual (defScope st) s.heap.objs.size f cdv)) → sp vs H Q E →
      ∃ t, PSs (cxOf CX0 P w K mg base N qual (defScope st) f cdv A outer s H E).nox (defBody st) t ∧ t { nx := fun _ H' => Q .non H', rt := Q } (start N vs) H) : FnG P w K mg base (k + 1) f fd ps sp := by
  obtain ⟨_, _, _, _, _, _, cdv, _, _, rfl, lk, hcd⟩ := F.ex
  refine ⟨len, fun A outer s H a us vs Q E quiet hr en bd rv hsp => ?_⟩
  have inK := en.mod.kin.keeps fun b o e => (en.bs b o e).1
  have names : ∀ y ∈ ps.zip us, (defScope st).names.lookup y.1 = some .local ∨ ((defScope st).names.lookup y.1 = some .cell ∧ ((cellsFrom (s.heap.objs.size + 1) (defScope st).names []).lookup y.1).isSome = true) := fun y hy =>
    (S.par y.1 (List.of_mem_zip (show (y.1, y.2) ∈ ps.zip us from hy)).1).elim (fun q => Or.inl q) fun q => Or.inr ⟨q, PySem.W.cellsFrom_some _ _ _ (.inl q)⟩
  refine codeAny_call_function hr.depth (inK _ _ lk) rfl S.co S.gen rfl (PySem.W.codeRec_of inK hcd) (bd _ _ _ _ (wpAny_newFunctionEnv_cells S.kind names fun env he s1 inc => ?_))
  subst he
  obtain ⟨t, ht, hq⟩ := hb cdv A outer s H vs Q E quiet (hr.deeper _) hsp
  have inv := inv_start (CX := CX0) (qual := qual) (cd := cdv) (E := E) S hr.hd en (len _ _ _ _ hsp) rv inc
  refine ⟨(en.mod.nolimit.keeps fun b o e => (en.bs b o e).1).keeps inc.toInCall.keep, codeAny_func (wpAny_mono (ht.nox.run [] s1 (start N vs) H _ inv hq) (fun fl s2 hs => ?_) fun _ _ hs => hs)⟩
  match fl, hs with
  | .ret u, ⟨v, _, H2, J, rr, q⟩ => exact ⟨v, H2, J.os, J.bare, J.base, J.hok, rr, q⟩
  | .next, ⟨_, H2, J, q⟩ => exact ⟨.non, H2, J.os, J.bare, J.base, J.hok, rfl, q⟩
  | .brk, ⟨_, _, _, q⟩ => exact q.elim
  | .cont, ⟨_, _, _, q⟩ => exact q.elim
structure DfnG (P : Program) (w : World) (K : PySem.W.Frag) (mg : PySem.Str → Option Value) (base : Heap) (x : PySem.Str) (k : Nat) (ps : List PySem.Str) (sp : Sp) : Prop where
  ex : ∃ (f : Addr) (fd : FuncData), mg x = some (.ref f) ∧ PySem.W.keepIn K (.ref f) = true ∧ Binds K fd ps [] ∧ FnG P w K mg base k f fd ps sp
end
section
variable {X : Cx} {x : PySem.Str} {k : Nat} {ps : List PySem.Str} {sp : Sp} {e : Expr} {es : List Expr} {t : TA} {p pos : Pos}
theorem pe_defG (D : DfnG X.prog X.w X.K X.mg X.base x k ps sp) (quiet : Quiet X.A) (hr : Room k X.A) (hg : Gl X x) (ha : PA X (e :: es) t) (hdb : (x == ("__debug__" : PySem.Str)) = false := by decide)
    (he : starEach (e :: es) X.env = (false, eval e X.env) :: starEach es X.env := by rfl) (hpl : (backTo pos (starEach es X.env)).any (·.1) = false := by rfl) :
    PE X (.Call (.Name x p) (e :: es) [] pos) (tCall sp [] E0 t) := by
  obtain ⟨f, fd, gm, kp, bd, F⟩ := D.ex
  refine ⟨fun pins s σ H Q I h => wpAny_Call_Name_kw (ld_glob I hg gm (PySem.W.callWith_K (h₀ := X.base) I.ok.mod.kin kp (thn (ha.run pos pins s σ H _ I h) fun us s1 ⟨vs, H1, I1, rv, q⟩ => ⟨I1.kIn, ?_⟩) he hpl) hdb)⟩
  have q : sp (vs ++ []) H1 Q E0 := q
  rw [List.append_nil] at q
  have many : (us ++ ([] : List Value)).length = ps.length := by rw [List.append_nil, ← rv.length]; exact F.len _ _ _ _ q
  have bd1 := bd s1 us I1.kIn many
  rw [List.append_nil] at bd1
  refine wpAny_call (codeAny_mono (F.go X.A X.stack s1 H1 ⟨us, []⟩ us vs Q E0 quiet hr I1.env0 bd1 rv q) fun r s2 hq => ?_)
  match r, hq with
  | .error z, hq => exact pass0 pins σ H1 s1 z s2 I1 hq
  | .ok (.ret u), hq => exact I1.after hq
  | .ok .next, hq => exact hq.elim
  | .ok .brk, hq => exact hq.elim
  | .ok .cont, hq => exact hq.elim
/-- repr of None, numbers, and of lists and tuples of them -/
def rReprD (K : PySem.W.Frag) : List V → Hp → VK → Prop := fun xs H Q => ∃ x d, xs = [x] ∧ Dp K H x d ∧ d.showable = true ∧ d.hasDict = false ∧ d.depth ≤ 20 ∧ d.shown.length ≤ sizeLine ∧ Q (.str d.shown) H
theorem kReprD {K : PySem.W.Frag} (quiet : Quiet X.A) (hu : X.A.units + 64 < cLine) (hK : X.K = K := by rfl) : CallR X (.builtin "repr") (rReprD K) := by
  subst hK
  intro pins s σ H xs us Q I r h
  obtain ⟨x, d, rfl, hd, h1, h2, h3, h4, q⟩ := h
  obtain ⟨u, rfl, ru⟩ := vals1 r
  obtain ⟨as, rd⟩ := Dp.reads I d x u hd ru
  have fin : ∀ h' (z : Tok) tk, (∀ b o, s.heap.get? b = some o → h'.get? b = some o) → EP X pins σ Q (.str d.shown z) { s with heap := h', toks := tk } := fun h' z tk kp => ⟨.str _, H, I.kept kp, ⟨_, rfl⟩, q⟩
  cases hd with
  | non => cases ru; exact PySem.P.repr_of_none (fin s.heap _ _ fun _ _ e => e)
  | bl b => cases ru; exact PySem.P.repr_of_bool (fin s.heap _ _ fun _ _ e => e)
  | int i =>
    obtain ⟨tk, rfl⟩ := ru
    exact PySem.P.repr_of_int (by simpa [PyData.showable] using h1) (fin s.heap _ _ fun _ _ e => e)
  | str z =>
    obtain ⟨tk, rfl⟩ := ru
    exact PySem.P.repr_of_str (fin s.heap _ _ fun _ _ e => e) (by simpa only [PyData.shown] using h4)
  | lst a b =>
    cases ru
    exact repr_of_reads' rd h1 (fun e => by rw [h2] at e; cases e) quiet (by omega) (fun _ _ e => e) (fun h' z tk kp => fin h' z tk kp) h4
  | tup a b =>
    cases ru
    exact repr_of_reads' rd h1 (fun e => by rw [h2] at e; cases e) quiet (by omega) (fun _ _ e => e) (fun h' z tk kp => fin h' z tk kp) h4
end
end My
namespace My
open PySem PySem.Spec PyProof.Rows L2
theorem script_heap {P : Program} {w : World} {K : PySem.W.Frag} {h : Heap} {a : Addr} {vs : List Value} {ns : List Int} (KX : K.In h) (ha : h.get? a = some { cls := .type "list", data := .seq vs.toArray }) (hi : IntsAre vs ns) (hl : ns.length ≤ sizeLine) :
    ∃ H : Hp, Only H ∧ SqL K H a (ns.map V.int) ∧ HOk P w H h ∧ (∀ b, H b ≠ none → b = a) ∧ (H a ≠ none → K.lookup a = none) := by
  have rv := vals_ints hi
  have many := hi.length
  cases hk : K.lookup a with
  | some o =>
    have e : some o = some _ := (KX a o hk).symm.trans ha
    cases e
    exact ⟨fun _ => none, fun _ => .inl rfl, .inr ⟨_, vs.toArray, _, hk, rfl, rfl, rfl, by rw [List.size_toArray, many]; exact hl, by simpa using rv⟩, fun b u z => (nomatch (show (none : Option HO) = some u from z)), fun b z => absurd rfl z, fun z => absurd rfl z⟩
  | none =>
    let o : HO := .frz { cls := .type "list", data := .seq vs.toArray } (.lst (ns.map V.int))
    have off : ∀ {b}, b ≠ a → (fun b => if b = a then some o else none : Hp) b = none := fun {b} nb => if_neg nb
    refine ⟨fun b => if b = a then some o else none, fun b => ?_, .inl (.inr ⟨{ cls := .type "list", data := .seq vs.toArray }, if_pos rfl⟩), fun b u z => ?_, fun b z => ?_, fun _ => rfl⟩
    · exact (Nat.decEq b a).byCases (fun y => .inr ⟨_, _, if_pos y⟩) fun y => .inl (off y)
    · refine (Nat.decEq b a).byCases (fun y => ?_) fun y => nomatch (off y).symm.trans z
      subst y
      cases (if_pos rfl).symm.trans z
      exact ⟨ha, by rw [List.length_map]; exact hl, vs, _, rv, ha⟩
    · exact (Nat.decEq b a).byCases id fun y => absurd (off y) z
theorem callG {P : Program} {w : World} {K : PySem.W.Frag} {mg mb : PySem.Str → Option Value} {k : Nat} {fa a : Addr} {fd : FuncData} {x : PySem.Str} {sp : Sp} {s : Shared} {vs : List Value} {ns : List Int}
    (KX : K.In s.heap) (hns : s.heap.Ns mainGlobals mg) (hb : s.heap.Ns builtinsNs mb) (hbb : ∀ x : PySem.Str, x ≠ "__name__" → mb x = bootBuiltins x) (hlim : s.heap.NoLimit) (hg : s.gens = #[])
    (ha : s.heap.get? a = some { cls := .type "list", data := .seq vs.toArray }) (hi : IntsAre vs ns) (hl : ns.length ≤ sizeLine) (hr : Room k callerA)
    (F : ∀ base : Heap, K.In base → base.Ns mainGlobals mg → FnG P w K mg base k fa fd [x] sp) (bd : ∀ (s : Shared) (u : Value), BindsTo s fd ⟨[u], []⟩ [(x, u)])
    (hsp : ∀ H : Hp, Only H → SqL K H a (ns.map V.int) → sp [.ref a] H (fun v _ => v = .bl true) fun _ _ _ => False) :
    codeAny (model P w) callerA (.call (.ref fa) ⟨[.ref a], []⟩) (fun r s' => r = .ok (.ret (.bool true)) ∧ OldK s.heap s'.heap ∧ s'.os = s.os ∧ AllBare s'.gens) s := by
  obtain ⟨H, hO, hS, hok, hA, hK⟩ := script_heap (P := P) (w := w) KX ha hi hl
  have noD : ∀ {b : Addr} {o : Obj} {es : Array DictEntry} {ep : Nat}, s.heap.get? b = some o → o.data = .dict es ep → H b = none := fun {b o es ep} e d => by
    refine Classical.byContradiction fun q => ?_
    have eb := hA b q
    subst eb
    cases e.symm.trans ha
    exact nomatch (show Data.seq vs.toArray _ = Data.dict es ep from d)
  have keepNs : ∀ {b : Addr} {m : PySem.Str → Option Value}, s.heap.Ns b m → (hidT s.heap H).Ns b m := fun {b m} ⟨o, es, ep, e, d, r⟩ => ⟨o, es, ep, hidT_get e (noD e d), d, r⟩
  have inB : K.In (hidT s.heap H) := fun b o e => hidT_get (KX b o e) (Classical.byContradiction fun q => by
    have eb := hA b q
    subst eb
    exact nomatch (hK q).symm.trans e)
  have en : Env0 P w K mg (hidT s.heap H) callerA [] s H := ⟨rfl, ⟨inB, keepNs hns, ⟨mb, keepNs hb, hbb⟩, hlim.elim fun mc z => ⟨mc, keepNs z.1, z.2⟩⟩, fun b o e => of_hidT e, Nat.le_of_eq (hidT_size _ _), trivial, fun b z => absurd z (by simp [frs]), hok, .of_eq hg⟩
  refine codeAny_mono ((F _ inB (keepNs hns)).go callerA [] s H ⟨[.ref a], []⟩ [.ref a] [.ref a] _ _ rfl hr en (bd s (.ref a)) (.cons rfl .nil) (hsp H hO hS)) fun r s' z => ?_
  match r, z with
  | .error _, z => exact z.elim
  | .ok .next, z => exact z.elim
  | .ok .brk, z => exact z.elim
  | .ok .cont, z => exact z.elim
  | .ok (.ret u), ⟨v, H2, os, bare, un, hok2, rr, q⟩ =>
    cases (show v = .bl true from q)
    cases (show u = Value.bool true from rr)
    refine ⟨rfl, OldK.of_keep fun b o e => ?_, os, bare⟩
    cases hb2 : H b with
    | none => exact un.keep b o e hb2 (fun z => absurd z (by simp [frs])) (by simp)
    | some u =>
      rcases hO b with y | ⟨o2, xs, y⟩
      · exact nomatch hb2.symm.trans y
      · cases e.symm.trans (hok b _ y).1
        exact (hok2 b _ (un.frzs b _ _ y)).1
theorem walk_ofG {l : PySem.W.OpenLaw} {n k : Nat} {q : Program} {loose : List PySem.Str} {XP : (PySem.Str → Option Value) → Heap → Prop} {YP : World → Heap → Prop} {d : DefRec} {K : Params → PySem.W.Frag} {sp : World → Sp} {x : PySem.Str}
    (hn : l.most = some n) (hn2 : n ≤ sizeLine) (hdf : d.params.defaults = []) (hr : Room k callerA) (hY : ∀ (w : World) (h : Heap), YP w h → (K w.params).In h)
    (F : ∀ (w : World) (mg : PySem.Str → Option Value) (fa : Addr) (h : Heap), (K w.params).In h → h.Ns mainGlobals mg → mg d.name = some (.ref fa) →
      ∃ fd : FuncData, (∀ (s : Shared) (u : Value), BindsTo s fd ⟨[u], []⟩ [(x, u)]) ∧ ∀ base : Heap, (K w.params).In base → base.Ns mainGlobals mg → FnG l.prog w (K w.params) mg base k fa fd [x] (sp w))
    (hsp : ∀ (w : World) (H : Hp) (a : Addr) (ns : List Int), ns.length ≤ n → Only H → SqL (K w.params) H a (ns.map V.int) → sp w [.ref a] H (fun v _ => v = .bl true) fun _ _ _ => False) :
    PySem.W.WalkO q loose XP YP l.row.toRowW d [] (fun f vs => PySem.call f vs) :=
  Att.attach_call hn hdf fun w _ s mg mb fa o pm cd doc a vs ns G Y _ _ _ hmg hobj hints many hg => (F w mg fa _ (hY w _ Y) G.T.g hmg).elim fun fd z => callG (hY w _ Y) G.T.g G.T.b G.T.builtins G.T.nolimit hg hobj hints (Nat.le_trans many hn2) hr z.2 z.1 fun H hO hS => hsp w H a ns many hO hS
end My
namespace My
open PySem PySem.Spec PyProof.Rows L2
theorem s_gSlV {i k : Nat} {σ : L2.St} {H : Hp} {QS : L2.St → Hp → Prop} {l r : Addr} {a : Int} {xs ys : List V} (h1 : σ[i]? = some (some (.ref l))) (h2 : σ[k]? = some (some (.int a))) (hl : H l = some (.lst xs)) (hr : H r = some (.lst ys)) (hne : l ≠ r) (ha : 0 ≤ a) (hc : a ≤ xs.length) (hz : xs.length + ys.length ≤ sizeLine)
    (q : ∀ H', ExB l H H' → H' l = some (.lst (xs.take a.toNat ++ ys ++ xs.drop a.toNat)) → QS σ H') : gSl (tVar i) (tPart (tVar k)) (tPart (tVar k)) (.ref r) σ H QS :=
  ⟨_, h1, _, h2, a, rfl, _, h2, a, rfl, l, r, xs, ys, a, a, rfl, rfl, rfl, rfl, hl, hr, hne, ha, Int.le_refl _, hc, hz, q _ ExB.upd upd_same⟩
end My
namespace My
open PySem PySem.Spec PyProof.Rows L2
theorem pe_revLK {X : Cx} {K : PySem.W.Frag} {e : Expr} {te : TE} {k : Nat} {p1 p2 p3 pos : Pos} (he : PE X e te) (hK : X.K = K := by rfl) : PE X (.Subscript e (.Slice none none (some (.UnaryOp .USub (.Constant (.int 1) k p1) p2)) p3) pos) (tRevL K te) := by subst hK; exact pe_revL he
end My
/-! ### floors and roofs; how far one goes and comes back -/
namespace My
open PySem PySem.Spec PyProof.Rows L2
theorem gap_l {h : Hs} (hp : HsPos h) {l : Nat} (hl : l < h.n) : h.dn l < h.up l := by
  unfold Hs.dn Hs.up
  rw [List.getD_eq_getElem?_getD, List.getElem?_eq_getElem hl]
  exact hp.gap _ (List.getElem_mem _)
theorem low_none {h : Hs} {b s : Int} {S : List Int} (c : Clo h b false (ordI h.n) []) (hs : s ≤ b) (o : StOk h.n S) (w : h.want S s false = []) : S = [] := by
  have w2 : h.want S b false = [] := want_weak w (show s ≤ b from hs)
  have h1 : ∀ x ∈ S, x ∈ ([] : List Int) := c.least S o (show ∀ x ∈ S, x ∈ ordI h.n from fun x hx => by
    obtain ⟨l, rfl, hl⟩ := o.nat hx
    exact mem_ordI hl) w2
  exact List.eq_nil_iff_forall_not_mem.mpr fun x hx => nomatch h1 x hx
theorem low_dn {h : Hs} (hp : HsPos h) {b : Int} (c : Clo h b false (ordI h.n) []) {l : Nat} (hl : l < h.n) : b ≤ h.dn l := by
  have o : StOk h.n [(l : Int)] := ⟨by simp, by simp, by simp; omega⟩
  cases hw : h.want [(l : Int)] b false with
  | nil =>
    have := low_none c (Int.le_refl _) o hw
    cases this
  | cons m r =>
    have hm : m ∈ h.want [(l : Int)] b false := by rw [hw]; exact List.mem_cons_self ..
    obtain ⟨m1, m2, m3⟩ := mem_want.mp hm
    have e : m = l := by
      have := of_decide_eq_true m2
      have := List.mem_singleton.mp this
      omega
    subst e
    have m4 := goes_mono hp (show Lq false [(m : Int)] [] from (show ∀ x ∈ ([] : List Int), x ∈ [(m : Int)] from fun x hx => nomatch hx)) m3
    unfold Hs.goes at m4
    rw [lent_none] at m4
    simp at m4
    omega
theorem low_self {h : Hs} (hp : HsPos h) {b s : Int} (c : Clo h b false (ordI h.n) []) (hs : s ≤ b) : SetAt h [] s := by
  refine ⟨List.eq_nil_iff_forall_not_mem.mpr fun l hl => ?_, List.eq_nil_iff_forall_not_mem.mpr fun l hl => ?_⟩
  · obtain ⟨m1, _, m3⟩ := mem_want.mp hl
    have := low_dn hp c m1
    have := gap_l hp m1
    unfold Hs.goes at m3
    rw [lent_none] at m3
    simp at m3
    omega
  · have := (mem_want.mp hl).2.1
    simp at this
theorem high_none {h : Hs} {b s : Int} {S : List Int} (c : Clo h b true [] (ordI h.n)) (hs : b ≤ s) (o : StOk h.n S) (w : h.want S s true = []) : S = ordI h.n := by
  have w2 : h.want S b true = [] := want_weak w (show b ≤ s from hs)
  have h1 : ∀ x ∈ ordI h.n, x ∈ S := c.least S o (show ∀ x ∈ ([] : List Int), x ∈ S from fun x hx => nomatch hx) w2
  refine o.ext (ord_ok _) fun l => ⟨fun hx => ?_, fun hx => h1 _ hx⟩
  have := o.hi _ hx
  exact mem_ordI (by omega)
theorem high_up {h : Hs} {b : Int} (c : Clo h b true [] (ordI h.n)) {l : Nat} (hl : l < h.n) : h.up l ≤ b + h.lent (canon h.n fun k => decide (k ≠ l)) l := by
  have o : StOk h.n (canon h.n fun k => decide (k ≠ l)) := canon_ok _ _
  cases hw : h.want (canon h.n fun k => decide (k ≠ l)) b true with
  | nil =>
    have e := high_none c (Int.le_refl _) o hw
    have h1 : (l : Int) ∈ canon h.n fun k => decide (k ≠ l) := by rw [e]; exact mem_ordI hl
    have h2 := (mem_canon.mp h1).2
    simp at h2
  | cons m r =>
    have hm : m ∈ h.want (canon h.n fun k => decide (k ≠ l)) b true := by rw [hw]; exact List.mem_cons_self ..
    obtain ⟨m1, m2, m3⟩ := mem_want.mp hm
    have e : m = l := by
      by_cases e : m = l
      · exact e
      · exact absurd (mem_canon.mpr ⟨m1, decide_eq_true e⟩) (of_decide_eq_false m2)
    subst e
    unfold Hs.goes at m3
    rw [if_pos rfl] at m3
    exact of_decide_eq_true m3
theorem all_but {h : Hs} (hp : HsPos h) {s : Int} {l : Nat} (hg : h.goes (ordI h.n) s l false = true) : s + h.lent (canon h.n fun k => decide (k ≠ l)) l ≤ h.dn l := by
  have := goes_mono hp (show Lq false (ordI h.n) (canon h.n fun k => decide (k ≠ l)) from (show ∀ x ∈ canon h.n fun k => decide (k ≠ l), x ∈ ordI h.n from fun x hx => by
    obtain ⟨k, rfl, hk⟩ := (canon_ok h.n fun k => decide (k ≠ l)).nat hx
    exact mem_ordI hk)) hg
  unfold Hs.goes at this
  rw [if_neg Bool.false_ne_true] at this
  exact of_decide_eq_true this
theorem high_self {h : Hs} (hp : HsPos h) {b s : Int} (c : Clo h b true [] (ordI h.n)) (hs : b ≤ s) : SetAt h (ordI h.n) s := by
  refine ⟨List.eq_nil_iff_forall_not_mem.mpr fun l hl => ?_, List.eq_nil_iff_forall_not_mem.mpr fun l hl => ?_⟩
  · obtain ⟨m1, m2, _⟩ := mem_want.mp hl
    exact absurd (mem_ordI m1) (of_decide_eq_false m2)
  · obtain ⟨m1, _, m3⟩ := mem_want.mp hl
    have h1 := all_but hp m3
    have h2 := high_up c m1
    have h3 := gap_l hp m1
    omega
theorem low_lt {h : Hs} (hp : HsPos h) (h1 : 1 ≤ h.n) {b t : Int} (c : Clo h b false (ordI h.n) []) (d : Clo h t true [] (ordI h.n)) : b < t := by
  cases hw : h.want (ordI h.n) b false with
  | nil =>
    have e := Clo.uniq c (Clo.self (ord_ok _) hw)
    have h0 : ((0 : Nat) : Int) ∈ ordI h.n := mem_ordI (by omega)
    rw [← e] at h0
    cases h0
  | cons m r =>
    have hm : m ∈ h.want (ordI h.n) b false := by rw [hw]; exact List.mem_cons_self ..
    obtain ⟨m1, _, m3⟩ := mem_want.mp hm
    have h1 := all_but hp m3
    have h2 := high_up d m1
    have h3 := gap_l hp m1
    omega
end My
namespace My
open PySem PySem.Spec PyProof.Rows L2
theorem clo_mono {h : Hs} {up : Bool} {st X Y : List Int} {s s' : Int} (le : swLe up s s') (a : Clo h s up st X) (b : Clo h s' up st Y) : Lq up X Y := a.least Y b.ok b.ge (want_weak b.fin le)
/-- what one comes back from, one comes back from on the way -/
theorem back_mono {h : Hs} (hp : HsPos h) {up : Bool} {c A B : List Int} {r : Int} (oc : StOk h.n c) (oA : StOk h.n A) (ca : Lq up c A) (ab : Lq up A B) (w : h.want c r (!up) = []) (k : Clo h r (!up) B c) : Clo h r (!up) A c := by
  obtain ⟨W, hW⟩ := clo_any hp r (!up) oA
  have h1 : Lq (!up) W c := hW.least c oc (lq_flip ca) w
  have h2 : Lq (!up) c W := k.least W hW.ok ((lq_flip ab).trans hW.ge) hW.fin
  have e := Lq.eq hW.ok oc h1 h2
  rw [e] at hW
  exact hW
/-- the end of a stand's span below, b for none's -/
def EndL (h : Hs) (c : List Int) (b lo : Int) : Prop := (c = [] ∧ lo = b) ∨ (c ≠ [] ∧ ∀ s, h.want c s false = [] ↔ lo ≤ s)
def EndH (h : Hs) (c : List Int) (t hi : Int) : Prop := (c = ordI h.n ∧ hi = t) ∨ (c ≠ ordI h.n ∧ ∀ s, h.want c s true = [] ↔ s ≤ hi)
theorem EndL.uniq {h : Hs} {c : List Int} {b x y : Int} (a : EndL h c b x) (d : EndL h c b y) : x = y := by
  rcases a with ⟨e, a⟩ | ⟨e, a⟩
  · rcases d with ⟨_, d⟩ | ⟨f, _⟩
    · rw [a, d]
    · exact absurd e f
  · rcases d with ⟨f, _⟩ | ⟨_, d⟩
    · exact absurd f e
    · have h1 := (d x).mp ((a x).mpr (Int.le_refl _))
      have h2 := (a y).mp ((d y).mpr (Int.le_refl _))
      omega
theorem EndH.uniq {h : Hs} {c : List Int} {b x y : Int} (a : EndH h c b x) (d : EndH h c b y) : x = y := by
  rcases a with ⟨e, a⟩ | ⟨e, a⟩
  · rcases d with ⟨_, d⟩ | ⟨f, _⟩
    · rw [a, d]
    · exact absurd e f
  · rcases d with ⟨f, _⟩ | ⟨_, d⟩
    · exact absurd f e
    · have h1 := (d x).mp ((a x).mpr (Int.le_refl _))
      have h2 := (a y).mp ((d y).mpr (Int.le_refl _))
      omega
/-- the end in the way's own sense -/
def EndU (h : Hs) (up : Bool) (c : List Int) (b t z : Int) : Prop := if up = true then EndH h c t z else EndL h c b z
theorem EndU.uniq {h : Hs} {up : Bool} {c : List Int} {b t x y : Int} (a : EndU h up c b t x) (d : EndU h up c b t y) : x = y := by
  unfold EndU at a d
  cases up with
  | true => rw [if_pos rfl] at a d; exact a.uniq d
  | false => rw [if_neg Bool.false_ne_true] at a d; exact a.uniq d
def topOf (h : Hs) (up : Bool) : List Int := if up = true then ordI h.n else []
theorem top_ok (h : Hs) (up : Bool) : StOk h.n (topOf h up) := by
  unfold topOf
  cases up with
  | true => rw [if_pos rfl]; exact ord_ok _
  | false => rw [if_neg Bool.false_ne_true]; exact nil_ok0 _
theorem top_ge {h : Hs} {up : Bool} {c : List Int} (o : StOk h.n c) : Lq up c (topOf h up) := by
  unfold topOf Lq
  cases up with
  | true =>
    rw [if_pos rfl, if_pos rfl]
    intro x hx
    obtain ⟨l, rfl, hl⟩ := o.nat hx
    exact mem_ordI hl
  | false => rw [if_neg Bool.false_ne_true, if_neg Bool.false_ne_true]; exact fun x hx => nomatch hx
theorem top_mov {h : Hs} {up : Bool} {c : List Int} (o : StOk h.n c) (e : h.mov c up = []) : c = topOf h up := by
  refine Lq.eq o (top_ok h up) (top_ge (up := up) o) ?_
  unfold topOf Lq
  cases up with
  | true =>
    rw [if_pos rfl, if_pos rfl]
    intro x hx
    obtain ⟨l, rfl, hl⟩ := (ord_ok h.n).nat hx
    by_cases h2 : (l : Int) ∈ c
    · exact h2
    · have h1 : l ∈ h.mov c true := mem_mov.mpr ⟨hl, decide_eq_false h2⟩
      rw [e] at h1
      cases h1
  | false =>
    rw [if_neg Bool.false_ne_true, if_neg Bool.false_ne_true]
    intro x hx
    obtain ⟨l, rfl, hl⟩ := o.nat hx
    have h1 : l ∈ h.mov c false := mem_mov.mpr ⟨hl, decide_eq_true hx⟩
    rw [e] at h1
    cases h1
theorem mov_top {h : Hs} {up : Bool} : h.mov (topOf h up) up = [] := by
  refine List.eq_nil_iff_forall_not_mem.mpr fun l hl => ?_
  obtain ⟨h1, h2⟩ := mem_mov.mp hl
  unfold topOf at h2
  cases up with
  | true => rw [if_pos rfl, decide_eq_true (mem_ordI h1)] at h2; cases h2
  | false => simp at h2
theorem EndU.alt {h : Hs} {up : Bool} {c : List Int} {b t z : Int} : EndU h up c b t z ↔ (c = topOf h up ∧ z = (if up = true then t else b)) ∨ (c ≠ topOf h up ∧ ∀ s, h.want c s up = [] ↔ swLe up s z) := by
  unfold EndU topOf EndH EndL swLe
  cases up <;> simp
/-- how far one goes one way and still comes back to c: the last such stand and its end, or none -/
structure FarR (h : Hs) (c : List Int) (b t : Int) (up : Bool) (r : Int) (s : Int) (X : List Int) : Prop where
  ne : X ≠ c
  way : ∃ s', Clo h s' up c X
  back : Clo h r (!up) X c
  far : ∀ s' Y, Clo h s' up c Y → Clo h r (!up) Y c → Lq up Y X
  fin : EndU h up X b t s
def FarN (h : Hs) (c : List Int) (up : Bool) (r : Int) : Prop := ∀ s' Y, Clo h s' up c Y → Clo h r (!up) Y c → Y = c
theorem FarR.uniq {h : Hs} {c : List Int} {b t : Int} {up : Bool} {r s s' : Int} {X X' : List Int} (a : FarR h c b t up r s X) (d : FarR h c b t up r s' X') : s = s' ∧ X = X' := by
  obtain ⟨z, k⟩ := a.way
  obtain ⟨z', k'⟩ := d.way
  have e : X = X' := Lq.eq k.ok k'.ok (d.far z X k a.back) (a.far z' X' k' d.back)
  subst e
  exact ⟨a.fin.uniq d.fin, rfl⟩
theorem FarR.not {h : Hs} {c : List Int} {b t : Int} {up : Bool} {r s : Int} {X : List Int} (a : FarR h c b t up r s X) (d : FarN h c up r) : False := let ⟨z, k⟩ := a.way; a.ne (d z X k a.back)
def kR3 (R : It → Hp → Prop) : List V → Hp → Prop := fun vs H1 => ∃ (i j c : Int) (n : Nat), vs = [.int i, .int j, .int c] ∧ RgC i j c n ∧ R (Itc i c n) H1
theorem s_r3 {R : It → Hp → Prop} {ta : TA} {σ : L2.St} {H : Hp} (q : ta σ H (kR3 R)) : iRng3 ta σ H R := q
theorem l_forC {g : TG} {ts : TS} {D : Ends} {σ : L2.St} {H : Hp} {lo hi c : Int} {n : Nat} (hr : RgC lo hi c n) (I : Nat → L2.St → Hp → Prop) (h0 : I 0 σ H)
    (hs : ∀ (k : Nat) σ H', k < n → I k σ H' → g (.int (lo + (k : Int) * c)) σ H' fun σ2 H2 => ts ⟨I (k + 1), D.rt, D.nx, I (k + 1)⟩ σ2 H2) (hd : ∀ σ H', I n σ H' → D.nx σ H') : kR3 (kFor g ts D σ) [V.int lo, V.int hi, V.int c] H := by
  refine ⟨lo, hi, c, n, rfl, hr, fun i m σ H => m = n - i ∧ i ≤ n ∧ I i σ H, ⟨n, by simp, Nat.zero_le _, h0⟩, ?_⟩
  rintro i m σ H ⟨rfl, hi2, p⟩
  by_cases hlt : i < n
  · refine .inr ⟨hlt, I (i + 1), fun σ' H' p' => ⟨n - (i + 1), by omega, rfl, hlt, p'⟩, fun x H' y => ?_⟩
    obtain ⟨e, y⟩ := y
    subst e
    subst y
    exact hs i σ H' hlt p
  · have e : i = n := by omega
    subst e
    exact .inl ⟨Nat.le_refl _, hd _ _ p⟩
end My
namespace My
open PySem PySem.Spec PyProof.Rows L2
theorem RgC.pos {i j : Int} (ha : -(2 ^ 62) ≤ i) (ha' : i < 2 ^ 62) (hb : -(2 ^ 62) ≤ j) (hb' : j < 2 ^ 62) : RgC i j 1 (j - i).toNat := ⟨by decide, by decide, PySem.small_one ha ha' hb hb', PyProof.Rows.rangeSize_nat i j⟩
theorem ordI_len (n : Nat) : (ordI n).length = n := by unfold ordI; simp
theorem full_iff {n : Nat} {c : List Int} (o : StOk n c) : c.length < n ↔ c ≠ ordI n := by
  constructor
  · intro h e
    rw [e, ordI_len] at h
    omega
  · intro h
    refine Nat.lt_of_le_of_ne o.len fun e => h ?_
    have ec : c = canon n (fun l => decide ((l : Int) ∈ c)) := o.ext (canon_ok _ _) fun l => by
      rw [mem_canon]
      exact ⟨fun hl => ⟨by have := o.hi _ hl; omega, decide_eq_true hl⟩, fun hl => of_decide_eq_true hl.2⟩
    have e2 : ((List.range n).filter fun (l : Nat) => decide ((l : Int) ∈ c)).length = (List.range n).length := by
      have := congrArg List.length ec
      unfold canon at this
      rw [List.length_map, e] at this
      rw [List.length_range]
      exact this.symm
    have all := List.length_filter_eq_length_iff.mp e2
    refine o.ext (ord_ok n) fun l => ⟨fun hl => mem_ordI (by have := o.hi _ hl; omega), fun hl => ?_⟩
    have hln : l < n := by have := (ord_ok n).hi _ hl; omega
    exact of_decide_eq_true (all l (List.mem_range.mpr hln))
theorem lent_le9 {h : Hs} (k : HelOk (h.n : Int) h.hel) {st : List Int} (o : StOk h.n st) (l : Nat) : 0 ≤ h.lent st l ∧ h.lent st l ≤ 9 * h.n := by
  rw [← lent_ent o l]
  have : ∀ st : List Int, 0 ≤ (st.map fun i => ent h.hel i l).sum ∧ (st.map fun i => ent h.hel i l).sum ≤ 9 * st.length := by
    intro st
    induction st with
    | nil => simp
    | cons x r ih =>
      have := ent_le k x l
      rw [List.map_cons, List.sum_cons, List.length_cons]
      omega
  have h1 := this st
  have h2 := o.len
  omega
theorem EndU.ex {h : Hs} : True := trivial
/-- the least swell at which the last one goes down, the least at which the last one goes up, as going swell by swell comes to them -/
theorem down_first {h : Hs} (o : StOk h.n (ordI h.n)) (hl : ∀ l, l < h.n → h.dn l < 30) (k : HelOk (h.n : Int) h.hel) : Clo h 30 false (ordI h.n) (ordI h.n) := by
  refine Clo.self o (List.eq_nil_iff_forall_not_mem.mpr fun l hl2 => ?_)
  obtain ⟨m1, _, m3⟩ := mem_want.mp hl2
  have h1 := lent_le9 k o l
  have h2 := hl l m1
  unfold Hs.goes at m3
  simp at m3
  omega
theorem edge_step {h : Hs} {up : Bool} {st c c' : List Int} {s s' : Int} (h1 : Clo h s up st c) (hne : h.mov c up ≠ []) (hs : lev s' up = lev s up + 1) (h2 : Clo h s' up c c') : Clo h s' up st c' ∧ (h.mov c' up = [] → (∃ T, Clo h s' up st T ∧ h.mov T up = []) ∧ ∀ z T, lev z up < lev s' up → Clo h z up st T → h.mov T up ≠ []) := by
  have le : swLe up s s' := by unfold lev at hs; unfold swLe; cases up <;> simp at hs ⊢ <;> omega
  have hc := clo_comp le h1 h2
  refine ⟨hc, fun hm => ⟨⟨c', hc, hm⟩, fun z T hz hT hmT => ?_⟩⟩
  have le2 : swLe up z s := by unfold lev at hs hz; unfold swLe; cases up <;> simp at hs hz ⊢ <;> omega
  have hle := clo_mono le2 hT h1
  -- T lies within c, which has some left
  refine hne (List.eq_nil_iff_forall_not_mem.mpr fun l hl => ?_)
  obtain ⟨m1, m2⟩ := mem_mov.mp hl
  have : l ∈ h.mov T up := mem_mov.mpr ⟨m1, by
    unfold Lq at hle
    cases up with
    | true =>
      rw [Bool.not_true] at m2 ⊢
      exact decide_eq_false fun y => of_decide_eq_false m2 (hle _ y)
    | false =>
      rw [Bool.not_false] at m2 ⊢
      exact decide_eq_true (hle _ (of_decide_eq_true m2))⟩
  rw [hmT] at this
  cases this
end My
namespace My
open PySem PySem.Spec PyProof.Rows L2
theorem l_forAB {g : TG} {ts : TS} {D : Ends} {σ : L2.St} {H : Hp} {i j : Int} {m : Nat} (hm : j = i + (m : Int)) (hi : -100000 < i ∧ i < 100000) (hb : m < 100000) (I : Nat → L2.St → Hp → Prop) (h0 : I 0 σ H)
    (hs : ∀ (k : Nat) σ H', k < m → I k σ H' → g (.int (i + (k : Int))) σ H' fun σ2 H2 => ts ⟨I (k + 1), D.rt, D.nx, I (k + 1)⟩ σ2 H2) (hd : ∀ σ H', I m σ H' → D.nx σ H') : kR2 (kFor g ts D σ) [.int i, .int j] H := by
  subst hm
  refine ⟨_, _, rfl, ⟨by omega, by omega, by omega, by omega⟩, ?_⟩
  rw [show (i + (m : Int) - i).toNat = m by omega]
  exact for_range (lo := i) (n := m) I h0 (fun k σ H' hk h => hs k σ H' hk h) hd
end My
namespace My
open PySem PySem.Spec PyProof.Rows L2
def sw (up : Bool) (s : Int) (k : Nat) : Int := if up = true then s + (k : Int) else s - (k : Int)
theorem lev_sw {up : Bool} {s : Int} {k : Nat} : lev (sw up s k) up = lev s up + (k : Int) := by unfold lev sw; cases up <;> simp <;> omega
theorem swLe_lev {up : Bool} {a b : Int} : swLe up a b ↔ lev a up ≤ lev b up := by unfold lev swLe; cases up <;> simp <;> omega
theorem lev_inj {up : Bool} {a b : Int} (e : lev a up = lev b up) : a = b := by unfold lev at e; cases up <;> simp at e <;> omega
/-- the stand with none left to go -/
theorem top_at {h : Hs} {b t : Int} (cB : Clo h b false (ordI h.n) []) (cT : Clo h t true [] (ordI h.n)) {up : Bool} {Y : List Int} {s : Int} (o : StOk h.n Y) (le : swLe up (if up = true then t else b) s) (w : h.want Y s up = []) : Y = topOf h up := by
  unfold topOf
  cases up with
  | true =>
    rw [if_pos rfl]
    exact high_none cT (show t ≤ s from le) o w
  | false =>
    rw [if_neg Bool.false_ne_true]
    exact low_none cB (show s ≤ b from le) o w
def FoundI (h : Hs) (c : List Int) (up : Bool) (r z : Int) (k : Nat) : Option (Nat × List Int) → Prop
  | none => ∀ k', 1 ≤ k' → k' ≤ k → ∀ Y, Clo h (sw up z k') up c Y → Y ≠ c → ¬ Clo h r (!up) Y c
  | some (k0, X) => 1 ≤ k0 ∧ k0 ≤ k ∧ X ≠ c ∧ Clo h (sw up z k0) up c X ∧ Clo h r (!up) X c ∧ ∀ k', k0 < k' → k' ≤ k → ∀ Y, Clo h (sw up z k') up c Y → Y ≠ c → ¬ Clo h r (!up) Y c
theorem FoundI.keep {h : Hs} {c : List Int} {up : Bool} {r z : Int} {k : Nat} {f : Option (Nat × List Int)} (a : FoundI h c up r z k f) {T : List Int} (hT : Clo h (sw up z (k + 1)) up c T) (no : T ≠ c → ¬ Clo h r (!up) T c) : FoundI h c up r z (k + 1) f := by
  have last : ∀ k', k' = k + 1 → ∀ Y, Clo h (sw up z k') up c Y → Y ≠ c → ¬ Clo h r (!up) Y c := fun k' e Y hY => by
    subst e
    rw [Clo.uniq hY hT]
    exact no
  match f, a with
  | none, a => exact fun k' h1 h2 Y hY => (Nat.lt_or_ge k k').elim (fun h3 => last k' (by omega) Y hY) fun h3 => a k' h1 h3 Y hY
  | some (k0, X), ⟨a1, a2, a3, a4, a5, a6⟩ => exact ⟨a1, by omega, a3, a4, a5, fun k' h1 h2 Y hY => (Nat.lt_or_ge k k').elim (fun h3 => last k' (by omega) Y hY) fun h3 => a6 k' h1 h3 Y hY⟩
theorem FoundI.new {h : Hs} {c : List Int} {up : Bool} {r z : Int} {k : Nat} {T : List Int} (hT : Clo h (sw up z (k + 1)) up c T) (h1 : T ≠ c) (h2 : Clo h r (!up) T c) : FoundI h c up r z (k + 1) (some (k + 1, T)) := ⟨by omega, Nat.le_refl _, h1, hT, h2, fun k' a b => by omega⟩
section
variable {h : Hs} {b t : Int} {c : List Int} {up : Bool} {z r : Int} {m : Nat}
theorem begin_no (hz : EndU h up c b t z) : h.want c z up = [] := by
  rcases EndU.alt.mp hz with ⟨e, _⟩ | ⟨_, a⟩
  · rw [e]
    unfold Hs.want
    rw [mov_top]
    rfl
  · exact (a z).mpr (by unfold swLe; cases up <;> simp)
theorem found_in (cB : Clo h b false (ordI h.n) []) (cT : Clo h t true [] (ordI h.n)) (hp : HsPos h) (oc : StOk h.n c) (hz : EndU h up c b t z) (hm : sw up z m = (if up = true then t else b)) {s : Int} {Y : List Int} (hY : Clo h s up c Y) (hne : Y ≠ c) : ∃ k, 1 ≤ k ∧ k ≤ m ∧ Clo h (sw up z k) up c Y ∧ ∀ k', lev s up ≤ lev z up + (k' : Int) → k' ≤ m → k ≤ k' := by
  have w := begin_no hz
  by_cases h1 : lev s up ≤ lev z up
  · exact absurd (Clo.uniq hY (Clo.self oc (want_weak w (swLe_lev.mpr h1)))) hne
  · by_cases h2 : lev s up ≤ lev z up + (m : Int)
    · refine ⟨(lev s up - lev z up).toNat, by omega, by omega, ?_, fun k' h3 h4 => by omega⟩
      rw [show sw up z (lev s up - lev z up).toNat = s from lev_inj (by rw [lev_sw]; omega)]
      exact hY
    · have le : swLe up (if up = true then t else b) s := by rw [← hm]; exact swLe_lev.mpr (by rw [lev_sw]; omega)
      have eY := top_at cB cT hY.ok le hY.fin
      obtain ⟨W, hW⟩ := clo_any hp (sw up z m) up oc
      have eW := top_at cB cT hW.ok (by rw [hm]; unfold swLe; cases up <;> simp) hW.fin
      have m1 : 1 ≤ m := by
        rcases Nat.eq_zero_or_pos m with e | e
        · exfalso
          rw [e, show sw up z 0 = z from by unfold sw; cases up <;> simp] at hW
          have := Clo.uniq hW (Clo.self oc w)
          exact hne (by rw [eY, ← eW, this])
        · exact e
      exact ⟨m, m1, Nat.le_refl _, by rw [eY, ← eW]; exact hW, fun k' h3 h4 => by omega⟩
theorem found_none (cB : Clo h b false (ordI h.n) []) (cT : Clo h t true [] (ordI h.n)) (hp : HsPos h) (oc : StOk h.n c) (hz : EndU h up c b t z) (hm : sw up z m = (if up = true then t else b)) (a : FoundI h c up r z m none) : FarN h c up r := fun s Y hY hb => by
  by_cases hne : Y = c
  · exact hne
  · obtain ⟨k, h1, h2, h3, _⟩ := found_in cB cT hp oc hz hm hY hne
    exact absurd hb (a k h1 h2 Y h3 hne)
theorem found_some (cB : Clo h b false (ordI h.n) []) (cT : Clo h t true [] (ordI h.n)) (hp : HsPos h) (oc : StOk h.n c) (hz : EndU h up c b t z) (hm : sw up z m = (if up = true then t else b)) {k0 : Nat} {X : List Int} (a : FoundI h c up r z m (some (k0, X))) : FarR h c b t up r (sw up z k0) X := by
  obtain ⟨a1, a2, a3, a4, a5, a6⟩ := a
  have topm : ∀ W, Clo h (sw up z m) up c W → W = topOf h up := fun W hW => top_at cB cT hW.ok (by rw [hm]; unfold swLe; cases up <;> simp) hW.fin
  refine ⟨a3, ⟨_, a4⟩, a5, fun s Y hY hb => ?_, EndU.alt.mpr ?_⟩
  · by_cases hne : Y = c
    · rw [hne]; exact a4.ge
    · obtain ⟨k, h1, h2, h3, _⟩ := found_in cB cT hp oc hz hm hY hne
      rcases Nat.lt_or_ge k0 k with h4 | h4
      · exact absurd hb (a6 k h4 h2 Y h3 hne)
      · exact clo_mono (swLe_lev.mpr (by rw [lev_sw, lev_sw]; omega)) h3 a4
  · by_cases e : X = topOf h up
    · refine .inl ⟨e, ?_⟩
      rcases Nat.lt_or_ge k0 m with h4 | h4
      · exfalso
        obtain ⟨W, hW⟩ := clo_any hp (sw up z (k0 + 1)) up oc
        have hle := clo_mono (swLe_lev.mpr (by rw [lev_sw, lev_sw]; omega)) a4 hW
        have eW : W = X := by
          refine Lq.eq hW.ok a4.ok ?_ hle
          rw [e]
          exact top_ge hW.ok
        subst eW
        exact a6 (k0 + 1) (by omega) (by omega) W hW a3 a5
      · rw [show k0 = m by omega]
        exact hm
    · refine .inr ⟨e, fun s => ⟨fun hw => ?_, fun le => want_weak a4.fin le⟩⟩
      refine Classical.byContradiction fun no => ?_
      have hlt : k0 < m := by
        rcases Nat.lt_or_ge k0 m with h4 | h4
        · exact h4
        · exfalso
          rw [show k0 = m by omega] at a4
          exact e (topm X a4)
      have h5 : ¬ lev s up ≤ lev (sw up z k0) up := fun q => no (swLe_lev.mpr q)
      have hw2 : h.want X (sw up z (k0 + 1)) up = [] := want_weak hw (swLe_lev.mpr (by rw [lev_sw] at h5 ⊢; omega))
      have hc : Clo h (sw up z (k0 + 1)) up c X := clo_comp (swLe_lev.mpr (by rw [lev_sw, lev_sw]; omega)) a4 (Clo.self a4.ok hw2)
      exact a6 (k0 + 1) (by omega) (by omega) X hc a3 a5
end
end My
namespace My
open PySem PySem.Spec PyProof.Rows L2
/-! ### data small enough to be written out -/
theorem ok_app {a b : PySem.Str} (h1 : PyData.strOk a = true) (h2 : PyData.strOk b = true) : PyData.strOk (a ++ b) = true := by
  unfold PyData.strOk at h1 h2 ⊢
  show ((a.cps ++ b.cps).all fun c => decide (c < 0x110000)) = true
  rw [Array.all_append, h1, h2]
  rfl
theorem ok_of (s : String) : PyData.strOk (PySem.Str.ofString s) = true := by
  rw [PySem.Str.ofString_eq_toList]
  unfold PyData.strOk
  simp only [List.all_toArray, List.all_map, List.all_eq_true]
  intro c _
  refine decide_eq_true ?_
  have := c.valid
  simp only [UInt32.isValidChar, Nat.isValidChar] at this
  show c.val.toNat < 0x110000
  omega
theorem ok_from : ∀ (ts : List PySem.Str) (k : Nat) (acc : PySem.Str), PyData.strOk acc = true → (∀ t ∈ ts, PyData.strOk t = true) → PyData.strOk (textFrom k acc ts) = true
  | [], _, _, h, _ => h
  | t :: ts, k, acc, h, ht => by
    show PyData.strOk (textFrom (k + 1) (acc ++ (if k > 0 then ", " else "" : String) ++ t) ts) = true
    exact ok_from ts (k + 1) _ (ok_app (ok_app h (ok_of _)) (ht t (List.mem_cons_self ..))) fun u hu => ht u (List.mem_cons_of_mem _ hu)
theorem ok_join : ∀ (ts : List PySem.Str), (∀ t ∈ ts, PyData.strOk t = true) → PyData.strOk (PySem.Str.join ", " ts) = true
  | [], _ => by show PyData.strOk PySem.Str.empty = true; decide +kernel
  | [t], h => h t (List.mem_cons_self ..)
  | t :: u :: r, h => by
    show PyData.strOk (t ++ (", " : PySem.Str) ++ PySem.Str.join ", " (u :: r)) = true
    exact ok_app (ok_app (h t (List.mem_cons_self ..)) (ok_of ", ")) (ok_join (u :: r) fun z hz => h z (List.mem_cons_of_mem _ hz))
structure RO (d : PyData) (k w : Nat) : Prop where
  sh : d.showable = true
  nd : d.hasDict = false
  dp : d.depth ≤ k
  lv : d.leavesShort 13 = true
  wt : d.weight ≤ w
  ok : PyData.strOk d.shown = true
structure ROA (ds : List PyData) (k w : Nat) : Prop where
  sh : PyData.showableAll ds = true
  nd : PyData.hasDictAll ds = false
  dp : PyData.depthAll ds ≤ k
  lv : PyData.leavesShortAll 13 ds = true
  wt : PyData.weightAll ds ≤ w
  ok : ∀ t ∈ PyData.shownAll ds, PyData.strOk t = true
theorem RO.le {d : PyData} {k w k' w' : Nat} (a : RO d k w) (h1 : k ≤ k') (h2 : w ≤ w') : RO d k' w' := ⟨a.sh, a.nd, Nat.le_trans a.dp h1, a.lv, Nat.le_trans a.wt h2, a.ok⟩
theorem ROA.le {ds : List PyData} {k w k' w' : Nat} (a : ROA ds k w) (h1 : k ≤ k') (h2 : w ≤ w') : ROA ds k' w' := ⟨a.sh, a.nd, Nat.le_trans a.dp h1, a.lv, Nat.le_trans a.wt h2, a.ok⟩
theorem RO.none : RO .none 0 0 := ⟨rfl, rfl, Nat.le_refl _, rfl, Nat.le_refl _, ok_of "None"⟩
theorem RO.bool (b : Bool) : RO (.bool b) 0 0 := ⟨rfl, rfl, Nat.le_refl _, rfl, Nat.le_refl _, by cases b; exact ok_of "False"; exact ok_of "True"⟩
theorem RO.int {i : Int} (h : i.natAbs < 10 ^ 12) : RO (.int i) 0 41 := by
  have hl : i.natAbs.log2 < 41 := by
    by_cases e : i.natAbs = 0
    · rw [e]; decide
    · exact (Nat.log2_lt e).mpr (by omega)
  refine ⟨?_, rfl, Nat.le_refl _, ?_, ?_, ok_of (toString i)⟩
  · show decide (i.natAbs.log2 < 1920) = true
    exact decide_eq_true (by omega)
  · show decide ((PyData.shown (.int i)).length ≤ 13) = true
    exact decide_eq_true (PyData.shown_int_le h)
  · show (if (i == 0) = true then 0 else i.natAbs.log2 + 1) ≤ 41
    split <;> omega
theorem ROA.nil {k : Nat} : ROA [] k 0 := ⟨rfl, rfl, Nat.zero_le _, rfl, Nat.le_refl _, fun t ht => nomatch ht⟩
theorem ROA.cons {d : PyData} {ds : List PyData} {k k' w w' : Nat} (a : RO d k w) (b : ROA ds k' w') : ROA (d :: ds) (max k k') (w + 1 + w') := by
  refine ⟨?_, ?_, ?_, ?_, ?_, fun t ht => ?_⟩
  · show (PyData.showable d && PyData.showableAll ds) = true
    rw [a.sh, b.sh]; rfl
  · show (PyData.hasDict d || PyData.hasDictAll ds) = false
    rw [a.nd, b.nd]; rfl
  · show max (PyData.depth d) (PyData.depthAll ds) ≤ max k k'
    have := a.dp
    have := b.dp
    omega
  · show (PyData.leavesShort 13 d && PyData.leavesShortAll 13 ds) = true
    rw [a.lv, b.lv]; rfl
  · show PyData.weight d + 1 + PyData.weightAll ds ≤ w + 1 + w'
    have := a.wt
    have := b.wt
    omega
  · rcases List.mem_cons.mp (show t ∈ PyData.shown d :: PyData.shownAll ds from ht) with rfl | ht
    · exact a.ok
    · exact b.ok t ht
theorem ROA.ints : ∀ {X : List Int}, (∀ x ∈ X, x.natAbs < 10 ^ 12) → ROA (X.map PyData.int) 0 (42 * X.length)
  | [], _ => ROA.nil
  | x :: X, h => (ROA.cons (RO.int (h x (List.mem_cons_self ..))) (ROA.ints (X := X) fun y hy => h y (List.mem_cons_of_mem _ hy))).le (by omega) (by rw [List.length_cons]; omega)
theorem ROA.all {ds : List PyData} {k w : Nat} (h : ∀ d ∈ ds, RO d k w) : ROA ds k ((w + 1) * ds.length) := by
  induction ds with
  | nil => exact ROA.nil
  | cons d r ih =>
    exact (ROA.cons (h d (List.mem_cons_self ..)) (ih fun y hy => h y (List.mem_cons_of_mem _ hy))).le (by omega) (by rw [List.length_cons, Nat.mul_add]; omega)
theorem RO.tup {ds : List PyData} {k w : Nat} (a : ROA ds k w) : RO (.tuple ds) (k + 1) w := ⟨a.sh, a.nd, by show PyData.depthAll ds + 1 ≤ k + 1; have := a.dp; omega, a.lv, a.wt, ok_app (ok_app (ok_of "(") (ok_join _ a.ok)) (ok_of _)⟩
theorem RO.lst {ds : List PyData} {k w : Nat} (a : ROA ds k w) : RO (.list ds) (k + 1) w := ⟨a.sh, a.nd, by show PyData.depthAll ds + 1 ≤ k + 1; have := a.dp; omega, a.lv, a.wt, ok_app (ok_from _ _ _ (ok_of "[") a.ok) (ok_of "]")⟩
theorem s_repr {K : PySem.W.Frag} {H : Hp} {Q : VK} {x : V} {d : PyData} {k w : Nat} (h : Dp K H x d) (a : RO d k w) (hk : k ≤ 20) (hw : w ≤ 2 ^ 20) (q : Q (.str d.shown) H) : rReprD K [x] H Q :=
  ⟨x, d, rfl, h, a.sh, a.nd, Nat.le_trans a.dp hk, PyData.shown_fits (B := 13) (by decide) (by decide) a.lv (Nat.le_trans a.wt hw), q⟩
theorem shS2 {a b : PySem.Str} (h1 : PyData.strOk a = true) (h2 : PyData.strOk b = true) : SeqAt.shaped (.list [.str a, .str b]) = true := by simp [SeqAt.shaped, PyData.canLay0, PyData.canLayAll0, PyData.depth, PyData.depthAll, h1, h2]
theorem eqS2 (a b : PySem.Str) : PyData.eqv (.list [.str a, .str b]) (.list [.str a, .str b]) = true := by simp [PyData.eqv, PyData.eqvAll]
theorem s_neSS {K : PySem.W.Frag} {H : Hp} {Q : VK} {p r : Addr} {a b : PySem.Str} (k1 : PyData.strOk a = true) (k2 : PyData.strOk b = true) (h1 : SqL K H p [.str a, .str b]) (h2 : SqL K H r [.str a, .str b]) (q : Q (.bl false) H) : rNeD K (.ref p) (.ref r) H Q :=
  ⟨_, _, .lst h1 (.cons (.str a) (.cons (.str b) .nil)), .lst h2 (.cons (.str a) (.cons (.str b) .nil)), shS2 k1 k2, shS2 k1 k2, by rw [eqS2]; exact q⟩
end My
namespace My
open PySem PySem.Spec PyProof.Rows L2
theorem perm_sorted {α : Type} {R : α → α → Prop} (anti : ∀ x y, R x y → R y x → x = y) : ∀ {A B : List α}, A.Pairwise R → B.Pairwise R → A.Perm B → A = B
  | [], B, _, _, p => p.nil_eq
  | x :: A, [], _, _, p => by have := p.length_eq; simp at this
  | x :: A, y :: B, hA, hB, p => by
    have hA' := List.pairwise_cons.mp hA
    have hB' := List.pairwise_cons.mp hB
    have e : x = y := by
      rcases List.mem_cons.mp (p.mem_iff.mp (List.mem_cons_self ..)) with e | e
      · exact e
      · rcases List.mem_cons.mp (p.mem_iff.mpr (List.mem_cons_self ..)) with e2 | e2
        · exact e2.symm
        · exact anti _ _ (hA'.1 y e2) (hB'.1 x e)
    subst e
    rw [perm_sorted anti hA'.2 hB'.2 p.cons_inv]
theorem hels_eq {A B : List (Int × Int × Int)} (a : HelSorted A) (b : HelSorted B) (p : A.Perm B) : A = B :=
  perm_sorted (fun x y h1 h2 => by
    have g1 := mt SrtO.lex3_iff.mpr (by rw [h1]; exact Bool.false_ne_true)
    have g2 := mt SrtO.lex3_iff.mpr (by rw [h2]; exact Bool.false_ne_true)
    have e1 : x.1 = y.1 := by omega
    have e2 : x.2.1 = y.2.1 := by omega
    have e3 : x.2.2 = y.2.2 := by omega
    exact Prod.ext e1 (Prod.ext e2 e3)) a b p
end My
namespace My
open PySem PySem.Spec PyProof.Rows L2
theorem evn_t {K : PySem.W.Frag} {α : Type} {ta : TE} {σ : L2.St} {H : Hp} {as : List α} {R : Hp → V → α → Prop} (mono : ∀ H1 H' x i, Ex H1 H' → R H1 x i → R H' x i) (he : ∀ Q2 : VK, (∀ t xs H1, Ex H H1 → H1 t = some (.tup xs) → Al (R H1) xs as → Q2 (.ref t) H1) → ta σ H Q2) : EvN (iTup K ta) σ H as.length (fun i x H2 => ∃ b, as[i]? = some b ∧ R H2 x b) := fun R2 k => he _ fun t xs H1 e1 ht hal => ⟨t, rfl, ⟨xs, .of ht⟩, k _ _ e1 (ok_tA (.of ht) hal (mono H1))⟩
end My
/-! ### widenings -/
namespace My
open PySem PySem.Spec PyProof.Rows L2
def FarO (h : Hs) (c : List Int) (b t : Int) (up : Bool) : Option (Int × List Int) → Prop
  | none => ∃ back, EndU h (!up) c b t back ∧ FarN h c up back
  | some (s, X) => ∃ back, EndU h (!up) c b t back ∧ FarR h c b t up back s X
theorem FarO.uniq {h : Hs} {c : List Int} {b t : Int} {up : Bool} {o o' : Option (Int × List Int)} (a : FarO h c b t up o) (d : FarO h c b t up o') : o = o' := by
  match o, o', a, d with
  | none, none, _, _ => rfl
  | none, some (s, X), ⟨r, e, f⟩, ⟨r', e', f'⟩ => rw [e.uniq e'] at f; exact (f'.not f).elim
  | some (s, X), none, ⟨r, e, f⟩, ⟨r', e', f'⟩ => rw [e'.uniq e] at f'; exact (f.not f').elim
  | some (s, X), some (s', X'), ⟨r, e, f⟩, ⟨r', e', f'⟩ =>
    rw [e.uniq e'] at f
    obtain ⟨h1, h2⟩ := f.uniq f'
    rw [h1, h2]
def dueD : Option (Int × List Int) → PyData
  | none => .none
  | some (s, X) => .tuple [.int s, dT X]
theorem due_ro {o : Option (Int × List Int)} (h : ∀ s X, o = some (s, X) → s.natAbs < 10 ^ 12 ∧ X.length ≤ 100 ∧ ∀ x ∈ X, x.natAbs < 10 ^ 12) : RO (dueD o) 2 10000 := by
  match o, h with
  | none, _ => exact RO.none.le (by decide) (by decide)
  | some (s, X), h =>
    obtain ⟨h1, h2, h3⟩ := h s X rfl
    exact (RO.tup (.cons (RO.int h1) (.cons (RO.tup (ROA.ints h3)) (.nil (k := 0))))).le (by decide) (by omega)
theorem EndU.fn {h : Hs} {up : Bool} {c : List Int} {b t z : Int} (a : EndU h up c b t z) : h.want c z up = [] := begin_no a
/-- of two stands that lie in one way the farther has the fewer left to go -/
theorem mov_strict {h : Hs} {up : Bool} {A B : List Int} (oA : StOk h.n A) (oB : StOk h.n B) (le : Lq up A B) (ne : A ≠ B) : (h.mov B up).length + 1 ≤ (h.mov A up).length := by
  have sub : ∀ l, l ∈ h.mov B up → l ∈ h.mov A up := fun l hl => by
    obtain ⟨m1, m2⟩ := mem_mov.mp hl
    refine mem_mov.mpr ⟨m1, ?_⟩
    unfold Lq at le
    cases up with
    | true =>
      rw [Bool.not_true] at m2 ⊢
      exact decide_eq_false fun y => of_decide_eq_false m2 (le _ y)
    | false =>
      rw [Bool.not_false] at m2 ⊢
      exact decide_eq_true (le _ (of_decide_eq_true m2))
  have e : h.mov B up = (h.mov A up).filter fun l => decide (l ∈ h.mov B up) := by
    unfold Hs.mov
    rw [List.filter_filter]
    refine List.filter_congr fun l hl => ?_
    have hl2 : l < h.n := List.mem_range.mp hl
    have h1 : (l ∈ h.mov B up) ↔ (decide ((l : Int) ∈ B) != up) = true := by
      unfold Hs.mov
      rw [List.mem_filter]
      exact ⟨fun z => z.2, fun z => ⟨hl, z⟩⟩
    have h2 : (l ∈ h.mov A up) ↔ (decide ((l : Int) ∈ A) != up) = true := by
      unfold Hs.mov
      rw [List.mem_filter]
      exact ⟨fun z => z.2, fun z => ⟨hl, z⟩⟩
    have h3 := sub l
    rw [h1, h2] at h3
    have h1' := h1
    unfold Hs.mov at h1'
    rw [show decide (l ∈ List.filter (fun (l : Nat) => decide ((l : Int) ∈ B) != up) (List.range h.n)) = (decide ((l : Int) ∈ B) != up) from by rw [Bool.eq_iff_iff, decide_eq_true_eq]; exact h1']
    cases hb : (decide ((l : Int) ∈ B) != up) with
    | false => rfl
    | true => rw [h3 hb]; rfl
  rw [e]
  refine List.length_filter_lt_length_iff_exists.mpr ?_
  refine Classical.byContradiction fun no => ne (Lq.eq oA oB le ?_)
  have all : ∀ l, l ∈ h.mov A up → l ∈ h.mov B up := fun l hl => Classical.byContradiction fun z => no ⟨l, hl, by rw [decide_eq_true_eq]; exact z⟩
  unfold Lq
  cases up with
  | true =>
    rw [if_pos rfl]
    intro x hx
    obtain ⟨l, rfl, hl⟩ := oB.nat hx
    refine Classical.byContradiction fun z => ?_
    have := (mem_mov.mp (all l (mem_mov.mpr ⟨hl, decide_eq_false z⟩))).2
    exact of_decide_eq_false this hx
  | false =>
    rw [if_neg Bool.false_ne_true]
    intro x hx
    obtain ⟨l, rfl, hl⟩ := oA.nat hx
    have := (mem_mov.mp (all l (mem_mov.mpr ⟨hl, decide_eq_true hx⟩))).2
    exact of_decide_eq_true this
section
variable {h : Hs} {b t : Int}
theorem top_edge (hp : HsPos h) (cB : Clo h b false (ordI h.n) []) (cT : Clo h t true [] (ordI h.n)) (up : Bool) : SetAt h (topOf h up) (if up = true then t else b) := by
  unfold topOf
  cases up with
  | true => exact high_self hp cT (Int.le_refl _)
  | false => exact low_self hp cB (Int.le_refl _)
/-- where one stands the end behind is no farther than where one is settled -/
theorem end_set (hp : HsPos h) (cB : Clo h b false (ordI h.n) []) (cT : Clo h t true [] (ordI h.n)) {c : List Int} (hs : ∃ s, SetAt h c s) {up : Bool} {r : Int} (he : EndU h (!up) c b t r) : ∃ s, SetAt h c s ∧ lev r up ≤ lev s up := by
  rcases EndU.alt.mp he with ⟨e, er⟩ | ⟨_, a⟩
  · refine ⟨r, ?_, Int.le_refl _⟩
    rw [e, er]
    exact top_edge hp cB cT (!up)
  · obtain ⟨s, w1, w2⟩ := hs
    refine ⟨s, ⟨w1, w2⟩, ?_⟩
    have : h.want c s (!up) = [] := by cases up; exact w1; exact w2
    exact swLe_lev.mp (swLe_not.mp ((a s).mp this))
theorem set_no {c : List Int} {s : Int} (w : SetAt h c s) (up : Bool) : h.want c s up = [] := by
  obtain ⟨w1, w2⟩ := w
  cases up
  · exact w2
  · exact w1
/-- the farthest swell lies beyond the end on the other side -/
theorem far_beyond (hp : HsPos h) (cB : Clo h b false (ordI h.n) []) (cT : Clo h t true [] (ordI h.n)) {c : List Int} (oc : StOk h.n c) (hs : ∃ s, SetAt h c s) {up : Bool} {r s : Int} {X : List Int} (he : EndU h (!up) c b t r) (hf : FarR h c b t up r s X) : lev r up < lev s up := by
  obtain ⟨s0, w0, l0⟩ := end_set hp cB cT hs he
  obtain ⟨s', hX⟩ := hf.way
  have n0 := set_no w0 up
  have l1 : lev s0 up < lev s' up := by
    refine Int.not_le.mp fun z => hf.ne ?_
    exact Clo.uniq hX (Clo.self oc (want_weak n0 (swLe_lev.mpr z)))
  rcases EndU.alt.mp hf.fin with ⟨e, es⟩ | ⟨_, a⟩
  · have l2 : lev s0 up < lev s up := by
      refine Int.not_le.mp fun z => hf.ne ?_
      rw [es] at z
      rw [e]
      exact (top_at cB cT oc (swLe_lev.mpr z) n0).symm
    omega
  · have := swLe_lev.mp ((a s').mp hX.fin)
    omega
/-- what is farther than the last one but one lies beyond it -/
theorem far_wider {c X Z : List Int} {up : Bool} {r s s2 : Int} (hX : Clo h s2 up c X) (eX : EndU h up X b t s2) (hZ : FarR h c b t up r s Z) (lt : lev s2 up < lev s up) : Lq up X Z ∧ X ≠ Z := by
  obtain ⟨s', k⟩ := hZ.way
  refine ⟨hX.least Z k.ok k.ge (want_weak (begin_no hZ.fin) (swLe_lev.mpr (by omega))), fun e => ?_⟩
  subst e
  have := eX.uniq hZ.fin
  subst this
  omega
/-- whether a swell goes beyond the last one but one -/
def GoOn : List (Int × List Int) → Bool → Int → Prop
  | _ :: g :: _, up, s => lev g.1 up < lev s up
  | _, _, _ => True
/-- what is found so far, the last one ahead, then where one stands and which way one goes next -/
inductive Wid (h : Hs) (b t : Int) (c0 : List Int) (u0 : Bool) : List (Int × List Int) → List Int → Bool → Prop
  | nil : Wid h b t c0 u0 [] c0 u0
  | step {rs : List (Int × List Int)} {c : List Int} {up : Bool} {s : Int} {X : List Int} : Wid h b t c0 u0 rs c up → FarO h c b t up (some (s, X)) → GoOn rs up s → Wid h b t c0 u0 ((s, X) :: rs) X (!up)
def Done (h : Hs) (b t : Int) (rs : List (Int × List Int)) (c : List Int) (up : Bool) : Prop := ∃ o, FarO h c b t up o ∧ ∀ s X, o = some (s, X) → ¬ GoOn rs up s
variable {c0 : List Int} {u0 : Bool}
theorem Wid.det {rs rs' : List (Int × List Int)} {c c' : List Int} {up up' : Bool} (a : Wid h b t c0 u0 rs c up) (d : Wid h b t c0 u0 rs' c' up') (e : rs.length = rs'.length) : rs = rs' ∧ c = c' ∧ up = up' := by
  induction a generalizing rs' c' up' with
  | nil =>
    cases d with
    | nil => exact ⟨rfl, rfl, rfl⟩
    | step _ _ _ => cases e
  | step a1 f g ih =>
    cases d with
    | nil => cases e
    | step d1 f' g' =>
      obtain ⟨h1, h2, h3⟩ := ih d1 (by simpa using e)
      subst h1 h2 h3
      have := f.uniq f'
      cases this
      exact ⟨rfl, rfl, rfl⟩
theorem Wid.sub {rs : List (Int × List Int)} {c : List Int} {up : Bool} (a : Wid h b t c0 u0 rs c up) {k : Nat} (hk : k < rs.length) : ∃ rs1 c1 up1 s X, rs1.length = k ∧ Wid h b t c0 u0 rs1 c1 up1 ∧ FarO h c1 b t up1 (some (s, X)) ∧ GoOn rs1 up1 s := by
  induction a with
  | nil => cases hk
  | @step rs c up s X a1 f g ih =>
    rcases Nat.lt_or_ge k rs.length with h1 | h1
    · exact ih h1
    · refine ⟨rs, c, up, s, X, ?_, a1, f, g⟩
      rw [List.length_cons] at hk
      omega
theorem Wid.past {rs rs' : List (Int × List Int)} {c c' : List Int} {up up' : Bool} (a : Wid h b t c0 u0 rs c up) (x : Done h b t rs c up) (d : Wid h b t c0 u0 rs' c' up') : rs'.length ≤ rs.length := by
  refine Nat.not_lt.mp fun z => ?_
  obtain ⟨rs1, c1, up1, s, X, e, a1, f, g⟩ := d.sub z
  obtain ⟨h1, h2, h3⟩ := a.det a1 e.symm
  subst h1 h2 h3
  obtain ⟨o, fo, no⟩ := x
  have := fo.uniq f
  subst this
  exact no s X rfl g
theorem Wid.uniq {rs rs' : List (Int × List Int)} {c c' : List Int} {up up' : Bool} (a : Wid h b t c0 u0 rs c up) (x : Done h b t rs c up) (d : Wid h b t c0 u0 rs' c' up') (y : Done h b t rs' c' up') : rs = rs' ∧ c = c' ∧ up = up' := a.det d (Nat.le_antisymm (d.past y a) (a.past x d))
/-- each lies beyond all ahead of it -/
def Ext : List (Int × List Int) → Bool → Prop
  | [], _ => True
  | g :: rest, d => (∀ x ∈ rest, lev x.1 d < lev g.1 d) ∧ Ext rest (!d)
structure WidI (h : Hs) (b t : Int) (c0 : List Int) (rs : List (Int × List Int)) (c : List Int) (up : Bool) : Prop where
  ok : StOk h.n c
  set : ∃ s, SetAt h c s
  no : rs = [] → c = c0
  one : ∀ s1 X1 rest, rs = (s1, X1) :: rest → c = X1 ∧ EndU h (!up) c b t s1 ∧ (h.mov X1 (!up)).length + (rs.length + 1) / 2 ≤ h.n ∧ SetAt h X1 s1
  two : ∀ s1 X1 s2 X2 rest, rs = (s1, X1) :: (s2, X2) :: rest → Clo h s2 up c X2 ∧ EndU h up X2 b t s2 ∧ (h.mov X2 up).length + rs.length / 2 ≤ h.n ∧ StOk h.n X2
  ext : Ext rs (!up)
  all : ∀ g ∈ rs, StOk h.n g.2 ∧ SetAt h g.2 g.1 ∧ ∃ d, EndU h d g.2 b t g.1
  fst : ∀ s1 X1, rs = [(s1, X1)] → ∃ z, EndU h up c0 b t z ∧ FarR h c0 b t (!up) z s1 X1
  lst : ∀ s1 X1 s2 X2 rest, rs = (s1, X1) :: (s2, X2) :: rest → FarR h X2 b t (!up) s2 s1 X1
theorem far_set (hp : HsPos h) (cB : Clo h b false (ordI h.n) []) (cT : Clo h t true [] (ordI h.n)) {c : List Int} (hs : ∃ s, SetAt h c s) {up : Bool} {r s : Int} {X : List Int} (oc : StOk h.n c) (he : EndU h (!up) c b t r) (hf : FarR h c b t up r s X) : SetAt h X s := by
  obtain ⟨s', k⟩ := hf.way
  obtain ⟨s0, w0, l0⟩ := end_set hp cB cT hs he
  have hX : SetAt h X s' := by
    have l1 : lev s0 up < lev s' up := by
      refine Int.not_le.mp fun z => hf.ne ?_
      exact Clo.uniq k (Clo.self oc (want_weak (set_no w0 up) (swLe_lev.mpr z)))
    have e : decide (s0 ≤ s') = up := by unfold lev at l1; cases up <;> simp at l1 ⊢ <;> omega
    exact leg_settled hp w0 (by rw [e]; exact k)
  -- the end ahead keeps it
  rcases EndU.alt.mp hf.fin with ⟨e, es⟩ | ⟨_, a⟩
  · rw [e, es]
    exact top_edge hp cB cT up
  · have l2 := swLe_lev.mp ((a s').mp k.fin)
    have n1 : h.want X s up = [] := begin_no hf.fin
    have n2 : h.want X s (!up) = [] := want_weak (set_no hX (!up)) (swLe_not.mpr (swLe_lev.mpr l2))
    cases up
    · exact ⟨n2, n1⟩
    · exact ⟨n1, n2⟩
theorem Wid.inv (hp : HsPos h) (cB : Clo h b false (ordI h.n) []) (cT : Clo h t true [] (ordI h.n)) (o0 : StOk h.n c0) (s0 : ∃ s, SetAt h c0 s) {rs : List (Int × List Int)} {c : List Int} {up : Bool} (a : Wid h b t c0 u0 rs c up) : WidI h b t c0 rs c up := by
  induction a with
  | nil => exact ⟨o0, s0, fun _ => rfl, (fun _ _ _ e => nomatch e), (fun _ _ _ _ _ e => nomatch e), trivial, (fun _ e => nomatch e), (fun _ _ e => nomatch e), (fun _ _ _ _ _ e => nomatch e)⟩
  | @step rs c up s X a1 f g ih =>
    obtain ⟨r, he, hf⟩ := f
    have oX : StOk h.n X := hf.way.elim fun _ k => k.ok
    have cX : Lq up c X := hf.way.elim fun _ k => k.ge
    have sX := far_set hp cB cT ih.set ih.ok he hf
    have bey := far_beyond hp cB cT ih.ok ih.set he hf
    have nn : (!!up) = up := by cases up <;> rfl
    have m1 : (h.mov X up).length + 1 ≤ (h.mov c up).length := mov_strict ih.ok oX cX fun e => hf.ne e.symm
    have m2 := mov_len h c up
    refine ⟨oX, ⟨s, sX⟩, (fun e => by cases e), ?_, ?_, ?_, ?_, ?_, ?_⟩
    · rintro s1 X1 rest e
      cases e
      refine ⟨rfl, by rw [nn]; exact hf.fin, ?_, sX⟩
      rw [nn, List.length_cons]
      match rs, g, ih with
      | [], _, _ => show _ + (0 + 1 + 1) / 2 ≤ _; omega
      | [g1], _, _ => show _ + (0 + 1 + 1 + 1) / 2 ≤ _; omega
      | (s1, X1) :: (s2, X2) :: r2, g, ih =>
        obtain ⟨t1, t2, t3, t4⟩ := ih.two s1 X1 s2 X2 r2 rfl
        obtain ⟨l1, l2⟩ := far_wider t1 t2 hf g
        have := mov_strict t4 oX l1 l2
        simp only [List.length_cons] at t3 ⊢
        omega
    · rintro s1 X1 s2 X2 rest e
      cases e
      obtain ⟨t1, t2, t3, t4⟩ := ih.one s2 X2 rest rfl
      subst t1
      have er := he.uniq t2
      subst er
      refine ⟨hf.back, by exact t2, ?_, ih.ok⟩
      simp only [List.length_cons] at t3 ⊢
      have e1 : (rest.length + 1 + 1) / 2 = (rest.length + 1 + 1) / 2 := rfl
      omega
    · rw [nn]
      refine ⟨?_, ih.ext⟩
      match rs, g, ih with
      | [], _, _ => exact fun _ e => nomatch e
      | (s1, X1) :: rest, g, ih =>
        obtain ⟨t1, t2, t3, t4⟩ := ih.one s1 X1 rest rfl
        have er := he.uniq t2
        subst er
        intro x hx
        rcases List.mem_cons.mp hx with rfl | hx
        · exact bey
        · match rest, g, hx, ih with
          | (s2, X2) :: r2, g, hx, ih =>
            have g2 : lev s2 up < lev s up := g
            rcases List.mem_cons.mp hx with rfl | hx
            · exact g2
            · have := ih.ext.2.1 x hx
              rw [nn] at this
              exact Int.lt_trans this g2
    · intro x hx
      rcases List.mem_cons.mp hx with rfl | hx
      · exact ⟨oX, sX, up, hf.fin⟩
      · exact ih.all x hx
    · rintro s1 X1 e
      cases e
      cases ih.no rfl
      exact ⟨r, he, by rw [nn]; exact hf⟩
    · rintro s1 X1 s2 X2 rest e
      cases e
      obtain ⟨t1, t2, t3, t4⟩ := ih.one s2 X2 rest rfl
      subst t1
      have er := he.uniq t2
      subst er
      rw [nn]
      exact hf
theorem WidI.len {rs : List (Int × List Int)} {c : List Int} {up : Bool} (a : WidI h b t c0 rs c up) : rs.length ≤ 2 * h.n := by
  match rs, a with
  | [], _ => exact Nat.zero_le _
  | (s1, X1) :: rest, a =>
    have := (a.one s1 X1 rest rfl).2.2.1
    simp only [List.length_cons] at this ⊢
    omega
end
end My
namespace My
open PySem PySem.Spec PyProof.Rows L2
def StepV (K : PySem.W.Frag) (H : Hp) (x : V) (g : Int × List Int) : Prop := ∃ T tX, x = .ref T ∧ H T = some (.tup [.int g.1, .ref tX]) ∧ SqT K H tX (g.2.map V.int)
theorem StepV.ki {K : PySem.W.Frag} {H H' : Hp} {x : V} {g : Int × List Int} (a : StepV K H x g) (e : Ki H H') : StepV K H' x g := let ⟨T, tX, h1, h2, h3⟩ := a; ⟨T, tX, h1, e _ _ trivial h2, h3.ki e⟩
def widD (g : Int × List Int) : PyData := .tuple [.int g.1, dT g.2]
theorem StepV.dp {K : PySem.W.Frag} {H : Hp} {x : V} {g : Int × List Int} (a : StepV K H x g) : Dp K H x (widD g) := by
  obtain ⟨T, tX, rfl, h2, h3⟩ := a
  exact .tup (.of h2) (.cons (.int _) (.cons (dpT h3) .nil))
end My
namespace My
open PySem PySem.Spec PyProof.Rows L2
theorem or_one {A B U : Hp → Prop} {b : Bool} {H : Hp} (g : Prop) (hA : g → A H) (k : (g → A H) → kIf (kIf A B true) U b H) : kIf (kIf A B true) U b H := k hA
theorem GoOn.short {rs : List (Int × List Int)} {up : Bool} {s : Int} (h : rs.length < 2) : GoOn rs up s := by
  match rs, h with
  | [], _ => trivial
  | [_], _ => trivial
end My
namespace My
open PySem PySem.Spec PyProof.Rows L2
theorem Ki.tup {H H' : Hp} (e : Ki H H') {T : Addr} {xs : List V} (h : H T = some (.tup xs)) : H' T = some (.tup xs) := e _ _ trivial h
end My
namespace My
open PySem PySem.Spec PyProof.Rows L2
theorem dpa_cons {K : PySem.W.Frag} {H : Hp} {x : V} {d : PyData} {xs : List V} {ds : List PyData} (a : Dp K H x d) (b : DpAll K H xs ds) : DpAll K H (x :: xs) (d :: ds) := .cons a b
theorem dpa_al {K : PySem.W.Frag} {H : Hp} {α : Type} {R : V → α → Prop} {f : α → PyData} (hR : ∀ x g, R x g → Dp K H x (f g)) : ∀ {xs : List V} {gs : List α}, Al R xs gs → DpAll K H xs (gs.map f)
  | [], [], _ => .nil
  | [], g :: gs, a => by have := a.1; simp at this
  | x :: xs, [], a => by have := a.1; simp at this
  | x :: xs, g :: gs, a => .cons (hR x g (a.2 0 x g rfl rfl)) (dpa_al hR ⟨by have := a.1; simpa using this, fun i y g' h1 h2 => a.2 (i + 1) y g' h1 h2⟩)
/-- steps that are small enough to be written out -/
def SmallG (rs : List (Int × List Int)) : Prop := rs.length ≤ 16 ∧ ∀ g ∈ rs, g.1.natAbs < 10 ^ 12 ∧ g.2.length ≤ 100 ∧ ∀ x ∈ g.2, x.natAbs < 10 ^ 12
def widL (rs : List (Int × List Int)) : PyData := .list (rs.reverse.map widD)
theorem widL_ro {rs : List (Int × List Int)} (h : SmallG rs) : RO (widL rs) 3 160016 := by
  refine (RO.lst (k := 2) (w := (10000 + 1) * (rs.reverse.map widD).length) (ROA.all fun d hd => ?_)).le (by decide) (by rw [List.length_map, List.length_reverse]; have := h.1; omega)
  obtain ⟨g, hg, rfl⟩ := List.mem_map.mp hd
  exact due_ro (o := some g) fun s X e => by cases e; exact h.2 _ (List.mem_reverse.mp hg)
theorem widP_ro {a b : List (Int × List Int)} (ha : SmallG a) (hb : SmallG b) : RO (.list [widL a, widL b]) 4 400000 :=
  (RO.lst (.cons (widL_ro ha) (.cons (widL_ro hb) (.nil (k := 0))))).le (by decide) (by decide)
theorem widL_dp {K : PySem.W.Frag} {H : Hp} {l : Addr} {xs : List V} {rs : List (Int × List Int)} (h : H l = some (.lst xs)) (a : Al (StepV K H) xs rs.reverse) : Dp K H (.ref l) (widL rs) := .lst (.of h) (dpa_al (fun _ _ z => z.dp) a)
theorem widP_dp {K : PySem.W.Frag} {H : Hp} {l : Addr} {x y : V} {a b : List (Int × List Int)} (h : H l = some (.lst [x, y])) (ha : Dp K H x (widL a)) (hb : Dp K H y (widL b)) : Dp K H (.ref l) (.list [widL a, widL b]) := .lst (.of h) (.cons ha (.cons hb .nil))
theorem WidI.small {h : Hs} {b t : Int} {c0 c : List Int} {rs : List (Int × List Int)} {up : Bool} (a : WidI h b t c0 rs c up) (hn : h.n ≤ 8) (gs : ∀ g ∈ rs, -90 ≤ g.1 ∧ g.1 ≤ 30) : SmallG rs := by
  refine ⟨by have := a.len; omega, fun g hg => ?_⟩
  obtain ⟨o, _, _⟩ := a.all g hg
  have := gs g hg
  refine ⟨by omega, by have := o.len; omega, fun x hx => ?_⟩
  have := o.lo x hx
  have := o.hi x hx
  omega
end My
namespace My
open PySem PySem.Spec PyProof.Rows L2
theorem lc_evND {wi : TI} {g : TG} {tt : TT} {te : TE} {vs : List Nat} {σ : L2.St} {H : Hp} {Q : VK} (n : Nat) (Y : Nat → V → Hp → Prop) (kp : Nat → Bool) (RB : Addr → Nat → V → Hp → Prop)
    (hb : n < 100000) (mono : ∀ D i y H1 H2, ExB D H1 H2 → Ki H1 H2 → RB D i y H1 → RB D i y H2) (ho : EvN wi σ H n Y)
    (hi : ∀ i, i < n → ∀ x H1, Ex H H1 → Y i x H1 → ∃ σ2, GvR g x (L2.wipe σ vs) H1 σ2 ∧ L2.wipe σ2 vs = L2.wipe σ vs ∧ (∀ H2, Ex H1 H2 → TvR tt σ2 H2 (kp i)) ∧ (kp i = true → ∀ D H2, Ex H1 H2 → H D = none → (∃ ys, H2 D = some (.lst ys)) → EvR te σ2 H2 (RB D i)))
    (q : ∀ l ys H', H l = none → Ex H H' → H' l = some (.lst ys) → Al (fun y i => RB l i y H') ys ((List.range n).filter kp) → Q (.ref l) H') : tLc wi g tt te vs σ H Q := by
  refine ho _ fun J H1 e1 hJ D hD => ?_
  have hDH : H D = none := e1.free hD
  refine loopW (n := n) (Body := fun x H' Nx => g x (L2.wipe σ vs) H' fun σ2 H2 => L2.wipe σ2 vs = L2.wipe σ vs ∧ tt σ2 H2 fun b H3 => if b = true then te σ2 H3 fun y H4 => ∃ acc, H4 D = some (.lst acc) ∧ acc.length < sizeLine ∧ Nx (upd H4 D (.lst (acc ++ [y]))) else Nx H3)
    (fun i H' => Ex H1 H' ∧ ∃ ys, H' D = some (.lst ys) ∧ Al (fun y i => RB D i y H') ys ((List.range i).filter kp)) ⟨Ex.new hD, [], upd_same, by simpa using Al.nil⟩ ?_ ?_
  · rintro H' ⟨e, ys, h1, h2⟩
    exact ⟨(hJ H' e).2, q D ys H' hDH (e1.trans e) h1 h2⟩
  · rintro i H' hin ⟨e, ys, h1, h2⟩
    refine ⟨((hJ H' e).1 i hin).1, fun x H2 hy => ?_⟩
    obtain ⟨e2, hY⟩ := ((hJ H' e).1 i hin).2 x H2 hy
    obtain ⟨σ2, hg, hw, ht, he⟩ := hi i hin x H2 ((e1.trans e).trans e2) hY
    refine hg _ fun H3 e3 => ⟨hw, ht H3 e3 _ fun H4 e4 => ?_⟩
    have e24 := (e2.trans e3).trans e4
    cases hk : kp i with
    | false =>
      refine iteF ⟨e.trans e24, ys, e24 _ _ h1, ?_⟩
      rw [List.range_succ, List.filter_append, List.filter_cons_of_neg (by rw [hk]; decide), List.filter_nil, List.append_nil]
      exact h2.imp fun y p => mono D p y _ _ e24.exB e24.ki
    | true =>
      refine iteT (he hk D H4 (e3.trans e4) hDH ⟨ys, e24 _ _ h1⟩ _ fun y H5 e5 hy => ?_)
      have e25 := e24.trans e5
      have hlen : ys.length < 100000 := by
        have h3 := h2.1
        have h4 := List.length_filter_le kp (List.range i)
        rw [List.length_range] at h4
        omega
      refine ⟨ys, e25 _ _ h1, Nat.lt_of_lt_of_le hlen (by decide), Ex.mut (e.trans e25) hD, ys ++ [y], upd_same, ?_⟩
      rw [List.range_succ, List.filter_append, List.filter_cons_of_pos hk, List.filter_nil]
      have kd : ExB D H5 (upd H5 D (.lst (ys ++ [y]))) := fun b o hb h => (if_neg hb).trans h
      have kd2 : Ki H5 (upd H5 D (.lst (ys ++ [y]))) := Ki.lst Ki.rfl (e25 _ _ h1)
      exact (h2.imp fun y p hh => mono D p y _ _ (e25.exB.trans kd) (e25.ki.trans kd2) hh).snoc (mono D i y _ _ kd kd2 hy)
/-- a comprehension over whatever tells the things of a list, made on the way -/
theorem lc_evAD {α : Type} {wi : TI} {g : TG} {tt : TT} {te : TE} {vs : List Nat} {σ : L2.St} {H : Hp} {Q : VK} (as : List α) (Y : α → V → Hp → Prop) (kp : α → Bool) (RB : Addr → α → V → Hp → Prop)
    (hb : as.length < 100000) (mono : ∀ D b y H1 H2, ExB D H1 H2 → Ki H1 H2 → RB D b y H1 → RB D b y H2) (ho : EvN wi σ H as.length fun i x H2 => ∃ b, as[i]? = some b ∧ Y b x H2)
    (hi : ∀ b, b ∈ as → ∀ x H1, Ex H H1 → Y b x H1 → ∃ σ2, GvR g x (L2.wipe σ vs) H1 σ2 ∧ L2.wipe σ2 vs = L2.wipe σ vs ∧ (∀ H2, Ex H1 H2 → TvR tt σ2 H2 (kp b)) ∧ (kp b = true → ∀ D H2, Ex H1 H2 → H D = none → (∃ ys, H2 D = some (.lst ys)) → EvR te σ2 H2 (RB D b)))
    (q : ∀ l ys H', H l = none → Ex H H' → H' l = some (.lst ys) → Al (fun y b => RB l b y H') ys (as.filter kp) → Q (.ref l) H') : tLc wi g tt te vs σ H Q := by
  refine lc_evND as.length _ (fun i => (as[i]?).any kp) (fun D i y H1 => ∃ b, as[i]? = some b ∧ RB D b y H1) hb (fun D i y H1 H2 e f ⟨b, h1, h2⟩ => ⟨b, h1, mono D b y H1 H2 e f h2⟩) ho ?_ fun l ys H' nl e hl h => q l ys H' nl e hl (al_filter h)
  rintro i hin x H1 e1 ⟨b, hbi, hy⟩
  obtain ⟨σ2, h1, h2, h3, h4⟩ := hi b (List.mem_of_getElem? hbi) x H1 e1 hy
  have ek : (as[i]?).any kp = kp b := by rw [hbi]; rfl
  refine ⟨σ2, h1, h2, fun H2 e2 => ?_, fun hk D H2 e2 nD hD => ?_⟩
  · rw [ek]; exact h3 H2 e2
  · rw [ek] at hk
    exact fun Q2 k => h4 hk D H2 e2 nD hD Q2 fun v H3 e3 hr => k v H3 e3 ⟨b, hbi, hr⟩
end My
namespace My
open PySem PySem.Spec PyProof.Rows L2
theorem ext_out : ∀ {rs : List (Int × List Int)} {d : Bool}, Ext rs d → ∀ {k : Nat} {s : Int}, (rs.reverse.map (·.1))[k]? = some s → ∃ d', ∀ y, y ∈ (rs.reverse.map (·.1)).take k → lev y d' < lev s d'
  | [], _, _, k, s, h => by simp at h
  | g :: rest, d, ⟨e1, e2⟩, k, s, h => by
    rw [List.reverse_cons, List.map_append] at h ⊢
    have hl : (rest.reverse.map (·.1)).length = rest.length := by simp
    rcases Nat.lt_or_ge k rest.length with hk | hk
    · rw [List.getElem?_append_left (by omega)] at h
      rw [List.take_append_of_le_length (by omega)]
      exact ext_out e2 h
    · rw [List.getElem?_append_right (by omega), hl] at h
      have hk0 : k - rest.length = 0 := by
        rcases Nat.eq_zero_or_pos (k - rest.length) with z | z
        · exact z
        · rw [List.getElem?_eq_none (by simp; omega)] at h
          cases h
      rw [hk0] at h
      have es : g.1 = s := by simpa using h
      refine ⟨d, fun y hy => ?_⟩
      have hk2 : k = (rest.reverse.map (·.1)).length := by omega
      rw [hk2, List.take_append_of_le_length (Nat.le_refl _), List.take_length] at hy
      obtain ⟨x, hx, rfl⟩ := List.mem_map.mp hy
      rw [← es]
      exact e1 x (List.mem_reverse.mp hx)
end My
namespace My
open PySem PySem.Spec PyProof.Rows L2
theorem kMinL {X : Cx} {K : PySem.W.Frag} (hc : X.calm = true) (hK : X.K = K := by rfl) : CallR X (.builtin "min") (rMin K) := by subst hK; exact cr_min hc
theorem kMaxL {X : Cx} {K : PySem.W.Frag} (hc : X.calm = true) (hK : X.K = K := by rfl) : CallR X (.builtin "max") (rMax K) := by subst hK; exact cr_max hc
end My
namespace My
open PySem PySem.Spec PyProof.Rows L2
theorem l_forAC {g : TG} {ts : TS} {D : Ends} {σ : L2.St} {H : Hp} {i j : Int} (hi : -100000 < i ∧ i < 100000) (hj : -100000 < j ∧ j < 100000) (I : Nat → L2.St → Hp → Prop) (h0 : I 0 σ H)
    (hs : ∀ (k : Nat) σ H', k < (j - i).toNat → I k σ H' → g (.int (i + (k : Int))) σ H' fun σ2 H2 => ts ⟨I (k + 1), D.rt, D.nx, I (k + 1)⟩ σ2 H2) (hd : ∀ σ H', I (j - i).toNat σ H' → D.nx σ H') : kR2 (kFor g ts D σ) [.int i, .int j] H := by
  refine ⟨_, _, rfl, ⟨by omega, by omega, by omega, by omega⟩, ?_⟩
  exact for_range (lo := i) (n := (j - i).toNat) I h0 (fun k σ H' hk h => hs k σ H' hk h) hd
end My
namespace My
open PySem PySem.Spec PyProof.Rows L2
/-! ### the text by places -/
def top (i : Nat) : Stmt := PySem.Challenge.pw_swaykeep_k63_widenings_told.main.body.getD i (.Pass ⟨0, 0, 0, 0⟩)
abbrev s_in_one_number : Stmt := top 23
theorem sc_in_one_number : FnScope ["row", "number", "many"] ["row"] (defScope s_in_one_number) := ⟨rfl, rfl, rfl, by decide +kernel, rfl, by decide +kernel, by decide +kernel⟩
abbrev s_House__lend : Stmt := inClass (top 24) 1
theorem sc_House__lend : FnScope ["self", "rows", "row", "one", "other", "many"] ["self", "rows"] (defScope s_House__lend) := ⟨rfl, rfl, rfl, by decide +kernel, rfl, by decide +kernel, by decide +kernel⟩
abbrev s_is_whole : Stmt := top 8
theorem sc_is_whole : FnScope ["thing"] ["thing"] (defScope s_is_whole) := ⟨rfl, rfl, rfl, by decide +kernel, rfl, by decide +kernel, by decide +kernel⟩
abbrev s_is_pair : Stmt := top 19
theorem sc_is_pair : FnScope ["thing", "up", "down"] ["thing"] (defScope s_is_pair) := ⟨rfl, rfl, rfl, by decide +kernel, rfl, by decide +kernel, by decide +kernel⟩
abbrev s_check_latches : Stmt := top 21
theorem sc_check_latches : FnScope ["latches", "number", "pair"] ["latches"] (defScope s_check_latches) := ⟨rfl, rfl, rfl, by decide +kernel, rfl, by decide +kernel, by decide +kernel⟩
abbrev s_is_lending : Stmt := top 20
theorem sc_is_lending : FnScope ["thing", "many_latches", "part", "one", "other", "many"] ["thing", "many_latches"] (defScope s_is_lending) := ⟨rfl, rfl, rfl, by decide +kernel, rfl, by decide +kernel, by decide +kernel⟩
abbrev s_rows_lent : Stmt := top 22
theorem sc_rows_lent : FnScope ["helps", "many_latches", "rows", "place", "lending", "one", "other", "many", "_"] ["helps", "many_latches"] (defScope s_rows_lent) := ⟨rfl, rfl, rfl, by decide +kernel, rfl, by decide +kernel, by decide +kernel⟩
abbrev s_House___init__ : Stmt := inClass (top 24) 0
theorem sc_House___init__ : FnScope ["self", "latches", "helps", "rows", "up", "down", "latch"] ["self", "latches", "helps"] (defScope s_House___init__) := ⟨rfl, rfl, rfl, by decide +kernel, rfl, by decide +kernel, by decide +kernel⟩
abbrev s__law_pull : Stmt := top 53
theorem sc__law_pull : FnScope ["house", "here", "latch", "swell", "one", "other", "many"] ["house", "here", "latch", "swell"] (defScope s__law_pull) := ⟨rfl, rfl, rfl, by decide +kernel, rfl, by decide +kernel, by decide +kernel⟩
abbrev s__law_wants : Stmt := top 54
theorem sc__law_wants : FnScope ["house", "here", "k", "swell", "rising", "tug"] ["house", "here", "k", "swell", "rising"] (defScope s__law_wants) := ⟨rfl, rfl, rfl, by decide +kernel, rfl, by decide +kernel, by decide +kernel⟩
abbrev s__law_rested : Stmt := top 55
theorem sc__law_rested : FnScope ["house", "here", "swell", "rising", "goes", "turn", "k", "one"] ["house", "here", "swell", "rising"] (defScope s__law_rested) := ⟨rfl, rfl, rfl, by decide +kernel, rfl, by decide +kernel, by decide +kernel⟩
abbrev s__law_edges : Stmt := top 56
theorem sc__law_edges : FnScope ["house", "here", "depth", "swell", "height"] ["house"] (defScope s__law_edges) := ⟨rfl, rfl, rfl, by decide +kernel, rfl, by decide +kernel, by decide +kernel⟩
abbrev s__law_pick : Stmt := top 51
theorem sc__law_pick : FnScope ["well", "many", "found", "mixed"] ["well", "many"] (defScope s__law_pick) := ⟨rfl, rfl, rfl, by decide +kernel, rfl, by decide +kernel, by decide +kernel⟩
abbrev s__law_house : Stmt := top 52
theorem sc__law_house : FnScope ["well", "many", "wide", "latches", "k", "low", "often", "lent", "one", "other"] ["well", "many"] (defScope s__law_house) := ⟨rfl, rfl, rfl, by decide +kernel, rfl, by decide +kernel, by decide +kernel⟩
abbrev s__law_span : Stmt := top 57
theorem sc__law_span : FnScope ["house", "here", "low", "high", "k", "tug"] ["house", "here"] (defScope s__law_span) := ⟨rfl, rfl, rfl, by decide +kernel, rfl, by decide +kernel, by decide +kernel⟩
abbrev s__law_stood : Stmt := top 58
theorem sc__law_stood : FnScope ["well", "house", "edges", "here", "swell", "turn", "far", "some", "low", "high", "k"] ["well", "house", "edges"] (defScope s__law_stood) := ⟨rfl, rfl, rfl, by decide +kernel, rfl, by decide +kernel, by decide +kernel⟩
abbrev s__law_far : Stmt := top 59
theorem sc__law_far : FnScope ["house", "here", "edges", "rising", "low", "high", "begin", "back", "end", "step", "found", "there", "comes", "swell", "now"] ["house", "here", "edges", "rising"] (defScope s__law_far) := ⟨rfl, rfl, rfl, by decide +kernel, rfl, by decide +kernel, by decide +kernel⟩
abbrev s__law_widened : Stmt := top 60
theorem sc__law_widened : FnScope ["house", "here", "edges", "rising", "found", "goes", "turn", "step"] ["house", "here", "edges", "rising"] (defScope s__law_widened) := ⟨rfl, rfl, rfl, by decide +kernel, rfl, by decide +kernel, by decide +kernel⟩
abbrev s_are_crossed : Stmt := top 31
theorem sc_are_crossed : FnScope ["low", "high"] ["low", "high"] (defScope s_are_crossed) := ⟨rfl, rfl, rfl, by decide +kernel, rfl, by decide +kernel, by decide +kernel⟩
abbrev s_House___len__ : Stmt := inClass (top 24) 13
theorem sc_House___len__ : FnScope ["self"] ["self"] (defScope s_House___len__) := ⟨rfl, rfl, rfl, by decide +kernel, rfl, by decide +kernel, by decide +kernel⟩
abbrev s_is_rising : Stmt := top 10
theorem sc_is_rising : FnScope ["thing", "last", "latch"] ["thing"] (defScope s_is_rising) := ⟨rfl, rfl, rfl, by decide +kernel, rfl, by decide +kernel, by decide +kernel⟩
abbrev s_is_rising_below : Stmt := top 11
theorem sc_is_rising_below : FnScope ["thing", "many"] ["thing", "many"] (defScope s_is_rising_below) := ⟨rfl, rfl, rfl, by decide +kernel, rfl, by decide +kernel, by decide +kernel⟩
abbrev s_check_stand : Stmt := top 13
theorem sc_check_stand : FnScope ["house", "stand"] ["house", "stand"] (defScope s_check_stand) := ⟨rfl, rfl, rfl, by decide +kernel, rfl, by decide +kernel, by decide +kernel⟩
abbrev s_House_marks : Stmt := inClass (top 24) 9
theorem sc_House_marks : FnScope ["self"] ["self"] (defScope s_House_marks) := ⟨rfl, rfl, rfl, by decide +kernel, rfl, by decide +kernel, by decide +kernel⟩
abbrev s_House_numbers : Stmt := inClass (top 24) 8
theorem sc_House_numbers : FnScope ["self"] ["self"] (defScope s_House_numbers) := ⟨rfl, rfl, rfl, by decide +kernel, rfl, by decide +kernel, by decide +kernel⟩
abbrev s_lent_to_all : Stmt := top 26
theorem sc_lent_to_all : FnScope ["house", "stand", "numbers", "one"] ["house", "stand"] (defScope s_lent_to_all) := ⟨rfl, rfl, rfl, by decide +kernel, rfl, by decide +kernel, by decide +kernel⟩
abbrev s_limits : Stmt := top 30
theorem sc_limits : FnScope ["house", "stand", "lent", "low", "high", "latch", "at", "up", "down", "needs", "bears"] ["house", "stand"] (defScope s_limits) := ⟨rfl, rfl, rfl, by decide +kernel, rfl, by decide +kernel, by decide +kernel⟩
abbrev s_check_spanned : Stmt := top 47
theorem sc_check_spanned : FnScope ["house", "stand", "low", "high"] ["house", "stand"] (defScope s_check_spanned) := ⟨rfl, rfl, rfl, by decide +kernel, rfl, by decide +kernel, by decide +kernel⟩
abbrev s_level_of : Stmt := top 27
theorem sc_level_of : FnScope ["swell", "up"] ["swell", "up"] (defScope s_level_of) := ⟨rfl, rfl, rfl, by decide +kernel, rfl, by decide +kernel, by decide +kernel⟩
abbrev s_waiting_of : Stmt := top 28
theorem sc_waiting_of : FnScope ["house", "stand", "up", "lent", "latch", "at", "_", "down_at", "up_at"] ["house", "stand", "up"] (defScope s_waiting_of) := ⟨rfl, rfl, rfl, by decide +kernel, rfl, by decide +kernel, by decide +kernel⟩
abbrev s_eased : Stmt := top 29
theorem sc_eased : FnScope ["house", "waiting", "going", "lent", "need", "latch"] ["house", "waiting", "going"] (defScope s_eased) := ⟨rfl, rfl, rfl, by decide +kernel, rfl, by decide +kernel, by decide +kernel⟩
abbrev s_waves_at : Stmt := top 34
theorem sc_waves_at : FnScope ["house", "waiting", "level", "waves", "going", "need", "latch"] ["house", "waiting", "level"] (defScope s_waves_at) := ⟨rfl, rfl, rfl, by decide +kernel, rfl, by decide +kernel, by decide +kernel⟩
abbrev s_steps_of : Stmt := top 38
theorem sc_steps_of : FnScope ["house", "stand", "up", "last", "steps", "waiting", "level", "waves"] ["house", "stand", "up", "last"] (defScope s_steps_of) := ⟨rfl, rfl, rfl, by decide +kernel, rfl, by decide +kernel, by decide +kernel⟩
abbrev s_together : Stmt := top 37
theorem sc_together : FnScope ["waves", "wave", "latch"] ["waves"] (defScope s_together) := ⟨rfl, rfl, rfl, by decide +kernel, rfl, by decide +kernel, by decide +kernel⟩
abbrev s_branch_of : Stmt := top 39
theorem sc_branch_of : FnScope ["house", "stand", "up", "swell", "waves"] ["house", "stand", "up"] (defScope s_branch_of) := ⟨rfl, rfl, rfl, by decide +kernel, rfl, by decide +kernel, by decide +kernel⟩
abbrev s_gone : Stmt := top 33
theorem sc_gone : FnScope ["stand", "latches", "up", "latch"] ["stand", "latches", "up"] (defScope s_gone) := ⟨rfl, rfl, rfl, by decide +kernel, rfl, by decide +kernel, by decide +kernel⟩
abbrev s_end_of : Stmt := top 35
theorem sc_end_of : FnScope ["house", "stand", "swell", "up", "waves", "waiting", "wave", "latch", "_"] ["house", "stand", "swell", "up"] (defScope s_end_of) := ⟨rfl, rfl, rfl, by decide +kernel, rfl, by decide +kernel, by decide +kernel⟩
abbrev s_floor : Stmt := top 40
theorem sc_floor : FnScope ["house"] ["house"] (defScope s_floor) := ⟨rfl, rfl, rfl, by decide +kernel, rfl, by decide +kernel, by decide +kernel⟩
abbrev s_roof : Stmt := top 41
theorem sc_roof : FnScope ["house"] ["house"] (defScope s_roof) := ⟨rfl, rfl, rfl, by decide +kernel, rfl, by decide +kernel, by decide +kernel⟩
abbrev s_ends_of : Stmt := top 43
theorem sc_ends_of : FnScope ["house", "stand", "low", "high"] ["house", "stand"] (defScope s_ends_of) := ⟨rfl, rfl, rfl, by decide +kernel, rfl, by decide +kernel, by decide +kernel⟩
abbrev s_farthest : Stmt := top 44
theorem sc_farthest : FnScope ["house", "stand", "up", "low", "high", "found", "there", "_", "latches"] ["house", "stand", "up"] (defScope s_farthest) := ⟨rfl, rfl, rfl, by decide +kernel, rfl, by decide +kernel, by decide +kernel⟩
abbrev s_is_wider : Stmt := top 45
theorem sc_is_wider : FnScope ["swell", "last", "up"] ["swell", "last", "up"] (defScope s_is_wider) := ⟨rfl, rfl, rfl, by decide +kernel, rfl, by decide +kernel, by decide +kernel⟩
abbrev s_widening_of : Stmt := top 46
theorem sc_widening_of : FnScope ["house", "stand", "up", "found", "following"] ["house", "stand", "up"] (defScope s_widening_of) := ⟨rfl, rfl, rfl, by decide +kernel, rfl, by decide +kernel, by decide +kernel⟩
abbrev s_widening : Stmt := top 48
theorem sc_widening : FnScope ["house", "stand", "way"] ["house", "stand", "way"] (defScope s_widening) := ⟨rfl, rfl, rfl, by decide +kernel, rfl, by decide +kernel, by decide +kernel⟩
abbrev s__law_right : Stmt := top 61
theorem sc__law_right : FnScope ["well", "house", "edges", "told", "turn", "here", "dues", "found", "row", "swells", "k", "rising", "step"] ["well"] (defScope s__law_right) := ⟨rfl, rfl, rfl, by decide +kernel, rfl, by decide +kernel, by decide +kernel⟩
abbrev s__law_well : Stmt := top 50
theorem sc__law_well : FnScope ["script", "k", "cell"] ["script", "k"] (defScope s__law_well) := ⟨rfl, rfl, rfl, by decide +kernel, rfl, by decide +kernel, by decide +kernel⟩
abbrev s_law : Stmt := top 62
theorem sc_law : FnScope ["script", "k"] ["script"] (defScope s_law) := ⟨rfl, rfl, rfl, by decide +kernel, rfl, by decide +kernel, by decide +kernel⟩
/-! ### what each def promises -/
def sp_House___len__ (K : PySem.W.Frag) (C : Addr) : Sp := fun vs H Q _ => ∃ (a : Addr) (h : Hs), vs = [.ref a] ∧ HouseV K C H a h ∧ Q (.int (h.n : Int)) H
def sp_is_whole (K : PySem.W.Frag) (C : Addr) : Sp := fun vs H Q _ => ∃ (x : V) (n : String), vs = [x] ∧ Sml K H x n ∧ Q (.bl (wholeV x)) H
def sp_is_rising (K : PySem.W.Frag) (C : Addr) : Sp := fun vs H Q _ => (∃ (a : Addr) (xs : List V), vs = [.ref a] ∧ SqT K H a xs ∧ (∀ y ∈ xs, ∃ n, Sml K H y n) ∧ Q (.bl (riseL (-1) xs)) H) ∨
  ∃ (x : V) (n : String), vs = [x] ∧ Sml K H x n ∧ n ≠ "tuple" ∧ Q (.bl false) H
def lastB (n : Int) (xs : List V) : Bool := match xs.getLast? with
  | none => true
  | some (.int i) => decide (i < n)
  | some _ => false
def sp_is_rising_below (K : PySem.W.Frag) (C : Addr) : Sp := fun vs H Q _ => (∃ (a : Addr) (xs : List V) (n : Int), vs = [.ref a, .int n] ∧ SqT K H a xs ∧ (∀ y ∈ xs, ∃ n, Sml K H y n) ∧ Q (.bl (riseL (-1) xs && lastB n xs)) H) ∨
  ∃ (x : V) (n : String) (m : Int), vs = [x, .int m] ∧ Sml K H x n ∧ n ≠ "tuple" ∧ Q (.bl false) H
theorem riseL_last : ∀ (l : Int) (xs : List V), riseL l xs = true → ∀ y, xs.getLast? = some y → ∃ i, y = .int i
  | _, [], _, y, h => by simp at h
  | l, x :: r, hr, y, h => by
    cases x with
    | int i =>
      have h2 : (decide (l < i) && riseL i r) = true := hr
      rw [Bool.and_eq_true] at h2
      cases r with
      | nil => simp at h; exact ⟨i, h.symm⟩
      | cons z r' => exact riseL_last i (z :: r') h2.2 y (by rw [List.getLast?_cons_cons] at h; exact h)
    | _ => exact absurd hr (by simp [riseL])
def sp_check_stand (K : PySem.W.Frag) (C : Addr) : Sp := fun vs H Q _ => ∃ (a : Addr) (h : Hs) (t : Addr) (st : List Int), vs = [.ref a, .ref t] ∧ HouseV K C H a h ∧ SqT K H t (st.map V.int) ∧ StOk h.n st ∧ Q .non H
theorem lastB_st {n : Nat} {st : List Int} (h : ∀ x ∈ st, x < (n : Int)) : lastB (n : Int) (st.map V.int) = true := by
  unfold lastB
  rw [List.getLast?_map]
  cases e : st.getLast? with
  | none => rfl
  | some x => exact decide_eq_true (h x (List.mem_of_getLast? e))
theorem rise_st {n : Nat} {st : List Int} (h : StOk n st) : (riseL (-1) (st.map V.int) && lastB (n : Int) (st.map V.int)) = true := by
  rw [riseL_ints (-1) st h.up (fun x hxw => by have := h.lo x hxw; omega), lastB_st h.hi]; rfl
theorem sml_ints {K : PySem.W.Frag} {H : Hp} (st : List Int) : ∀ y ∈ st.map V.int, ∃ n, Sml K H y n := fun y hy => by
  obtain ⟨i, _, rfl⟩ := List.mem_map.mp hy
  exact ⟨_, .int i⟩
def sp_is_pair (K : PySem.W.Frag) (C : Addr) : Sp := fun vs H Q _ => ∃ (v : V) (p : Int × Int), vs = [v] ∧ PairV K H v p ∧ Q (.bl (decide (p.2 < p.1))) H
def sp_is_lending (K : PySem.W.Frag) (C : Addr) : Sp := fun vs H Q _ => ∃ (v : V) (p : Int × Int × Int) (n : Int), vs = [v, .int n] ∧ TripV K H v p ∧ ∀ H', Ex H H' → Q (.bl (helpB n p)) H'
def sp_check_latches (K : PySem.W.Frag) (C : Addr) : Sp := fun vs H Q _ => ∃ (t : Addr) (xs : List V) (lat : List (Int × Int)), vs = [.ref t] ∧ SqT K H t xs ∧ Al (PairV K H) xs lat ∧ 1 ≤ lat.length ∧ lat.length ≤ 14 ∧ (∀ p ∈ lat, p.2 < p.1) ∧ ∀ H', Ex H H' → Q .non H'
def hfs5 (a b c d e : V) : List (PySem.Str × V) := putF "_helps" e (putF "_numbers" d (putF "_rows" c (putF "_marks" b (putF "_latches" a []))))
theorem hfs5_no (a b c d e : V) (m : PySem.Str) (h : fiveN m) : (hfs5 a b c d e).lookup m = none := by
  unfold hfs5
  rw [lookup_putF, if_neg h.2.2.2.2, lookup_putF, if_neg h.2.2.2.1, lookup_putF, if_neg h.2.2.1, lookup_putF, if_neg h.2.1, lookup_putF, if_neg h.1]
  rfl
theorem hfs5_at (a b c d e : V) : (hfs5 a b c d e).lookup ("_latches" : PySem.Str) = some a ∧ (hfs5 a b c d e).lookup ("_marks" : PySem.Str) = some b ∧ (hfs5 a b c d e).lookup ("_rows" : PySem.Str) = some c ∧ (hfs5 a b c d e).lookup ("_numbers" : PySem.Str) = some d ∧ (hfs5 a b c d e).lookup ("_helps" : PySem.Str) = some e := by
  unfold hfs5
  refine ⟨?_, ?_, ?_, ?_, ?_⟩
  · rw [lookup_putF, if_neg (by decide +kernel), lookup_putF, if_neg (by decide +kernel), lookup_putF, if_neg (by decide +kernel), lookup_putF, if_neg (by decide +kernel), lookup_putF, if_pos rfl]
  · rw [lookup_putF, if_neg (by decide +kernel), lookup_putF, if_neg (by decide +kernel), lookup_putF, if_neg (by decide +kernel), lookup_putF, if_pos rfl]
  · rw [lookup_putF, if_neg (by decide +kernel), lookup_putF, if_neg (by decide +kernel), lookup_putF, if_pos rfl]
  · rw [lookup_putF, if_neg (by decide +kernel), lookup_putF, if_pos rfl]
  · rw [lookup_putF, if_pos rfl]
theorem al_at {α : Type} {R : V → α → Prop} {zs : List V} {as : List α} {n : Nat} (h : Al (fun y (i : Nat) => ∃ p, as[i]? = some p ∧ R y p) zs (List.range n)) (hn : n = as.length) : Al R zs as := by
  subst hn
  refine ⟨by rw [h.1, List.length_range], fun i y a h1 h2 => ?_⟩
  obtain ⟨p, hp, hr⟩ := h.2 i y i h1 (List.getElem?_range (List.getElem?_eq_some_iff.mp h2).1)
  rw [h2] at hp
  cases hp
  exact hr
def sp_House___init__ (K : PySem.W.Frag) (C : Addr) : Sp := fun vs H Q _ => ∃ (self dx tl th : Addr) (xs : List V) (lat : List (Int × Int)) (ys : List V) (hel : List (Int × Int × Int)), vs = [.ref self, .ref tl, .ref th] ∧ H self = some (.ins C dx []) ∧ SqT K H tl xs ∧ Al (PairV K H) xs lat ∧
  SqT K H th ys ∧ Al (TripV K H) ys hel ∧ LatOk lat ∧ HelOk (lat.length : Int) hel ∧ ∀ h H', ExB self H H' → HouseV K C H' self h → h.lat = lat → h.hel.Perm hel → HelSorted h.hel → Q .non H'
theorem mk_house {K : PySem.W.Frag} {C x dx tl th : Addr} {H : Hp} {xs ys : List V} {lat : List (Int × Int)} {hel : List (Int × Int × Int)} {P : Hp → Prop} {E : XK} (nx : H x = none) (ndx : H dx = none) (nex : dx ≠ x) (h1 : SqT K H tl xs) (h2 : Al (PairV K H) xs lat) (h3 : SqT K H th ys) (h4 : Al (TripV K H) ys hel) (hl : LatOk lat) (hh : HelOk (lat.length : Int) hel)
    (q : ∀ h H', Ex H H' → HouseV K C H' x h → h.lat = lat → h.hel.Perm hel → HelSorted h.hel → HsPos h → P H') : sp_House___init__ K C [.ref x, .ref tl, .ref th] (upd (upd H dx (.own x)) x (.ins C dx [])) (fun v H2 => v = .non ∧ P H2) E := by
  have y1 : Ex H (upd H dx (.own x)) := Ex.new ndx
  have y2 : Ex (upd H dx (.own x)) (upd (upd H dx (.own x)) x (.ins C dx [])) := Ex.new (by rw [upd_ne nex.symm]; exact nx)
  have y12 := y1.trans y2
  refine ⟨x, dx, tl, th, xs, lat, ys, hel, rfl, upd_same, h1.ki y12.ki, h2.imp fun _ _ z => z.ki y12.ki, h3.ki y12.ki, h4.imp fun _ _ z => TripV.ki z y12.ki, hl, hh, fun h H' e hv e1 e2 e3 => ⟨rfl, ?_⟩⟩
  have hpos : HsPos h := by
    refine ⟨fun y hy => ?_, fun y hy => hl.lt y (by rw [← e1]; exact hy)⟩
    have := hh.ok y (e2.mem_iff.mp hy)
    unfold helpB at this
    simp at this
    omega
  exact q h H' (ex_exB y12 e nx) hv e1 e2 e3 hpos
def sp_gone (K : PySem.W.Frag) (C : Addr) : Sp := fun vs H Q _ => ∃ (t p : Addr) (st : List Int) (ls : List Nat) (n : Nat) (up : Bool), vs = [.ref t, .ref p, .bl up] ∧ SqT K H t (st.map V.int) ∧ SqE K H p (nints ls) ∧ n ≤ 14 ∧ ls.length ≤ 14 ∧ StOk n st ∧ (up = true → ls.Nodup ∧ ∀ l ∈ ls, l < n ∧ ¬ (l : Int) ∈ st) ∧
  ∀ t' H', Ex H H' → H' t' = some (.tup ((stepS n st ls up).map V.int)) → Q (.ref t') H'
def sp_end_of (K : PySem.W.Frag) (C : Addr) : Sp := fun vs H Q _ => ∃ (a : Addr) (h : Hs) (t : Addr) (st : List Int) (s : Int) (up : Bool), vs = [.ref a, .ref t, .int s, .bl up] ∧ HouseV K C H a h ∧ SqT K H t (st.map V.int) ∧ StOk h.n st ∧ HsPos h ∧
  ∀ t' T H', Ex H H' → SqT K H' t' (T.map V.int) → (H t = some (.tup (st.map V.int)) → H' t' = some (.tup (T.map V.int))) → Clo h s up st T → Q (.ref t') H'
def sp_in_one_number (K : PySem.W.Frag) (C : Addr) : Sp := fun vs H Q _ => ∃ (p : Addr) (L : List Int), vs = [.ref p] ∧ H p = some (.lst (L.map V.int)) ∧ L.length ≤ 14 ∧ (∀ x ∈ L, 0 ≤ x ∧ x < 256) ∧ Q (.int (encL L)) H
def sp_House_marks (K : PySem.W.Frag) (C : Addr) : Sp := fun vs H Q _ => ∃ (a : Addr) (h : Hs), vs = [.ref a] ∧ HouseV K C H a h ∧ ∀ t xs, SqT K H t xs → Al (MarkV K H h) xs (List.range h.n) → Q (.ref t) H
def sp_House_numbers (K : PySem.W.Frag) (C : Addr) : Sp := fun vs H Q _ => ∃ (a : Addr) (h : Hs), vs = [.ref a] ∧ HouseV K C H a h ∧ ∀ t, SqT K H t (((List.range h.n).map h.num).map V.int) → Q (.ref t) H
def sp_level_of (K : PySem.W.Frag) (C : Addr) : Sp := fun vs H Q _ => ∃ (s : Int) (up : Bool), vs = [.int s, .bl up] ∧ Q (.int (lev s up)) H
/-- rows, each a list of its own, as the helps so far tell -/
structure RowsL (H0 H : Hp) (r : Addr) (n : Nat) (hel : List (Int × Int × Int)) (bs : List Addr) : Prop where
  top : H r = some (.lst (bs.map V.ref))
  len : bs.length = n
  nd : bs.Nodup
  off : r ∉ bs
  fr : H0 r = none ∧ ∀ b ∈ bs, H0 b = none
  row : ∀ (i : Nat) b, bs[i]? = some b → H b = some (.lst ((rowL hel n (i : Int)).map V.int))
theorem RowsL.ex {H0 H H' : Hp} {r : Addr} {n : Nat} {hel : List (Int × Int × Int)} {bs : List Addr} (x : RowsL H0 H r n hel bs) (e : Ex H H') : RowsL H0 H' r n hel bs := ⟨e _ _ x.top, x.len, x.nd, x.off, x.fr, fun i b hb => e _ _ (x.row i b hb)⟩
theorem rowL_len (hel : List (Int × Int × Int)) (n : Nat) (i : Int) : (rowL hel n i).length = n := by unfold rowL; simp
theorem rowL_at {hel : List (Int × Int × Int)} {n : Nat} {i : Int} {j : Nat} (hj : j < n) : (rowL hel n i)[j]? = some (ent hel i j) := by
  unfold rowL; rw [List.getElem?_map, List.getElem?_range hj]; rfl
theorem ent_snoc (hel : List (Int × Int × Int)) (x : Int × Int × Int) (i j : Int) : ent (hel ++ [x]) i j = ent hel i j + if x.1 = i ∧ x.2.1 = j then x.2.2 else 0 := by
  rw [ent_perm (List.perm_append_comm (l₁ := hel) (l₂ := [x])) i j]
  show ent (x :: hel) i j = _
  rw [ent_cons]; omega
theorem rowL_snoc_ne {hel : List (Int × Int × Int)} {x : Int × Int × Int} {n : Nat} {i : Int} (h : x.1 ≠ i) : rowL (hel ++ [x]) n i = rowL hel n i := by
  unfold rowL
  exact List.map_congr_left fun j _ => by rw [ent_snoc, if_neg (fun z => h z.1)]; omega
theorem rowL_snoc {hel : List (Int × Int × Int)} {x : Int × Int × Int} {n j : Nat} (hj : j < n) (h1 : x.2.1 = (j : Int)) (h0 : ent hel x.1 j = 0) : rowL (hel ++ [x]) n x.1 = (rowL hel n x.1).set j x.2.2 := by
  refine List.ext_getElem? fun k => ?_
  by_cases hk : k < n
  · rw [rowL_at hk, ent_snoc]
    by_cases e : k = j
    · subst e
      rw [List.getElem?_set_self (by rw [rowL_len]; exact hk), if_pos ⟨rfl, h1⟩, h0]
      simp
    · rw [List.getElem?_set_ne (fun z => e z.symm), rowL_at hk, if_neg (fun z => e (by omega))]
      simp
  · rw [List.getElem?_eq_none (by rw [rowL_len]; omega), List.getElem?_eq_none (by rw [List.length_set, rowL_len]; omega)]
theorem rowL_nil (n : Nat) (i : Int) : rowL [] n i = List.replicate n 0 := by
  unfold rowL
  refine List.ext_getElem? fun k => ?_
  by_cases hk : k < n
  · rw [List.getElem?_map, List.getElem?_range hk, List.getElem?_replicate, if_pos hk]; rfl
  · rw [List.getElem?_eq_none (by simp; omega), List.getElem?_eq_none (by simp; omega)]
theorem helpB_in {n : Int} {x : Int × Int × Int} (h : helpB n x = true) : ∃ a b : Nat, x.1 = (a : Int) ∧ x.2.1 = (b : Int) ∧ (a : Int) < n ∧ (b : Int) < n ∧ 1 ≤ x.2.2 ∧ x.2.2 ≤ 9 := by
  unfold helpB at h
  simp at h
  exact ⟨x.1.toNat, x.2.1.toNat, by omega, by omega, by omega, by omega, by omega, by omega⟩
def sp_rows_lent (K : PySem.W.Frag) (C : Addr) : Sp := fun vs H Q _ => ∃ (t : Addr) (xs : List V) (hel : List (Int × Int × Int)) (n : Nat), vs = [.ref t, .int (n : Int)] ∧ SqT K H t xs ∧ Al (TripV K H) xs hel ∧ HelOk (n : Int) hel ∧ n ≤ 14 ∧ ∀ r bs H', Ex H H' → RowsL H H' r n hel bs → Q (.ref r) H'
theorem al_range {α : Type} {R : V → Nat → Prop} {bs : List α} {f : α → V} {n : Nat} (hl : bs.length = n) (h : ∀ i b, bs[i]? = some b → R (f b) i) : Al R (bs.map f) (List.range n) := by
  refine ⟨by simp [hl], fun i x k h1 h2 => ?_⟩
  have hi : i < n := by have := (List.getElem?_eq_some_iff.mp h2).1; simpa using this
  rw [List.getElem?_range hi] at h2
  cases h2
  rw [List.getElem?_map] at h1
  cases e : bs[i]? with
  | none => rw [e] at h1; cases h1
  | some b => rw [e] at h1; cases h1; exact h i b e
def sp_House__lend (K : PySem.W.Frag) (C : Addr) : Sp := fun vs H Q _ => ∃ (self dx r : Addr) (fs : List (PySem.Str × V)) (n : Nat) (hel : List (Int × Int × Int)) (bs : List Addr), vs = [.ref self, .ref r] ∧ H self = some (.ins C dx fs) ∧ fs.length < 900 ∧
  H r = some (.lst (bs.map V.ref)) ∧ bs.length = n ∧ (∀ (i : Nat) b, bs[i]? = some b → H b = some (.lst ((rowL hel n (i : Int)).map V.int))) ∧ HelOk (n : Int) hel ∧ n ≤ 14 ∧
  ∀ tr tn th xr xh H', ExB self H H' → H' self = some (.ins C dx (putF "_helps" (.ref th) (putF "_numbers" (.ref tn) (putF "_rows" (.ref tr) fs)))) → SqT K H' tr xr → Al (RowV K H') xr ((List.range n).map fun (i : Nat) => rowL hel n (i : Int)) → SqT K H' tn (((List.range n).map fun (i : Nat) => encL (rowL hel n (i : Int))).map V.int) → SqT K H' th xh → Al (TripV K H') xh (canonH hel n) → Q .non H'
def sp_lent_to_all (K : PySem.W.Frag) (C : Addr) : Sp := fun vs H Q _ => ∃ (a t : Addr) (h : Hs) (st : List Int), vs = [.ref a, .ref t] ∧ HouseV K C H a h ∧ SqE K H t (st.map V.int) ∧ StOk h.n st ∧ ∀ H', Ex H H' → Q (.int (h.lentAll st)) H'
theorem al_range_at {α : Type} {R : V → α → Prop} {xs : List V} {n : Nat} {f : Nat → α} (h : Al R xs ((List.range n).map f)) {i : Nat} (hi : i < n) : ∃ x, xs[i]? = some x ∧ R x (f i) := h.get' (a := f i) (i := i) (by rw [List.getElem?_map, List.getElem?_range hi]; rfl)
def sp_waiting_of (K : PySem.W.Frag) (C : Addr) : Sp := fun vs H Q _ => ∃ (a t : Addr) (h : Hs) (st : List Int) (up : Bool), vs = [.ref a, .ref t, .bl up] ∧ HouseV K C H a h ∧ SqT K H t (st.map V.int) ∧ StOk h.n st ∧ ∀ p H', H p = none → Ex H H' → WaitV K H' p h st up → Q (.ref p) H'
def sp_eased (K : PySem.W.Frag) (C : Addr) : Sp := fun vs H Q _ => ∃ (a p g : Addr) (h : Hs) (st : List Int) (ls : List Nat) (up : Bool), vs = [.ref a, .ref p, .ref g] ∧ HouseV K C H a h ∧ WaitV K H p h st up ∧ H g = some (.lst (nints ls)) ∧ ls.Pairwise (· < ·) ∧ (∀ l ∈ ls, l < h.n ∧ decide ((l : Int) ∈ st) = !up) ∧
  ∀ p' H', H p' = none → Ex H H' → WaitV K H' p' h (stepS h.n st ls up) up → Q (.ref p') H'
theorem WaitV.exB {K : PySem.W.Frag} {H H' : Hp} {p j : Addr} {h : Hs} {st : List Int} {up : Bool} {zs : List V} (w : WaitV K H p h st up) (e : ExB j H H') (hj : H j = some (.lst zs)) (n : p ≠ j) : WaitV K H' p h st up := by
  obtain ⟨xs, h1, h2⟩ := w.ex
  exact ⟨xs, e _ _ n h1, h2.imp fun v l ⟨T, a, b⟩ => ⟨T, a, e _ _ (fun z => by rw [z, hj] at b; cases b) b⟩⟩
theorem going_lc {K : PySem.W.Frag} {H : Hp} {Q : VK} {a : V} {p : Addr} {lv s : Int} {l3 : V} {x4 : Option V} {h : Hs} {st : List Int} {up : Bool} (hlv : (if up then s else -s) = lv) (hw : WaitV K H p h st up) (hn : h.n ≤ 14)
    (q : ∀ g H', H g = none → Ex H H' → H' g = some (.lst (nints (h.want st s up))) → Q (.ref g) H') :
    tLc (iList K (tVar 1)) (gTup K 2 (gCons (gName 5) (gCons (gName 6) gNil))) (tTest (tOp (rI0 fun i j => V.bl (decide (i ≤ j))) (tVar 5) (tVar 2))) (tVar 6) (List.map (fun x => x.snd) [(PySem.Str.ofString "need", 5), (PySem.Str.ofString "latch", 6)]) [some a, some (V.ref p), some (V.int lv), some l3, x4, none, none] H Q := by
  obtain ⟨xs, hp, hal⟩ := hw.ex
  have hml := mov_len h st up
  apply lc_evA (h.mov st up) (fun b x H2 => ∃ T, x = .ref T ∧ H2 T = some (.tup [.int (h.need st up b), .int (b : Int)])) (fun l => h.goes st s l up) (fun b y _ => y = V.int (b : Int))
  · omega
  · exact fun b y H1 H2 _ h => h
  · exact evi_lA (R := fun H2 x (b : Nat) => ∃ T, x = .ref T ∧ H2 T = some (.tup [.int (h.need st up b), .int (b : Int)])) (.of hp) hal (fun H' x i e ⟨T, a, b⟩ => ⟨T, a, e _ _ b⟩) (fun Q k => ⟨_, rfl, k _ _ Ex.rfl rfl⟩)
  · rintro b hb x H3 e3 ⟨T2, rfl, hT⟩
    refine ⟨[some a, some (V.ref p), some (V.int lv), some l3, x4, some (V.int (h.need st up b)), some (V.int (b : Int))], gv_tup2 (.of hT), rfl, fun H4 e4 Q2 k => ?_, fun hk H4 e4 Q2 k => ⟨_, rfl, k _ _ Ex.rfl rfl⟩⟩
    refine ⟨_, rfl, _, rfl, _, _, rfl, rfl, _, rfl, ?_⟩
    rw [← need_goes, hlv] at k
    exact k H4 Ex.rfl
  intro l ys H3 nl e3 hl3 hys
  have e : ys = nints (h.want st s up) := Al.map (f := fun (b : Nat) => V.int (b : Int)) hys
  rw [e] at hl3
  exact q l H3 nl e3 hl3
theorem want_all {h : Hs} {st : List Int} {s : Int} {up : Bool} (hl : (h.mov st up).length ≤ (h.want st s up).length) : h.mov (stepS h.n st (h.want st s up) up) up = [] := by
  have e : h.want st s up = h.mov st up := by
    unfold Hs.want at hl ⊢
    refine List.filter_eq_self.mpr ?_
    have h2 := List.length_filter_le (fun l => h.goes st s l up) (h.mov st up)
    exact List.length_filter_eq_length_iff.mp (by omega)
  rw [mov_filter, e]
  exact List.filter_eq_nil_iff.mpr fun l hl => by simp [hl]
def sp_waves_at (K : PySem.W.Frag) (C : Addr) : Sp := fun vs H Q _ => ∃ (a p : Addr) (h : Hs) (st : List Int) (s : Int) (up : Bool), vs = [.ref a, .ref p, .int (if up then s else -s)] ∧ HouseV K C H a h ∧ WaitV K H p h st up ∧ StOk h.n st ∧ HsPos h ∧
  ∀ r pw pq rs ws H', Ex H H' → H' r = some (.tup [.ref pw, .ref pq]) → H pw = none → H' pw = some (.lst rs) → WavesV pw H' rs ws → RunOk h s up st ws → Clo h s up st (foldS h.n up st ws) → ws.length ≤ 14 ∧ (∀ w ∈ ws, w ≠ []) ∧ (∀ x ∈ rs, ∃ b, x = V.ref b ∧ H b = none) ∧ (pq = p ∨ H pq = none) → WaitV K H' pq h (foldS h.n up st ws) up → Q (.ref r) H'
def lowS (o : Option Int) (z : Int) : Option Int := match o with | none => some z | some y => if y < z then some z else some y
def highS (o : Option Int) (z : Int) : Option Int := match o with | none => some z | some y => if z < y then some z else some y
def Hs.low (h : Hs) (st : List Int) : Nat → Option Int
  | 0 => none
  | i + 1 => if (i : Int) ∈ st then lowS (Hs.low h st i) (h.dn i + 1 - h.lent st i) else Hs.low h st i
def Hs.high (h : Hs) (st : List Int) : Nat → Option Int
  | 0 => none
  | i + 1 => if (i : Int) ∈ st then Hs.high h st i else highS (Hs.high h st i) (h.up i - 1 - h.lent st i)
def sp_limits (K : PySem.W.Frag) (C : Addr) : Sp := fun vs H Q _ => ∃ (a t : Addr) (h : Hs) (st : List Int), vs = [.ref a, .ref t] ∧ HouseV K C H a h ∧ SqT K H t (st.map V.int) ∧ StOk h.n st ∧
  ∀ p H', Ex H H' → H' p = some (.tup [optV (h.low st h.n), optV (h.high st h.n)]) → Q (.ref p) H'
def crossed : Option Int → Option Int → Bool
  | some x, some y => decide (y < x)
  | _, _ => false
def sp_are_crossed (K : PySem.W.Frag) (C : Addr) : Sp := fun vs H Q _ => ∃ lo hi : Option Int, vs = [optV lo, optV hi] ∧ Q (.bl (crossed lo hi)) H
def sp_together (K : PySem.W.Frag) (C : Addr) : Sp := fun vs H Q _ => ∃ (p : Addr) (rs : List V) (ws : List (List Nat)) (n : Nat), vs = [.ref p] ∧ H p = some (.lst rs) ∧ WavesV p H rs ws ∧ n ≤ 14 ∧ ws.flatten.Nodup ∧ (∀ l ∈ ws.flatten, l < n) ∧ ws.length ≤ 14 ∧ ∀ t H', Ex H H' → H t = none → H' t = some (.tup ((zs (srt n ws.flatten)).map V.int)) → Q (.ref t) H'
def FinF (h : Hs) (up : Bool) (c : List Int) (last : Option Int) : Prop := h.mov c up = [] ∨ ∃ L, last = some L ∧ ∀ l ∈ h.mov c up, L < h.need c up l
def FallW (p : Addr) (H : Hp) (x : V) (f : Int × List (List Nat)) : Prop := ∃ T pw rs, x = .ref T ∧ H T = some (.tup [.int f.1, .ref pw]) ∧ pw ≠ p ∧ H pw = some (.lst rs) ∧ Al (fun x (w : List Nat) => ∃ b, x = V.ref b ∧ b ≠ pw ∧ b ≠ p ∧ H b = some (.lst (nints w))) rs f.2
theorem FallW.exB {p : Addr} {H H' : Hp} {x : V} {f : Int × List (List Nat)} {ys : List V} (w : FallW p H x f) (e : ExB p H H') (hp : H p = some (.lst ys)) : FallW p H' x f := by
  obtain ⟨T, pw, rs, h1, h2, h3, h4, h5⟩ := w
  exact ⟨T, pw, rs, h1, e _ _ (fun z => by rw [z, hp] at h2; cases h2) h2, h3, e _ _ h3 h4, h5.imp fun _ _ ⟨b, b1, b2, b3, b4⟩ => ⟨b, b1, b2, b3, e _ _ b3 b4⟩⟩
theorem FallW.v {K : PySem.W.Frag} {p : Addr} {H : Hp} {x : V} {f : Int × List (List Nat)} (w : FallW p H x f) : FallV K H x f := by
  obtain ⟨T, pw, rs, h1, h2, h3, h4, h5⟩ := w
  exact ⟨T, pw, rs, h1, h2, h4, h5.imp fun _ _ ⟨b, b1, b2, b3, b4⟩ => ⟨b, b1, b2, b4⟩⟩
def sp_steps_of (K : PySem.W.Frag) (C : Addr) : Sp := fun vs H Q _ => ∃ (a t : Addr) (h : Hs) (st : List Int) (up : Bool) (last : Option Int), vs = [.ref a, .ref t, .bl up, optV last] ∧ HouseV K C H a h ∧ SqT K H t (st.map V.int) ∧ StOk h.n st ∧ HsPos h ∧
  ∀ p xs fs H', Ex H H' → H p = none → H' p = some (.lst xs) → Al (FallV K H') xs fs → FallsR h up st fs → FinF h up (endF h.n up st fs) last → StOk h.n (endF h.n up st fs) → fs.length ≤ 14 → (∀ L, last = some L → ∀ f ∈ fs, lev f.1 up ≤ L) → Q (.ref p) H'
def BranchV (H : Hp) (x : V) (n : Nat) (f : Int × List (List Nat)) : Prop := ∃ T t, x = .ref T ∧ H T = some (.tup [.int f.1, .ref t]) ∧ H t = some (.tup ((zs (srt n f.2.flatten)).map V.int))
def sp_branch_of (K : PySem.W.Frag) (C : Addr) : Sp := fun vs H Q _ => ∃ (a t : Addr) (h : Hs) (st : List Int) (up : Bool), vs = [.ref a, .ref t, .bl up] ∧ HouseV K C H a h ∧ SqT K H t (st.map V.int) ∧ StOk h.n st ∧ HsPos h ∧
  ∀ p xs fs H', Ex H H' → H p = none → H' p = some (.lst xs) → Al (fun x f => BranchV H' x h.n f) xs fs → FallsR h up st fs → h.mov (endF h.n up st fs) up = [] → StOk h.n (endF h.n up st fs) → fs.length ≤ 14 → Q (.ref p) H'
theorem endF_le {h : Hs} {up : Bool} {st : List Int} {fs : List (Int × List (List Nat))} (a : FallsR h up st fs) {i : Nat} (hi : i ≤ fs.length) (o : StOk h.n st) : Lq up st (endF h.n up st (fs.take i)) := by
  induction i with
  | zero => rw [List.take_zero]; exact Lq.rfl
  | succ i ih =>
    obtain ⟨f', hi2⟩ : ∃ f', fs[i]? = some f' := ⟨_, List.getElem?_eq_getElem (by omega)⟩
    exact (ih (by omega)).trans (a.clo i _ hi2).ge
/-- the levels rise, and each end is what comes of the leg to it -/
theorem falls_up {h : Hs} {up : Bool} {st : List Int} {fs : List (Int × List (List Nat))} (a : FallsR h up st fs) (o : StOk h.n st) {i : Nat} {f g : Int × List (List Nat)} (hf : fs[i]? = some f) (hg : fs[i + 1]? = some g) : lev f.1 up < lev g.1 up := by
  have hn := a.next (i + 1) g hg
  obtain ⟨l, hl, e⟩ := hn.1
  have hw := (a.clo i f hf).fin
  by_cases h1 : lev f.1 up < lev g.1 up
  · exact h1
  · have : l ∈ h.want (endF h.n up st (fs.take (i + 1))) f.1 up := want_mov.mpr ⟨hl, by rw [← need_goes]; exact decide_eq_true (by have e2 : h.need (endF h.n up st (fs.take (i + 1))) up l = lev g.1 up := e; show h.need (endF h.n up st (fs.take (i + 1))) up l ≤ lev f.1 up; omega)⟩
    rw [hw] at this
    cases this
theorem lev_le {up : Bool} {a b : Int} : lev a up ≤ lev b up ↔ swLe up a b := by
  unfold lev swLe
  cases up <;> simp <;> omega
theorem falls_clo {h : Hs} {up : Bool} {st : List Int} {fs : List (Int × List (List Nat))} (a : FallsR h up st fs) (o : StOk h.n st) : ∀ (i : Nat) (f : Int × List (List Nat)), fs[i]? = some f → Clo h f.1 up st (endF h.n up st (fs.take (i + 1)))
  | 0, f, hf => by
    have := a.clo 0 f hf
    rw [List.take_zero] at this
    exact this
  | i + 1, g, hg => by
    obtain ⟨f', hi2⟩ : ∃ f', fs[i]? = some f' := ⟨_, List.getElem?_eq_getElem (by have := (List.getElem?_eq_some_iff.mp hg).1; omega)⟩
    exact clo_comp (lev_le.mp (Int.le_of_lt (falls_up a o hi2 hg))) (falls_clo a o i _ hi2) (a.clo (i + 1) g hg)
/-- ahead of a fall's level nothing goes -/
theorem falls_before {h : Hs} {up : Bool} {st : List Int} {fs : List (Int × List (List Nat))} (a : FallsR h up st fs) (o : StOk h.n st) {i : Nat} {f : Int × List (List Nat)} (hf : fs[i]? = some f) {s : Int} (hs : lev s up < lev f.1 up) (hp : ∀ g, i ≠ 0 → fs[i - 1]? = some g → lev g.1 up ≤ lev s up) : Clo h s up st (endF h.n up st (fs.take i)) := by
  have hno : h.want (endF h.n up st (fs.take i)) s up = [] := List.eq_nil_iff_forall_not_mem.mpr fun l hl => by
    obtain ⟨h1, h2⟩ := want_mov.mp hl
    rw [← need_goes] at h2
    have h3 := of_decide_eq_true h2
    have h4 := (a.next i f hf).2 l h1
    have h5 : h.need (endF h.n up st (fs.take i)) up l ≤ lev s up := h3
    omega
  cases i with
  | zero =>
    rw [List.take_zero] at hno ⊢
    exact Clo.self o hno
  | succ i =>
    obtain ⟨f', hi2⟩ : ∃ f', fs[i]? = some f' := ⟨_, List.getElem?_eq_getElem (by have := (List.getElem?_eq_some_iff.mp hf).1; omega)⟩
    have hc := falls_clo a o i _ hi2
    exact clo_comp (lev_le.mp (hp _ (by omega) hi2)) hc (Clo.self hc.ok hno)
def EdgeQ (h : Hs) (up : Bool) (st : List Int) (b : Int) : Prop := (∃ T, Clo h b up st T ∧ h.mov T up = []) ∧ ∀ s T, lev s up < lev b up → Clo h s up st T → h.mov T up ≠ []
theorem edge_of {h : Hs} (hp : HsPos h) {up : Bool} {st : List Int} {fs : List (Int × List (List Nat))} (a : FallsR h up st fs) (o : StOk h.n st) (hm : h.mov st up ≠ []) (he : h.mov (endF h.n up st fs) up = []) : ∃ fs0 f, fs = fs0 ++ [f] ∧ EdgeQ h up st f.1 := by
  rcases List.eq_nil_or_concat fs with rfl | ⟨fs0, f, rfl⟩
  · exact absurd he hm
  · refine ⟨fs0, f, by simp, ?_⟩
    have e0 : fs0.concat f = fs0 ++ [f] := by simp
    rw [e0] at a he
    have hi : (fs0 ++ [f])[fs0.length]? = some f := by rw [List.getElem?_append_right (Nat.le_refl _), Nat.sub_self]; rfl
    have h1 := falls_clo a o fs0.length f hi
    have e1 : (fs0 ++ [f]).take (fs0.length + 1) = fs0 ++ [f] := List.take_of_length_le (by simp)
    rw [e1] at h1
    refine ⟨⟨_, h1, he⟩, fun s T hs hT hmT => ?_⟩
    obtain ⟨l, hl, el⟩ := (a.next fs0.length f hi).1
    -- what comes at s is within what stands ahead of the last fall
    have hc := a.clo fs0.length f hi
    have hn := (a.next fs0.length f hi).2
    have hno : h.want (endF h.n up st ((fs0 ++ [f]).take fs0.length)) s up = [] := List.eq_nil_iff_forall_not_mem.mpr fun m hm2 => by
      obtain ⟨k1, k2⟩ := want_mov.mp hm2
      rw [← need_goes] at k2
      have k3 : h.need (endF h.n up st ((fs0 ++ [f]).take fs0.length)) up m ≤ lev s up := of_decide_eq_true k2
      have := hn m k1
      omega
    have ho2 : StOk h.n (endF h.n up st ((fs0 ++ [f]).take fs0.length)) := by
      rcases Nat.eq_zero_or_pos fs0.length with z | z
      · rw [z, List.take_zero]; exact o
      · obtain ⟨f', hi2⟩ : ∃ f', (fs0 ++ [f])[fs0.length - 1]? = some f' := ⟨_, List.getElem?_eq_getElem (by simp; omega)⟩
        have := (a.clo (fs0.length - 1) _ hi2).ok
        rw [show fs0.length - 1 + 1 = fs0.length by omega] at this
        exact this
    have hle := hT.least _ ho2 (endF_le a (by simp) o) hno
    have h2 := mem_mov.mp hl
    have : l ∈ h.mov T up := mem_mov.mpr ⟨h2.1, by
      have h3 := h2.2
      unfold Lq at hle
      cases up with
      | true =>
        rw [Bool.not_true] at h3 ⊢
        exact decide_eq_false fun z => of_decide_eq_false h3 (hle _ z)
      | false =>
        rw [Bool.not_false] at h3 ⊢
        exact decide_eq_true (hle _ (of_decide_eq_true h3))⟩
    rw [hmT] at this
    cases this
theorem edge_low {h : Hs} {b : Int} (e : EdgeQ h false (ordI h.n) b) : Clo h b false (ordI h.n) [] := by
  obtain ⟨T, c, hm⟩ := e.1
  have : T = [] := List.eq_nil_iff_forall_not_mem.mpr fun x hx => by
    obtain ⟨l, rfl, hl⟩ := c.ok.nat hx
    have h1 : l ∈ h.mov T false := mem_mov.mpr ⟨hl, decide_eq_true hx⟩
    rw [hm] at h1
    cases h1
  rw [this] at c
  exact c
theorem edge_high {h : Hs} {b : Int} (e : EdgeQ h true [] b) : Clo h b true [] (ordI h.n) := by
  obtain ⟨T, c, hm⟩ := e.1
  have : T = ordI h.n := c.ok.ext (ord_ok _) fun l => ⟨fun hx => by
    have := c.ok.hi _ hx
    exact mem_ordI (by omega), fun hx => by
    have hl := (ord_ok h.n).hi _ hx
    by_cases h2 : (l : Int) ∈ T
    · exact h2
    · have h1 : l ∈ h.mov T true := mem_mov.mpr ⟨by omega, decide_eq_false h2⟩
      rw [hm] at h1
      cases h1⟩
  rw [this] at c
  exact c
def sp_floor (K : PySem.W.Frag) (C : Addr) : Sp := fun vs H Q _ => ∃ (a : Addr) (h : Hs), vs = [.ref a] ∧ HouseV K C H a h ∧ HsPos h ∧ ∀ b H', Ex H H' → EdgeQ h false (ordI h.n) b → Q (.int b) H'
def sp_roof (K : PySem.W.Frag) (C : Addr) : Sp := fun vs H Q _ => ∃ (a : Addr) (h : Hs), vs = [.ref a] ∧ HouseV K C H a h ∧ HsPos h ∧ ∀ b H', Ex H H' → EdgeQ h true [] b → Q (.int b) H'
def sp__law_well (K : PySem.W.Frag) (C : Addr) : Sp := fun vs H Q _ => ∃ (s : Addr) (ns : List Int) (k : Int), vs = [.ref s, .int k] ∧ SqL K H s (ns.map V.int) ∧ 0 ≤ k ∧ k ≤ 63 ∧ ∀ p H', H p = none → Ex H H' → JarAt H' p 0 → Q (.ref p) H'
def sp__law_pick (K : PySem.W.Frag) (C : Addr) : Sp := fun vs H Q _ => ∃ (a : Addr) (n m : Int), vs = [.ref a, .int m] ∧ JarAt H a n ∧ 1 ≤ m ∧ m < 1073741824 ∧ n < 1000000 ∧ ∀ (d : Int) H', 0 ≤ d → d < m → ExB a H H' → JarAt H' a (n + 1) → Q (.int d) H'
def sp__law_house (K : PySem.W.Frag) (C : Addr) : Sp := fun vs H Q _ => ∃ (j : Addr) (n : Int) (m : Nat), vs = [.ref j, .int (m : Int)] ∧ JarAt H j n ∧ n < 700000 ∧ 1 ≤ m ∧ m ≤ 14 ∧
  ∀ r tp tl xs ys lat hel H', ExB j H H' → JarAt H' j (n + 700) → H' r = some (.tup [.ref tp, .ref tl]) → H' tp = some (.tup xs) → Al (PairV K H') xs lat → H' tl = some (.tup ys) → Al (TripV K H') ys hel → lat.length = m → (∀ p ∈ lat, p.2 < p.1 ∧ -11 ≤ p.2 ∧ p.2 ≤ 11 ∧ p.1 ≤ 23) → HelOk (m : Int) hel → hel.length ≤ 200 → Q (.ref r) H'
def sp__law_pull (K : PySem.W.Frag) (C : Addr) : Sp := fun vs H Q _ => ∃ (r p : Addr) (h : Hs) (c : List Int) (l : Nat) (s : Int), vs = [.ref r, .ref p, .int (l : Int), .int s] ∧ NetV K H r h ∧ H p = some (.lst (c.map V.int)) ∧ ∀ H', Ex H H' → Q (.int (s + h.lent c l)) H'
def sp__law_wants (K : PySem.W.Frag) (C : Addr) : Sp := fun vs H Q _ => ∃ (r p : Addr) (h : Hs) (c : List Int) (l : Nat) (s : Int) (up : Bool), vs = [.ref r, .ref p, .int (l : Int), .int s, .bl up] ∧ NetV K H r h ∧ H p = some (.lst (c.map V.int)) ∧ l < h.n ∧ ∀ H', Ex H H' → Q (.bl (decide (l ∈ h.want c s up))) H'
theorem want_dec {h : Hs} {c : List Int} {s : Int} {up : Bool} {l : Nat} (hl : l < h.n) : decide (l ∈ h.want c s up) = ((decide ((l : Int) ∈ c) == !up) && h.goes c s l up) := by
  rw [Bool.eq_iff_iff, decide_eq_true_eq, mem_want, Bool.and_eq_true, beq_iff_eq]
  exact ⟨fun z => z.2, fun z => ⟨hl, z⟩⟩
def sp__law_rested (K : PySem.W.Frag) (C : Addr) : Sp := fun vs H Q _ => ∃ (r p : Addr) (h : Hs) (c : List Int) (s : Int) (up : Bool), vs = [.ref r, .ref p, .int s, .bl up] ∧ NetV K H r h ∧ H p = some (.lst (c.map V.int)) ∧ StOk h.n c ∧ ∀ p' T H', (p' = p ∨ H p' = none) → Ex H H' → H' p' = some (.lst (T.map V.int)) → Clo h s up c T → Q (.ref p') H'
theorem want_range (h : Hs) (c : List Int) (s : Int) (up : Bool) : (List.range h.n).filter (fun l => decide (l ∈ h.want c s up)) = h.want c s up := by
  have e : h.want c s up = (List.range h.n).filter fun l => h.goes c s l up && (decide ((l : Int) ∈ c) != up) := by
    unfold Hs.want Hs.mov
    rw [List.filter_filter]
  refine Eq.trans ?_ e.symm
  refine List.filter_congr fun l hl => ?_
  rw [want_dec (List.mem_range.mp hl)]
  cases up <;> cases decide ((l : Int) ∈ c) <;> cases h.goes c s l _ <;> rfl
theorem cut_end (w : List Int) (x : Int) : cutV ((w ++ [x]).map V.int) (some (-1)) none = [V.int x] := by
  have hl : ((w ++ [x]).map V.int).length = w.length + 1 := by simp
  unfold cutV
  rw [hl, HT.sIx_none, show HT.sIx (w.length + 1) 0 (some (-1)) = w.length from by
    show (if (-1 : Int) < 0 then ((-1 : Int) + ((w.length + 1 : Nat) : Int)).toNat else min (-1 : Int).toNat (w.length + 1)) = w.length
    rw [if_pos (by decide)]; omega]
  rw [List.map_append, List.drop_append, List.drop_of_length_le (by simp)]
  simp
/-- what the drawn houses keep to -/
structure SmallH (h : Hs) : Prop where
  n1 : 1 ≤ h.n
  n8 : h.n ≤ 8
  lo : ∀ l, l < h.n → -11 ≤ h.dn l ∧ h.dn l ≤ 11
  hi : ∀ l, l < h.n → h.up l ≤ 23
  hel : HelOk (h.n : Int) h.hel
theorem NetV.ordL {K : PySem.W.Frag} {H : Hp} {r : Addr} {h : Hs} (_ : NetV K H r h) : (ordI h.n).map V.int = nints (List.range h.n) := by rw [← rgV_ord, rgV_nat]
def sp__law_edges (K : PySem.W.Frag) (C : Addr) : Sp := fun vs H Q _ => ∃ (r : Addr) (h : Hs), vs = [.ref r] ∧ NetV K H r h ∧ SmallH h ∧ ∀ b t p H', Ex H H' → H' p = some (.tup [.int b, .int t]) → EdgeQ h false (ordI h.n) b → EdgeQ h true [] t → -90 < b → t ≤ 30 → Q (.ref p) H'
structure SpanV (h : Hs) (c : List Int) (lo hi : Int) : Prop where
  lo : (c = [] ∧ lo = -999) ∨ (c ≠ [] ∧ (-90 ≤ lo ∧ lo ≤ 30) ∧ ∀ s, h.want c s false = [] ↔ lo ≤ s)
  hi : (c = ordI h.n ∧ hi = 999) ∨ (c ≠ ordI h.n ∧ (-90 ≤ hi ∧ hi ≤ 30) ∧ ∀ s, h.want c s true = [] ↔ s ≤ hi)
structure LoI (h : Hs) (c : List Int) (i : Nat) (lo : Int) : Prop where
  le : ∀ l, l < i → (l : Int) ∈ c → h.dn l + 1 - h.lent c l ≤ lo
  at' : lo = -999 ∨ ∃ l, l < i ∧ (l : Int) ∈ c ∧ lo = h.dn l + 1 - h.lent c l
structure HiI (h : Hs) (c : List Int) (i : Nat) (hi : Int) : Prop where
  le : ∀ l, l < i → ¬ (l : Int) ∈ c → hi ≤ h.up l - 1 - h.lent c l
  at' : hi = 999 ∨ ∃ l, l < i ∧ ¬ (l : Int) ∈ c ∧ hi = h.up l - 1 - h.lent c l
theorem LoI.end_ {h : Hs} (hS : SmallH h) {c : List Int} (o : StOk h.n c) {lo : Int} (a : LoI h c h.n lo) : (c = [] ∧ lo = -999) ∨ (c ≠ [] ∧ (-90 ≤ lo ∧ lo ≤ 30) ∧ ∀ s, h.want c s false = [] ↔ lo ≤ s) := by
  have n8 := hS.n8
  have bd : ∀ l, l < h.n → -90 ≤ h.dn l + 1 - h.lent c l ∧ h.dn l + 1 - h.lent c l ≤ 30 := fun l hl => by
    have h1 := lent_le9 hS.hel o l
    have h2 := hS.lo l hl
    omega
  rcases List.eq_nil_or_concat c with hc | ⟨c0, x, hc⟩
  · refine .inl ⟨hc, ?_⟩
    rcases a.at' with h1 | ⟨l, _, h2, _⟩
    · exact h1
    · rw [hc] at h2
      cases h2
  · have hx : x ∈ c := by rw [hc]; simp
    obtain ⟨l0, rfl, hl0⟩ := o.nat hx
    refine .inr ⟨(fun z => by rw [z] at hx; cases hx), ?_, fun s => ?_⟩
    · rcases a.at' with h1 | ⟨l, hl, _, h2⟩
      · have := a.le l0 hl0 hx
        have := bd l0 hl0
        omega
      · have := bd l hl
        omega
    · constructor
      · intro hw
        rcases a.at' with h1 | ⟨l, hl, hm, h2⟩
        · have := a.le l0 hl0 hx
          have := bd l0 hl0
          omega
        · refine Int.not_lt.mp fun z => ?_
          have : l ∈ h.want c s false := mem_want.mpr ⟨hl, by rw [Bool.not_false]; exact decide_eq_true hm, by unfold Hs.goes; simp; omega⟩
          rw [hw] at this
          cases this
      · intro hs
        refine List.eq_nil_iff_forall_not_mem.mpr fun l hl => ?_
        obtain ⟨m1, m2, m3⟩ := mem_want.mp hl
        have := a.le l m1 (of_decide_eq_true m2)
        unfold Hs.goes at m3
        simp at m3
        omega
theorem HiI.end_ {h : Hs} (hS : SmallH h) (hp : HsPos h) {c : List Int} (o : StOk h.n c) {hi : Int} (a : HiI h c h.n hi) : (c = ordI h.n ∧ hi = 999) ∨ (c ≠ ordI h.n ∧ (-90 ≤ hi ∧ hi ≤ 30) ∧ ∀ s, h.want c s true = [] ↔ s ≤ hi) := by
  have n8 := hS.n8
  have bd : ∀ l, l < h.n → -90 ≤ h.up l - 1 - h.lent c l ∧ h.up l - 1 - h.lent c l ≤ 30 := fun l hl => by
    have h1 := lent_le9 hS.hel o l
    have h2 := hS.hi l hl
    have h3 := hS.lo l hl
    have h4 := gap_l hp hl
    omega
  cases hm : h.mov c true with
  | nil =>
    have hc : c = ordI h.n := top_mov (up := true) o hm
    refine .inl ⟨hc, ?_⟩
    rcases a.at' with h1 | ⟨l, hl, h2, _⟩
    · exact h1
    · rw [hc] at h2
      exact absurd (mem_ordI hl) h2
  | cons l0 r =>
    have hx : l0 ∈ h.mov c true := by rw [hm]; exact List.mem_cons_self ..
    obtain ⟨hl0, hx2⟩ := mem_mov.mp hx
    have hx3 := of_decide_eq_false hx2
    refine .inr ⟨(fun z => by rw [z] at hx3; exact hx3 (mem_ordI hl0)), ?_, fun s => ?_⟩
    · rcases a.at' with h1 | ⟨l, hl, _, h2⟩
      · have := a.le l0 hl0 hx3
        have := bd l0 hl0
        omega
      · have := bd l hl
        omega
    · constructor
      · intro hw
        rcases a.at' with h1 | ⟨l, hl, hm, h2⟩
        · have := a.le l0 hl0 hx3
          have := bd l0 hl0
          omega
        · refine Int.not_lt.mp fun z => ?_
          have : l ∈ h.want c s true := mem_want.mpr ⟨hl, decide_eq_false hm, by unfold Hs.goes; simp; omega⟩
          rw [hw] at this
          cases this
      · intro hs
        refine List.eq_nil_iff_forall_not_mem.mpr fun l hl => ?_
        obtain ⟨m1, m2, m3⟩ := mem_want.mp hl
        have := a.le l m1 (of_decide_eq_false m2)
        unfold Hs.goes at m3
        simp at m3
        omega
def sp__law_span (K : PySem.W.Frag) (C : Addr) : Sp := fun vs H Q _ => ∃ (r p : Addr) (h : Hs) (c : List Int), vs = [.ref r, .ref p] ∧ NetV K H r h ∧ SmallH h ∧ H p = some (.lst (c.map V.int)) ∧ StOk h.n c ∧ ∀ t lo hi H', Ex H H' → H' t = some (.tup [.int lo, .int hi]) → SpanV h c lo hi → Q (.ref t) H'
theorem SpanV.rests {h : Hs} (hS : SmallH h) {c : List Int} {lo hi : Int} (a : SpanV h c lo hi) (le : lo ≤ hi) : ∃ s, SetAt h c s := by
  have n1 := hS.n1
  have hno : ∀ s, h.want [] s false = [] := fun s => by simp [Hs.want, Hs.mov]
  have hall : ∀ s, h.want (ordI h.n) s true = [] := fun s => by
    unfold Hs.want
    rw [show h.mov (ordI h.n) true = [] from mov_top (up := true)]
    rfl
  rcases a.lo with ⟨e1, e2⟩ | ⟨_, _, h1⟩
  · rcases a.hi with ⟨e3, _⟩ | ⟨_, _, h2⟩
    · exfalso
      have h0 : ((0 : Nat) : Int) ∈ ordI h.n := mem_ordI (by omega)
      rw [← e3, e1] at h0
      cases h0
    · exact ⟨hi, (h2 hi).mpr (Int.le_refl _), by rw [e1]; exact hno hi⟩
  · rcases a.hi with ⟨e3, _⟩ | ⟨_, _, h2⟩
    · exact ⟨lo, by rw [e3]; exact hall lo, (h1 lo).mpr (Int.le_refl _)⟩
    · exact ⟨lo, (h2 lo).mpr le, (h1 lo).mpr (Int.le_refl _)⟩
/-- the house that was drawn, as a net -/
theorem net_of {K : PySem.W.Frag} {H : Hp} {r tp tl : Addr} {xs ys : List V} {lat : List (Int × Int)} {hel : List (Int × Int × Int)} (hr : H r = some (.tup [.ref tp, .ref tl])) (h1 : H tp = some (.tup xs)) (h2 : Al (PairV K H) xs lat) (h3 : H tl = some (.tup ys)) (h4 : Al (TripV K H) ys hel) (l1 : 1 ≤ lat.length) (l8 : lat.length ≤ 8) (hl : ∀ p ∈ lat, p.2 < p.1 ∧ -11 ≤ p.2 ∧ p.2 ≤ 11 ∧ p.1 ≤ 23) (hh : HelOk (lat.length : Int) hel) : ∃ h : Hs, NetV K H r h ∧ SmallH h ∧ h.n = lat.length ∧ ∀ g : Hs, g.lat = lat → g.hel.Perm hel → HelSorted g.hel → g = h := by
  have cp := canonH_perm (n := lat.length) hh
  refine ⟨⟨lat, canonH hel lat.length⟩, ⟨⟨tp, tl, xs, ys, hel, hr, h1, h2, h3, h4, cp⟩, ⟨l1, by show lat.length ≤ 14; omega, by rw [cp.length_eq]; exact hh.few⟩, ⟨fun y hy => ?_, fun y hy => (hl y hy).1⟩⟩, ⟨l1, l8, fun l hl2 => ?_, fun l hl2 => ?_, hh.perm cp⟩, rfl, fun g e1 e2 e3 => ?_⟩
  · have := hh.ok y (cp.mem_iff.mp hy)
    unfold helpB at this
    simp at this
    omega
  · have := hl _ (List.mem_of_getElem? (lat_get (h := ⟨lat, canonH hel lat.length⟩) hl2))
    exact ⟨this.2.1, this.2.2.1⟩
  · exact (hl _ (List.mem_of_getElem? (lat_get (h := ⟨lat, canonH hel lat.length⟩) hl2))).2.2.2
  · cases g with
    | mk gl gh =>
      cases e1
      exact congrArg (Hs.mk gl) (hels_eq e3 (canonH_sorted hel _) (e2.trans cp.symm))
def sp__law_stood (K : PySem.W.Frag) (C : Addr) : Sp := fun vs H Q _ => ∃ (j r e : Addr) (h : Hs) (n b t : Int), vs = [.ref j, .ref r, .ref e] ∧ JarAt H j n ∧ n < 700000 ∧ NetV K H r h ∧ SmallH h ∧ H e = some (.tup [.int b, .int t]) ∧ EdgeQ h false (ordI h.n) b ∧ EdgeQ h true [] t ∧ -90 < b ∧ t ≤ 30 ∧
  ∀ p c H', p ≠ j → ExB j H H' → JarAt H' j (n + 200) → H' p = some (.lst (c.map V.int)) → StOk h.n c → (∃ s, SetAt h c s) → Q (.ref p) H'
theorem SpanV.endL {h : Hs} {b : Int} (cB : Clo h b false (ordI h.n) []) (hb : -90 < b) {c : List Int} (o : StOk h.n c) {lo hi : Int} (a : SpanV h c lo hi) : EndL h c b (if b > lo then b else lo) ∧ b ≤ (if b > lo then b else lo) ∧ (if b > lo then b else lo) ≤ (if b > 30 then b else 30) := by
  rcases a.lo with ⟨e1, e2⟩ | ⟨e1, h1, h2⟩
  · subst e2
    rw [if_pos (show b > -999 by omega)]
    exact ⟨.inl ⟨e1, rfl⟩, Int.le_refl _, by split <;> omega⟩
  · have : ¬ lo ≤ b := fun z => e1 (low_none cB (Int.le_refl _) o ((h2 b).mpr z))
    rw [if_neg (show ¬ b > lo by omega)]
    exact ⟨.inr ⟨e1, h2⟩, by omega, by split <;> omega⟩
theorem SpanV.endH {h : Hs} {t : Int} (cT : Clo h t true [] (ordI h.n)) (ht : t ≤ 30) {c : List Int} (o : StOk h.n c) {lo hi : Int} (a : SpanV h c lo hi) : EndH h c t (if t < hi then t else hi) ∧ (if t < hi then t else hi) ≤ t ∧ (-90 ≤ (if t < hi then t else hi) ∨ t < -90) := by
  rcases a.hi with ⟨e1, e2⟩ | ⟨e1, h1, h2⟩
  · subst e2
    rw [if_pos (show t < 999 by omega)]
    exact ⟨.inl ⟨e1, rfl⟩, Int.le_refl _, by omega⟩
  · have : ¬ t ≤ hi := fun z => e1 (high_none cT (Int.le_refl _) o ((h2 t).mpr z))
    rw [if_neg (show ¬ t < hi by omega)]
    exact ⟨.inr ⟨e1, h2⟩, by omega, by omega⟩
def foundV (H : Hp) (up : Bool) (z : Int) (v : V) (f : Option (Nat × List Int)) : Prop := match f with
  | none => v = .non
  | some (k, X) => ∃ T tX, v = .ref T ∧ H T = some (.tup [.int (sw up z k), .ref tX]) ∧ H tX = some (.tup (X.map V.int))
theorem foundV.ex {H H' : Hp} {up : Bool} {z : Int} {v : V} {f : Option (Nat × List Int)} (a : foundV H up z v f) (e : Ex H H') : foundV H' up z v f := by
  match f, a with
  | none, a => exact a
  | some (k, X), ⟨T, tX, h1, h2, h3⟩ => exact ⟨T, tX, h1, e _ _ h2, e _ _ h3⟩
def sp__law_far (K : PySem.W.Frag) (C : Addr) : Sp := fun vs H Q _ => ∃ (r p e : Addr) (h : Hs) (c : List Int) (b t : Int) (up : Bool), vs = [.ref r, .ref p, .ref e, .bl up] ∧ NetV K H r h ∧ SmallH h ∧ H p = some (.lst (c.map V.int)) ∧ StOk h.n c ∧ H e = some (.tup [.int b, .int t]) ∧ EdgeQ h false (ordI h.n) b ∧ EdgeQ h true [] t ∧ -90 < b ∧ t ≤ 30 ∧
  (∀ back H', EndU h (!up) c b t back → FarN h c up back → Ex H H' → Q .non H') ∧
  (∀ back s X T tX H', EndU h (!up) c b t back → FarR h c b t up back s X → StOk h.n X → -90 ≤ s → s ≤ 30 → Ex H H' → H' T = some (.tup [.int s, .ref tX]) → H' tX = some (.tup (X.map V.int)) → Q (.ref T) H')
theorem edge_uniq {h : Hs} {up : Bool} {st : List Int} {b b' : Int} (a : EdgeQ h up st b) (d : EdgeQ h up st b') : b = b' := by
  have key : ∀ {x y : Int}, EdgeQ h up st x → EdgeQ h up st y → ¬ lev x up < lev y up := fun {x y} hx hy hlt => by
    obtain ⟨T, hT, hm⟩ := hx.1
    exact hy.2 x T hlt hT hm
  have h1 := key a d
  have h2 := key d a
  exact lev_inj (up := up) (by omega)
structure LowR (h : Hs) (c : List Int) (i : Nat) (o : Option Int) : Prop where
  no : o = none → ∀ l, l < i → ¬ (l : Int) ∈ c
  le : ∀ y, o = some y → (∀ l, l < i → (l : Int) ∈ c → h.dn l + 1 - h.lent c l ≤ y) ∧ ∃ l, l < i ∧ (l : Int) ∈ c ∧ y = h.dn l + 1 - h.lent c l
structure HighR (h : Hs) (c : List Int) (i : Nat) (o : Option Int) : Prop where
  no : o = none → ∀ l, l < i → (l : Int) ∈ c
  le : ∀ y, o = some y → (∀ l, l < i → ¬ (l : Int) ∈ c → y ≤ h.up l - 1 - h.lent c l) ∧ ∃ l, l < i ∧ ¬ (l : Int) ∈ c ∧ y = h.up l - 1 - h.lent c l
theorem low_r (h : Hs) (c : List Int) : ∀ i, LowR h c i (h.low c i)
  | 0 => ⟨fun _ l hl => by omega, (fun y e => by cases e)⟩
  | i + 1 => by
    have ih := low_r h c i
    show LowR h c (i + 1) (if (i : Int) ∈ c then lowS (h.low c i) (h.dn i + 1 - h.lent c i) else h.low c i)
    generalize h.low c i = o at ih ⊢
    by_cases hm : (i : Int) ∈ c
    · rw [if_pos hm]
      cases o with
      | none =>
        refine ⟨(fun e => by cases e), fun y e => ?_⟩
        cases e
        refine ⟨fun l hl hlc => ?_, i, by omega, hm, rfl⟩
        rcases Nat.lt_succ_iff_lt_or_eq.mp hl with h1 | h1
        · exact absurd hlc (ih.no rfl l h1)
        · subst h1
          exact Int.le_refl _
      | some z =>
        obtain ⟨a, l0, b1, b2, b3⟩ := ih.le z rfl
        refine ⟨fun e => ?_, fun y e => ?_⟩
        · unfold lowS at e
          dsimp only at e
          split at e <;> cases e
        · unfold lowS at e
          dsimp only at e
          split at e <;> rename_i hz <;> cases e
          · refine ⟨fun l hl hlc => ?_, i, by omega, hm, rfl⟩
            rcases Nat.lt_succ_iff_lt_or_eq.mp hl with h1 | h1
            · have := a l h1 hlc; omega
            · subst h1; exact Int.le_refl _
          · refine ⟨fun l hl hlc => ?_, l0, by omega, b2, b3⟩
            rcases Nat.lt_succ_iff_lt_or_eq.mp hl with h1 | h1
            · exact a l h1 hlc
            · subst h1; omega
    · rw [if_neg hm]
      refine ⟨fun e l hl hlc => ?_, fun y e => ?_⟩
      · rcases Nat.lt_succ_iff_lt_or_eq.mp hl with h1 | h1
        · exact ih.no e l h1 hlc
        · subst h1; exact hm hlc
      · obtain ⟨a, l0, b1, b2, b3⟩ := ih.le y e
        refine ⟨fun l hl hlc => ?_, l0, by omega, b2, b3⟩
        rcases Nat.lt_succ_iff_lt_or_eq.mp hl with h1 | h1
        · exact a l h1 hlc
        · subst h1; exact absurd hlc hm
theorem high_r (h : Hs) (c : List Int) : ∀ i, HighR h c i (h.high c i)
  | 0 => ⟨fun _ l hl => by omega, (fun y e => by cases e)⟩
  | i + 1 => by
    have ih := high_r h c i
    show HighR h c (i + 1) (if (i : Int) ∈ c then h.high c i else highS (h.high c i) (h.up i - 1 - h.lent c i))
    generalize h.high c i = o at ih ⊢
    by_cases hm : (i : Int) ∈ c
    · rw [if_pos hm]
      refine ⟨fun e l hl => ?_, fun y e => ?_⟩
      · rcases Nat.lt_succ_iff_lt_or_eq.mp hl with h1 | h1
        · exact ih.no e l h1
        · subst h1; exact hm
      · obtain ⟨a, l0, b1, b2, b3⟩ := ih.le y e
        refine ⟨fun l hl hlc => ?_, l0, by omega, b2, b3⟩
        rcases Nat.lt_succ_iff_lt_or_eq.mp hl with h1 | h1
        · exact a l h1 hlc
        · subst h1; exact absurd hm hlc
    · rw [if_neg hm]
      cases o with
      | none =>
        refine ⟨(fun e => by cases e), fun y e => ?_⟩
        cases e
        refine ⟨fun l hl hlc => ?_, i, by omega, hm, rfl⟩
        rcases Nat.lt_succ_iff_lt_or_eq.mp hl with h1 | h1
        · exact absurd (ih.no rfl l h1) hlc
        · subst h1
          exact Int.le_refl _
      | some z =>
        obtain ⟨a, l0, b1, b2, b3⟩ := ih.le z rfl
        refine ⟨fun e => ?_, fun y e => ?_⟩
        · unfold highS at e
          dsimp only at e
          split at e <;> cases e
        · unfold highS at e
          dsimp only at e
          split at e <;> rename_i hz <;> cases e
          · refine ⟨fun l hl hlc => ?_, i, by omega, hm, rfl⟩
            rcases Nat.lt_succ_iff_lt_or_eq.mp hl with h1 | h1
            · have := a l h1 hlc; omega
            · subst h1; exact Int.le_refl _
          · refine ⟨fun l hl hlc => ?_, l0, by omega, b2, b3⟩
            rcases Nat.lt_succ_iff_lt_or_eq.mp hl with h1 | h1
            · exact a l h1 hlc
            · subst h1; omega
theorem low_nil {h : Hs} {c : List Int} (o : StOk h.n c) (e : h.low c h.n = none) : c = [] := List.eq_nil_iff_forall_not_mem.mpr fun x hx => by
  obtain ⟨l, rfl, hl⟩ := o.nat hx
  exact (low_r h c h.n).no e l hl hx
theorem high_all {h : Hs} {c : List Int} (o : StOk h.n c) (e : h.high c h.n = none) : c = ordI h.n := o.ext (ord_ok _) fun l => ⟨fun hx => mem_ordI (by have := o.hi _ hx; omega), fun hx => (high_r h c h.n).no e l (by have := (ord_ok h.n).hi _ hx; omega)⟩
theorem low_some {h : Hs} {c : List Int} {y : Int} (e : h.low c h.n = some y) : c ≠ [] ∧ ∀ s, h.want c s false = [] ↔ y ≤ s := by
  obtain ⟨a, l0, b1, b2, b3⟩ := (low_r h c h.n).le y e
  refine ⟨(fun z => by rw [z] at b2; cases b2), fun s => ⟨fun hw => ?_, fun hs => ?_⟩⟩
  · refine Int.not_lt.mp fun z => ?_
    have : l0 ∈ h.want c s false := mem_want.mpr ⟨b1, by rw [Bool.not_false]; exact decide_eq_true b2, by unfold Hs.goes; simp; omega⟩
    rw [hw] at this
    cases this
  · refine List.eq_nil_iff_forall_not_mem.mpr fun l hl => ?_
    obtain ⟨m1, m2, m3⟩ := mem_want.mp hl
    have := a l m1 (of_decide_eq_true m2)
    unfold Hs.goes at m3
    simp at m3
    omega
theorem high_some {h : Hs} {c : List Int} {y : Int} (e : h.high c h.n = some y) : c ≠ ordI h.n ∧ ∀ s, h.want c s true = [] ↔ s ≤ y := by
  obtain ⟨a, l0, b1, b2, b3⟩ := (high_r h c h.n).le y e
  refine ⟨(fun z => by rw [z] at b2; exact b2 (mem_ordI b1)), fun s => ⟨fun hw => ?_, fun hs => ?_⟩⟩
  · refine Int.not_lt.mp fun z => ?_
    have : l0 ∈ h.want c s true := mem_want.mpr ⟨b1, decide_eq_false b2, by unfold Hs.goes; simp; omega⟩
    rw [hw] at this
    cases this
  · refine List.eq_nil_iff_forall_not_mem.mpr fun l hl => ?_
    obtain ⟨m1, m2, m3⟩ := mem_want.mp hl
    have := a l m1 (of_decide_eq_false m2)
    unfold Hs.goes at m3
    simp at m3
    omega
/-- both ends, whatever the edges' names -/
structure EndsV (h : Hs) (c : List Int) (lo hi : Int) : Prop where
  eL : ∀ b, EdgeQ h false (ordI h.n) b → EndL h c b lo
  eH : ∀ t, EdgeQ h true [] t → EndH h c t hi
  nl : h.want c lo false = []
  nh : h.want c hi true = []
def sp_ends_of (K : PySem.W.Frag) (C : Addr) : Sp := fun vs H Q _ => ∃ (a t : Addr) (h : Hs) (c : List Int), vs = [.ref a, .ref t] ∧ HouseV K C H a h ∧ SqT K H t (c.map V.int) ∧ StOk h.n c ∧ HsPos h ∧ ∀ p lo hi H', Ex H H' → H' p = some (.tup [.int lo, .int hi]) → EndsV h c lo hi → Q (.ref p) H'
theorem not_crossed {h : Hs} {c : List Int} (hs : ∃ s, SetAt h c s) : crossed (h.low c h.n) (h.high c h.n) = false := by
  obtain ⟨s, w1, w2⟩ := hs
  cases hl : h.low c h.n with
  | none => rfl
  | some x =>
    cases hh : h.high c h.n with
    | none => rfl
    | some y =>
      have h1 := ((low_some hl).2 s).mp w2
      have h2 := ((high_some hh).2 s).mp w1
      exact decide_eq_false (by omega)
def sp_check_spanned (K : PySem.W.Frag) (C : Addr) : Sp := fun vs H Q _ => ∃ (a t : Addr) (h : Hs) (c : List Int), vs = [.ref a, .ref t] ∧ HouseV K C H a h ∧ SqT K H t (c.map V.int) ∧ StOk h.n c ∧ (∃ s, SetAt h c s) ∧ ∀ H', Ex H H' → Q .non H'
structure FarW (h : Hs) (c : List Int) (up : Bool) (r : Int) (X : List Int) : Prop where
  ne : X ≠ c
  way : ∃ s', Clo h s' up c X
  back : Clo h r (!up) X c
  far : ∀ s' Y, Clo h s' up c Y → Clo h r (!up) Y c → Lq up Y X
section
variable {h : Hs} {up : Bool} {c : List Int} {fs : List (Int × List (List Nat))}
theorem fall_side (a : FallsR h up c fs) (o : StOk h.n c) {s : Int} {Y : List Int} (hY : Clo h s up c Y) {i : Nat} {f : Int × List (List Nat)} (hf : fs[i]? = some f) (oX : StOk h.n (endF h.n up c (fs.take i))) (le : Lq up c (endF h.n up c (fs.take i))) : Lq up Y (endF h.n up c (fs.take i)) ∨ Lq up (endF h.n up c (fs.take (i + 1))) Y := by
  by_cases hlt : lev s up < lev f.1 up
  · refine .inl (hY.least _ oX le (List.eq_nil_iff_forall_not_mem.mpr fun l hl => ?_))
    obtain ⟨h1, h2⟩ := want_mov.mp hl
    rw [← need_goes] at h2
    have h3 := of_decide_eq_true h2
    have h4 := (a.next i f hf).2 l h1
    have h5 : h.need (endF h.n up c (fs.take i)) up l ≤ lev s up := h3
    omega
  · exact .inr (clo_mono (swLe_lev.mpr (by omega)) (falls_clo a o i f hf) hY)
theorem endF_okT (a : FallsR h up c fs) (o : StOk h.n c) {i : Nat} (hi : i ≤ fs.length) : StOk h.n (endF h.n up c (fs.take i)) := by
  cases i with
  | zero => rw [List.take_zero]; exact o
  | succ i =>
    obtain ⟨f', hi2⟩ : ∃ f', fs[i]? = some f' := ⟨_, List.getElem?_eq_getElem (by omega)⟩
    exact (a.clo i _ hi2).ok
theorem fall_ne (hp : HsPos h) (a : FallsR h up c fs) (o : StOk h.n c) {i : Nat} (h0 : 0 < i) (hi : i ≤ fs.length) : endF h.n up c (fs.take i) ≠ c := by
  obtain ⟨k, rfl⟩ : ∃ k, i = k + 1 := ⟨i - 1, by omega⟩
  obtain ⟨f, hf⟩ : ∃ f, fs[k]? = some f := ⟨_, List.getElem?_eq_getElem (by omega)⟩
  obtain ⟨l, hl, el⟩ := (a.next k f hf).1
  have hle := endF_le a (show k ≤ fs.length by omega) o
  have hc := a.clo k f hf
  obtain ⟨m1, m2⟩ := mem_mov.mp hl
  have hw : l ∈ h.want (endF h.n up c (fs.take k)) f.1 up := want_mov.mpr ⟨hl, by rw [← need_goes]; exact decide_eq_true (Int.le_of_eq el)⟩
  have g := gone_in hp hw hc.ge hc.fin
  intro e
  rw [e] at g
  unfold Lq at hle
  cases up with
  | true =>
    have h1 := of_decide_eq_true g
    exact of_decide_eq_false m2 (hle _ h1)
  | false =>
    have h1 := of_decide_eq_false g
    have h2 : decide ((l : Int) ∈ endF h.n false c (fs.take k)) = true := m2
    exact h1 (hle _ (of_decide_eq_true h2))
theorem far_stop (hp : HsPos h) (a : FallsR h up c fs) (o : StOk h.n c) {r : Int} (w : h.want c r (!up) = []) {i : Nat} (hi : i < fs.length) (hb : ¬ Clo h r (!up) (endF h.n up c (fs.take (i + 1))) c) : ∀ s' Y, Clo h s' up c Y → Clo h r (!up) Y c → Lq up Y (endF h.n up c (fs.take i)) := fun s' Y hY hk => by
  obtain ⟨f, hf⟩ : ∃ f, fs[i]? = some f := ⟨_, List.getElem?_eq_getElem hi⟩
  rcases fall_side a o hY hf (endF_okT a o (by omega)) (endF_le a (by omega) o) with h1 | h1
  · exact h1
  · exact absurd (back_mono hp o (endF_okT a o (by omega)) (endF_le a (by omega) o) h1 w hk) hb
end
theorem step_mem {n : Nat} {st : List Int} {ls ms : List Nat} {up : Bool} (h : ∀ l, l ∈ ls ↔ l ∈ ms) : stepS n st ls up = stepS n st ms up := by
  unfold stepS
  congr 1
  funext l
  rw [decide_eq_decide.mpr (h l)]
theorem s_ifVV {n k : Nat} {σ : L2.St} {H : Hp} {lo hi : Int} {up : Bool} {Q : VK} (h1 : σ[n]? = some (some (.int lo))) (h2 : σ[k]? = some (some (.int hi))) (q : Q (.int (if up = true then lo else hi)) H) : kIf (fun H1 => tVar n σ H1 Q) (fun H1 => tVar k σ H1 Q) up H := by
  cases up with
  | true => exact iteT ⟨_, h1, q⟩
  | false => exact iteF ⟨_, h2, q⟩
def sp_farthest (K : PySem.W.Frag) (C : Addr) : Sp := fun vs H Q _ => ∃ (a t : Addr) (h : Hs) (c : List Int) (up : Bool), vs = [.ref a, .ref t, .bl up] ∧ HouseV K C H a h ∧ SqT K H t (c.map V.int) ∧ StOk h.n c ∧ HsPos h ∧
  (∀ back H', (∀ b t, EdgeQ h false (ordI h.n) b → EdgeQ h true [] t → EndU h (!up) c b t back) → FarN h c up back → Ex H H' → Q .non H') ∧
  (∀ back s X T tX H', (∀ b t, EdgeQ h false (ordI h.n) b → EdgeQ h true [] t → EndU h (!up) c b t back) → (∀ b t, EdgeQ h false (ordI h.n) b → EdgeQ h true [] t → FarR h c b t up back s X) → StOk h.n X → Ex H H' → H' T = some (.tup [.int s, .ref tX]) → SqT K H' tX (X.map V.int) → Q (.ref T) H')
def sp_law (K : PySem.W.Frag) (C : Addr) : Sp := fun vs H Q _ => ∃ (a : Addr) (ns : List Int), vs = [.ref a] ∧ SqL K H a (ns.map V.int) ∧ ns.length ≤ 63 ∧ ∀ H', Q (.bl true) H'
def sp_is_wider (K : PySem.W.Frag) (C : Addr) : Sp := fun vs H Q _ => ∃ (s l : Int) (up : Bool), vs = [.int s, .int l, .bl up] ∧ Q (.bl (decide (lev l up < lev s up))) H
def FarV (K : PySem.W.Frag) (H : Hp) (v : V) : Option (Int × List Int) → Prop
  | none => v = .non
  | some g => StepV K H v g
theorem far2 {K : PySem.W.Frag} {C a t : Addr} {H : Hp} {Q : VK} {E : XK} {h : Hs} {c : List Int} {up : Bool} {b e : Int} (hv : HouseV K C H a h) (hst : SqT K H t (c.map V.int)) (ho : StOk h.n c) (hpos : HsPos h) (hb : EdgeQ h false (ordI h.n) b) (ht : EdgeQ h true [] e)
    (q : ∀ v o H', Ex H H' → FarV K H' v o → FarO h c b e up o → Q v H') : sp_farthest K C [.ref a, .ref t, .bl up] H Q E :=
  ⟨a, t, h, c, up, rfl, hv, hst, ho, hpos, fun back H' x y ex => q .non none H' ex rfl ⟨back, x b e hb ht, y⟩, fun back s X T tX H' x y oX ex h1 h2 => q (.ref T) (some (s, X)) H' ex ⟨T, tX, rfl, h1, h2⟩ ⟨back, x b e hb ht, y b e hb ht⟩⟩
def sp_widening_of (K : PySem.W.Frag) (C : Addr) : Sp := fun vs H Q _ => ∃ (a t : Addr) (h : Hs) (c : List Int) (u0 : Bool) (b e : Int), vs = [.ref a, .ref t, .bl u0] ∧ HouseV K C H a h ∧ SqT K H t (c.map V.int) ∧ StOk h.n c ∧ HsPos h ∧ (∃ s, SetAt h c s) ∧ EdgeQ h false (ordI h.n) b ∧ EdgeQ h true [] e ∧
  ∀ p xs rs c' up' H', H p = none → Ex H H' → H' p = some (.lst xs) → Al (StepV K H') xs rs.reverse → Wid h b e c u0 rs c' up' → Done h b e rs c' up' → Q (.ref p) H'
def sp_widening (K : PySem.W.Frag) (C : Addr) : Sp := fun vs H Q _ => ∃ (a t : Addr) (h : Hs) (c : List Int) (u0 : Bool) (b e : Int), vs = [.ref a, .ref t, .str (if u0 = true then "peak" else "dip")] ∧ HouseV K C H a h ∧ SqT K H t (c.map V.int) ∧ StOk h.n c ∧ HsPos h ∧ (∃ s, SetAt h c s) ∧ EdgeQ h false (ordI h.n) b ∧ EdgeQ h true [] e ∧
  ∀ p xs rs c' up' H', H p = none → Ex H H' → H' p = some (.lst xs) → Al (StepV K H') xs rs.reverse → Wid h b e c u0 rs c' up' → Done h b e rs c' up' → Q (.ref p) H'
def sp__law_widened (K : PySem.W.Frag) (C : Addr) : Sp := fun vs H Q _ => ∃ (r p e : Addr) (h : Hs) (c : List Int) (b t : Int) (up : Bool), vs = [.ref r, .ref p, .ref e, .bl up] ∧ NetV K H r h ∧ SmallH h ∧ H p = some (.lst (c.map V.int)) ∧ StOk h.n c ∧ (∃ s, SetAt h c s) ∧ H e = some (.tup [.int b, .int t]) ∧ EdgeQ h false (ordI h.n) b ∧ EdgeQ h true [] t ∧ -90 < b ∧ t ≤ 30 ∧
  ∀ l xs rs c' up' H', H l = none → Ex H H' → H' l = some (.lst xs) → Al (StepV K H') xs rs.reverse → Wid h b t c up rs c' up' → Done h b t rs c' up' → (∀ g ∈ rs, -90 ≤ g.1 ∧ g.1 ≤ 30) → Q (.ref l) H'
def sp__law_right (K : PySem.W.Frag) (C : Addr) : Sp := fun vs H Q _ => ∃ (j : Addr) (n : Int), vs = [.ref j] ∧ JarAt H j n ∧ n < 10000 ∧ ∀ H', ExB j H H' → Q (.bl true) H'
/-- a list of a widening, as it was found -/
def WidV (K : PySem.W.Frag) (h : Hs) (b t : Int) (c : List Int) (H0 : Hp) (D : Addr) (up : Bool) (y : V) (H : Hp) : Prop := ∃ l xs rs c' up', y = .ref l ∧ l ≠ D ∧ H0 l = none ∧ H l = some (.lst xs) ∧ Al (StepV K H) xs rs.reverse ∧ Wid h b t c up rs c' up' ∧ Done h b t rs c' up' ∧ SmallG rs
/-! ### what the top has written -/
structure Txt (K : PySem.W.Frag) (mg : PySem.Str → Option Value) (C : Addr) : Prop where
  cls : Cls K C
  mgC : mg "House" = some (.ref C)
  n_latches : NoAttr K C "_latches"
  n_marks : NoAttr K C "_marks"
  n_rows : NoAttr K C "_rows"
  n_numbers : NoAttr K C "_numbers"
  n_helps : NoAttr K C "_helps"
  f_in_one_number : ∃ (f : Addr) (fd : FuncData), Fun K "in_one_number" "in_one_number" s_in_one_number f fd ∧ mg "in_one_number" = some (.ref f)
  f_House__lend : ∃ (f : Addr) (fd : FuncData), Fun K "_lend" "House._lend" s_House__lend f fd ∧ Meth K C "_lend" f
  f_is_whole : ∃ (f : Addr) (fd : FuncData), Fun K "is_whole" "is_whole" s_is_whole f fd ∧ mg "is_whole" = some (.ref f)
  f_is_pair : ∃ (f : Addr) (fd : FuncData), Fun K "is_pair" "is_pair" s_is_pair f fd ∧ mg "is_pair" = some (.ref f)
  f_check_latches : ∃ (f : Addr) (fd : FuncData), Fun K "check_latches" "check_latches" s_check_latches f fd ∧ mg "check_latches" = some (.ref f)
  f_is_lending : ∃ (f : Addr) (fd : FuncData), Fun K "is_lending" "is_lending" s_is_lending f fd ∧ mg "is_lending" = some (.ref f)
  f_rows_lent : ∃ (f : Addr) (fd : FuncData), Fun K "rows_lent" "rows_lent" s_rows_lent f fd ∧ mg "rows_lent" = some (.ref f)
  f_House___init__ : ∃ (f : Addr) (fd : FuncData) (dT : Addr), FunD K "__init__" "House.__init__" (defArgs s_House___init__) (defBody s_House___init__) (defScope s_House___init__) [.ref dT] [] f fd ∧ Mk K C f
  f__law_pull : ∃ (f : Addr) (fd : FuncData), Fun K "_law_pull" "_law_pull" s__law_pull f fd ∧ mg "_law_pull" = some (.ref f)
  f__law_wants : ∃ (f : Addr) (fd : FuncData), Fun K "_law_wants" "_law_wants" s__law_wants f fd ∧ mg "_law_wants" = some (.ref f)
  f__law_rested : ∃ (f : Addr) (fd : FuncData), Fun K "_law_rested" "_law_rested" s__law_rested f fd ∧ mg "_law_rested" = some (.ref f)
  f__law_edges : ∃ (f : Addr) (fd : FuncData), Fun K "_law_edges" "_law_edges" s__law_edges f fd ∧ mg "_law_edges" = some (.ref f)
  f__law_pick : ∃ (f : Addr) (fd : FuncData), Fun K "_law_pick" "_law_pick" s__law_pick f fd ∧ mg "_law_pick" = some (.ref f)
  f__law_house : ∃ (f : Addr) (fd : FuncData), Fun K "_law_house" "_law_house" s__law_house f fd ∧ mg "_law_house" = some (.ref f)
  f__law_span : ∃ (f : Addr) (fd : FuncData), Fun K "_law_span" "_law_span" s__law_span f fd ∧ mg "_law_span" = some (.ref f)
  f__law_stood : ∃ (f : Addr) (fd : FuncData), Fun K "_law_stood" "_law_stood" s__law_stood f fd ∧ mg "_law_stood" = some (.ref f)
  f__law_far : ∃ (f : Addr) (fd : FuncData), Fun K "_law_far" "_law_far" s__law_far f fd ∧ mg "_law_far" = some (.ref f)
  f__law_widened : ∃ (f : Addr) (fd : FuncData), Fun K "_law_widened" "_law_widened" s__law_widened f fd ∧ mg "_law_widened" = some (.ref f)
  f_are_crossed : ∃ (f : Addr) (fd : FuncData), Fun K "are_crossed" "are_crossed" s_are_crossed f fd ∧ mg "are_crossed" = some (.ref f)
  f_House___len__ : ∃ (f : Addr) (fd : FuncData), Fun K "__len__" "House.__len__" s_House___len__ f fd ∧ Meth K C "__len__" f
  f_is_rising : ∃ (f : Addr) (fd : FuncData), Fun K "is_rising" "is_rising" s_is_rising f fd ∧ mg "is_rising" = some (.ref f)
  f_is_rising_below : ∃ (f : Addr) (fd : FuncData), Fun K "is_rising_below" "is_rising_below" s_is_rising_below f fd ∧ mg "is_rising_below" = some (.ref f)
  f_check_stand : ∃ (f : Addr) (fd : FuncData), Fun K "check_stand" "check_stand" s_check_stand f fd ∧ mg "check_stand" = some (.ref f)
  f_House_marks : ∃ (f : Addr) (fd : FuncData), Fun K "marks" "House.marks" s_House_marks f fd ∧ Meth K C "marks" f
  f_House_numbers : ∃ (f : Addr) (fd : FuncData), Fun K "numbers" "House.numbers" s_House_numbers f fd ∧ Meth K C "numbers" f
  f_lent_to_all : ∃ (f : Addr) (fd : FuncData), Fun K "lent_to_all" "lent_to_all" s_lent_to_all f fd ∧ mg "lent_to_all" = some (.ref f)
  f_limits : ∃ (f : Addr) (fd : FuncData), Fun K "limits" "limits" s_limits f fd ∧ mg "limits" = some (.ref f)
  f_check_spanned : ∃ (f : Addr) (fd : FuncData), Fun K "check_spanned" "check_spanned" s_check_spanned f fd ∧ mg "check_spanned" = some (.ref f)
  f_level_of : ∃ (f : Addr) (fd : FuncData), Fun K "level_of" "level_of" s_level_of f fd ∧ mg "level_of" = some (.ref f)
  f_waiting_of : ∃ (f : Addr) (fd : FuncData), Fun K "waiting_of" "waiting_of" s_waiting_of f fd ∧ mg "waiting_of" = some (.ref f)
  f_eased : ∃ (f : Addr) (fd : FuncData), Fun K "eased" "eased" s_eased f fd ∧ mg "eased" = some (.ref f)
  f_waves_at : ∃ (f : Addr) (fd : FuncData), Fun K "waves_at" "waves_at" s_waves_at f fd ∧ mg "waves_at" = some (.ref f)
  f_steps_of : ∃ (f : Addr) (fd : FuncData), Fun K "steps_of" "steps_of" s_steps_of f fd ∧ mg "steps_of" = some (.ref f)
  f_together : ∃ (f : Addr) (fd : FuncData), Fun K "together" "together" s_together f fd ∧ mg "together" = some (.ref f)
  f_branch_of : ∃ (f : Addr) (fd : FuncData), Fun K "branch_of" "branch_of" s_branch_of f fd ∧ mg "branch_of" = some (.ref f)
  f_gone : ∃ (f : Addr) (fd : FuncData), Fun K "gone" "gone" s_gone f fd ∧ mg "gone" = some (.ref f)
  f_end_of : ∃ (f : Addr) (fd : FuncData), Fun K "end_of" "end_of" s_end_of f fd ∧ mg "end_of" = some (.ref f)
  f_floor : ∃ (f : Addr) (fd : FuncData), Fun K "floor" "floor" s_floor f fd ∧ mg "floor" = some (.ref f)
  f_roof : ∃ (f : Addr) (fd : FuncData), Fun K "roof" "roof" s_roof f fd ∧ mg "roof" = some (.ref f)
  f_ends_of : ∃ (f : Addr) (fd : FuncData), Fun K "ends_of" "ends_of" s_ends_of f fd ∧ mg "ends_of" = some (.ref f)
  f_farthest : ∃ (f : Addr) (fd : FuncData), Fun K "farthest" "farthest" s_farthest f fd ∧ mg "farthest" = some (.ref f)
  f_is_wider : ∃ (f : Addr) (fd : FuncData), Fun K "is_wider" "is_wider" s_is_wider f fd ∧ mg "is_wider" = some (.ref f)
  f_widening_of : ∃ (f : Addr) (fd : FuncData), Fun K "widening_of" "widening_of" s_widening_of f fd ∧ mg "widening_of" = some (.ref f)
  f_widening : ∃ (f : Addr) (fd : FuncData), FunD K "widening" "widening" (defArgs s_widening) (defBody s_widening) (defScope s_widening) [] [("way", .str "dip")] f fd ∧ mg "widening" = some (.ref f)
  f__law_right : ∃ (f : Addr) (fd : FuncData), Fun K "_law_right" "_law_right" s__law_right f fd ∧ mg "_law_right" = some (.ref f)
  f__law_well : ∃ (f : Addr) (fd : FuncData), Fun K "_law_well" "_law_well" s__law_well f fd ∧ mg "_law_well" = some (.ref f)
  f_law : ∃ (f : Addr) (fd : FuncData), Fun K "law" "law" s_law f fd ∧ mg "law" = some (.ref f)
  b_bool : mg "bool" = none
  b_enumerate : mg "enumerate" = none
  b_int : mg "int" = none
  b_isinstance : mg "isinstance" = none
  b_len : mg "len" = none
  b_list : mg "list" = none
  b_max : mg "max" = none
  b_min : mg "min" = none
  b_range : mg "range" = none
  b_repr : mg "repr" = none
  b_reversed : mg "reversed" = none
  b_sorted : mg "sorted" = none
  b_sum : mg "sum" = none
  b_tuple : mg "tuple" = none
  g_MOST_LATCHES : ∃ t, mg "MOST_LATCHES" = some (.int 14 t)
  g_MOST_HELP : ∃ t, mg "MOST_HELP" = some (.int 9 t)
  g_FIELD_BITS : ∃ t, mg "FIELD_BITS" = some (.int 8 t)
  g_FIELD : ∃ t, mg "FIELD" = some (.int 255 t)
end My
namespace My
open PySem PySem.Spec PyProof.Rows L2
local macro_rules | `(tactic| array_mem_dec) => `(tactic| first
  | with_reducible assumption
  | (with_reducible apply x_tr
     · with_reducible assumption
     · array_mem_dec
    )
  | exact Ex.rfl)
local macro_rules | `(tactic| decreasing_trivial) => `(tactic| first
  | with_reducible assumption
  | (with_reducible apply x_trBB
     · with_reducible assumption
     · decreasing_trivial
    )
  | (with_reducible apply x_trB
     · with_reducible assumption
     · decreasing_trivial
    )
  | exact ExB.rfl)
local macro_rules | `(tactic| decreasing_trivial_pre_omega) => `(tactic| first
  | with_reducible assumption
  | (with_reducible apply Ne.symm
     · with_reducible assumption
    )
  | (with_reducible apply x_jne
     · with_reducible assumption
     · sizeOf_list_dec
    )
  | (with_reducible apply x_jne2
     · with_reducible assumption
     · sizeOf_list_dec
    )
  | (with_reducible apply x_ne
     · with_reducible assumption
     · sizeOf_list_dec
    )
  | (with_reducible apply x_ne2
     · with_reducible assumption
     · sizeOf_list_dec
    )
  | (with_reducible apply x_neLI
     · with_reducible assumption
     · sizeOf_list_dec
    )
  | (with_reducible apply x_neTI
     · with_reducible assumption
     · sizeOf_list_dec
    ))
local macro_rules | `(tactic| sizeOf_list_dec) => `(tactic| first
  | with_reducible assumption
  | (with_reducible apply x_ex
     · with_reducible assumption
     · sizeOf_list_dec
    )
  | (with_reducible apply x_exB
     · with_reducible assumption
     · decreasing_trivial_pre_omega
     · sizeOf_list_dec
    )
  | (with_reducible apply L2.SqL.of
     · sizeOf_list_dec
    )
  | (with_reducible apply L2.SqT.of
     · sizeOf_list_dec
    )
  | (with_reducible apply x_jar
     · with_reducible assumption
     · sizeOf_list_dec
    )
  | (with_reducible apply x_jarB
     · with_reducible assumption
     · decreasing_trivial_pre_omega
     · sizeOf_list_dec
    )
  | (with_reducible apply x_fr
     · with_reducible assumption
     · array_mem_dec
    )
  | (with_reducible apply x_sqt
     · with_reducible assumption
     · sizeOf_list_dec
    )
  | (with_reducible apply x_sql
     · with_reducible assumption
     · sizeOf_list_dec
    )
  | (with_reducible apply x_hv
     · with_reducible assumption
     · sizeOf_list_dec
    )
  | assumption)
local macro_rules | `(tactic| get_elem_tactic_trivial) => `(tactic| ((first | with_reducible apply sz1 | with_reducible apply sz2); (try simp only [List.length_map, List.length_append, List.length_cons, List.length_nil, List.length_reverse, List.length_take, List.length_drop, List.length_range]); omega))
local macro_rules | `(tactic| get_elem_tactic_extensible) => `(tactic| first
  | exact Sml.int _
  | exact Sml.bl _
  | exact Sml.non
  | exact Sml.str _
  | (with_reducible apply Sml.lst
     · sizeOf_list_dec
    )
  | (with_reducible apply Sml.tup
     · sizeOf_list_dec
    )
  | (with_reducible apply Sml.dic
     · sizeOf_list_dec
    ))
local macro_rules | `(tactic| array_get_dec) => `(tactic| first
  | (with_reducible refine s_nx ?_)
  | (with_reducible refine s_rt ?_)
  | (with_reducible apply s_v
     · with_reducible repeat (first | exact GetR.z | apply GetR.s)
    )
  | (with_reducible refine s_seq ?_)
  | (with_reducible refine s_c ?_)
  | (with_reducible refine s_op ?_)
  | (with_reducible refine s_rI0 ?_)
  | (with_reducible refine s_cons ?_)
  | (with_reducible refine s_nil ?_)
  | (with_reducible refine s_cb ?_)
  | (with_reducible refine s_call ?_)
  | (with_reducible refine s_asg ?_)
  | (with_reducible apply s_gN
     · with_reducible repeat (first | exact SetR.z | apply SetR.s)
    )
  | (with_reducible refine s_ifs ?_)
  | (with_reducible refine s_test ?_)
  | (with_reducible refine s_tB ?_)
  | (with_reducible refine s_kbl ?_)
  | (with_reducible refine s_ret ?_)
  | (with_reducible refine s_retN ?_)
  | (with_reducible refine s_drop ?_)
  | (with_reducible refine s_next ?_)
  | (with_reducible refine s_ift ?_)
  | (with_reducible refine s_iff ?_)
  | (with_reducible refine s_knot ?_)
  | (with_reducible refine s_kand ?_)
  | (with_reducible refine s_kor ?_)
  | (with_reducible refine s_and ?_)
  | (with_reducible refine s_or ?_)
  | (with_reducible refine s_not ?_)
  | (with_reducible refine s_andV ?_)
  | (with_reducible refine s_orV ?_)
  | (with_reducible refine s_notV ?_)
  | (with_reducible refine s_tIf ?_)
  | (with_reducible refine s_chain ?_)
  | (with_reducible refine s_un ?_)
  | (with_reducible refine s_rU ?_)
  | (with_reducible refine s_eqI ?_)
  | (with_reducible refine s_neI ?_)
  | (with_reducible refine s_eqS ?_)
  | (with_reducible refine s_neS ?_)
  | (with_reducible refine s_eqB ?_)
  | (with_reducible refine s_neB ?_)
  | (with_reducible refine s_eqSI ?_)
  | (with_reducible refine s_eqIS ?_)
  | (with_reducible refine s_tru ?_)
  | (with_reducible refine s_truB ?_)
  | (with_reducible refine s_truN ?_)
  | (with_reducible apply s_truL
     · sizeOf_list_dec
    )
  | (with_reducible apply s_truT
     · sizeOf_list_dec
    )
  | (with_reducible apply s_rIxL
     · sizeOf_list_dec
     · first | assumption | with_reducible exact ixL0 | with_reducible exact ixL1 | with_reducible exact ixL2 | with_reducible exact ixL3 | exact ixI (by omega) (by omega) | exact ixN1 (by omega) | (refine ixI (by omega) ?_; simp only [List.length_append, List.length_cons, List.length_nil, List.length_take, List.length_drop, List.length_reverse]; omega)
    )
  | (with_reducible apply s_rIxT
     · sizeOf_list_dec
     · first | assumption | with_reducible exact ixL0 | with_reducible exact ixL1 | with_reducible exact ixL2 | with_reducible exact ixL3 | exact ixI (by omega) (by omega) | exact ixN1 (by omega) | (refine ixI (by omega) ?_; simp only [List.length_append, List.length_cons, List.length_nil, List.length_take, List.length_drop, List.length_reverse]; omega)
    )
  | (with_reducible refine s_sl ?_)
  | (with_reducible refine s_part ?_)
  | (with_reducible refine s_noPart ?_)
  | (with_reducible refine s_kInt ?_)
  | (with_reducible apply s_slOne
     · sizeOf_list_dec
     · omega
     intro l H' nl e hl
    )
  | (with_reducible apply s_slTo
     · sizeOf_list_dec
     · omega
     intro l H' nl e hl
    )
  | (with_reducible apply s_slFrom
     · sizeOf_list_dec
     · omega
     intro l H' nl e hl
    )
  | (with_reducible apply s_rSlL
     · sizeOf_list_dec
     intro l H' nl e hl
    )
  | (with_reducible refine s_tup ?_)
  | (with_reducible refine s_lst ?_)
  | (with_reducible apply s_kTup
     · get_elem_tactic_trivial
     intro l H' nl e hl
    )
  | (with_reducible apply s_kLst
     · get_elem_tactic_trivial
     intro l H' nl e hl
    )
  | (with_reducible refine s_bm ?_)
  | (with_reducible refine s_bm0 ?_)
  | (with_reducible apply s_kbm
     · sizeOf_list_dec
    )
  | (with_reducible apply s_kbm0
     · sizeOf_list_dec
    )
  | (with_reducible apply s_minL
     · sizeOf_list_dec
     · first | assumption | (simp only [List.length_append, List.length_cons, List.length_nil]; omega)
     intro m hm hle
    )
  | (with_reducible apply s_maxL
     · sizeOf_list_dec
     · first | assumption | (simp only [List.length_append, List.length_cons, List.length_nil]; omega)
     intro m hm hle
    )
  | (with_reducible apply s_rI
     · first | (with_reducible refine powc _ _ ?_ ?_ ?_ <;> decide) | decide | omega | assumption | exact ⟨by decide, by decide⟩ | exact Or.inr ⟨by decide, by decide⟩ | exact Or.inl ⟨by decide, by decide⟩ | exact Or.inr ⟨by omega, by omega⟩ | exact Or.inl ⟨by omega, by omega⟩
    )
  | (with_reducible apply s_sortedI
     · sizeOf_list_dec
     intro ns l H' hp hs nl e hl
    )
  | (with_reducible apply s_appendM
     · sizeOf_list_dec
     · get_elem_tactic_trivial
     intro H' e hl
    )
  | (with_reducible apply s_append
     · sizeOf_list_dec
     · get_elem_tactic_trivial
     intro H' e hl
    )
  | (with_reducible apply s_lenM
     · sizeOf_list_dec
    )
  | (with_reducible apply s_lenMT
     · sizeOf_list_dec
    )
  | (with_reducible apply s_len
     · sizeOf_list_dec
    )
  | (with_reducible apply s_lenT
     · sizeOf_list_dec
    )
  | (with_reducible refine s_max2 ?_)
  | (with_reducible refine s_min2 ?_)
  | (with_reducible apply s_listE
     · assumption
     intro l H' nl e hl
    )
  | (with_reducible apply s_remove
     · sizeOf_list_dec
     · assumption
     · assumption
     intro H' e hl
    )
  | (with_reducible apply s_listL
     · sizeOf_list_dec
     intro l H' nl e hl
    )
  | (with_reducible apply s_listT
     · sizeOf_list_dec
     intro l H' nl e hl
    )
  | (with_reducible apply s_tupleL
     · sizeOf_list_dec
     intro l H' nl e hl
    )
  | (with_reducible apply s_isi
     · get_elem_tactic_extensible
     · first | exact kb_int_int | exact kb_list_int | exact kb_tuple_int | exact kb_bool_int | exact kb_NoneType_int | exact kb_str_int | exact kb_dict_int | exact kb_int_bool | exact kb_list_bool | exact kb_tuple_bool | exact kb_bool_bool | exact kb_NoneType_bool | exact kb_str_bool | exact kb_dict_bool | exact kb_int_list | exact kb_list_list | exact kb_tuple_list | exact kb_bool_list | exact kb_NoneType_list | exact kb_str_list | exact kb_dict_list | exact kb_int_tuple | exact kb_list_tuple | exact kb_tuple_tuple | exact kb_bool_tuple | exact kb_NoneType_tuple | exact kb_str_tuple | exact kb_dict_tuple | exact kb_int_str | exact kb_list_str | exact kb_tuple_str | exact kb_bool_str | exact kb_NoneType_str | exact kb_str_str | exact kb_dict_str | exact kb_int_dict | exact kb_list_dict | exact kb_tuple_dict | exact kb_bool_dict | exact kb_NoneType_dict | exact kb_str_dict | exact kb_dict_dict
    )
  | (with_reducible apply s_catM
     · sizeOf_list_dec
     · sizeOf_list_dec
     · get_elem_tactic_trivial
     intro l H' nl e hl
    )
  | (with_reducible apply s_catR
     · sizeOf_list_dec
     · sizeOf_list_dec
     · get_elem_tactic_trivial
     intro l H' nl e hl
    )
  | (with_reducible apply s_catLf
     · sizeOf_list_dec
     · sizeOf_list_dec
     · get_elem_tactic_trivial
     intro l H' nl e hl
    )
  | (with_reducible apply s_cat
     · sizeOf_list_dec
     · sizeOf_list_dec
     · get_elem_tactic_trivial
     intro l H' nl e hl
    )
  | (with_reducible apply s_eqL
     · sizeOf_list_dec
     · sizeOf_list_dec
    )
  | (with_reducible apply s_neL
     · sizeOf_list_dec
     · sizeOf_list_dec
    )
  | (with_reducible apply s_eqL0
     · sizeOf_list_dec
     · sizeOf_list_dec
    )
  | (with_reducible apply s_neL0
     · sizeOf_list_dec
     · sizeOf_list_dec
    )
  | (with_reducible apply s_eqT
     · sizeOf_list_dec
     · sizeOf_list_dec
    )
  | (with_reducible apply s_neT
     · sizeOf_list_dec
     · sizeOf_list_dec
    )
  | (with_reducible apply s_eqP
     · sizeOf_list_dec
     · sizeOf_list_dec
    )
  | (with_reducible refine s_asg2 ?_)
  | (with_reducible refine s_brk ?_)
  | (with_reducible refine s_cnt ?_)
  | (with_reducible refine s_rv ?_)
  | (with_reducible refine s_enT ?_)
  | (with_reducible refine s_fl ?_)
  | (with_reducible refine s_me ?_)
  | (with_reducible refine s_sfl ?_)
  | (with_reducible refine s_make ?_)
  | (with_reducible refine s_en ?_)
  | (with_reducible refine s_isB ?_)
  | (with_reducible apply s_kSFl
     · with_reducible repeat (first | exact GetR.z | apply GetR.s)
     · sizeOf_list_dec
     · assumption
     · assumption
     · first | assumption | exact Nat.lt_of_le_of_lt (Nat.le_refl _) (by first | omega | (simp only [List.length_nil]; omega)) | exact Nat.lt_of_le_of_lt (lenF (Nat.le_refl _)) (by first | omega | (simp only [List.length_nil]; omega)) | exact Nat.lt_of_le_of_lt (lenF (lenF (Nat.le_refl _))) (by first | omega | (simp only [List.length_nil]; omega)) | exact Nat.lt_of_le_of_lt (lenF (lenF (lenF (Nat.le_refl _)))) (by first | omega | (simp only [List.length_nil]; omega)) | exact Nat.lt_of_le_of_lt (lenF (lenF (lenF (lenF (Nat.le_refl _))))) (by first | omega | (simp only [List.length_nil]; omega))
     intro H' e hl
    )
  | (with_reducible apply s_kFl
     · sizeOf_list_dec
     · assumption
     · assumption
     · assumption
    )
  | (with_reducible apply s_kMeH
     · sizeOf_list_dec
     · first | exact fn_latches | exact fn_helps | exact fn_rows | exact fn_numbers | exact fn_marks | exact fn_up_at | exact fn_down_at | exact fn_all_help | exact fn_with_latches | exact fn_put_in_order
    )
  | (with_reducible refine s_callN ?_)
  | (with_reducible apply s_kCN
     · rfl
     · rfl
    )
  | (with_reducible refine s_par ?_)
  | (with_reducible apply s_kPar
     · with_reducible repeat (first | exact SetR.z | apply SetR.s)
     · with_reducible repeat (first | exact SetR.z | apply SetR.s)
    )
  | (with_reducible apply s_gTup
     · sizeOf_list_dec
     · rfl
    )
  | (with_reducible apply s_gUnl
     · sizeOf_list_dec
     · rfl
    )
  | (with_reducible refine s_gSub ?_)
  | (with_reducible refine s_callk ?_)
  | (with_reducible refine s_revL ?_)
  | (with_reducible apply s_kRevL
     · sizeOf_list_dec
     intro l H' nl e hl
    )
  | (with_reducible apply s_reverse
     · sizeOf_list_dec
     intro H' e hl
    )
  | (with_reducible apply s_clear
     · sizeOf_list_dec
     intro H' e hl
    )
  | (with_reducible refine s_kWT ?_)
  | (with_reducible refine s_gC ?_)
  | (with_reducible refine s_gNil ?_)
  | (with_reducible refine s_gCM ?_)
  | (with_reducible refine s_gNM ?_)
  | (with_reducible refine s_for ?_)
  | (with_reducible refine s_iL ?_)
  | (with_reducible refine s_iT ?_)
  | (with_reducible refine s_r1 ?_)
  | (with_reducible refine s_r2 ?_)
  | (with_reducible refine s_r3 ?_)
  | (with_reducible refine s_tupRg ?_)
  | (with_reducible refine s_lstRg ?_)
  | (with_reducible apply s_kLR
     · first | omega | (simp only [List.length_append, List.length_cons, List.length_nil]; omega)
     intro t H' nt e ht
    )
  | (with_reducible apply s_kTR
     · first | omega | (simp only [List.length_append, List.length_cons, List.length_nil]; omega)
     intro t H' nt e ht
    )
  | (with_reducible refine s_din ?_)
  | (with_reducible refine s_dnotin ?_)
  | (with_reducible refine s_dget ?_)
  | (with_reducible apply s_kdin
     · sizeOf_list_dec
    )
  | (with_reducible apply s_kdnotin
     · sizeOf_list_dec
    )
  | (with_reducible apply s_kdget
     · sizeOf_list_dec
     · assumption
    )
  | (with_reducible apply s_popAt
     · sizeOf_list_dec
     · assumption
     · first | assumption | omega
     intro H' e hl
    )
  | (with_reducible apply s_inT
     · sizeOf_list_dec
    )
  | (with_reducible apply s_ninT
     · sizeOf_list_dec
    )
  | (with_reducible apply s_inL
     · sizeOf_list_dec
    )
  | (with_reducible apply s_ninL
     · sizeOf_list_dec
    )
  | (with_reducible apply s_boT
     · assumption
    )
  | (with_reducible apply s_boF
     · assumption
    )
  | (with_reducible apply s_dT
     · first | assumption | with_reducible rfl | omega | (simp only [List.length_cons, List.length_nil]; omega)
    )
  | (with_reducible apply s_dF
     · first | assumption | omega | (intro hh; cases hh; done) | (simp only [List.length_cons, List.length_nil]; omega)
    )
  | (with_reducible refine ⟨rfl, ?_⟩)
  | (with_reducible refine ⟨_, _, rfl, rfl, ?_⟩))
theorem d_in_one_number {P : Program} {w : World} {K : PySem.W.Frag} {mg : PySem.Str → Option Value} {base : Heap} {C : Addr} (T : Txt K mg C) : Dfn P w K mg base "in_one_number" 1 ["row"] (sp_in_one_number K C) := by
  obtain ⟨t_FIELD_BITS, g_FIELD_BITS⟩ := T.g_FIELD_BITS
  obtain ⟨t_FIELD, g_FIELD⟩ := T.g_FIELD
  obtain ⟨f, fd, F, hm⟩ := T.f_in_one_number
  refine ⟨f, fd, hm, F.kp, F.binds (ps := ["row"]) (fun _ _ _ _ _ _ us hl => match us, hl with | [_], _ => rfl), F.ok sc_in_one_number (fun vs H Q E h => ?_) (fun cdv A outer s H vs Q E hr h => ?_)⟩
  · unfold sp_in_one_number at h
    repeat (obtain ⟨_, h⟩ := h)
    subst_vars
    rfl
  · obtain ⟨p, L, rfl, hp, hl, hb, q⟩ := h
    refine ⟨_, (pss_cons (ps_set (i := 1) sc_in_one_number.nd rfl (by first | exact Or.inl rfl | exact Or.inr rfl) pe_int)
        (pss_cons (ps_for PassesOwn.never rfl (pi_reversedK (K := K) (by rfl) T.b_reversed (pa_cons (pv 0) pa_nil)) (pg_name (i := 2) sc_in_one_number.nd rfl (by first | exact Or.inl rfl | exact Or.inr rfl)) (pss_one (ps_set (i := 1) sc_in_one_number.nd rfl (by first | exact Or.inl rfl | exact Or.inr rfl) (pe_op op_add (pe_op op_shlW (pv 1) (pe_glob (v := .int 8) (by rfl) g_FIELD_BITS ⟨_, rfl⟩)) (pv 2)))))
        (pss_one (ps_ret (pv 1))))), ?_⟩
    change (_ : L2.TS) _ [some _, none, none] _
    (repeat array_get_dec)
    refine l_forRv (xs := L.map V.int) (fun i σ H' => ∃ v, σ = [some (.ref p), some (.int (encL (L.drop (L.length - i)))), v] ∧ H' = H) (.of hp) ⟨_, by rw [Nat.sub_zero, List.drop_length]; rfl, rfl⟩ ?_ ?_ ?_
    · rintro i σ H' ⟨v, rfl, rfl⟩; exact .of hp
    · rintro i x σ H' hi hx0 ⟨v, rfl, rfl⟩
      rw [List.length_map] at hi hx0
      obtain ⟨z, hz, rfl⟩ := mapI hx0
      have hk : L.length - 1 - i < L.length := by omega
      have ed : L.drop (L.length - (i + 1)) = z :: L.drop (L.length - i) := by
        have e1 := List.drop_eq_getElem_cons hk
        have e2 := (List.getElem?_eq_some_iff.mp hz).2
        rw [show L.length - (i + 1) = L.length - 1 - i by omega, e1, e2, show L.length - 1 - i + 1 = L.length - i by omega]
      have nn := enc_nn (L.drop (L.length - i)) fun y hy => hb y (List.mem_of_mem_drop hy)
      have lt : encL (L.drop (L.length - i)) < 2 ^ 150 := by
        refine Int.lt_of_lt_of_le nn.2 ?_
        have : (2 : Int) ^ (8 * (L.drop (L.length - i)).length) ≤ 2 ^ 112 := by
          have h1 : 8 * (L.drop (L.length - i)).length ≤ 112 := by rw [List.length_drop]; omega
          exact_mod_cast Nat.pow_le_pow_right (show 0 < 2 by decide) h1
        exact Int.le_trans this (by decide)
      (repeat array_get_dec)
      refine s_rI (shl_ok nn.1 lt) ?_
      (repeat array_get_dec)
      refine ⟨some (.int z), ?_, rfl⟩
      rw [ed]
      rfl
    · rintro σ H' ⟨v, rfl, rfl⟩
      rw [List.length_map, Nat.sub_self, List.drop_zero]
      (repeat array_get_dec)
      exact q

theorem d_House__lend {P : Program} {w : World} {K : PySem.W.Frag} {mg : PySem.Str → Option Value} {base : Heap} {C : Addr} (T : Txt K mg C) : Mtd P w K mg base C "_lend" 2 ["self", "rows"] (sp_House__lend K C) := by
  have D_in_one_number := d_in_one_number (P := P) (w := w) (base := base) T
  obtain ⟨f, fd, F, hm⟩ := T.f_House__lend
  refine ⟨f, fd, hm, F.binds (ps := ["self", "rows"]) (fun _ _ _ _ _ _ us hl => match us, hl with | [_, _], _ => rfl), F.ok sc_House__lend (fun vs H Q E h => ?_) (fun cdv A outer s H vs Q E hr h => ?_)⟩
  · unfold sp_House__lend at h
    repeat (obtain ⟨_, h⟩ := h)
    subst_vars
    rfl
  · obtain ⟨self, dx, r, fs, n, hel, bs, rfl, hself, hfl, hr1, hlen, hrow, ho, n14, q⟩ := h
    have tcls := T.cls
    have tn1 := T.n_latches
    have tn2 := T.n_marks
    have tn3 := T.n_rows
    have tn4 := T.n_numbers
    have tn5 := T.n_helps
    refine ⟨_, (pss_cons (ps_fldK (K := K) (pv 0) (pe_callTy (kTuple (K := K)) (by rfl) T.b_tuple (by decide +kernel) (pa_cons (pe_lc (own := [("row", 2)]) (g := (gName 2)) (tt := tYes)  rfl sc_House__lend.nd (pi_listK (K := K) (pv 1)) (blkOk_by (own := [("row", 2)]) (N := ["self", "rows", "row", "one", "other", "many"]) (sc := defScope s_House__lend) (by decide +kernel)) (fun _ _ _ _ _ => (pg_name (i := 2) sc_House__lend.nd rfl (by first | exact Or.inl rfl | exact Or.inr rfl))) (fun _ _ _ _ _ => pts_nil) (fun _ _ _ _ _ => (pe_callTy (kTuple (K := K)) (by rfl) T.b_tuple (by decide +kernel) (pa_cons (pv 2) pa_nil)))) pa_nil)) rfl)
        (pss_cons (ps_fldK (K := K) (pv 0) (pe_callTy (kTuple (K := K)) (by rfl) T.b_tuple (by decide +kernel) (pa_cons (pe_lc (own := [("row", 2)]) (g := (gName 2)) (tt := tYes)  rfl sc_House__lend.nd (pi_listK (K := K) (pv 1)) (blkOk_by (own := [("row", 2)]) (N := ["self", "rows", "row", "one", "other", "many"]) (sc := defScope s_House__lend) (by decide +kernel)) (fun _ _ _ _ _ => (pg_name (i := 2) sc_House__lend.nd rfl (by first | exact Or.inl rfl | exact Or.inr rfl))) (fun _ _ _ _ _ => pts_nil) (fun _ _ _ _ _ => (pe_def D_in_one_number (hr.mono (by first | decide | omega)) (by rfl) (pa_cons (pv 2) pa_nil)))) pa_nil)) rfl)
        (pss_one (ps_fldK (K := K) (pv 0) (pe_callTy (kTuple (K := K)) (by rfl) T.b_tuple (by decide +kernel) (pa_cons (pe_lc2 (own := [("one", 3), ("row", 2), ("other", 4), ("many", 5)]) (vs1 := [4, 5]) (g := (gTup K 2 (gCons (gName 3) (gCons (gName 2) gNil)))) (g1 := (gTup K 2 (gCons (gName 4) (gCons (gName 5) gNil)))) (tt := tYes) (tt1 := _) rfl sc_House__lend.nd (pi_enumK (K := K) (by rfl) T.b_enumerate (pa_cons (pv 1) pa_nil)) (blkOk_by (own := [("one", 3), ("row", 2), ("other", 4), ("many", 5)]) (N := ["self", "rows", "row", "one", "other", "many"]) (sc := defScope s_House__lend) (by decide +kernel)) (by decide) (fun _ _ _ _ _ => (pg_tupK (K := K) rfl (pgs_cons (pg_name (i := 3) sc_House__lend.nd rfl (by first | exact Or.inl rfl | exact Or.inr rfl)) (pgs_cons (pg_name (i := 2) sc_House__lend.nd rfl (by first | exact Or.inl rfl | exact Or.inr rfl)) pgs_nil)))) (fun _ _ _ _ _ => pts_nil) (fun _ _ _ _ _ => (pi_enumK (K := K) (by rfl) T.b_enumerate (pa_cons (pv 2) pa_nil))) (fun _ _ _ _ _ => (pg_tupK (K := K) rfl (pgs_cons (pg_name (i := 4) sc_House__lend.nd rfl (by first | exact Or.inl rfl | exact Or.inr rfl)) (pgs_cons (pg_name (i := 5) sc_House__lend.nd rfl (by first | exact Or.inl rfl | exact Or.inr rfl)) pgs_nil)))) (fun _ _ _ _ _ => (pts_one (pt_cmpR op_gt (pv 5) pe_int (nomark _)))) (fun _ _ _ _ _ => (pe_tup (pa_cons (pv 3) (pa_cons (pv 4) (pa_cons (pv 5) pa_nil)))))) pa_nil)) rfl)))), ?_⟩
    change (_ : L2.TS) _ [some _, some _, none, none, none, none] _
    (repeat array_get_dec)
    have fresh : ∀ i b, bs[i]? = some b → b ≠ self := fun i b hb => x_neLI hself (hrow i b hb)
    apply lc_gen (as := List.range n) (RA := fun H1 x (i : Nat) => ∃ b, x = V.ref b ∧ H1 b = some (.lst ((rowL hel n (i : Int)).map V.int))) (RB := fun i y H1 => RowV K H1 y (rowL hel n (i : Int))) rfl
    · with_reducible repeat (first | exact SetR.z | apply SetR.s)
    · intro _; with_reducible repeat (first | exact SetR.z | apply SetR.s)
    · refine evM fun Q2 k => ?_
      (repeat array_get_dec)
      exact k _ _ Ex.rfl ⟨_, _, rfl, by sizeOf_list_dec, al_range hlen fun i b hb => ⟨b, rfl, hrow i b hb⟩⟩
    · rw [List.length_range]; omega
    · exact fun i y H1 H2 e h => h.kt e.kt
    · rintro i x k H1 e1 _ ⟨b, rfl, hb⟩ H2 e2
      refine evM fun Q2 k2 => ?_
      (repeat array_get_dec)
      exact k2 _ _ (by array_mem_dec) ⟨_, rfl, by sizeOf_list_dec⟩
    intro lr ys H1 nlr e1 hlr hys
    (repeat array_get_dec)
    rename_i tr H2 ntr e2 htr H3 e3 hs3
    have rs : r ≠ self := x_neLI hself hr1
    have r3 : H3 r = some (.lst (bs.map V.ref)) := e3 _ _ rs ((e1.trans e2) _ _ hr1)
    have row3 : ∀ (i : Nat) b, bs[i]? = some b → H3 b = some (.lst ((rowL hel n (i : Int)).map V.int)) := fun i b hb => e3 _ _ (fresh i b hb) ((e1.trans e2) _ _ (hrow i b hb))
    have tr3 : H3 tr = some (.tup ys) := e3 _ _ (fun e => by have h2 := (e1.trans e2) _ _ hself; rw [← e, htr] at h2; cases h2) htr
    have k23 : Kt H2 H3 := exB_kt (C := C) (dx := dx) (fs := fs) ((e1.trans e2) _ _ hself) e3
    have ys3 : Al (fun y (i : Nat) => RowV K H3 y (rowL hel n (i : Int))) ys (List.range n) := hys.imp fun y i h => (h.kt e2.ki.kt).kt k23
    have b03 : ExB self H H3 := (e1.trans e2).exB.trans e3
    clear e1 e2 e3 hr1 htr hlr hys k23 nlr ntr
    apply lc_gen (as := List.range n) (RA := fun H1 x (i : Nat) => ∃ b, x = V.ref b ∧ H1 b = some (.lst ((rowL hel n (i : Int)).map V.int))) (RB := fun i y H1 => y = V.int (encL (rowL hel n (i : Int)))) rfl
    · with_reducible repeat (first | exact SetR.z | apply SetR.s)
    · intro _; with_reducible repeat (first | exact SetR.z | apply SetR.s)
    · refine evM fun Q2 k => ?_
      (repeat array_get_dec)
      exact k _ _ Ex.rfl ⟨_, _, rfl, by sizeOf_list_dec, al_range hlen fun i b hb => ⟨b, rfl, row3 i b hb⟩⟩
    · rw [List.length_range]; omega
    · exact fun i y H1 H2 e h => h
    · rintro i x k H1 e1 _ ⟨b, rfl, hb⟩ H2 e2
      refine evM fun Q2 k2 => ?_
      (repeat array_get_dec)
      refine ⟨b, _, rfl, e2 _ _ hb, by rw [rowL_len]; exact n14, fun y hy => ?_, k2 _ _ Ex.rfl rfl⟩
      unfold rowL at hy
      obtain ⟨j, _, rfl⟩ := List.mem_map.mp hy
      have := ent_le ho (k : Int) (j : Int)
      omega
    intro ln zs H4 nln e4 hln hzs
    have ez := Al.map_ints (H := H) hzs
    subst ez
    (repeat array_get_dec)
    rename_i tn H5 ntn e5 htn H6 e6 hs6
    have r6 : H6 r = some (.lst (bs.map V.ref)) := e6 _ _ rs ((e4.trans e5) _ _ r3)
    have row6 : ∀ (i : Nat) b, bs[i]? = some b → H6 b = some (.lst ((rowL hel n (i : Int)).map V.int)) := fun i b hb => e6 _ _ (fresh i b hb) ((e4.trans e5) _ _ (row3 i b hb))
    have hs5 := (e4.trans e5) _ _ hs3
    have tn6 : H6 tn = some (.tup (((List.range n).map fun (i : Nat) => encL (rowL hel n (i : Int))).map V.int)) := e6 _ _ (fun e => by have h2 := hs5; rw [← e, htn] at h2; cases h2) htn
    have k56 : Kt H5 H6 := exB_kt (C := C) (dx := dx) ((e4.trans e5) _ _ hs3) e6
    have tr6 : H6 tr = some (.tup ys) := e6 _ _ (fun e => by have h2 := hs3; rw [← e, tr3] at h2; cases h2) ((e4.trans e5) _ _ tr3)
    have ys6 : Al (fun y (i : Nat) => RowV K H6 y (rowL hel n (i : Int))) ys (List.range n) := ys3.imp fun y i h => (h.kt (e4.trans e5).ki.kt).kt k56
    have b06 : ExB self H H6 := (b03.trans (e4.trans e5).exB).trans e6
    clear e4 e5 e6 r3 row3 tr3 ys3 b03 hs3 k56 htn hln nln ntn
    apply lc2_ev n (fun i x H1 => ∃ t y, x = V.ref t ∧ H1 t = some (.tup [.int (i : Nat), y]) ∧ (bs.map V.ref)[i]? = some y) (fun _ => n) (fun i j x H1 => ∃ t y, x = V.ref t ∧ H1 t = some (.tup [.int (j : Nat), y]) ∧ ((rowL hel n (i : Int)).map V.int)[j]? = some y) (fun i j => decide (0 < ent hel (i : Int) (j : Int))) (fun i j y H1 => TripT H1 y ((i : Int), (j : Int), ent hel (i : Int) (j : Int)))
    · have := flat2_len n (fun _ => n) (fun i j => decide (0 < ent hel (i : Int) (j : Int))) n (fun _ => Nat.le_refl _)
      have h2 : n * n ≤ 14 * 14 := Nat.mul_le_mul n14 n14
      omega
    · rintro i j y H1 H2 e ⟨t, rfl, h⟩
      exact ⟨t, rfl, e _ _ trivial h⟩
    · intro R2 k
      (repeat array_get_dec)
      have hk := ok_e (K := K) (L2.SqL.of (K := K) r6)
      rw [List.length_map, hlen] at hk
      exact ⟨_, _, rfl, .of r6, k _ _ Ex.rfl hk⟩
    · rintro i hi x H1 e1 ⟨t, y, rfl, ht, hy⟩
      rw [List.getElem?_map] at hy
      obtain ⟨b, hb, rfl⟩ := Option.map_eq_some_iff.mp hy
      refine ⟨[some (V.ref self), some (V.ref r), some (V.ref b), some (V.int (i : Nat)), none, none], ?_, rfl, ?_, ?_⟩
      · intro Q2 k
        show gTup K 2 (gCons (gName 3) (gCons (gName 2) gNil)) _ [some (V.ref self), some (V.ref r), none, none, none, none] _ _
        (repeat array_get_dec)
        exact k _ Ex.rfl
      · intro H2 e2 R2 k
        (repeat array_get_dec)
        have hk := ok_e (K := K) (L2.SqL.of (K := K) (row6 i b hb))
        rw [List.length_map, rowL_len] at hk
        exact ⟨_, _, rfl, .of (e2 _ _ (row6 i b hb)), k _ _ Ex.rfl hk⟩
      · rintro j hj z H3 e3 ⟨t3, y3, rfl, ht3, hy3⟩
        have ey : y3 = V.int (ent hel (i : Int) (j : Int)) := by
          unfold rowL at hy3
          rw [List.map_map, List.getElem?_map, List.getElem?_range hj] at hy3
          exact (Option.some.inj hy3).symm
        subst ey
        refine ⟨[some (V.ref self), some (V.ref r), some (V.ref b), some (V.int (i : Nat)), some (V.int (j : Nat)), some (V.int (ent hel (i : Int) (j : Int)))], ?_, rfl, ?_, ?_⟩
        · intro Q2 k
          show gTup K 2 (gCons (gName 4) (gCons (gName 5) gNil)) _ [some (V.ref self), some (V.ref r), some (V.ref b), some (V.int (i : Nat)), none, none] _ _
          (repeat array_get_dec)
          exact k _ Ex.rfl
        · intro H4 e4 Q2 k
          (repeat array_get_dec)
          exact k _ Ex.rfl
        · intro hk H4 e4
          refine evM fun Q2 k => ?_
          (repeat array_get_dec)
          exact k _ _ (by array_mem_dec) ⟨_, rfl, by sizeOf_list_dec⟩
    intro lh ws H7 nlh e7 hlh hws
    have hws2 : Al (TripT H7) ws (canonH hel n) := by
      rw [← flat2_canon]
      exact Al.mapR (f := fun p : Nat × Nat => ((p.1 : Int), (p.2 : Int), ent hel (p.1 : Int) (p.2 : Int))) hws
    (repeat array_get_dec)
    rename_i th H8 nth e8 hth H9 e9 hs9
    have hs8 := (e7.trans e8) _ _ hs6
    have ne : ∀ {t : Addr} {l : List V}, H6 t = some (.tup l) → t ≠ self := fun h e => by rw [e, hs6] at h; cases h
    have k89 : Kt H8 H9 := exB_kt (C := C) (dx := dx) hs8 e9
    have th9 : H9 th = some (.tup ws) := e9 _ _ (fun e => by have h2 := hs8; rw [← e, hth] at h2; cases h2) hth
    refine q tr tn th ys ws H9 ((b06.trans (e7.trans e8).exB).trans e9) hs9 (.of (e9 _ _ (ne tr6) ((e7.trans e8) _ _ tr6))) (Al.mapR (ys6.imp fun y i h => (h.kt (e7.trans e8).ki.kt).kt k89)) (.of (e9 _ _ (ne tn6) ((e7.trans e8) _ _ tn6))) (.of th9) (hws2.imp fun y x h => ?_)
    obtain ⟨t, rfl, ht⟩ := h
    exact ⟨t, rfl, .of (e9 _ _ (fun e => by have h2 := hs8; rw [← e, e8 _ _ ht] at h2; cases h2) (e8 _ _ ht))⟩

theorem d_is_whole {P : Program} {w : World} {K : PySem.W.Frag} {mg : PySem.Str → Option Value} {base : Heap} {C : Addr} (T : Txt K mg C) : Dfn P w K mg base "is_whole" 1 ["thing"] (sp_is_whole K C) := by
  obtain ⟨f, fd, F, hm⟩ := T.f_is_whole
  refine ⟨f, fd, hm, F.kp, F.binds (ps := ["thing"]) (fun _ _ _ _ _ _ us hl => match us, hl with | [_], _ => rfl), F.ok sc_is_whole (fun vs H Q E h => ?_) (fun cdv A outer s H vs Q E hr h => ?_)⟩
  · unfold sp_is_whole at h
    repeat (obtain ⟨_, h⟩ := h)
    subst_vars
    rfl
  · obtain ⟨x, n, rfl, hs, q⟩ := h
    refine ⟨_, (pss_one (ps_ret (pe_and (pe_callB (kIsi (K := K)) (by rfl) T.b_isinstance (by decide +kernel) (pa_cons (pv 0) (pa_cons (pe_bltn (v := .ty "int") (u := .type "int") (by rfl) T.b_int (by decide +kernel) rfl) pa_nil))) (pe_one (pe_not (pe_callB (kIsi (K := K)) (by rfl) T.b_isinstance (by decide +kernel) (pa_cons (pv 0) (pa_cons (pe_bltn (v := .ty "bool") (u := .type "bool") (by rfl) T.b_bool (by decide +kernel) rfl) pa_nil)))))))), ?_⟩
    obtain ⟨b, e, eb⟩ := kit_int hs.kind
    refine ⟨_, rfl, _, _, _, _, _, rfl, .ty _, hs.ty, kit_ty e, b, rfl, ?_⟩
    rw [hs.whole] at q
    cases b with
    | true =>
      refine iteT ⟨_, rfl, _, _, _, _, _, rfl, .ty _, hs.ty, kit_ty (kit_bool hs.kind), _, rfl, ?_⟩
      have ez : (!decide (n = "bool")) = decide (n = "int") := by
        by_cases hn : n = "int"
        · subst hn; decide
        · rw [decide_eq_false hn, Bool.false_or] at eb
          rw [← eb, decide_eq_false hn]; rfl
      rw [ez]
      exact q
    | false =>
      refine iteF ?_
      have ez : decide (n = "int") = false := by
        cases e1 : decide (n = "int") with
        | false => rfl
        | true => rw [e1] at eb; cases eb
      rw [ez] at q
      exact q

theorem d_is_pair {P : Program} {w : World} {K : PySem.W.Frag} {mg : PySem.Str → Option Value} {base : Heap} {C : Addr} (T : Txt K mg C) : Dfn P w K mg base "is_pair" 2 ["thing"] (sp_is_pair K C) := by
  have D_is_whole := d_is_whole (P := P) (w := w) (base := base) T
  obtain ⟨f, fd, F, hm⟩ := T.f_is_pair
  refine ⟨f, fd, hm, F.kp, F.binds (ps := ["thing"]) (fun _ _ _ _ _ _ us hl => match us, hl with | [_], _ => rfl), F.ok sc_is_pair (fun vs H Q E h => ?_) (fun cdv A outer s H vs Q E hr h => ?_)⟩
  · unfold sp_is_pair at h
    repeat (obtain ⟨_, h⟩ := h)
    subst_vars
    rfl
  · obtain ⟨v, p, rfl, ⟨t, rfl, hxw⟩, q⟩ := h
    refine ⟨_, (pss_cons (ps_if (PW.pt (pw_or (pt_not (pt_val (pe_callB (kIsi (K := K)) (by rfl) T.b_isinstance (by decide +kernel) (pa_cons (pv 0) (pa_cons (pe_bltn (v := .ty "tuple") (u := .type "tuple") (by rfl) T.b_tuple (by decide +kernel) rfl) pa_nil))))) (pw_or1 (pt_cmpR op_ne (pe_callB (kLen (K := K)) (by rfl) T.b_len (by decide +kernel) (pa_cons (pv 0) pa_nil)) pe_int (nomark _))))) (pss_one (ps_ret pe_bl)) pss_nil)
      (pss_cons (ps_asg (pv 0) (pg_tupK (K := K) rfl (pgs_cons (pg_name (i := 1) sc_is_pair.nd rfl (by first | exact Or.inl rfl | exact Or.inr rfl)) (pgs_cons (pg_name (i := 2) sc_is_pair.nd rfl (by first | exact Or.inl rfl | exact Or.inr rfl)) pgs_nil))))
      (pss_one (ps_ret (pe_and (pe_def D_is_whole (hr.mono (by first | decide | omega)) (by rfl) (pa_cons (pv 1) pa_nil)) (pe_and (pe_def D_is_whole (hr.mono (by first | decide | omega)) (by rfl) (pa_cons (pv 2) pa_nil)) (pe_one (pe_cmpR op_lt (pv 2) (pv 1) (nomark _))))))))), ?_⟩
    refine ⟨_, rfl, _, _, _, _, _, rfl, .ty _, (Sml.tup (K := K) hxw).ty, kit_ty (kit_tuple (Sml.tup (K := K) hxw).kind), _, rfl, iteF ⟨_, rfl, t, _, rfl, .inr hxw, rfl, _, rfl, iteF ?_⟩⟩
    refine ⟨_, rfl, t, _, rfl, hxw, rfl, _, _, rfl, _, _, rfl, rfl, ?_⟩
    refine ⟨_, rfl, _, _, rfl, .int _, _, rfl, iteT ⟨_, rfl, _, _, rfl, .int _, _, rfl, iteT ⟨_, rfl, _, rfl, _, _, rfl, rfl, q⟩⟩⟩

theorem d_check_latches {P : Program} {w : World} {K : PySem.W.Frag} {mg : PySem.Str → Option Value} {base : Heap} {C : Addr} (T : Txt K mg C) : Dfn P w K mg base "check_latches" 3 ["latches"] (sp_check_latches K C) := by
  have D_is_pair := d_is_pair (P := P) (w := w) (base := base) T
  obtain ⟨t_MOST_LATCHES, g_MOST_LATCHES⟩ := T.g_MOST_LATCHES
  obtain ⟨f, fd, F, hm⟩ := T.f_check_latches
  refine ⟨f, fd, hm, F.kp, F.binds (ps := ["latches"]) (fun _ _ _ _ _ _ us hl => match us, hl with | [_], _ => rfl), F.ok sc_check_latches (fun vs H Q E h => ?_) (fun cdv A outer s H vs Q E hr h => ?_)⟩
  · unfold sp_check_latches at h
    repeat (obtain ⟨_, h⟩ := h)
    subst_vars
    rfl
  · obtain ⟨t, xs, lat, rfl, hx1, hal, h1, h14, hp, q⟩ := h
    refine ⟨_, (pss_cons (ps_if (PW.pt (pw_or (pt_not (pt_val (pe_callB (kIsi (K := K)) (by rfl) T.b_isinstance (by decide +kernel) (pa_cons (pv 0) (pa_cons (pe_bltn (v := .ty "tuple") (u := .type "tuple") (by rfl) T.b_tuple (by decide +kernel) rfl) pa_nil))))) (pw_or1 (pt_not (pt_chain op_le op_le pe_int (pe_callB (kLen (K := K)) (by rfl) T.b_len (by decide +kernel) (pa_cons (pv 0) pa_nil)) (pe_glob (v := .int 14) (by rfl) g_MOST_LATCHES ⟨_, rfl⟩)))))) (pss_one ps_never) pss_nil)
        (pss_one (ps_for PassesOwn.never rfl (pi_enumTK (K := K) (by rfl) T.b_enumerate (pa_cons (pv 0) pa_nil)) (pg_tupK (K := K) rfl (pgs_cons (pg_name (i := 1) sc_check_latches.nd rfl (by first | exact Or.inl rfl | exact Or.inr rfl)) (pgs_cons (pg_name (i := 2) sc_check_latches.nd rfl (by first | exact Or.inl rfl | exact Or.inr rfl)) pgs_nil))) (pss_one (ps_if (pt_not (pt_val (pe_def D_is_pair (hr.mono (by first | decide | omega)) (by rfl) (pa_cons (pv 2) pa_nil)))) (pss_one ps_never) pss_nil))))), ?_⟩
    change (_ : L2.TS) _ [some _, none, none] _
    have hl := hal.1
    (repeat array_get_dec)
    refine l_forEnT (xs := xs) (fun i σ H' => ∃ (v w : Option V), σ = [some (.ref t), v, w] ∧ Ex H H') hx1 ⟨_, _, rfl, Ex.rfl⟩ ?_ ?_ ?_
    · rintro i σ H' ⟨v, w, rfl, e⟩; exact hx1.ki e.ki
    · rintro i x T' σ H' H2 hi ⟨v, w, rfl, e1⟩ nT e2 hT
      obtain ⟨p, hpi, tp, rfl, hs⟩ := hal.get hi
      have hlt := hp p (List.mem_of_getElem? hpi)
      (repeat array_get_dec)
      refine ⟨_, p, rfl, ⟨tp, rfl, by sizeOf_list_dec⟩, ?_⟩
      (repeat array_get_dec)
      exact ⟨_, _, rfl, by array_mem_dec⟩
    · rintro σ H' ⟨v, w, rfl, e1⟩
      (repeat array_get_dec)
      exact q H' e1

theorem d_is_lending {P : Program} {w : World} {K : PySem.W.Frag} {mg : PySem.Str → Option Value} {base : Heap} {C : Addr} (T : Txt K mg C) : Dfn P w K mg base "is_lending" 1 ["thing", "many_latches"] (sp_is_lending K C) := by
  obtain ⟨t_MOST_HELP, g_MOST_HELP⟩ := T.g_MOST_HELP
  obtain ⟨f, fd, F, hm⟩ := T.f_is_lending
  refine ⟨f, fd, hm, F.kp, F.binds (ps := ["thing", "many_latches"]) (fun _ _ _ _ _ _ us hl => match us, hl with | [_, _], _ => rfl), F.ok sc_is_lending (fun vs H Q E h => ?_) (fun cdv A outer s H vs Q E hr h => ?_)⟩
  · unfold sp_is_lending at h
    repeat (obtain ⟨_, h⟩ := h)
    subst_vars
    rfl
  · obtain ⟨v, p, n, rfl, ⟨t, rfl, hx1⟩, q⟩ := h
    refine ⟨_, (pss_cons (ps_if (PW.pt (pw_or (pt_not (pt_val (pe_callB (kIsi (K := K)) (by rfl) T.b_isinstance (by decide +kernel) (pa_cons (pv 0) (pa_cons (pe_bltn (v := .ty "tuple") (u := .type "tuple") (by rfl) T.b_tuple (by decide +kernel) rfl) pa_nil))))) (pw_or1 (pt_cmpR op_ne (pe_callB (kLen (K := K)) (by rfl) T.b_len (by decide +kernel) (pa_cons (pv 0) pa_nil)) pe_int (nomark _))))) (pss_one (ps_ret pe_bl)) pss_nil)
        (pss_cons (ps_for PassesOwn.never rfl (pi_tupK (K := K) (pv 0)) (pg_name (i := 2) sc_is_lending.nd rfl (by first | exact Or.inl rfl | exact Or.inr rfl)) (pss_one (ps_if (PW.pt (pw_or (pt_not (pt_val (pe_callB (kIsi (K := K)) (by rfl) T.b_isinstance (by decide +kernel) (pa_cons (pv 2) (pa_cons (pe_bltn (v := .ty "int") (u := .type "int") (by rfl) T.b_int (by decide +kernel) rfl) pa_nil))))) (pw_or (pt_cmpR op_isB (pv 2) pe_bl (nomark _)) (pw_or1 (pt_cmpR op_isB (pv 2) pe_bl (nomark _)))))) (pss_one (ps_ret pe_bl)) pss_nil)))
        (pss_cons (ps_asg (pv 0) (pg_tupK (K := K) rfl (pgs_cons (pg_name (i := 3) sc_is_lending.nd rfl (by first | exact Or.inl rfl | exact Or.inr rfl)) (pgs_cons (pg_name (i := 4) sc_is_lending.nd rfl (by first | exact Or.inl rfl | exact Or.inr rfl)) (pgs_cons (pg_name (i := 5) sc_is_lending.nd rfl (by first | exact Or.inl rfl | exact Or.inr rfl)) pgs_nil)))))
        (pss_one (ps_ret (pe_and (pe_chain op_le op_lt pe_int (pv 3) (pv 1)) (pe_and (pe_chain op_le op_lt pe_int (pv 4) (pv 1)) (pe_and (pe_cmpR op_ne (pv 3) (pv 4) (nomark _)) (pe_one (pe_chain op_le op_le pe_int (pv 5) (pe_glob (v := .int 9) (by rfl) g_MOST_HELP ⟨_, rfl⟩))))))))))), ?_⟩
    change (_ : L2.TS) _ [some _, some _, none, none, none, none] _
    (repeat array_get_dec)
    refine l_forT (xs := [p.1, p.2.1, p.2.2].map V.int) (fun i σ H' => ∃ v2, σ = [some (.ref t), some (.int n), v2, none, none, none] ∧ H' = H) hx1 ⟨_, rfl, rfl⟩ ?_ ?_ ?_
    · rintro i σ H' ⟨v2, rfl, rfl⟩; exact hx1
    · rintro i x σ H' hx0 ⟨v2, rfl, rfl⟩
      obtain ⟨z, hz, rfl⟩ := mapI hx0
      (repeat array_get_dec)
      exact ⟨_, rfl, rfl⟩
    · rintro σ H' ⟨v2, rfl, rfl⟩
      have q1 := q H' Ex.rfl
      unfold helpB at q1
      generalize p.1 = one at *
      generalize p.2.1 = two at *
      generalize p.2.2 = many at *
      (repeat array_get_dec)
      iterate 7 (all_goals (try (refine s_dec (fun _ => ?_) (fun _ => ?_))); all_goals (repeat array_get_dec))
      all_goals simp_all

theorem d_rows_lent {P : Program} {w : World} {K : PySem.W.Frag} {mg : PySem.Str → Option Value} {base : Heap} {C : Addr} (T : Txt K mg C) : Dfn P w K mg base "rows_lent" 2 ["helps", "many_latches"] (sp_rows_lent K C) := by
  have D_is_lending := d_is_lending (P := P) (w := w) (base := base) T
  obtain ⟨f, fd, F, hm⟩ := T.f_rows_lent
  refine ⟨f, fd, hm, F.kp, F.binds (ps := ["helps", "many_latches"]) (fun _ _ _ _ _ _ us hl => match us, hl with | [_, _], _ => rfl), F.ok sc_rows_lent (fun vs H Q E h => ?_) (fun cdv A outer s H vs Q E hr h => ?_)⟩
  · unfold sp_rows_lent at h
    repeat (obtain ⟨_, h⟩ := h)
    subst_vars
    rfl
  · obtain ⟨t, xs, hel, n, rfl, ht, hal, ho, n14, q⟩ := h
    refine ⟨_, (pss_cons (ps_if (pt_not (pt_val (pe_callB (kIsi (K := K)) (by rfl) T.b_isinstance (by decide +kernel) (pa_cons (pv 0) (pa_cons (pe_bltn (v := .ty "tuple") (u := .type "tuple") (by rfl) T.b_tuple (by decide +kernel) rfl) pa_nil))))) (pss_one ps_never) pss_nil)
        (pss_cons (ps_setLc (i := 2) (own := [("_", 8)]) (g := (gName 8)) (tt := tYes)  rfl sc_rows_lent.nd rfl rfl (sw_true rfl rfl rfl (by decide +kernel)) (pi_range1 (by rfl) T.b_range (pa_cons (pv 1) pa_nil)) (blkOk_by (own := [("_", 8)]) (N := ["helps", "many_latches", "rows", "place", "lending", "one", "other", "many", "_"]) (sc := defScope s_rows_lent) (by decide +kernel)) (fun _ _ _ _ _ => (pg_name (i := 8) sc_rows_lent.nd rfl (by first | exact Or.inl rfl | exact Or.inr rfl))) (fun _ _ _ _ _ => pts_nil) (fun _ _ _ _ _ => (pe_op op_rep (pe_lst (pa_cons pe_int pa_nil)) (pv 1))))
        (pss_cons (ps_for PassesOwn.never rfl (pi_enumTK (K := K) (by rfl) T.b_enumerate (pa_cons (pv 0) pa_nil)) (pg_tupK (K := K) rfl (pgs_cons (pg_name (i := 3) sc_rows_lent.nd rfl (by first | exact Or.inl rfl | exact Or.inr rfl)) (pgs_cons (pg_name (i := 4) sc_rows_lent.nd rfl (by first | exact Or.inl rfl | exact Or.inr rfl)) pgs_nil))) (pss_cons (ps_if (pt_not (pt_val (pe_def D_is_lending (hr.mono (by first | decide | omega)) (by rfl) (pa_cons (pv 4) (pa_cons (pv 1) pa_nil))))) (pss_one ps_never) pss_nil)
        (pss_cons (ps_asg (pv 4) (pg_tupK (K := K) rfl (pgs_cons (pg_name (i := 5) sc_rows_lent.nd rfl (by first | exact Or.inl rfl | exact Or.inr rfl)) (pgs_cons (pg_name (i := 6) sc_rows_lent.nd rfl (by first | exact Or.inl rfl | exact Or.inr rfl)) (pgs_cons (pg_name (i := 7) sc_rows_lent.nd rfl (by first | exact Or.inl rfl | exact Or.inr rfl)) pgs_nil)))))
        (pss_cons (ps_if (pt_cmpR op_gt (pe_ix (kIxL (K := K)) (pe_ix (kIxL (K := K)) (pv 2) (pv 5) (fun _ _ => rfl)) (pv 6) (fun _ _ => rfl)) pe_int (nomark _)) (pss_one ps_never) pss_nil)
        (pss_one (ps_asg (pv 7) (pg_sub (pe_ix (kIxL (K := K)) (pv 2) (pv 5) (fun _ _ => rfl)) (pv 6) set_list)))))))
        (pss_one (ps_ret (pv 2)))))), ?_⟩
    change (_ : L2.TS) _ [some _, some _, none, none, none, none, none, none, none] _
    (repeat array_get_dec)
    apply lc_fresh (n := n) (zs := (List.replicate n (0 : Int)).map V.int) rfl
    · with_reducible repeat (first | exact SetR.z | apply SetR.s)
    · intro _; with_reducible repeat (first | exact SetR.z | apply SetR.s)
    · intro Q2 k
      (repeat array_get_dec)
      exact k _ Ex.rfl
    · omega
    · intro i H1 e1 Q2 k
      (repeat array_get_dec)
      rename_i l H2 nl e2 hl
      refine ⟨l, _, _, rfl, rfl, hl, by omega, by omega, ?_, fun b nb => k b _ (e2.free nb) (e2.trans (Ex.new nb)) ?_⟩
      · show 1 * ((n : Int)).toNat ≤ sizeLine
        exact sz1 (by omega)
      · rw [upd_same, Int.toNat_natCast]
        rw [List.map_replicate, List.flatten_replicate_singleton]
    · intro r bs H1 nr e1 hr1 hlen hnd hoff hrow
      (repeat array_get_dec)
      refine l_forEnT (xs := xs) (fun i σ G => ∃ v3 v4 v5 v6 v7 v8, σ = [some (.ref t), some (.int (n : Int)), some (.ref r), v3, v4, v5, v6, v7, v8] ∧ Ex H G ∧ RowsL H G r n (hel.take i) bs) (by sizeOf_list_dec) ⟨_, _, _, _, _, _, rfl, e1, ⟨hr1, hlen, hnd, hoff, ⟨nr, fun b hb => (hrow b hb).1⟩, fun i b hb => by rw [List.take_zero, rowL_nil]; exact (hrow b (List.mem_of_getElem? hb)).2⟩⟩ ?_ ?_ ?_
      · rintro i σ G ⟨v3, v4, v5, v6, v7, v8, rfl, e, _⟩
        exact ht.ki e.ki
      · rintro i x T' σ G G2 hi ⟨v3, v4, v5, v6, v7, v8, rfl, e, hR⟩ nT e2 hT
        obtain ⟨p, hpi, tp, rfl, hp3⟩ := hal.get hi
        have hpm := List.mem_of_getElem? hpi
        have hpb := ho.ok p hpm
        obtain ⟨a, b, ha, hb, han, hbn, m1, m9⟩ := helpB_in hpb
        obtain ⟨one, two, many⟩ := p
        dsimp only at ha hb m1 m9 hp3
        subst ha hb
        (repeat array_get_dec)
        refine ⟨_, ((a : Int), (b : Int), many), n, rfl, ⟨tp, rfl, by sizeOf_list_dec⟩, fun G3 e3 => ?_⟩
        rw [hpb]
        have hR3 := (hR.ex e2).ex e3
        have hR3t := hR3.top
        have hal' : a < bs.length := by rw [hR.len]; omega
        have hba := List.getElem?_eq_getElem hal'
        generalize bs[a] = ba at hba
        have hbam : ba ∈ bs := List.mem_of_getElem? hba
        have hA : atI (bs.map V.ref) (a : Int) = some (.ref ba) := atI_nat (by rw [List.getElem?_map, hba]; rfl)
        have hrow := hR3.row a ba hba
        have h0 : ent (hel.take i) (a : Int) (b : Int) = 0 := ent_no fun y hy hh => by
          obtain ⟨k, hk, e⟩ := List.mem_take_iff_getElem.mp hy
          have hnd := List.nodup_iff_pairwise_ne.mp ho.nd
          have := List.pairwise_iff_getElem.mp (List.pairwise_map.mp hnd) k i (by omega) (List.getElem?_eq_some_iff.mp hpi).1 (by omega)
          rw [e, (List.getElem?_eq_some_iff.mp hpi).2] at this
          exact this (Prod.ext hh.1 hh.2)
        have hB : atI ((rowL (hel.take i) n (a : Int)).map V.int) (b : Int) = some (.int 0) := atI_nat (by rw [List.getElem?_map, rowL_at (by omega), h0]; rfl)
        (repeat array_get_dec)
        refine s_setL (n := b) hrow (by rw [List.length_map, rowL_len]; exact ixN_nat (by omega)) fun G4 e4 h4 => ?_
        (repeat array_get_dec)
        have fb := hR.fr.2 ba hbam
        refine ⟨_, _, _, _, _, _, rfl, ex_exB ((e.trans e2).trans e3) e4 fb, ?_⟩
        rw [take_snoc hpi]
        refine ⟨e4 _ _ (fun z => hR.off (z ▸ hbam)) hR3t, hR.len, hR.nd, hR.off, hR.fr, fun k bk hk => ?_⟩
        by_cases hka : k = a
        · subst hka
          rw [hba] at hk
          cases hk
          rw [h4, rowL_snoc (x := ((k : Int), (b : Int), many)) (j := b) (by omega) rfl h0, List.map_set]
        · have hbk : bk ≠ ba := fun z => hka (nd_at hR.nd (z ▸ hk) hba)
          rw [e4 _ _ hbk (hR3.row k bk hk), rowL_snoc_ne (by show (a : Int) ≠ (k : Int); omega)]
      · rintro σ G ⟨v3, v4, v5, v6, v7, v8, rfl, e, hR⟩
        have hl := hal.1
        rw [hl, List.take_length] at hR
        (repeat array_get_dec)
        exact q r bs G e hR

theorem d_House___init__ {P : Program} {w : World} {K : PySem.W.Frag} {mg : PySem.Str → Option Value} {base : Heap} {C : Addr} (T : Txt K mg C) : Mkd P w K mg base "House" C 4 ["self", "latches", "helps"] [] (sp_House___init__ K C) := by
  have D_House__lend := d_House__lend (P := P) (w := w) (base := base) T
  have D_check_latches := d_check_latches (P := P) (w := w) (base := base) T
  have D_rows_lent := d_rows_lent (P := P) (w := w) (base := base) T
  obtain ⟨t_FIELD_BITS, g_FIELD_BITS⟩ := T.g_FIELD_BITS
  obtain ⟨t_FIELD, g_FIELD⟩ := T.g_FIELD
  obtain ⟨f, fd, dT, F, hm⟩ := T.f_House___init__
  obtain ⟨ds, hv, hb⟩ := F.binds1 (ps := ["self", "latches", "helps"]) 3 1 (by simp) (by simp) (fun _ _ _ _ _ _ _ us its hu hi => match us, hu, its, hi with | [_, _, _], _, [_], _ => ⟨_, rfl, rfl⟩)
  refine ⟨f, fd, ds, T.mgC, hm, hb, hv, FunD.ok (CX := CX0) F sc_House___init__ (fun vs H Q E h => ?_) (fun cdv A outer s H vs Q E hr h => ?_)⟩
  · obtain ⟨_, _, _, _, _, _, _, _, rfl, _⟩ := h
    rfl
  · obtain ⟨self, dx, tl, th, xs, lat, ys, hel, rfl, hself, hxs, hxa, hy, hya, hlat, hhel, q⟩ := h
    have hn := hlat.n14
    have hfew := hhel.few
    have tcls := T.cls
    have tn1 := T.n_latches
    have tn2 := T.n_marks
    have tn3 := T.n_rows
    have tn4 := T.n_numbers
    have tn5 := T.n_helps
    refine ⟨_, PSs.nox (pss_cons (ps_expr (pe_def D_check_latches (hr.mono (by first | decide | omega)) (by rfl) (pa_cons (pv 1) pa_nil)))
      (pss_cons (ps_set (i := 3) sc_House___init__.nd rfl (by first | exact Or.inl rfl | exact Or.inr rfl) (pe_def D_rows_lent (hr.mono (by first | decide | omega)) (by rfl) (pa_cons (pv 2) (pa_cons (pe_callB (kLen (K := K)) (by rfl) T.b_len (by decide +kernel) (pa_cons (pv 1) pa_nil)) pa_nil))))
      (pss_cons (ps_fldK (K := K) (pv 0) (pe_callTy (kTuple (K := K)) (by rfl) T.b_tuple (by decide +kernel) (pa_cons (pe_lc (own := [("up", 4), ("down", 5)]) (g := (gTup K 2 (gCons (gName 4) (gCons (gName 5) gNil)))) (tt := tYes)  rfl sc_House___init__.nd (pi_tupK (K := K) (pv 1)) (blkOk_by (own := [("up", 4), ("down", 5)]) (N := ["self", "latches", "helps", "rows", "up", "down", "latch"]) (sc := defScope s_House___init__) (by decide +kernel)) (fun _ _ _ _ _ => (pg_tupK (K := K) rfl (pgs_cons (pg_name (i := 4) sc_House___init__.nd rfl (by first | exact Or.inl rfl | exact Or.inr rfl)) (pgs_cons (pg_name (i := 5) sc_House___init__.nd rfl (by first | exact Or.inl rfl | exact Or.inr rfl)) pgs_nil)))) (fun _ _ _ _ _ => pts_nil) (fun _ _ _ _ _ => (pe_tup (pa_cons (pv 4) (pa_cons (pv 5) pa_nil))))) pa_nil)) rfl)
      (pss_cons (ps_fldK (K := K) (pv 0) (pe_callTy (kTuple (K := K)) (by rfl) T.b_tuple (by decide +kernel) (pa_cons (pe_lc (own := [("latch", 6), ("up", 4), ("down", 5)]) (g := (gTup K 2 (gCons (gName 6) (gCons (gTup K 2 (gCons (gName 4) (gCons (gName 5) gNil))) gNil)))) (tt := tYes)  rfl sc_House___init__.nd (pi_enumTK (K := K) (by rfl) T.b_enumerate (pa_cons (pv 1) pa_nil)) (blkOk_by (own := [("latch", 6), ("up", 4), ("down", 5)]) (N := ["self", "latches", "helps", "rows", "up", "down", "latch"]) (sc := defScope s_House___init__) (by decide +kernel)) (fun _ _ _ _ _ => (pg_tupK (K := K) rfl (pgs_cons (pg_name (i := 6) sc_House___init__.nd rfl (by first | exact Or.inl rfl | exact Or.inr rfl)) (pgs_cons (pg_tupK (K := K) rfl (pgs_cons (pg_name (i := 4) sc_House___init__.nd rfl (by first | exact Or.inl rfl | exact Or.inr rfl)) (pgs_cons (pg_name (i := 5) sc_House___init__.nd rfl (by first | exact Or.inl rfl | exact Or.inr rfl)) pgs_nil))) pgs_nil)))) (fun _ _ _ _ _ => pts_nil) (fun _ _ _ _ _ => (pe_tup (pa_cons (pv 6) (pa_cons (pe_op op_mul (pv 6) (pe_glob (v := .int 8) (by rfl) g_FIELD_BITS ⟨_, rfl⟩)) (pa_cons (pv 4) (pa_cons (pv 5) pa_nil))))))) pa_nil)) rfl)
      (pss_one (ps_expr (pe_mth D_House__lend (pv 0) T.cls (hr.mono (by first | decide | omega)) (pa_cons (pv 3) pa_nil)))))))), ?_⟩
    change (_ : L2.TS) _ [some (V.ref self), some (V.ref tl), some (V.ref th), none, none, none, none] _
    have hxl := hxa.1
    (repeat array_get_dec)
    refine ⟨tl, xs, lat, rfl, hxs, hxa, hlat.n1, hlat.n14, hlat.lt, fun H1 e1 => ?_⟩
    (repeat array_get_dec)
    refine ⟨th, ys, hel, xs.length, rfl, hy.ki e1.ki, hya.imp fun _ _ z => z.ki e1.ki, (by rw [hxl]; exact hhel), (by omega), fun r bs H2 e2 hrl => ?_⟩
    have e12 := e1.trans e2
    have ns2 := e12 _ _ hself
    have rs : r ≠ self := x_neLI ns2 hrl.top
    have bsn : ∀ (i : Nat) b, bs[i]? = some b → b ≠ self := fun i b hb => x_neLI ns2 (hrl.row i b hb)
    have hx2 := hxs.ki e12.ki
    have hxa2 : Al (PairV K H2) xs lat := hxa.imp fun _ _ z => z.ki e12.ki
    (repeat array_get_dec)
    apply lc_ev xs.length (fun i x _ => xs[i]? = some x) (fun _ => true) (fun i y H1 => ∃ p, lat[i]? = some p ∧ PairV K H1 y p)
    · omega
    · rintro i y H1 H2 e ⟨p, hp, h⟩
      exact ⟨p, hp, h.ki e⟩
    · exact evi_t hx2 hx2 (evM fun Q2 k => by (repeat array_get_dec); exact k _ _ Ex.rfl rfl)
    · intro i hi x H3 e3 hxi
      obtain ⟨p, hpi, tp, rfl, hs⟩ := hxa2.get hxi
      refine ⟨[some (V.ref self), some (V.ref tl), some (V.ref th), some (V.ref r), some (V.int p.1), some (V.int p.2), none], gv_tup2 (hs.ki e3.ki), rfl, fun H4 e4 => tv_yes, fun _ H4 e4 => evM fun Q2 k => ?_⟩
      (repeat array_get_dec)
      exact k _ _ (by array_mem_dec) ⟨p, hpi, _, rfl, .of (by sizeOf_list_dec)⟩
    intro l zs H3 nl e3 hl hzs
    rw [filter_all (fun _ => rfl)] at hzs
    have hza := al_at hzs hxl
    (repeat array_get_dec)
    rename_i t1 H4 nt1 e4 ht1 H5 e5 hs5
    have e34 := e3.trans e4
    have ns4 := e34 _ _ ns2
    have k45 : Kt H4 H5 := exB_kt (C := C) (dx := dx) (fs := []) ns4 e5
    have b5 : ExB self H H5 := (e12.trans e34).exB.trans e5
    have t15 : SqT K H5 t1 zs := .of (e5 _ _ (fun e => by have h2 := ns4; rw [← e, ht1] at h2; cases h2) ht1)
    have hz5 : Al (PairV K H5) zs lat := hza.imp fun _ _ z => (z.ki e4.ki).kt k45
    have r5 : H5 r = some (.lst (bs.map V.ref)) := e5 _ _ rs (e34 _ _ hrl.top)
    have row5 : ∀ (i : Nat) b, bs[i]? = some b → H5 b = some (.lst ((rowL hel xs.length (i : Int)).map V.int)) := fun i b hb => e5 _ _ (bsn i b hb) (e34 _ _ (hrl.row i b hb))
    have hx5 : SqT K H5 tl xs := (hx2.ki e34.ki).kt k45
    have hxa5 : Al (PairV K H5) xs lat := hxa2.imp fun _ _ z => (z.ki e34.ki).kt k45
    have hbl := hrl.len
    clear hxa2 hx2 hza hzs hl nl nt1 ht1 e3 e4 e34 k45 ns4 ns2 e12 e1 e2 e5 hrl hxa hxs hya hy hself
    apply lc_ev xs.length (fun i x H2 => ∃ T y, x = .ref T ∧ H2 T = some (.tup [.int (i : Nat), y]) ∧ xs[i]? = some y) (fun _ => true) (fun i y H1 => MarkV K H1 ⟨lat, canonH hel xs.length⟩ y i)
    · omega
    · exact fun i y H1 H2 e h => h.kt e.kt
    · intro R2 k
      (repeat array_get_dec)
      exact ⟨_, _, rfl, hx5, k _ _ Ex.rfl (ok_et hx5)⟩
    · rintro i hi x H6 e6 ⟨T2, y, rfl, hT, hyi⟩
      obtain ⟨p, hpi, tp, rfl, hs⟩ := hxa5.get hyi
      have hs6 := hs.ki e6.ki
      have hg : lat.getD i (0, 0) = p := by rw [List.getD_eq_getElem?_getD, hpi]; rfl
      refine ⟨[some (V.ref self), some (V.ref tl), some (V.ref th), some (V.ref r), some (V.int p.1), some (V.int p.2), some (V.int (i : Nat))], ?_, rfl, fun H4 e4 => tv_yes, fun _ H4 e4 => evM fun Q2 k => ?_⟩
      · intro Q2 k
        show gTup K 2 (gCons (gName 6) (gCons (gTup K 2 (gCons (gName 4) (gCons (gName 5) gNil))) gNil)) _ [some (V.ref self), some (V.ref tl), some (V.ref th), some (V.ref r), none, none, none] _ _
        (repeat array_get_dec)
        exact k _ Ex.rfl
      · (repeat array_get_dec)
        refine k _ _ (by array_mem_dec) ⟨_, rfl, .of ?_⟩
        show _ = some (HO.tup [V.int (i : Int), V.int ((i : Int) * 8), V.int (lat.getD i (0, 0)).1, V.int (lat.getD i (0, 0)).2])
        rw [hg]
        sizeOf_list_dec
    intro l2 us H6 nl2 e6 hl2 hus
    rw [filter_all (fun _ => rfl)] at hus
    (repeat array_get_dec)
    rename_i t2 H7 nt2 e7 ht2 H8 e8 hs8
    have e67 := e6.trans e7
    have hs7 := e67 _ _ hs5
    have k78 : Kt H7 H8 := exB_kt (C := C) (dx := dx) hs7 e8
    refine s_kMe hs8 (by rw [lookup_putF, if_neg (by decide +kernel), lookup_putF, if_neg (by decide +kernel)]; rfl) ?_
    (repeat array_get_dec)
    have t28 : SqT K H8 t2 us := .of (e8 _ _ (fun e => by have h2 := hs7; rw [← e, ht2] at h2; cases h2) ht2)
    have hh : HelOk (xs.length : Int) hel := by rw [hxl]; exact hhel
    refine ⟨self, dx, r, _, xs.length, hel, bs, rfl, hs8, Nat.lt_of_le_of_lt (lenF (lenF (Nat.le_refl _))) (by decide), e8 _ _ rs (e67 _ _ r5), hbl, fun i b hb => e8 _ _ (bsn i b hb) (e67 _ _ (row5 i b hb)), hh, by omega, fun tr tn th2 xr xh H9 e9 hs9 a1 a2 a3 a4 a5 => ?_⟩
    have k89 : Kt H8 H9 := exB_kt (C := C) (dx := dx) hs8 e9
    have k79 := k78.trans k89
    have k59 := e67.ki.kt.trans k79
    obtain ⟨f1, f2, f3, f4, f5⟩ := hfs5_at (.ref t1) (.ref t2) (.ref tr) (.ref tn) (.ref th2)
    have pm := canonH_perm hh
    have er : ∀ i : Int, rowL hel xs.length i = rowL (canonH hel xs.length) xs.length i := fun i => List.map_congr_left fun j _ => ent_perm pm.symm i j
    have hus7 : Al (fun y (i : Nat) => MarkV K H9 ⟨lat, canonH hel xs.length⟩ y i) us (List.range xs.length) := hus.imp fun y i h => (h.kt e7.ki.kt).kt k79
    have a2' : Al (RowV K H9) xr ((List.range xs.length).map fun (i : Nat) => rowL (canonH hel xs.length) xs.length (i : Int)) := by
      rw [show (fun (i : Nat) => rowL (canonH hel xs.length) xs.length (i : Int)) = fun (i : Nat) => rowL hel xs.length (i : Int) from funext fun i => (er i).symm]
      exact a2
    have a3' : SqT K H9 tn (((List.range xs.length).map fun (i : Nat) => encL (rowL (canonH hel xs.length) xs.length (i : Int))).map V.int) := by
      rw [show (fun (i : Nat) => encL (rowL (canonH hel xs.length) xs.length (i : Int))) = fun (i : Nat) => encL (rowL hel xs.length (i : Int)) from funext fun i => by rw [← er i]]
      exact a3
    have hok := hh.perm pm
    have hso := canonH_sorted hel xs.length
    have pml := pm.length_eq
    rw [hxl] at hus7 a2' a3' a5 hok hso pm pml
    exact q ⟨lat, canonH hel lat.length⟩ H9 (((b5.trans e67.exB).trans e8).trans e9) ⟨⟨dx, hfs5 (.ref t1) (.ref t2) (.ref tr) (.ref tn) (.ref th2), t1, t2, tr, tn, th2, hs9, hfs5_no _ _ _ _ _, f1, f2, f3, f4, f5, ⟨⟨zs, t15.kt k59, hz5.imp fun _ _ z => z.kt k59⟩, ⟨us, t28.kt k89, hus7⟩, ⟨xr, a1, a2'⟩, a3', ⟨xh, a4, a5⟩⟩⟩, ⟨hlat.n1, hlat.n14, by show (canonH hel lat.length).length < 1000; omega⟩, hok, hlat.lt⟩ rfl pm hso

theorem d__law_pull {P : Program} {w : World} {K : PySem.W.Frag} {mg : PySem.Str → Option Value} {base : Heap} {C : Addr} (T : Txt K mg C) : Dfn P w K mg base "_law_pull" 1 ["house", "here", "latch", "swell"] (sp__law_pull K C) := by
  obtain ⟨f, fd, F, hm⟩ := T.f__law_pull
  refine ⟨f, fd, hm, F.kp, F.binds (ps := ["house", "here", "latch", "swell"]) (fun _ _ _ _ _ _ us hl => match us, hl with | [_, _, _, _], _ => rfl), F.ok sc__law_pull (fun vs H Q E h => ?_) (fun cdv A outer s H vs Q E hr h => ?_)⟩
  · unfold sp__law_pull at h
    repeat (obtain ⟨_, h⟩ := h)
    subst_vars
    rfl
  · obtain ⟨r, p, h, c, l, s, rfl, hN, hp, q⟩ := h
    obtain ⟨tp, tl, xs, ys, hel, n1, n2, n3, n4, n5, n6⟩ := hN.ex
    have hell : hel.length < 1000 := by rw [← n6.length_eq]; exact hN.ok.few
    refine ⟨_, (pss_one (ps_ret (pe_op op_add (pv 3) (pe_callB (kSum (K := K)) (by rfl) T.b_sum (by decide +kernel) (pa_cons (pe_lc (own := [("one", 4), ("other", 5), ("many", 6)]) (g := (gTup K 3 (gCons (gName 4) (gCons (gName 5) (gCons (gName 6) gNil))))) (tt := _)  rfl sc__law_pull.nd (pi_tupK (K := K) (pe_ix (kIxT (K := K)) (pv 0) pe_int (fun _ _ => rfl))) (blkOk_by (own := [("one", 4), ("other", 5), ("many", 6)]) (N := ["house", "here", "latch", "swell", "one", "other", "many"]) (sc := defScope s__law_pull) (by decide +kernel)) (fun _ _ _ _ _ => (pg_tupK (K := K) rfl (pgs_cons (pg_name (i := 4) sc__law_pull.nd rfl (by first | exact Or.inl rfl | exact Or.inr rfl)) (pgs_cons (pg_name (i := 5) sc__law_pull.nd rfl (by first | exact Or.inl rfl | exact Or.inr rfl)) (pgs_cons (pg_name (i := 6) sc__law_pull.nd rfl (by first | exact Or.inl rfl | exact Or.inr rfl)) pgs_nil))))) (fun _ _ _ _ _ => (pts_one (PW.pt (pw_and (pt_cmpR op_eq (pv 5) (pv 2) (nomark _)) (pw_and1 (pt_cmpR (kOpIn (K := K)) (pv 4) (pv 1) (by first | exact nomark _ | rfl))))))) (fun _ _ _ _ _ => (pv 6))) pa_nil))))), ?_⟩
    change (_ : L2.TS) _ [some _, some _, some _, some _, none, none, none] _
    (repeat array_get_dec)
    apply lc_evA hel (fun x v H2 => TripV K H2 v x) (fun x => decide (x.2.1 = (l : Int)) && decide (x.1 ∈ c)) (fun x v _ => v = V.int x.2.2)
    · omega
    · exact fun b y H1 H2 _ e => e
    · exact evi_tA (R := fun H2 v (x : Int × Int × Int) => TripV K H2 v x) (.of n4) n5 (fun _ _ _ e z => TripV.ki z e.ki) (evM fun Q2 k => by (repeat array_get_dec); exact k _ _ Ex.rfl rfl)
    · rintro b hb x H3 e3 ⟨T, rfl, hT⟩
      refine ⟨[some (V.ref r), some (V.ref p), some (V.int (l : Int)), some (V.int s), some (V.int b.1), some (V.int b.2.1), some (V.int b.2.2)], gv_tup3 hT, rfl, fun H4 e4 Q2 k => ?_, fun hk H4 e4 => evM fun Q2 k => by (repeat array_get_dec); exact k _ _ Ex.rfl rfl⟩
      have hl4 := (e3.trans e4) _ _ hp
      have kk := k H4 Ex.rfl
      by_cases h1 : b.2.1 = (l : Int)
      · rw [decide_eq_true h1, Bool.true_and] at kk
        (repeat array_get_dec)
        exact kk
      · rw [decide_eq_false h1, Bool.false_and] at kk
        (repeat array_get_dec)
        exact kk
    intro l3 zs3 G3 nl3 f3 hl3 hzs3
    rw [Al.map_ints (f := fun (x : Int × Int × Int) => x.2.2) (H := G3) hzs3] at hl3
    (repeat array_get_dec)
    refine ⟨l3, _, rfl, .of hl3, ?_⟩
    have elent : ((hel.filter fun x => decide (x.2.1 = (l : Int)) && decide (x.1 ∈ c)).map fun x => x.2.2).sum = h.lent c l := by
      rw [lent_law n6 c l]
      rfl
    rw [elent]
    (repeat array_get_dec)
    exact q G3 f3

theorem d__law_wants {P : Program} {w : World} {K : PySem.W.Frag} {mg : PySem.Str → Option Value} {base : Heap} {C : Addr} (T : Txt K mg C) : Dfn P w K mg base "_law_wants" 2 ["house", "here", "k", "swell", "rising"] (sp__law_wants K C) := by
  have D__law_pull := d__law_pull (P := P) (w := w) (base := base) T
  obtain ⟨f, fd, F, hm⟩ := T.f__law_wants
  refine ⟨f, fd, hm, F.kp, F.binds (ps := ["house", "here", "k", "swell", "rising"]) (fun _ _ _ _ _ _ us hl => match us, hl with | [_, _, _, _, _], _ => rfl), F.ok sc__law_wants (fun vs H Q E h => ?_) (fun cdv A outer s H vs Q E hr h => ?_)⟩
  · unfold sp__law_wants at h
    repeat (obtain ⟨_, h⟩ := h)
    subst_vars
    rfl
  · obtain ⟨r, p, h, c, l, s, up, rfl, hN, hp, hl, q⟩ := h
    obtain ⟨tp, tl, xs, ys, hel, n1, n2, n3, n4, n5, n6⟩ := hN.ex
    refine ⟨_, (pss_cons (ps_set (i := 5) sc__law_wants.nd rfl (by first | exact Or.inl rfl | exact Or.inr rfl) (pe_def D__law_pull (hr.mono (by first | decide | omega)) (by rfl) (pa_cons (pv 0) (pa_cons (pv 1) (pa_cons (pv 2) (pa_cons (pv 3) pa_nil))))))
        (pss_cons (ps_if (pt_val (pv 4)) (pss_one (ps_ret (pe_and (pe_cmpR (kOpNotIn (K := K)) (pv 2) (pv 1) (by first | exact nomark _ | rfl)) (pe_one (pe_cmpR op_ge (pv 5) (pe_ix (kIxT (K := K)) (pe_ix (kIxT (K := K)) (pe_ix (kIxT (K := K)) (pv 0) pe_int (fun _ _ => rfl)) (pv 2) (fun _ _ => rfl)) pe_int (fun _ _ => rfl)) (nomark _)))))) pss_nil)
        (pss_one (ps_ret (pe_and (pe_cmpR (kOpIn (K := K)) (pv 2) (pv 1) (by first | exact nomark _ | rfl)) (pe_one (pe_cmpR op_le (pv 5) (pe_ix (kIxT (K := K)) (pe_ix (kIxT (K := K)) (pe_ix (kIxT (K := K)) (pv 0) pe_int (fun _ _ => rfl)) (pv 2) (fun _ _ => rfl)) pe_int (fun _ _ => rfl)) (nomark _)))))))), ?_⟩
    change (_ : L2.TS) _ [some _, some _, some _, some _, some _, none] _
    (repeat array_get_dec)
    refine ⟨r, p, h, c, l, s, rfl, hN, hp, fun H1 e1 => ?_⟩
    have hp1 := e1 _ _ hp
    have n1' := e1 _ _ n1
    have n2' := e1 _ _ n2
    have elat := lat_get hl
    obtain ⟨x, hx1, tx, rfl, htx⟩ := n3.get' elat
    have htx1 := htx.ki e1.ki
    have hat : atI xs (l : Int) = some (V.ref tx) := atI_nat hx1
    have qq := q H1 e1
    rw [want_dec hl] at qq
    (repeat array_get_dec)
    cases up with
    | true =>
      by_cases hm : (l : Int) ∈ c
      · rw [decide_eq_true hm] at qq
        (repeat array_get_dec)
        exact qq
      · rw [decide_eq_false hm] at qq
        (repeat array_get_dec)
        unfold Hs.goes at qq
        simpa using qq
    | false =>
      by_cases hm : (l : Int) ∈ c
      · rw [decide_eq_true hm] at qq
        (repeat array_get_dec)
        unfold Hs.goes at qq
        simpa using qq
      · rw [decide_eq_false hm] at qq
        (repeat array_get_dec)
        exact qq

theorem d__law_rested {P : Program} {w : World} {K : PySem.W.Frag} {mg : PySem.Str → Option Value} {base : Heap} {C : Addr} (T : Txt K mg C) : Dfn P w K mg base "_law_rested" 3 ["house", "here", "swell", "rising"] (sp__law_rested K C) := by
  have D__law_wants := d__law_wants (P := P) (w := w) (base := base) T
  obtain ⟨f, fd, F, hm⟩ := T.f__law_rested
  refine ⟨f, fd, hm, F.kp, F.binds (ps := ["house", "here", "swell", "rising"]) (fun _ _ _ _ _ _ us hl => match us, hl with | [_, _, _, _], _ => rfl), F.ok sc__law_rested (fun vs H Q E h => ?_) (fun cdv A outer s H vs Q E hr h => ?_)⟩
  · unfold sp__law_rested at h
    repeat (obtain ⟨_, h⟩ := h)
    subst_vars
    rfl
  · obtain ⟨r, pI, h, c0, s, up, rfl, hN, hp, ho, q⟩ := h
    have h14 := hN.ok.n14
    have hpos := hN.pos
    have hm0 := mov_len h c0 up
    obtain ⟨tp, tl, xs, ys, hel, n1, n2, n3, n4, n5, n6⟩ := hN.ex
    have hxl : xs.length = h.n := n3.1
    refine ⟨_, (pss_cons (ps_set (i := 4) sc__law_rested.nd rfl (by first | exact Or.inl rfl | exact Or.inr rfl) (pe_lst (pa_cons pe_int pa_nil)))
        (pss_cons (ps_for PassesOwn.never rfl (pi_range1 (by rfl) T.b_range (pa_cons (pe_op op_add (pe_callB (kLen (K := K)) (by rfl) T.b_len (by decide +kernel) (pa_cons (pe_ix (kIxT (K := K)) (pv 0) pe_int (fun _ _ => rfl)) pa_nil)) pe_int) pa_nil)) (pg_name (i := 5) sc__law_rested.nd rfl (by first | exact Or.inl rfl | exact Or.inr rfl)) (pss_cons (ps_if (pt_cmpR (kNeD (K := K) (units64 hr)) (pv 4) (pe_lst pa_nil) (nomark _)) (pss_one (ps_set (i := 4) sc__law_rested.nd rfl (by first | exact Or.inl rfl | exact Or.inr rfl) (pe_lc (own := [("k", 6)]) (g := (gName 6)) (tt := _)  rfl sc__law_rested.nd (pi_range1 (by rfl) T.b_range (pa_cons (pe_callB (kLen (K := K)) (by rfl) T.b_len (by decide +kernel) (pa_cons (pe_ix (kIxT (K := K)) (pv 0) pe_int (fun _ _ => rfl)) pa_nil)) pa_nil)) (blkOk_by (own := [("k", 6)]) (N := ["house", "here", "swell", "rising", "goes", "turn", "k", "one"]) (sc := defScope s__law_rested) (by decide +kernel)) (fun _ _ _ _ _ => (pg_name (i := 6) sc__law_rested.nd rfl (by first | exact Or.inl rfl | exact Or.inr rfl))) (fun _ _ _ _ _ => (pts_one (pt_val (pe_def D__law_wants (hr.mono (by first | decide | omega)) (by rfl) (pa_cons (pv 0) (pa_cons (pv 1) (pa_cons (pv 6) (pa_cons (pv 2) (pa_cons (pv 3) pa_nil))))))))) (fun _ _ _ _ _ => (pv 6))))) pss_nil)
        (pss_one (ps_if (PW.pt (pw_and (pt_cmpR (kNeD (K := K) (units64 hr)) (pv 4) (pe_lst pa_nil) (nomark _)) (pw_and1 (pt_val (pv 3))))) (pss_one (ps_set (i := 1) sc__law_rested.nd rfl (by first | exact Or.inl rfl | exact Or.inr rfl) (pe_callB (kSortedI (K := K)) (by rfl) T.b_sorted (by decide +kernel) (pa_cons (pe_op op_cat (pv 1) (pe_slice (kSlL (K := K)) (pv 4) (po_some (pe_un un_neg pe_int)) po_none)) pa_nil)))) (pss_one (ps_if (pt_cmpR (kNeD (K := K) (units64 hr)) (pv 4) (pe_lst pa_nil) (nomark _)) (pss_one (ps_set (i := 1) sc__law_rested.nd rfl (by first | exact Or.inl rfl | exact Or.inr rfl) (pe_lc (own := [("one", 7)]) (g := (gName 7)) (tt := _)  rfl sc__law_rested.nd (pi_listK (K := K) (pv 1)) (blkOk_by (own := [("one", 7)]) (N := ["house", "here", "swell", "rising", "goes", "turn", "k", "one"]) (sc := defScope s__law_rested) (by decide +kernel)) (fun _ _ _ _ _ => (pg_name (i := 7) sc__law_rested.nd rfl (by first | exact Or.inl rfl | exact Or.inr rfl))) (fun _ _ _ _ _ => (pts_one (pt_cmpR op_ne (pv 7) (pe_ix (kIxL (K := K)) (pv 4) (pe_un un_neg pe_int) (fun _ _ => rfl)) (nomark _)))) (fun _ _ _ _ _ => (pv 7))))) pss_nil))))))
        (pss_one (ps_ret (pv 1))))), ?_⟩
    change (_ : L2.TS) _ [some _, some _, some _, some _, none, none, none, none] _
    (repeat array_get_dec)
    rename_i g0 H1 ng0 e1 hg0
    refine l_forR (m := h.n + 1) (by rw [hxl]; omega) (by omega) (fun i σ G => ∃ (p g : Addr) (c ws : List Int) (v5 v6 v7 : Option V), σ = [some (.ref r), some (.ref p), some (.int s), some (.bl up), some (.ref g), v5, v6, v7] ∧ (p = pI ∨ H p = none) ∧ Ex H G ∧ G p = some (.lst (c.map V.int)) ∧ StOk h.n c ∧ G g = some (.lst (ws.map V.int)) ∧ (∀ T, Clo h s up c T → Clo h s up c0 T) ∧ ((ws ≠ [] ∧ (h.mov c up).length + i ≤ h.n) ∨ (ws = [] ∧ h.want c s up = []))) ⟨pI, g0, c0, [0], _, _, _, rfl, .inl rfl, e1, e1 _ _ hp, ho, hg0, fun T z => z, .inl ⟨by simp, by omega⟩⟩ ?_ ?_
    · rintro i σ G hi ⟨p, g, c, ws, v5, v6, v7, rfl, pp, f0, gp, go, gg, gT, galt⟩
      have gN := hN.ki f0.ki
      have m1 := f0 _ _ n1
      have m2 := f0 _ _ n2
      have hcl := go.len
      rcases galt with ⟨hne, hml⟩ | ⟨he, hw⟩
      · have hne2 : ¬ ws = [] := hne
        (repeat array_get_dec)
        rename_i z1 G1 nz1 f1 hz1
        replace f0 := f0.trans f1
        replace gp := f1 _ _ gp
        replace gN := gN.ki f1.ki
        replace m1 := f1 _ _ m1
        replace m2 := f1 _ _ m2
        apply lc_mapR (m := h.n) (kp := fun l => decide (l ∈ h.want c s up)) (g := fun l => V.int (l : Int)) rfl
        · with_reducible repeat (first | exact SetR.z | apply SetR.s)
        · intro v; with_reducible repeat (first | exact SetR.z | apply SetR.s)
        · intro Q2 k
          (repeat array_get_dec)
          rw [hxl]
          exact k _ Ex.rfl
        · omega
        · intro z hz H2 e2 Q2 k
          (repeat array_get_dec)
          exact ⟨r, p, h, c, z, s, up, rfl, gN.ki e2.ki, e2 _ _ gp, hz, fun H3 e3 => ⟨_, rfl, k H3 e3⟩⟩
        · intro z hz hk H2 e2
          exact evM fun Q2 k => by (repeat array_get_dec); exact k _ _ Ex.rfl rfl
        intro g2 H2 ng2 e2 hg2
        rw [want_range] at hg2
        have hwl := want_len h c s up
        have hin : ∀ l ∈ h.want c s up, l ∈ h.want c s up := fun _ z => z
        rcases List.eq_nil_or_concat (h.want c s up) with hw | ⟨w0, l, hw⟩
        · rw [hw] at hg2
          have hg2' : H2 g2 = some (.lst (([] : List Int).map V.int)) := hg2
          have hnil : ([] : List Int) = [] := rfl
          (repeat array_get_dec)
          refine s_dT rfl ?_
          (repeat array_get_dec)
          refine s_dT rfl ?_
          (repeat array_get_dec)
          exact ⟨p, g2, c, [], _, _, _, rfl, pp, by array_mem_dec, by sizeOf_list_dec, go, by sizeOf_list_dec, gT, .inr ⟨rfl, hw⟩⟩
        · have e0 : w0.concat l = w0 ++ [l] := by simp
          rw [e0] at hw
          rw [hw] at hg2 hwl
          have hl2 : l ∈ h.want c s up := by rw [hw]; simp
          have hls : ∀ k ∈ [l], k ∈ h.want c s up := fun k hk => by rw [List.mem_singleton.mp hk]; exact hl2
          have hmw := mem_want.mp hl2
          have hmv := mov_step (h := h) (s := s) (up := up) (st := c) (ls := [l]) (by simp) hls
          have hg2' : H2 g2 = some (.lst ((zs w0 ++ [(l : Int)]).map V.int)) := by
            rw [hg2]
            unfold zs
            rw [List.map_append, List.map_append, List.map_map]
            rfl
          have hne3 : ¬ (zs w0 ++ [(l : Int)]) = [] := by simp
          have hzl : (zs w0).length ≤ 14 := by unfold zs; rw [List.length_map]; rw [List.length_append] at hwl; omega
          have gp2 := e2 _ _ gp
          have hll : ∀ k ∈ [l], k < h.n ∧ decide ((k : Int) ∈ c) = !up := fun k hk => by rw [List.mem_singleton.mp hk]; exact ⟨hmw.1, hmw.2.1⟩
          have hTs : ∀ T, Clo h s up (stepS h.n c [l] up) T → Clo h s up c0 T := fun T z => gT T (Clo.step hpos go hls z)
          have hne4 : zs w0 ++ [(l : Int)] ≠ [] := by simp
          cases up with
          | true =>
            (repeat array_get_dec)
            rename_i z2 G2 nz2 f2 hz2 z3 G3 nz3 f3 hz3
            rw [cut_end] at hz3
            have hz3' : G3 z3 = some (.lst ([(l : Int)].map V.int)) := hz3
            have gp3 := (f2.trans f3) _ _ gp2
            (repeat array_get_dec)
            rename_i z4 G4 nz4 f4 hz4 ns z5 G5 hpm hso nz5 f5 hz5
            have e5 : ns = stepS h.n c [l] true := sort_up go hpm hso (by simp) fun k hk => ⟨(hll k hk).1, of_decide_eq_false (hll k hk).2⟩
            rw [e5] at hz5
            exact ⟨z5, g2, stepS h.n c [l] true, zs w0 ++ [(l : Int)], _, _, _, rfl, .inr (by sizeOf_list_dec), by array_mem_dec, hz5, stepS_ok _ _ _ _, by sizeOf_list_dec, hTs, .inl ⟨hne4, by omega⟩⟩
          | false =>
            (repeat array_get_dec)
            rename_i z2 G2 nz2 f2 hz2 z3 G3 nz3 f3 hz3
            have hat : atI ((zs w0 ++ [(l : Int)]).map V.int) (-1) = some (.int (l : Int)) := by rw [List.map_append]; exact atI_end _ _
            apply lc_mapI (L := c) (kp := fun z => !decide (z = (l : Int))) (g := V.int) rfl
            · with_reducible repeat (first | exact SetR.z | apply SetR.s)
            · intro v; with_reducible repeat (first | exact SetR.z | apply SetR.s)
            · exact evM fun Q2 k => by (repeat array_get_dec); exact k _ _ Ex.rfl ⟨p, rfl, .of ((f2.trans f3) _ _ gp2)⟩
            · omega
            · intro z hz H3 e3 Q2 k
              (repeat array_get_dec)
              exact k _ Ex.rfl
            · intro z hz hk H3 e3
              exact evM fun Q2 k => by (repeat array_get_dec); exact k _ _ Ex.rfl rfl
            intro z5 G5 nz5 f5 hz5
            have e5 : c.filter (fun z => !decide (z = (l : Int))) = stepS h.n c [l] false := by
              rw [← filter_down go [l]]
              refine List.filter_congr fun z hz => ?_
              congr 1
              exact decide_eq_decide.mpr (by simp)
            rw [e5] at hz5
            (repeat array_get_dec)
            exact ⟨z5, g2, stepS h.n c [l] false, zs w0 ++ [(l : Int)], _, _, _, rfl, .inr (by sizeOf_list_dec), by array_mem_dec, hz5, stepS_ok _ _ _ _, by sizeOf_list_dec, hTs, .inl ⟨hne4, by omega⟩⟩
      · subst he
        (repeat array_get_dec)
        refine s_dT rfl ?_
        (repeat array_get_dec)
        refine s_dT rfl ?_
        (repeat array_get_dec)
        refine s_dT rfl ?_
        (repeat array_get_dec)
        exact ⟨p, g, c, [], _, _, _, rfl, pp, by array_mem_dec, by sizeOf_list_dec, go, by sizeOf_list_dec, gT, .inr ⟨rfl, hw⟩⟩
    · rintro σ G ⟨p, g, c, ws, v5, v6, v7, rfl, pp, f0, gp, go, gg, gT, galt⟩
      (repeat array_get_dec)
      rcases galt with ⟨_, hml⟩ | ⟨_, hw⟩
      · omega
      · exact q p c G pp f0 gp (gT c (Clo.self go hw))

theorem d__law_edges {P : Program} {w : World} {K : PySem.W.Frag} {mg : PySem.Str → Option Value} {base : Heap} {C : Addr} (T : Txt K mg C) : Dfn P w K mg base "_law_edges" 4 ["house"] (sp__law_edges K C) := by
  have D__law_rested := d__law_rested (P := P) (w := w) (base := base) T
  obtain ⟨f, fd, F, hm⟩ := T.f__law_edges
  refine ⟨f, fd, hm, F.kp, F.binds (ps := ["house"]) (fun _ _ _ _ _ _ us hl => match us, hl with | [_], _ => rfl), F.ok sc__law_edges (fun vs H Q E h => ?_) (fun cdv A outer s H vs Q E hr h => ?_)⟩
  · unfold sp__law_edges at h
    repeat (obtain ⟨_, h⟩ := h)
    subst_vars
    rfl
  · obtain ⟨r, h, rfl, hN, hS, q⟩ := h
    have h14 := hN.ok.n14
    have hpos := hN.pos
    have hn1 := hS.n1
    have hn8 := hS.n8
    obtain ⟨tp, tl, xs, ys, hel, n1, n2, n3, n4, n5, n6⟩ := hN.ex
    have hxl : xs.length = h.n := n3.1
    have hm0 : h.mov (ordI h.n) false ≠ [] := fun z => by
      have : 0 ∈ h.mov (ordI h.n) false := mem_mov.mpr ⟨by omega, by rw [Bool.not_false]; exact decide_eq_true (mem_ordI (by omega))⟩
      rw [z] at this
      cases this
    have gapN : ∀ c, StOk h.n c → c ≠ [] → h.mov c false ≠ [] := fun c o hne z => hne (by
      have := top_mov (up := false) o z
      exact this)
    have gapT : ∀ c, StOk h.n c → c ≠ ordI h.n → h.mov c true ≠ [] := fun c o hne z => hne (top_mov (up := true) o z)
    refine ⟨_, (pss_cons (ps_set (i := 1) sc__law_edges.nd rfl (by first | exact Or.inl rfl | exact Or.inr rfl) (pe_listRg (by rfl) (by rfl) T.b_list (prg_1 (by rfl) T.b_range (pe_callB (kLen (K := K)) (by rfl) T.b_len (by decide +kernel) (pa_cons (pe_ix (kIxT (K := K)) (pv 0) pe_int (fun _ _ => rfl)) pa_nil)))))
        (pss_cons (ps_set (i := 2) sc__law_edges.nd rfl (by first | exact Or.inl rfl | exact Or.inr rfl) pe_int)
        (pss_cons (ps_for PassesOwn.never rfl (pi_range3 (by rfl) T.b_range (pa_cons pe_int (pa_cons (pe_un un_neg pe_int) (pa_cons (pe_un un_neg pe_int) pa_nil)))) (pg_name (i := 3) sc__law_edges.nd rfl (by first | exact Or.inl rfl | exact Or.inr rfl)) (pss_one (ps_if (pt_cmpR (kNeD (K := K) (units64 hr)) (pv 1) (pe_lst pa_nil) (nomark _)) (pss_cons (ps_set (i := 1) sc__law_edges.nd rfl (by first | exact Or.inl rfl | exact Or.inr rfl) (pe_def D__law_rested (hr.mono (by first | decide | omega)) (by rfl) (pa_cons (pv 0) (pa_cons (pv 1) (pa_cons (pv 3) (pa_cons pe_bl pa_nil))))))
        (pss_one (ps_set (i := 2) sc__law_edges.nd rfl (by first | exact Or.inl rfl | exact Or.inr rfl) (pv 3)))) pss_nil)))
        (pss_cons (ps_set (i := 4) sc__law_edges.nd rfl (by first | exact Or.inl rfl | exact Or.inr rfl) (pv 2))
        (pss_cons (ps_for PassesOwn.never rfl (pi_range2 (by rfl) T.b_range (pa_cons (pe_op op_add (pv 2) pe_int) (pa_cons pe_int pa_nil))) (pg_name (i := 3) sc__law_edges.nd rfl (by first | exact Or.inl rfl | exact Or.inr rfl)) (pss_one (ps_if (pt_cmpR op_lt (pe_callB (kLen (K := K)) (by rfl) T.b_len (by decide +kernel) (pa_cons (pv 1) pa_nil)) (pe_callB (kLen (K := K)) (by rfl) T.b_len (by decide +kernel) (pa_cons (pe_ix (kIxT (K := K)) (pv 0) pe_int (fun _ _ => rfl)) pa_nil)) (nomark _)) (pss_cons (ps_set (i := 1) sc__law_edges.nd rfl (by first | exact Or.inl rfl | exact Or.inr rfl) (pe_def D__law_rested (hr.mono (by first | decide | omega)) (by rfl) (pa_cons (pv 0) (pa_cons (pv 1) (pa_cons (pv 3) (pa_cons pe_bl pa_nil))))))
        (pss_one (ps_set (i := 4) sc__law_edges.nd rfl (by first | exact Or.inl rfl | exact Or.inr rfl) (pv 3)))) pss_nil)))
        (pss_one (ps_ret (pe_tup (pa_cons (pv 2) (pa_cons (pv 4) pa_nil)))))))))), ?_⟩
    change (_ : L2.TS) _ [some _, none, none, none, none] _
    (repeat array_get_dec)
    rename_i p0 H1 np0 e1 hp0
    rw [hxl, ← hN.ordL] at hp0
    refine l_forC (n := 119) (RgC.neg (by decide) (by decide) (by decide) (by decide)) (fun i σ G => ∃ (p : Addr) (c : List Int) (d : Int) (v3 v4 : Option V), σ = [some (.ref r), some (.ref p), some (.int d), v3, v4] ∧ Ex H G ∧ G p = some (.lst (c.map V.int)) ∧ StOk h.n c ∧ ((c ≠ [] ∧ d = 30 - (i : Int) ∧ Clo h d false (ordI h.n) c) ∨ (c = [] ∧ EdgeQ h false (ordI h.n) d ∧ 30 - (i : Int) ≤ d))) ⟨p0, ordI h.n, 30, _, _, rfl, e1, hp0, ord_ok _, .inl ⟨fun z => hm0 (by rw [z]; simp [Hs.mov]), by omega, down_first (ord_ok _) (fun l hl => by have := (hS.lo l hl).2; omega) hS.hel⟩⟩ ?_ ?_
    · rintro i σ G hi ⟨p, c, d, v3, v4, rfl, f0, gp, go, galt⟩
      have gN := hN.ki f0.ki
      rcases galt with ⟨hne, hd, hc⟩ | ⟨he, hE, hd⟩
      · (repeat array_get_dec)
        rename_i z1 G1 nz1 f1 hz1
        refine ⟨r, p, h, c, 29 + (i : Int) * -1, false, rfl, gN.ki f1.ki, f1 _ _ gp, go, fun p2 T G2 np2 f2 hp2 hT => ?_⟩
        obtain ⟨k1, k2⟩ := edge_step hc (gapN c go hne) (s' := 29 + (i : Int) * -1) (by unfold lev; simp; omega) hT
        (repeat array_get_dec)
        by_cases hTe : T = []
        · exact ⟨p2, T, _, _, _, rfl, by array_mem_dec, hp2, hT.ok, .inr ⟨hTe, k2 (by rw [hTe]; simp [Hs.mov]), by omega⟩⟩
        · exact ⟨p2, T, _, _, _, rfl, by array_mem_dec, hp2, hT.ok, .inl ⟨hTe, by omega, k1⟩⟩
      · subst he
        (repeat array_get_dec)
        exact ⟨p, [], d, _, _, rfl, by array_mem_dec, by sizeOf_list_dec, go, .inr ⟨rfl, hE, by omega⟩⟩
    · rintro σ G ⟨p, c, d, v3, v4, rfl, f0, gp, go, galt⟩
      have hc0 : c = [] ∧ EdgeQ h false (ordI h.n) d ∧ -90 < d ∧ d < 30 := by
        rcases galt with ⟨hne, hd, hc⟩ | ⟨he, hE, hd⟩
        · exfalso
          obtain ⟨x, r2, hx2⟩ : ∃ x r2, c = x :: r2 := by
            cases c with
            | nil => exact absurd rfl hne
            | cons x r2 => exact ⟨x, r2, rfl⟩
          have hxc : x ∈ c := by rw [hx2]; exact List.mem_cons_self ..
          obtain ⟨l, rfl, hl⟩ := go.nat hxc
          have h1 := lent_le9 hS.hel go l
          have h2 := hS.lo l hl
          have : l ∈ h.want c d false := mem_want.mpr ⟨hl, by rw [Bool.not_false]; exact decide_eq_true hxc, by unfold Hs.goes; simp; omega⟩
          rw [hc.fin] at this
          cases this
        · refine ⟨he, hE, by omega, ?_⟩
          refine Int.not_le.mp fun z => ?_
          have k := edge_low hE
          have hle := clo_mono (show swLe false d 30 from z) k (down_first (ord_ok _) (fun l hl => by have := (hS.lo l hl).2; omega) hS.hel)
          have h0 : ((0 : Nat) : Int) ∈ ordI h.n := mem_ordI (by omega)
          have h2 : ((0 : Nat) : Int) ∈ ([] : List Int) := hle _ h0
          cases h2
      obtain ⟨rfl, hE, hd1, hd2⟩ := hc0
      have cB := edge_low hE
      have hb0 := low_self hpos cB (Int.le_refl _)
      have hne0 : ([] : List Int) ≠ ordI h.n := fun z => by
        have h0 : ((0 : Nat) : Int) ∈ ordI h.n := mem_ordI (by omega)
        rw [← z] at h0
        cases h0
      (repeat array_get_dec)
      refine l_forAB (m := (30 - d).toNat) (by omega) (by omega) (by omega) (fun i σ G => ∃ (p : Addr) (c : List Int) (t : Int) (v3 : Option V), σ = [some (.ref r), some (.ref p), some (.int d), v3, some (.int t)] ∧ Ex H G ∧ G p = some (.lst (c.map V.int)) ∧ StOk h.n c ∧ ((c ≠ ordI h.n ∧ t = d + (i : Int) ∧ Clo h t true [] c) ∨ (c = ordI h.n ∧ EdgeQ h true [] t ∧ t ≤ d + (i : Int)))) ⟨p, [], d, _, rfl, f0, gp, go, .inl ⟨hne0, by omega, Clo.self go hb0.1⟩⟩ ?_ ?_
      · rintro i σ G hi ⟨p, c, t, v3, rfl, f0, gp, go, galt⟩
        have gN := hN.ki f0.ki
        have m1 := f0 _ _ n1
        have m2 := f0 _ _ n2
        have hfull := full_iff go
        have hcl := go.len
        rcases galt with ⟨hne, hd, hc⟩ | ⟨he, hE2, hd⟩
        · have hlt : c.length < xs.length := by rw [hxl]; exact hfull.mpr hne
          (repeat array_get_dec)
          refine ⟨r, p, h, c, d + 1 + (i : Int), true, rfl, gN, gp, go, fun p2 T G2 np2 f2 hp2 hT => ?_⟩
          obtain ⟨k1, k2⟩ := edge_step hc (gapT c go hne) (s' := d + 1 + (i : Int)) (by unfold lev; simp; omega) hT
          (repeat array_get_dec)
          by_cases hTe : T = ordI h.n
          · exact ⟨p2, T, _, _, rfl, f0.trans f2, hp2, hT.ok, .inr ⟨hTe, k2 (by rw [hTe]; exact mov_top (up := true)), by omega⟩⟩
          · exact ⟨p2, T, _, _, rfl, f0.trans f2, hp2, hT.ok, .inl ⟨hTe, by omega, k1⟩⟩
        · have hlt : ¬ c.length < xs.length := by rw [hxl]; exact fun z => hfull.mp z he
          (repeat array_get_dec)
          exact ⟨p, c, t, _, rfl, f0, gp, go, .inr ⟨he, hE2, by omega⟩⟩
      · rintro σ G ⟨p, c, t, v3, rfl, f0, gp, go, galt⟩
        have hc1 : EdgeQ h true [] t ∧ t ≤ 30 := by
          rcases galt with ⟨hne, ht, hc⟩ | ⟨he, hE2, ht⟩
          · exfalso
            refine gapT c go hne (List.eq_nil_iff_forall_not_mem.mpr fun l hl => ?_)
            obtain ⟨m1, m2⟩ := mem_mov.mp hl
            have h1 := lent_le9 hS.hel go l
            have h2 := hS.hi l m1
            have : l ∈ h.want c t true := mem_want.mpr ⟨m1, m2, by unfold Hs.goes; simp; omega⟩
            rw [hc.fin] at this
            cases this
          · exact ⟨hE2, by omega⟩
        (repeat array_get_dec)
        rename_i z9 G9 nz9 f9 hz9
        exact q d t z9 G9 (f0.trans f9) hz9 hE hc1.1 hd1 hc1.2

theorem d__law_pick {P : Program} {w : World} {K : PySem.W.Frag} {mg : PySem.Str → Option Value} {base : Heap} {C : Addr} (T : Txt K mg C) : Dfn P w K mg base "_law_pick" 1 ["well", "many"] (sp__law_pick K C) := by
  obtain ⟨f, fd, F, hm⟩ := T.f__law_pick
  refine ⟨f, fd, hm, F.kp, F.binds (ps := ["well", "many"]) (fun _ _ _ _ _ _ us hl => match us, hl with | [_, _], _ => rfl), F.ok sc__law_pick (fun vs H Q E h => ?_) (fun cdv A outer s H vs Q E hr h => ?_)⟩
  · unfold sp__law_pick at h
    repeat (obtain ⟨_, h⟩ := h)
    subst_vars
    rfl
  · obtain ⟨a, n, m, rfl, ⟨x, y, z, hj, hxw, hy, hyb, hz, hzn⟩, hm, hmb, hn, q⟩ := h
    refine ⟨_, (pss_cons (ps_if (pt_cmpR op_gt (pe_ix (kIxL (K := K)) (pv 0) pe_int (fun _ _ => rfl)) pe_int (nomark _)) (pss_cons (ps_set (i := 2) sc__law_pick.nd rfl (by first | exact Or.inl rfl | exact Or.inr rfl) (pe_op op_modN (pe_ix (kIxL (K := K)) (pv 0) pe_int (fun _ _ => rfl)) (pv 1)))
      (pss_cons (ps_asg (pe_op op_fdivN (pe_ix (kIxL (K := K)) (pv 0) pe_int (fun _ _ => rfl)) (pv 1)) (pg_sub (pv 0) pe_int set_list))
      (pss_one (ps_ret (pv 2))))) pss_nil)
      (pss_cons (ps_asg (pe_op op_add (pe_ix (kIxL (K := K)) (pv 0) pe_int (fun _ _ => rfl)) pe_int) (pg_sub (pv 0) pe_int set_list))
      (pss_cons (ps_set (i := 3) sc__law_pick.nd rfl (by first | exact Or.inl rfl | exact Or.inr rfl) (pe_op op_modN (pe_op op_powW (pe_op op_add (pe_ix (kIxL (K := K)) (pv 0) pe_int (fun _ _ => rfl)) (pe_op op_mul pe_int (pe_ix (kIxL (K := K)) (pv 0) pe_int (fun _ _ => rfl)))) pe_int) (pe_op op_add (pe_op op_powW pe_int pe_int) pe_int)))
      (pss_cons (ps_set (i := 3) sc__law_pick.nd rfl (by first | exact Or.inl rfl | exact Or.inr rfl) (pe_op op_modN (pe_op op_powW (pe_op op_add (pv 3) (pe_op op_mul pe_int (pe_ix (kIxL (K := K)) (pv 0) pe_int (fun _ _ => rfl)))) pe_int) (pe_op op_add (pe_op op_powW pe_int pe_int) pe_int)))
      (pss_one (ps_ret (pe_op op_modN (pe_op op_fdivN (pv 3) pe_int) (pv 1)))))))), ?_⟩
    refine ⟨_, rfl, a, _, _, _, rfl, rfl, .of hj, at0 _ _ _, _, _, rfl, rfl, _, rfl, ?_⟩
    have b36 : (0 : Int) < (10 : Int) ^ (36 : Int).toNat + 67 ∧ (10 : Int) ^ (36 : Int).toNat + 67 < 2 ^ 200 := by decide +kernel
    have b33 : (0 : Int) < (10 : Int) ^ (33 : Int).toNat + 211 ∧ (10 : Int) ^ (33 : Int).toNat + 211 < 2 ^ 200 := by decide +kernel
    by_cases h0 : 0 < x
    · rw [decide_eq_true h0]
      have hf := fmod_r (x := x) (m := m) (by omega)
      refine iteT ⟨_, rfl, a, _, _, _, rfl, rfl, .of hj, at0 _ _ _, _, rfl, _, _, rfl, rfl, (by omega), ?_⟩
      refine ⟨_, rfl, a, _, _, _, rfl, rfl, .of hj, at0 _ _ _, _, rfl, _, _, rfl, rfl, ⟨by omega, by omega⟩, ?_⟩
      refine ⟨_, rfl, a, _, _, 0, rfl, rfl, hj, rfl, ?_⟩
      refine ⟨_, rfl, ?_⟩
      refine q _ _ hf.1 hf.2 ExB.upd ⟨x.fdiv m, y, z, upd_same, ?_, hy, hyb, hz, by omega⟩
      rw [Int.fdiv_eq_ediv_of_nonneg x (by omega)]
      exact Int.ediv_nonneg hxw (by omega)
    · rw [decide_eq_false h0]
      refine iteF ⟨_, rfl, a, _, _, _, rfl, rfl, .of hj, at2 _ _ _, _, _, rfl, rfl, ?_⟩
      refine ⟨_, rfl, a, _, _, 2, rfl, rfl, hj, rfl, ?_⟩
      have hj2 : (upd H a (.lst [V.int x, V.int y, V.int (z + 1)])) a = some (.lst [V.int x, V.int y, V.int (z + 1)]) := upd_same
      refine ⟨_, rfl, a, _, _, _, rfl, rfl, .of hj2, at1 _ _ _, _, rfl, a, _, _, _, rfl, rfl, .of hj2, at2 _ _ _, _, _, rfl, rfl, .inl ⟨by decide, by decide⟩, _, _, rfl, rfl, _, _, rfl, rfl, powc _ _ (by decide) (by decide) (by omega), _, _, rfl, rfl, powc _ _ (by decide) (by decide) (by decide), _, _, rfl, rfl, _, _, rfl, rfl, (show (10 : Int) ^ (36 : Int).toNat + 67 ≠ 0 by omega), ?_⟩
      dsimp only
      have hf := fmod_r (x := (y + 982451653 * (z + 1)) ^ (3 : Int).toNat) (m := (10 : Int) ^ (36 : Int).toNat + 67) b36.1
      generalize ((y + 982451653 * (z + 1)) ^ (3 : Int).toNat).fmod ((10 : Int) ^ (36 : Int).toNat + 67) = mx at hf ⊢
      refine ⟨_, rfl, _, rfl, a, _, _, _, rfl, rfl, .of hj2, at2 _ _ _, _, _, rfl, rfl, .inl ⟨by decide, by decide⟩, _, _, rfl, rfl, _, _, rfl, rfl, powc _ _ (by decide) (by decide) (by omega), _, _, rfl, rfl, powc _ _ (by decide) (by decide) (by decide), _, _, rfl, rfl, _, _, rfl, rfl, (show (10 : Int) ^ (33 : Int).toNat + 211 ≠ 0 by omega), ?_⟩
      dsimp only
      generalize ((mx + 7919 * (z + 1)) ^ (3 : Int).toNat).fmod ((10 : Int) ^ (33 : Int).toNat + 211) = my
      refine ⟨_, rfl, _, _, rfl, rfl, ⟨by decide, by decide⟩, _, rfl, _, _, rfl, rfl, (by omega), ?_⟩
      have hg := fmod_r (x := my.fdiv 4096) (m := m) (by omega)
      exact q _ _ hg.1 hg.2 ExB.upd ⟨x, y, z + 1, hj2, hxw, hy, hyb, by omega, by omega⟩

theorem d__law_house {P : Program} {w : World} {K : PySem.W.Frag} {mg : PySem.Str → Option Value} {base : Heap} {C : Addr} (T : Txt K mg C) : Dfn P w K mg base "_law_house" 2 ["well", "many"] (sp__law_house K C) := by
  have D__law_pick := d__law_pick (P := P) (w := w) (base := base) T
  obtain ⟨f, fd, F, hm⟩ := T.f__law_house
  refine ⟨f, fd, hm, F.kp, F.binds (ps := ["well", "many"]) (fun _ _ _ _ _ _ us hl => match us, hl with | [_, _], _ => rfl), F.ok sc__law_house (fun vs H Q E h => ?_) (fun cdv A outer s H vs Q E hr h => ?_)⟩
  · unfold sp__law_house at h
    repeat (obtain ⟨_, h⟩ := h)
    subst_vars
    rfl
  · obtain ⟨j, n, m, rfl, hj, hn, hm1, hm14, q⟩ := h
    refine ⟨_, (pss_cons (ps_set (i := 2) sc__law_house.nd rfl (by first | exact Or.inl rfl | exact Or.inr rfl) (pe_ix (kIxL (K := K)) (pe_lst (pa_cons pe_int (pa_cons pe_int (pa_cons pe_int pa_nil)))) (pe_def D__law_pick (hr.mono (by first | decide | omega)) (by rfl) (pa_cons (pv 0) (pa_cons pe_int pa_nil))) (fun _ _ => rfl)))
        (pss_cons (ps_set (i := 3) sc__law_house.nd rfl (by first | exact Or.inl rfl | exact Or.inr rfl) (pe_lst pa_nil))
        (pss_cons (ps_for PassesOwn.never rfl (pi_range1 (by rfl) T.b_range (pa_cons (pv 1) pa_nil)) (pg_name (i := 4) sc__law_house.nd rfl (by first | exact Or.inl rfl | exact Or.inr rfl)) (pss_cons (ps_set (i := 5) sc__law_house.nd rfl (by first | exact Or.inl rfl | exact Or.inr rfl) (pe_op op_sub (pe_def D__law_pick (hr.mono (by first | decide | omega)) (by rfl) (pa_cons (pv 0) (pa_cons (pe_op op_add (pe_op op_mul pe_int (pv 2)) pe_int) pa_nil))) (pv 2)))
        (pss_one (ps_expr (kBm (K := K) PySem.F.plainAttrs_list PySem.F.slot_list_append PySem.F.type_list_append mt_append (pv 3) (pa_cons (pe_tup (pa_cons (pe_op op_add (pe_op op_add (pv 5) pe_int) (pe_def D__law_pick (hr.mono (by first | decide | omega)) (by rfl) (pa_cons (pv 0) (pa_cons (pe_ix (kIxL (K := K)) (pe_lst (pa_cons pe_int (pa_cons pe_int (pa_cons pe_int pa_nil)))) (pe_def D__law_pick (hr.mono (by first | decide | omega)) (by rfl) (pa_cons (pv 0) (pa_cons pe_int pa_nil))) (fun _ _ => rfl)) pa_nil)))) (pa_cons (pv 5) pa_nil))) pa_nil))))))
        (pss_cons (ps_set (i := 6) sc__law_house.nd rfl (by first | exact Or.inl rfl | exact Or.inr rfl) (pe_ix (kIxL (K := K)) (pe_lst (pa_cons pe_int (pa_cons pe_int (pa_cons pe_int pa_nil)))) (pe_def D__law_pick (hr.mono (by first | decide | omega)) (by rfl) (pa_cons (pv 0) (pa_cons pe_int pa_nil))) (fun _ _ => rfl)))
        (pss_cons (ps_set (i := 7) sc__law_house.nd rfl (by first | exact Or.inl rfl | exact Or.inr rfl) (pe_lst pa_nil))
        (pss_cons (ps_for PassesOwn.never rfl (pi_range1 (by rfl) T.b_range (pa_cons (pv 1) pa_nil)) (pg_name (i := 8) sc__law_house.nd rfl (by first | exact Or.inl rfl | exact Or.inr rfl)) (pss_one (ps_for PassesOwn.never rfl (pi_range1 (by rfl) T.b_range (pa_cons (pv 1) pa_nil)) (pg_name (i := 9) sc__law_house.nd rfl (by first | exact Or.inl rfl | exact Or.inr rfl)) (pss_one (ps_if (PW.pt (pw_and (pt_cmpR op_ne (pv 8) (pv 9) (nomark _)) (pw_and1 (pt_cmpR op_eq (pe_def D__law_pick (hr.mono (by first | decide | omega)) (by rfl) (pa_cons (pv 0) (pa_cons (pv 6) pa_nil))) pe_int (nomark _))))) (pss_one (ps_expr (kBm (K := K) PySem.F.plainAttrs_list PySem.F.slot_list_append PySem.F.type_list_append mt_append (pv 7) (pa_cons (pe_tup (pa_cons (pv 8) (pa_cons (pv 9) (pa_cons (pe_op op_add pe_int (pe_def D__law_pick (hr.mono (by first | decide | omega)) (by rfl) (pa_cons (pv 0) (pa_cons (pe_ix (kIxL (K := K)) (pe_lst (pa_cons pe_int (pa_cons pe_int pa_nil))) (pe_def D__law_pick (hr.mono (by first | decide | omega)) (by rfl) (pa_cons (pv 0) (pa_cons pe_int pa_nil))) (fun _ _ => rfl)) pa_nil)))) pa_nil)))) pa_nil)))) pss_nil)))))
        (pss_one (ps_ret (pe_tup (pa_cons (pe_callTy (kTuple (K := K)) (by rfl) T.b_tuple (by decide +kernel) (pa_cons (pv 3) pa_nil)) (pa_cons (pe_callTy (kTuple (K := K)) (by rfl) T.b_tuple (by decide +kernel) (pa_cons (pv 7) pa_nil)) pa_nil))))))))))), ?_⟩
    change (_ : L2.TS) _ [some _, some _, none, none, none, none, none, none, none, none] _
    (repeat array_get_dec)
    rename_i l1 H1 nl1 e1 hl1
    refine ⟨j, n, 3, rfl, hj.ex e1, by decide, by decide, by omega, fun d H2 d0 d3 e2 j2 => ?_⟩
    obtain ⟨wide, hwm, hw⟩ := pickJ [3, 6, 11] d0 d3
    have hl1j := hj.free nl1
    have hl2 := e2 _ _ hl1j hl1
    have hw4 : 3 ≤ wide ∧ wide ≤ 11 := by simp at hwm; omega
    have hw' : atI [V.int 3, V.int 6, V.int 11] d = some (.int wide) := hw
    (repeat array_get_dec)
    rename_i pl H4 npl e4 hpl
    have hplj := j2.free npl
    have npl0 : H pl = none := exB_none (e1.exB.trans e2) hplj npl
    refine l_forR (m := m) rfl (by omega) (fun i σ G => ∃ (v4 v5 : Option V) (xs : List V) (lat : List (Int × Int)), σ = [some (.ref j), some (.int (m : Int)), some (.int wide), some (.ref pl), v4, v5, none, none, none, none] ∧ ExB j H G ∧ JarAt G j (n + 2 + 3 * (i : Int)) ∧ G pl = some (.lst xs) ∧ Al (PairV K G) xs lat ∧ lat.length = i ∧ (∀ p ∈ lat, p.2 < p.1 ∧ -11 ≤ p.2 ∧ p.2 ≤ 11 ∧ p.1 ≤ 23)) ⟨_, _, [], [], rfl, (e1.exB.trans e2).trans e4.exB, (j2.ex e4).le (by omega), hpl, Al.nil, rfl, by simp⟩ ?_ ?_
    · rintro i σ G hi ⟨v4, v5, xs, lat, rfl, gB, gj, gp, gal, gl, gok⟩
      (repeat array_get_dec)
      refine ⟨j, _, _, rfl, gj, by omega, by omega, by omega, fun d1 G1 d10 d11 f1 k1 => ?_⟩
      have gp1 := f1 _ _ hplj gp
      (repeat array_get_dec)
      rename_i l3 G2 nl3 f2 hl3
      have hl3j := k1.free nl3
      refine ⟨j, _, 3, rfl, k1.ex f2, by decide, by decide, by omega, fun d2 G3 d20 d23 f3 k3 => ?_⟩
      obtain ⟨w2, hw2m, hw2⟩ := pickJ [2, 5, 12] d20 d23
      have hw24 : 1 ≤ w2 ∧ w2 ≤ 12 := by simp at hw2m; omega
      have hw2' : atI [V.int 2, V.int 5, V.int 12] d2 = some (.int w2) := hw2
      have hl33 := f3 _ _ hl3j hl3
      have gp3 := f3 _ _ hplj (f2 _ _ gp1)
      (repeat array_get_dec)
      refine ⟨j, _, w2, rfl, k3, by omega, by omega, by omega, fun d3 G4 d30 d31 f4 k4 => ?_⟩
      have gp4 := f4 _ _ hplj gp3
      have gal4 : Al (PairV K G4) xs lat := gal.imp fun _ _ z => z.ki (((gj.ki f1).trans f2.ki).trans (((k1.ex f2).ki f3).trans (k3.ki f4)))
      have hxl : xs.length < 100 := by rw [gal.1, gl]; omega
      (repeat array_get_dec)
      rename_i P G5 nP f5 hP G6 f6 hp6
      have hPl : P ≠ pl := fun z => by rw [z, gp4] at nP; cases nP
      refine ⟨_, _, xs ++ [V.ref P], lat ++ [(d1 - wide + 1 + d3, d1 - wide)], rfl, exBB (((((gB.trans f1).trans f2.exB).trans f3).trans f4).trans f5.exB) f6 npl0, (x_jarB f6 hplj.symm (k4.ex f5)).le (by omega), hp6, Al.snoc (gal4.imp fun _ _ z => z.ki (f5.ki.trans (f6.ki (f5 _ _ gp4)))) ⟨P, rfl, .of (f6 _ _ hPl hP)⟩, by rw [List.length_append, gl]; rfl, ?_⟩
      · intro p hp
        rcases List.mem_append.mp hp with hp | hp
        · exact gok p hp
        · rw [List.mem_singleton.mp hp]
          dsimp only
          omega
    · rintro σ G ⟨v4, v5, xs, lat, rfl, gB, gj, gp, gal, gl, gok⟩
      have hxl : xs.length = m := by rw [gal.1, gl]
      (repeat array_get_dec)
      rename_i l6 G1 nl6 f1 hl6
      have hl6j := gj.free nl6
      refine ⟨j, _, 3, rfl, gj.ex f1, by decide, by decide, by omega, fun od G2 od0 od3 f2 k2 => ?_⟩
      obtain ⟨often, hom, hoat⟩ := pickJ [2, 3, 9] od0 od3
      have hof : 1 ≤ often ∧ often ≤ 9 := by simp at hom; omega
      have ho' : atI [V.int 2, V.int 3, V.int 9] od = some (.int often) := hoat
      have hl62 := f2 _ _ hl6j hl6
      have gp2 := f2 _ _ hplj (f1 _ _ gp)
      have gal2 : Al (PairV K G2) xs lat := gal.imp fun _ _ z => z.ki (f1.ki.trans ((gj.ex f1).ki f2))
      have gB2' := (gB.trans f1.exB).trans f2
      (repeat array_get_dec)
      rename_i ll G3 nll f3 hll
      have hllj := k2.free nll
      have nll0 : H ll = none := exB_none gB2' hllj nll
      refine l_forR (m := m) rfl (by omega) (fun i σ G4 => ∃ (v8 v9 : Option V) (ys : List V) (hel : List (Int × Int × Int)), σ = [some (.ref j), some (.int (m : Int)), some (.int wide), some (.ref pl), v4, v5, some (.int often), some (.ref ll), v8, v9] ∧ ExB j H G4 ∧ ExB j G2 G4 ∧ Ki G2 G4 ∧ JarAt G4 j (n + 50 + 45 * (i : Int)) ∧ G4 ll = some (.lst ys) ∧ Al (TripV K G4) ys hel ∧ GoodH (m : Int) (i : Int) 0 hel) ⟨_, _, [], [], rfl, gB2'.trans f3.exB, f3.exB, f3.ki, (k2.ex f3).le (by omega), hll, Al.nil, ⟨by simp, by simp, by simp⟩⟩ ?_ ?_
      · rintro i σ G4 hi ⟨w8, w9, ys, hel, rfl, gB4, gB5, gk2, gj2, gl2, gal4, gg⟩
        (repeat array_get_dec)
        refine l_forR (m := m) rfl (by omega) (fun k σ G4 => ∃ (v9 : Option V) (ys : List V) (hel : List (Int × Int × Int)), σ = [some (.ref j), some (.int (m : Int)), some (.int wide), some (.ref pl), v4, v5, some (.int often), some (.ref ll), some (.int (i : Int)), v9] ∧ ExB j H G4 ∧ ExB j G2 G4 ∧ Ki G2 G4 ∧ JarAt G4 j (n + 50 + 45 * (i : Int) + 3 * (k : Int)) ∧ G4 ll = some (.lst ys) ∧ Al (TripV K G4) ys hel ∧ GoodH (m : Int) (i : Int) (k : Int) hel) ⟨_, ys, hel, rfl, gB4, gB5, gk2, gj2.le (by omega), gl2, gal4, gg⟩ ?_ ?_
        · rintro k σ G5 hk ⟨u9, zs2, hl3, rfl, hB2, hB3, hk2, hj2, hl2', hal2, hg⟩
          have hglen := hg.len
          have hzl : zs2.length < 1000 := by rw [hal2.1]; omega
          by_cases hik : (i : Int) = (k : Int)
          · have : i = k := by omega
            subst this
            (repeat array_get_dec)
            refine ⟨_, zs2, hl3, rfl, hB2, hB3, hk2, hj2.le (by omega), hl2', hal2, by have := hg.next; simpa using this⟩
          · (repeat array_get_dec)
            refine ⟨j, _, often, rfl, hj2, by omega, by omega, by omega, fun d1 G6 d10 d14 f2 k2 => ?_⟩
            have hl4 := f2 _ _ hllj hl2'
            have hal4 := hal2.imp fun _ _ z => TripV.ki z (hj2.ki f2)
            by_cases hlt : d1 = 0
            · (repeat array_get_dec)
              rename_i l7 G7 nl7 f7 hl7
              have hl7j := k2.free nl7
              refine ⟨j, _, 2, rfl, k2.ex f7, by decide, by decide, by omega, fun d5 G8 d50 d52 f8 k8 => ?_⟩
              obtain ⟨w5, hw5m, hw5⟩ := pickJ [3, 9] d50 d52
              have hw59 : 1 ≤ w5 ∧ w5 ≤ 9 := by simp at hw5m; omega
              have hw5' : atI [V.int 3, V.int 9] d5 = some (.int w5) := hw5
              have hl78 := f8 _ _ hl7j hl7
              have hl48 := f8 _ _ hllj (f7 _ _ hl4)
              have hal8 := hal4.imp fun _ _ z => TripV.ki z (f7.ki.trans ((k2.ex f7).ki f8))
              (repeat array_get_dec)
              refine ⟨j, _, w5, rfl, k8, by omega, by omega, by omega, fun d2 G9 d20 d29 f9 k9 => ?_⟩
              have hl5 := f9 _ _ hllj hl48
              have hal5 := hal8.imp fun _ _ z => TripV.ki z (k8.ki f9)
              (repeat array_get_dec)
              rename_i P GA nP fA hP GB fB hlB
              have hPl : P ≠ ll := fun z => by rw [z, hl5] at nP; cases nP
              have kF := fA.ki.trans (fB.ki (fA _ _ hl5))
              have kk := (hj2.ki f2).trans ((f7.ki.trans ((k2.ex f7).ki f8)).trans (k8.ki f9))
              have bb := (f2.trans f7.exB).trans (f8.trans f9)
              refine ⟨_, _, hl3 ++ [((i : Int), (k : Int), 1 + d2)], rfl, exBB ((hB2.trans bb).trans fA.exB) fB nll0, exBB ((hB3.trans bb).trans fA.exB) fB nll, (hk2.trans kk).trans kF, (x_jarB fB hllj.symm (k9.ex fA)).le (by omega), hlB, Al.snoc (hal5.imp fun _ _ z => TripV.ki z kF) ⟨P, rfl, .of (fB _ _ hPl hP)⟩, ?_⟩
              have := hg.add (x := ((i : Int), (k : Int), 1 + d2)) (helpB_of (by omega) (by omega) (by omega) (by omega) (by omega) (by omega) (by omega)) rfl rfl
              simpa using this
            · (repeat array_get_dec)
              refine ⟨_, zs2, hl3, rfl, hB2.trans f2, hB3.trans f2, hk2.trans (hj2.ki f2), k2.le (by omega), hl4, hal4, by have := hg.next; simpa using this⟩
        · rintro σ G5 ⟨u9, zs2, hl3, rfl, hB2, hB3, hk2, hj2, hl2', hal2, hg⟩
          exact ⟨_, _, zs2, hl3, rfl, hB2, hB3, hk2, hj2.le (by omega), hl2', hal2, by have := hg.row (by omega); simpa using this⟩
      · rintro σ G4 ⟨w8, w9, ys, hel, rfl, gB4, gB5, gk2, gj2, gl2, gal4, gg⟩
        have gp4 := gB5 _ _ hplj gp2
        have gglen := gg.len
        have gk4 : Al (PairV K G4) xs lat := gal2.imp fun _ _ z => z.ki gk2
        (repeat array_get_dec)
        rename_i t1 G5 nt1 f5 ht1 t2 G6 nt2 f6 ht2 r G7 nr f7 hr7
        have f57 := (f5.trans f6).trans f7
        exact q r t1 t2 xs ys lat hel G7 (gB4.trans f57.exB) ((gj2.ex f57).le (by omega)) hr7 (f7 _ _ (f6 _ _ ht1)) (gk4.imp fun _ _ z => z.ki f57.ki) (f7 _ _ ht2) (gal4.imp fun _ _ z => TripV.ki z f57.ki) gl gok ⟨by omega, fun p hp => (gg.ok p hp).1, gg.nd⟩ (by omega)

theorem d__law_span {P : Program} {w : World} {K : PySem.W.Frag} {mg : PySem.Str → Option Value} {base : Heap} {C : Addr} (T : Txt K mg C) : Dfn P w K mg base "_law_span" 2 ["house", "here"] (sp__law_span K C) := by
  have D__law_pull := d__law_pull (P := P) (w := w) (base := base) T
  obtain ⟨f, fd, F, hm⟩ := T.f__law_span
  refine ⟨f, fd, hm, F.kp, F.binds (ps := ["house", "here"]) (fun _ _ _ _ _ _ us hl => match us, hl with | [_, _], _ => rfl), F.ok sc__law_span (fun vs H Q E h => ?_) (fun cdv A outer s H vs Q E hr h => ?_)⟩
  · unfold sp__law_span at h
    repeat (obtain ⟨_, h⟩ := h)
    subst_vars
    rfl
  · obtain ⟨r, p, h, c, rfl, hN, hS, hp, ho, q⟩ := h
    have h14 := hN.ok.n14
    have hpos := hN.pos
    obtain ⟨tp, tl, xs, ys, hel, n1, n2, n3, n4, n5, n6⟩ := hN.ex
    have hxl : xs.length = h.n := n3.1
    refine ⟨_, (pss_cons (ps_asg (pe_tup (pa_cons (pe_un un_neg pe_int) (pa_cons pe_int pa_nil))) (pg_tupK (K := K) rfl (pgs_cons (pg_name (i := 2) sc__law_span.nd rfl (by first | exact Or.inl rfl | exact Or.inr rfl)) (pgs_cons (pg_name (i := 3) sc__law_span.nd rfl (by first | exact Or.inl rfl | exact Or.inr rfl)) pgs_nil))))
        (pss_cons (ps_for PassesOwn.never rfl (pi_range1 (by rfl) T.b_range (pa_cons (pe_callB (kLen (K := K)) (by rfl) T.b_len (by decide +kernel) (pa_cons (pe_ix (kIxT (K := K)) (pv 0) pe_int (fun _ _ => rfl)) pa_nil)) pa_nil)) (pg_name (i := 4) sc__law_span.nd rfl (by first | exact Or.inl rfl | exact Or.inr rfl)) (pss_cons (ps_set (i := 5) sc__law_span.nd rfl (by first | exact Or.inl rfl | exact Or.inr rfl) (pe_def D__law_pull (hr.mono (by first | decide | omega)) (by rfl) (pa_cons (pv 0) (pa_cons (pv 1) (pa_cons (pv 4) (pa_cons pe_int pa_nil))))))
        (pss_one (ps_if (pt_cmpR (kOpIn (K := K)) (pv 4) (pv 1) (by first | exact nomark _ | rfl)) (pss_one (ps_set (i := 2) sc__law_span.nd rfl (by first | exact Or.inl rfl | exact Or.inr rfl) (pe_callB kMax2 (by rfl) T.b_max (by decide +kernel) (pa_cons (pv 2) (pa_cons (pe_op op_sub (pe_op op_add (pe_ix (kIxT (K := K)) (pe_ix (kIxT (K := K)) (pe_ix (kIxT (K := K)) (pv 0) pe_int (fun _ _ => rfl)) (pv 4) (fun _ _ => rfl)) pe_int (fun _ _ => rfl)) pe_int) (pv 5)) pa_nil))))) (pss_one (ps_set (i := 3) sc__law_span.nd rfl (by first | exact Or.inl rfl | exact Or.inr rfl) (pe_callB kMin2 (by rfl) T.b_min (by decide +kernel) (pa_cons (pv 3) (pa_cons (pe_op op_sub (pe_op op_sub (pe_ix (kIxT (K := K)) (pe_ix (kIxT (K := K)) (pe_ix (kIxT (K := K)) (pv 0) pe_int (fun _ _ => rfl)) (pv 4) (fun _ _ => rfl)) pe_int (fun _ _ => rfl)) pe_int) (pv 5)) pa_nil)))))))))
        (pss_one (ps_ret (pe_tup (pa_cons (pv 2) (pa_cons (pv 3) pa_nil))))))), ?_⟩
    change (_ : L2.TS) _ [some _, some _, none, none, none, none] _
    (repeat array_get_dec)
    refine l_forR (m := h.n) (by rw [hxl]) (by omega) (fun i σ G => ∃ (lo hi : Int) (v4 v5 : Option V), σ = [some (.ref r), some (.ref p), some (.int lo), some (.int hi), v4, v5] ∧ Ex H G ∧ LoI h c i lo ∧ HiI h c i hi) ⟨-999, 999, _, _, rfl, by array_mem_dec, ⟨fun l hl => by omega, .inl rfl⟩, ⟨fun l hl => by omega, .inl rfl⟩⟩ ?_ ?_
    · rintro i σ G hi ⟨lo, hi', v4, v5, rfl, f0, a1, a2⟩
      have gN := hN.ki f0.ki
      have gp := f0 _ _ hp
      (repeat array_get_dec)
      refine ⟨r, p, h, c, i, 0, rfl, gN, gp, fun G1 f1 => ?_⟩
      have gp1 := f1 _ _ gp
      have m1 := (f0.trans f1) _ _ n1
      have m2 := (f0.trans f1) _ _ n2
      obtain ⟨x, hx1, tx, rfl, htx⟩ := n3.get' (lat_get hi)
      have htx1 := htx.ki (f0.trans f1).ki
      have hat : atI xs (i : Int) = some (V.ref tx) := atI_nat hx1
      by_cases hm : (i : Int) ∈ c
      · (repeat array_get_dec)
        refine ⟨_, _, _, _, rfl, f0.trans f1, ⟨fun l hl hlc => ?_, ?_⟩, ⟨fun l hl hlc => ?_, ?_⟩⟩
        · rcases Nat.lt_succ_iff_lt_or_eq.mp hl with h1 | h1
          · have := a1.le l h1 hlc
            split <;> omega
          · subst h1
            split <;> omega
        · split
          · exact .inr ⟨i, by omega, hm, by omega⟩
          · rcases a1.at' with h1 | ⟨l, h1, h2, h3⟩
            · exact .inl h1
            · exact .inr ⟨l, by omega, h2, h3⟩
        · rcases Nat.lt_succ_iff_lt_or_eq.mp hl with h1 | h1
          · exact a2.le l h1 hlc
          · subst h1
            exact absurd hm hlc
        · rcases a2.at' with h1 | ⟨l, h1, h2, h3⟩
          · exact .inl h1
          · exact .inr ⟨l, by omega, h2, h3⟩
      · (repeat array_get_dec)
        refine ⟨_, _, _, _, rfl, f0.trans f1, ⟨fun l hl hlc => ?_, ?_⟩, ⟨fun l hl hlc => ?_, ?_⟩⟩
        · rcases Nat.lt_succ_iff_lt_or_eq.mp hl with h1 | h1
          · exact a1.le l h1 hlc
          · subst h1
            exact absurd hlc hm
        · rcases a1.at' with h1 | ⟨l, h1, h2, h3⟩
          · exact .inl h1
          · exact .inr ⟨l, by omega, h2, h3⟩
        · rcases Nat.lt_succ_iff_lt_or_eq.mp hl with h1 | h1
          · have := a2.le l h1 hlc
            split <;> omega
          · subst h1
            split <;> omega
        · split
          · exact .inr ⟨i, by omega, hm, by omega⟩
          · rcases a2.at' with h1 | ⟨l, h1, h2, h3⟩
            · exact .inl h1
            · exact .inr ⟨l, by omega, h2, h3⟩
    · rintro σ G ⟨lo, hi, v4, v5, rfl, f0, a1, a2⟩
      (repeat array_get_dec)
      rename_i z9 G9 nz9 f9 hz9
      exact q z9 lo hi G9 (f0.trans f9) hz9 ⟨a1.end_ hS ho, a2.end_ hS hpos ho⟩

theorem d__law_stood {P : Program} {w : World} {K : PySem.W.Frag} {mg : PySem.Str → Option Value} {base : Heap} {C : Addr} (T : Txt K mg C) : Dfn P w K mg base "_law_stood" 4 ["well", "house", "edges"] (sp__law_stood K C) := by
  have D__law_pick := d__law_pick (P := P) (w := w) (base := base) T
  have D__law_rested := d__law_rested (P := P) (w := w) (base := base) T
  have D__law_span := d__law_span (P := P) (w := w) (base := base) T
  obtain ⟨f, fd, F, hm⟩ := T.f__law_stood
  refine ⟨f, fd, hm, F.kp, F.binds (ps := ["well", "house", "edges"]) (fun _ _ _ _ _ _ us hl => match us, hl with | [_, _, _], _ => rfl), F.ok sc__law_stood (fun vs H Q E h => ?_) (fun cdv A outer s H vs Q E hr h => ?_)⟩
  · unfold sp__law_stood at h
    repeat (obtain ⟨_, h⟩ := h)
    subst_vars
    rfl
  · obtain ⟨j, r, e, h, n, b, t, rfl, hj, hn, hN, hS, he, hb, ht, hb90, ht30, q⟩ := h
    have h14 := hN.ok.n14
    have hpos := hN.pos
    have cB := edge_low hb
    have cT := edge_high ht
    have hbt := low_lt hpos hN.ok.n1 cB cT
    refine ⟨_, (pss_cons (ps_set (i := 3) sc__law_stood.nd rfl (by first | exact Or.inl rfl | exact Or.inr rfl) (pe_lst pa_nil))
        (pss_cons (ps_set (i := 4) sc__law_stood.nd rfl (by first | exact Or.inl rfl | exact Or.inr rfl) (pe_ix (kIxT (K := K)) (pv 2) pe_int (fun _ _ => rfl)))
        (pss_cons (ps_for PassesOwn.never rfl (pi_range1 (by rfl) T.b_range (pa_cons (pe_def D__law_pick (hr.mono (by first | decide | omega)) (by rfl) (pa_cons (pv 0) (pa_cons pe_int pa_nil))) pa_nil)) (pg_name (i := 5) sc__law_stood.nd rfl (by first | exact Or.inl rfl | exact Or.inr rfl)) (pss_cons (ps_set (i := 6) sc__law_stood.nd rfl (by first | exact Or.inl rfl | exact Or.inr rfl) (pe_op op_add (pe_ix (kIxT (K := K)) (pv 2) pe_int (fun _ _ => rfl)) (pe_def D__law_pick (hr.mono (by first | decide | omega)) (by rfl) (pa_cons (pv 0) (pa_cons (pe_op op_add (pe_op op_sub (pe_ix (kIxT (K := K)) (pv 2) pe_int (fun _ _ => rfl)) (pe_ix (kIxT (K := K)) (pv 2) pe_int (fun _ _ => rfl))) pe_int) pa_nil)))))
        (pss_cons (ps_set (i := 3) sc__law_stood.nd rfl (by first | exact Or.inl rfl | exact Or.inr rfl) (pe_def D__law_rested (hr.mono (by first | decide | omega)) (by rfl) (pa_cons (pv 1) (pa_cons (pv 3) (pa_cons (pv 6) (pa_cons (pe_cmpR op_ge (pv 6) (pv 4) (nomark _)) pa_nil))))))
        (pss_one (ps_set (i := 4) sc__law_stood.nd rfl (by first | exact Or.inl rfl | exact Or.inr rfl) (pv 6))))))
        (pss_cons (ps_for PassesOwn.never rfl (pi_range1 (by rfl) T.b_range (pa_cons (pe_ix (kIxL (K := K)) (pe_lst (pa_cons pe_int (pa_cons pe_int pa_nil))) (pe_def D__law_pick (hr.mono (by first | decide | omega)) (by rfl) (pa_cons (pv 0) (pa_cons pe_int pa_nil))) (fun _ _ => rfl)) pa_nil)) (pg_name (i := 5) sc__law_stood.nd rfl (by first | exact Or.inl rfl | exact Or.inr rfl)) (pss_cons (ps_setLc (i := 7) (own := [("k", 10)]) (g := (gName 10)) (tt := _)  rfl sc__law_stood.nd rfl rfl (sw_true rfl rfl rfl (by decide +kernel)) (pi_range1 (by rfl) T.b_range (pa_cons (pe_callB (kLen (K := K)) (by rfl) T.b_len (by decide +kernel) (pa_cons (pe_ix (kIxT (K := K)) (pv 1) pe_int (fun _ _ => rfl)) pa_nil)) pa_nil)) (blkOk_by (own := [("k", 10)]) (N := ["well", "house", "edges", "here", "swell", "turn", "far", "some", "low", "high", "k"]) (sc := defScope s__law_stood) (by decide +kernel)) (fun _ _ _ _ _ => (pg_name (i := 10) sc__law_stood.nd rfl (by first | exact Or.inl rfl | exact Or.inr rfl))) (fun _ _ _ _ _ => (pts_one (pt_cmpR op_eq (pe_def D__law_pick (hr.mono (by first | decide | omega)) (by rfl) (pa_cons (pv 0) (pa_cons pe_int pa_nil))) pe_int (nomark _)))) (fun _ _ _ _ _ => (pv 10)))
        (pss_cons (ps_asg (pe_def D__law_span (hr.mono (by first | decide | omega)) (by rfl) (pa_cons (pv 1) (pa_cons (pv 7) pa_nil))) (pg_tupK (K := K) rfl (pgs_cons (pg_name (i := 8) sc__law_stood.nd rfl (by first | exact Or.inl rfl | exact Or.inr rfl)) (pgs_cons (pg_name (i := 9) sc__law_stood.nd rfl (by first | exact Or.inl rfl | exact Or.inr rfl)) pgs_nil))))
        (pss_one (ps_if (pt_cmpR op_le (pv 8) (pv 9) (nomark _)) (pss_one (ps_set (i := 3) sc__law_stood.nd rfl (by first | exact Or.inl rfl | exact Or.inr rfl) (pv 7))) pss_nil)))))
        (pss_one (ps_ret (pv 3))))))), ?_⟩
    change (_ : L2.TS) _ [some _, some _, some _, none, none, none, none, none, none, none, none] _
    (repeat array_get_dec)
    rename_i p0 H1 np0 e1 hp0
    have hj1 := hj.ex e1
    refine ⟨j, _, 6, rfl, hj1, by decide, by decide, by omega, fun d1 H2 d10 d16 e2 j2 => ?_⟩
    have p0j := hj.free np0
    have ej : e ≠ j := fun z => by obtain ⟨_, _, _, q1, _⟩ := hj; rw [z, q1] at he; cases he
    have b2 := e1.exB.trans e2
    have hN2 := hN.ki (hj.ki b2)
    (repeat array_get_dec)
    refine l_forR (m := d1.toNat) (by omega) (by omega) (fun i σ G => ∃ (p : Addr) (c : List Int) (s : Int) (v5 v6 v7 v8 v9 v10 : Option V), σ = [some (.ref j), some (.ref r), some (.ref e), some (.ref p), some (.int s), v5, v6, v7, v8, v9, v10] ∧ p ≠ j ∧ ExB j H G ∧ JarAt G j (n + 1 + (i : Int)) ∧ G p = some (.lst (c.map V.int)) ∧ StOk h.n c ∧ SetAt h c s) ⟨p0, [], b, _, _, _, _, _, _, rfl, p0j, b2, j2.le (by omega), e2 _ _ p0j hp0, nil_ok0 _, low_self hpos cB (Int.le_refl _)⟩ ?_ ?_
    · rintro i σ G hi ⟨p, c, s, v5, v6, v7, v8, v9, v10, rfl, pj, gB, gj, gp, go, gs⟩
      have ge := gB _ _ ej he
      (repeat array_get_dec)
      refine ⟨j, _, _, rfl, gj, by omega, by omega, by omega, fun d2 G1 d20 d21 f1 k1 => ?_⟩
      have gp1 := f1 _ _ pj gp
      have gN1 := hN.ki (hj.ki (gB.trans f1))
      (repeat array_get_dec)
      refine ⟨r, p, h, c, b + d2, decide (s ≤ b + d2), rfl, gN1, gp1, go, fun p2 T G2 np2 f2 hp2 hT => ?_⟩
      (repeat array_get_dec)
      have p2j : p2 ≠ j := np2.elim (fun z => by rw [z]; exact pj) fun z => k1.free z
      exact ⟨p2, T, b + d2, _, _, _, _, _, _, rfl, p2j, (gB.trans f1).trans f2.exB, (k1.ex f2).le (by omega), hp2, hT.ok, leg_settled hpos gs hT⟩
    · rintro σ G ⟨p, c, s, v5, v6, v7, v8, v9, v10, rfl, pj, gB, gj, gp, go, gs⟩
      (repeat array_get_dec)
      rename_i l1 G1 nl1 f1 hl1
      have hl1j := gj.free nl1
      refine ⟨j, _, 2, rfl, gj.ex f1, by decide, by decide, by omega, fun d2 G2 d20 d22 f2 k2 => ?_⟩
      obtain ⟨w2, hw2m, hw2⟩ := pickJ [0, 8] d20 d22
      have hw24 : 0 ≤ w2 ∧ w2 ≤ 8 := by simp at hw2m; omega
      have hw2' : atI [V.int 0, V.int 8] d2 = some (.int w2) := hw2
      have hl12 := f2 _ _ hl1j hl1
      have gB2 := (gB.trans f1.exB).trans f2
      have gp2 := f2 _ _ pj (f1 _ _ gp)
      (repeat array_get_dec)
      refine l_forR (m := w2.toNat) (by omega) (by omega) (fun i σ G => ∃ (p : Addr) (c : List Int) (v4 v5 v6 v7 v8 v9 v10 : Option V), σ = [some (.ref j), some (.ref r), some (.ref e), some (.ref p), v4, v5, v6, v7, v8, v9, v10] ∧ p ≠ j ∧ ExB j H G ∧ JarAt G j (n + 10 + 20 * (i : Int)) ∧ G p = some (.lst (c.map V.int)) ∧ StOk h.n c ∧ ∃ s, SetAt h c s) ⟨p, c, _, _, _, _, _, _, _, rfl, pj, gB2, k2.le (by omega), gp2, go, s, gs⟩ ?_ ?_
      · rintro i σ G hi ⟨p, c, v4, v5, v6, v7, v8, v9, v10, rfl, pj, gB, gj, gp, go, gs⟩
        have gN := hN.ki (hj.ki gB)
        obtain ⟨tp, tl, xs, ys, hel, n1, n2, n3, n4, n5, n6⟩ := gN.ex
        have hxl : xs.length = h.n := n3.1
        (repeat array_get_dec)
        apply lc_drawn (m := h.n) (j := j) (n0 := n + 10 + 20 * (i : Int)) (c := 1) rfl
        · with_reducible repeat (first | exact SetR.z | apply SetR.s)
        · intro v; with_reducible repeat (first | exact SetR.z | apply SetR.s)
        · intro Q2 k
          (repeat array_get_dec)
          rw [hxl]
          exact k
        · omega
        · exact gj
        · intro i2 hi2 H1 e1 j1 Q2 k
          (repeat array_get_dec)
          refine ⟨j, _, 2, rfl, j1, by decide, by decide, by omega, fun d H2 d0 d2 e2 j2 => ?_⟩
          (repeat array_get_dec)
          exact k _ H2 e2 (j2.le (by omega))
        · intro v H2 Q2 k
          exact ⟨_, rfl, k⟩
        intro l2 st G1 nl2 f1 k1 hl2 ho
        have gp1 := f1 _ _ pj gp
        have l2j := gj.free nl2
        (repeat array_get_dec)
        refine ⟨r, l2, h, st, rfl, gN.ki (gj.ki f1), hS, hl2, ho, fun ts lo hi2 G2 f2 hts hsp => ?_⟩
        have gp2 := f2 _ _ gp1
        have gl2 := f2 _ _ hl2
        (repeat array_get_dec)
        by_cases hle : lo ≤ hi2
        · (repeat array_get_dec)
          exact ⟨l2, st, _, _, _, _, _, _, _, rfl, l2j, (gB.trans f1).trans f2.exB, (k1.ex f2).le (by omega), gl2, ho, hsp.rests hS hle⟩
        · (repeat array_get_dec)
          exact ⟨p, c, _, _, _, _, _, _, _, rfl, pj, (gB.trans f1).trans f2.exB, (k1.ex f2).le (by omega), gp2, go, gs⟩
      · rintro σ G ⟨p, c, v4, v5, v6, v7, v8, v9, v10, rfl, pj, gB, gj, gp, go, gs⟩
        (repeat array_get_dec)
        exact q p c G pj gB (gj.le (by omega)) gp go gs

theorem d__law_far {P : Program} {w : World} {K : PySem.W.Frag} {mg : PySem.Str → Option Value} {base : Heap} {C : Addr} (T : Txt K mg C) : Dfn P w K mg base "_law_far" 4 ["house", "here", "edges", "rising"] (sp__law_far K C) := by
  have D__law_rested := d__law_rested (P := P) (w := w) (base := base) T
  have D__law_span := d__law_span (P := P) (w := w) (base := base) T
  obtain ⟨f, fd, F, hm⟩ := T.f__law_far
  refine ⟨f, fd, hm, F.kp, F.binds (ps := ["house", "here", "edges", "rising"]) (fun _ _ _ _ _ _ us hl => match us, hl with | [_, _, _, _], _ => rfl), F.ok sc__law_far (fun vs H Q E h => ?_) (fun cdv A outer s H vs Q E hr h => ?_)⟩
  · unfold sp__law_far at h
    repeat (obtain ⟨_, h⟩ := h)
    subst_vars
    rfl
  · obtain ⟨r, p, e, h, c, b, t, up, rfl, hN, hS, hp, ho, he, hb, ht, hb90, ht30, q1, q2⟩ := h
    have h14 := hN.ok.n14
    have hpos := hN.pos
    have cB := edge_low hb
    have cT := edge_high ht
    have hbt := low_lt hpos hN.ok.n1 cB cT
    refine ⟨_, (pss_cons (ps_asg (pe_def D__law_span (hr.mono (by first | decide | omega)) (by rfl) (pa_cons (pv 0) (pa_cons (pv 1) pa_nil))) (pg_tupK (K := K) rfl (pgs_cons (pg_name (i := 4) sc__law_far.nd rfl (by first | exact Or.inl rfl | exact Or.inr rfl)) (pgs_cons (pg_name (i := 5) sc__law_far.nd rfl (by first | exact Or.inl rfl | exact Or.inr rfl)) pgs_nil))))
        (pss_cons (ps_par (i := 4) (j := 5) (by rfl) sc__law_far.nd rfl rfl (by decide) rfl rfl (pa_cons (pe_callB kMax2 (by rfl) T.b_max (by decide +kernel) (pa_cons (pv 4) (pa_cons (pe_ix (kIxT (K := K)) (pv 2) pe_int (fun _ _ => rfl)) pa_nil))) (pa_cons (pe_callB kMin2 (by rfl) T.b_min (by decide +kernel) (pa_cons (pv 5) (pa_cons (pe_ix (kIxT (K := K)) (pv 2) pe_int (fun _ _ => rfl)) pa_nil))) pa_nil)) (by rfl))
        (Evl.pss_cut (ps_asg (pe_ifExp (pt_val (pv 3)) (pe_tup (pa_cons (pv 5) (pa_cons (pv 4) (pa_cons (pe_ix (kIxT (K := K)) (pv 2) pe_int (fun _ _ => rfl)) (pa_cons pe_int pa_nil))))) (pe_tup (pa_cons (pv 4) (pa_cons (pv 5) (pa_cons (pe_ix (kIxT (K := K)) (pv 2) pe_int (fun _ _ => rfl)) (pa_cons (pe_un un_neg pe_int) pa_nil)))))) (pg_tupK (K := K) rfl (pgs_cons (pg_name (i := 6) sc__law_far.nd rfl (by first | exact Or.inl rfl | exact Or.inr rfl)) (pgs_cons (pg_name (i := 7) sc__law_far.nd rfl (by first | exact Or.inl rfl | exact Or.inr rfl)) (pgs_cons (pg_name (i := 8) sc__law_far.nd rfl (by first | exact Or.inl rfl | exact Or.inr rfl)) (pgs_cons (pg_name (i := 9) sc__law_far.nd rfl (by first | exact Or.inl rfl | exact Or.inr rfl)) pgs_nil))))))
        (pss_cons (ps_set (i := 10) sc__law_far.nd rfl (by first | exact Or.inl rfl | exact Or.inr rfl) pe_non)
        (pss_cons (ps_set (i := 11) sc__law_far.nd rfl (by first | exact Or.inl rfl | exact Or.inr rfl) (pv 1))
        (pss_cons (ps_set (i := 12) sc__law_far.nd rfl (by first | exact Or.inl rfl | exact Or.inr rfl) pe_bl)
        (pss_cons (ps_for PassesOwn.never rfl (pi_range3 (by rfl) T.b_range (pa_cons (pe_op op_add (pv 6) (pv 9)) (pa_cons (pe_op op_add (pv 8) (pv 9)) (pa_cons (pv 9) pa_nil)))) (pg_name (i := 13) sc__law_far.nd rfl (by first | exact Or.inl rfl | exact Or.inr rfl)) (pss_cons (ps_set (i := 14) sc__law_far.nd rfl (by first | exact Or.inl rfl | exact Or.inr rfl) (pe_def D__law_rested (hr.mono (by first | decide | omega)) (by rfl) (pa_cons (pv 0) (pa_cons (pv 11) (pa_cons (pv 13) (pa_cons (pv 3) pa_nil))))))
        (pss_cons (ps_if (pt_cmpR (kNeD (K := K) (units64 hr)) (pv 14) (pv 11) (nomark _)) (pss_one (ps_set (i := 12) sc__law_far.nd rfl (by first | exact Or.inl rfl | exact Or.inr rfl) (pe_cmpR (kEqD (K := K) (units64 hr)) (pe_def D__law_rested (hr.mono (by first | decide | omega)) (by rfl) (pa_cons (pv 0) (pa_cons (pv 14) (pa_cons (pv 7) (pa_cons (pe_not (pv 3)) pa_nil))))) (pv 1) (nomark _)))) pss_nil)
        (pss_cons (ps_set (i := 11) sc__law_far.nd rfl (by first | exact Or.inl rfl | exact Or.inr rfl) (pv 14))
        (pss_one (ps_if (pt_val (pv 12)) (pss_one (ps_set (i := 10) sc__law_far.nd rfl (by first | exact Or.inl rfl | exact Or.inr rfl) (pe_tup (pa_cons (pv 13) (pa_cons (pe_callTy (kTuple (K := K)) (by rfl) T.b_tuple (by decide +kernel) (pa_cons (pv 11) pa_nil)) pa_nil))))) pss_nil))))))
        (pss_one (ps_ret (pv 10)))))))))), ?_⟩
    change (_ : L2.TS) _ [some _, some _, some _, some _, none, none, none, none, none, none, none, none, none, none, none] _
    (repeat array_get_dec)
    refine ⟨r, p, h, c, rfl, hN, hS, hp, ho, fun ts lo hi H1 e1 hts hsp => ?_⟩
    have he1 := e1 _ _ he
    have hp1 := e1 _ _ hp
    (repeat array_get_dec)
    obtain ⟨l1, l2, l3⟩ := hsp.endL cB hb90 ho
    obtain ⟨u1, u2, u3⟩ := hsp.endH cT ht30 ho
    generalize hlo : (if b > lo then b else lo) = lo1 at *
    generalize hhi : (if t < hi then t else hi) = hi1 at *
    refine l_cut (fun σ G => ∃ z back fin : Int, σ = [some (V.ref r), some (V.ref p), some (V.ref e), some (V.bl up), some (V.int lo1), some (V.int hi1), some (V.int z), some (V.int back), some (V.int fin), some (V.int (if up = true then 1 else -1)), none, none, none, none, none] ∧ Ex H1 G ∧ EndU h up c b t z ∧ EndU h (!up) c b t back ∧ fin = (if up = true then t else b) ∧ lev z up ≤ lev fin up ∧ (-90 ≤ z ∧ z ≤ 30)) ?_ ?_
    · cases up with
      | true =>
        (repeat array_get_dec)
        refine ⟨hi1, lo1, t, rfl, by array_mem_dec, u1, l1, rfl, u2, ?_⟩
        omega
      | false =>
        (repeat array_get_dec)
        refine ⟨lo1, hi1, b, rfl, by array_mem_dec, l1, u1, rfl, (show -lo1 ≤ -b by omega), ?_⟩
        split at l3 <;> omega
    · rintro σ G ⟨z, back, fin, rfl, f0, hz, hk, hfin, hle, hzb⟩
      have hmz : sw up z (lev fin up - lev z up).toNat = (if up = true then t else b) := by
        rw [← hfin]
        exact lev_inj (by rw [lev_sw]; omega)
      have hfb : -100 ≤ fin ∧ fin ≤ 100 := by rw [hfin]; split <;> omega
      have rg : RgC (z + (if up = true then 1 else -1)) (fin + (if up = true then 1 else -1)) (if up = true then 1 else -1) (lev fin up - lev z up).toNat := by
        cases up with
        | true =>
          have := RgC.pos (i := z + 1) (j := fin + 1) (by omega) (by omega) (by omega) (by omega)
          rw [show (fin + 1 - (z + 1)).toNat = (lev fin true - lev z true).toNat by unfold lev; simp; omega] at this
          exact this
        | false =>
          have := RgC.neg (i := z + -1) (j := fin + -1) (by omega) (by omega) (by omega) (by omega)
          rw [show (z + -1 - (fin + -1)).toNat = (lev fin false - lev z false).toNat by unfold lev; simp; omega] at this
          exact this
      have hst : ∀ k : Nat, z + (if up = true then 1 else -1) + (k : Int) * (if up = true then 1 else -1) = sw up z (k + 1) := fun k => by
        unfold sw
        cases up <;> simp <;> omega
      generalize hm : (lev fin up - lev z up).toNat = m at *
      have hm1 : (m : Int) = lev fin up - lev z up := by omega
      have hm200 : m ≤ 200 := by unfold lev at hm1; cases up <;> simp at hm1 <;> omega
      have hsb : ∀ k : Nat, k ≤ m → -90 ≤ sw up z k ∧ sw up z k ≤ 30 := fun k hk => by
        unfold sw
        unfold lev at hm1
        cases up <;> simp at hm1 hfin ⊢ <;> omega
      have e01 := e1.trans f0
      have gN := hN.ki e01.ki
      (repeat array_get_dec)
      refine l_forC (n := m) rg (fun i σ G2 => ∃ (p2 : Addr) (X : List Int) (fv : V) (fo : Option (Nat × List Int)) (cm : Bool) (v13 v14 : Option V), σ = [some (V.ref r), some (V.ref p), some (V.ref e), some (V.bl up), some (V.int lo1), some (V.int hi1), some (V.int z), some (V.int back), some (V.int fin), some (V.int (if up = true then 1 else -1)), some fv, some (.ref p2), some (.bl cm), v13, v14] ∧ Ex G G2 ∧ G2 p2 = some (.lst (X.map V.int)) ∧ Clo h (sw up z i) up c X ∧ (cm = true ↔ X ≠ c ∧ Clo h back (!up) X c) ∧ foundV G2 up z fv fo ∧ FoundI h c up back z i fo) ⟨p, c, .non, none, false, _, _, rfl, Ex.rfl, f0 _ _ hp1, ?_, ?_, rfl, fun k' a1 a2 => by omega⟩ ?_ ?_
      · rw [show sw up z 0 = z from by unfold sw; cases up <;> simp]
        exact Clo.self ho (begin_no hz)
      · simp
      · rintro i σ G2 hi ⟨p2, X, fv, fo, cm, v13, v14, rfl, g0, gp, gX, gcm, gf, gF⟩
        have gp0 := (f0.trans g0) _ _ hp1
        rw [hst]
        (repeat array_get_dec)
        refine ⟨r, p2, h, X, sw up z (i + 1), up, rfl, gN.ki g0.ki, gp, gX.ok, fun p3 T G3 np3 f3 hp3 hT => ?_⟩
        have hT' : Clo h (sw up z (i + 1)) up c T := clo_comp (swLe_lev.mpr (by rw [lev_sw, lev_sw]; omega)) gX hT
        have gp3 := f3 _ _ gp
        have gp03 := f3 _ _ gp0
        have e03 := g0.trans f3
        (repeat array_get_dec)
        by_cases hTX : T = X
        · have hcm : cm = true ↔ T ≠ c ∧ Clo h back (!up) T c := by rw [hTX]; exact gcm
          (repeat array_get_dec)
          cases cm with
          | true =>
            have hh := hcm.mp rfl
            (repeat array_get_dec)
            rename_i tX G4 ntX f4 htX T2 G5 nT2 f5 hT2
            exact ⟨p3, T, .ref T2, some (i + 1, T), true, _, _, rfl, by array_mem_dec, by sizeOf_list_dec, hT', hcm, ⟨T2, tX, rfl, hT2, f5 _ _ htX⟩, FoundI.new hT' hh.1 hh.2⟩
          | false =>
            (repeat array_get_dec)
            exact ⟨p3, T, fv, fo, false, _, _, rfl, e03, hp3, hT', hcm, gf.ex f3, gF.keep hT' fun a1 a2 => nomatch hcm.mpr ⟨a1, a2⟩⟩
        · have hTc : T ≠ c := fun z => hTX (Lq.eq hT.ok gX.ok (by rw [z]; exact gX.ge) hT.ge)
          (repeat array_get_dec)
          refine ⟨r, p3, h, T, back, !up, rfl, (gN.ki g0.ki).ki f3.ki, hp3, hT.ok, fun p4 W G4 np4 f4 hp4 hW => ?_⟩
          have gp04 := f4 _ _ gp03
          have hp34 := f4 _ _ hp3
          have hcm : decide (W = c) = true ↔ T ≠ c ∧ Clo h back (!up) T c := by
            rw [decide_eq_true_eq]
            exact ⟨fun z => ⟨hTc, by rw [← z]; exact hW⟩, fun z => Clo.uniq hW z.2⟩
          (repeat array_get_dec)
          by_cases hWc : W = c
          · have hh := hcm.mp (decide_eq_true hWc)
            (repeat array_get_dec)
            rename_i tX G5 ntX f5 htX T2 G6 nT2 f6 hT2
            exact ⟨p3, T, .ref T2, some (i + 1, T), _, _, _, rfl, by array_mem_dec, by sizeOf_list_dec, hT', hcm, ⟨T2, tX, rfl, hT2, f6 _ _ htX⟩, FoundI.new hT' hh.1 hh.2⟩
          · (repeat array_get_dec)
            exact ⟨p3, T, fv, fo, _, _, _, rfl, e03.trans f4, hp34, hT', hcm, (gf.ex f3).ex f4, gF.keep hT' fun a1 a2 => hWc (Clo.uniq hW a2)⟩
      · rintro σ G2 ⟨p2, X, fv, fo, cm, v13, v14, rfl, g0, gp, gX, gcm, gf, gF⟩
        (repeat array_get_dec)
        match fo, gf, gF with
        | none, gf, gF =>
          cases (show fv = .non from gf)
          exact q1 back G2 hk (found_none cB cT hpos ho hz hmz gF) (e01.trans g0)
        | some (k0, X0), ⟨T, tX, h1, h2, h3⟩, gF =>
          subst h1
          exact q2 back (sw up z k0) X0 T tX G2 hk (found_some cB cT hpos ho hz hmz gF) gF.2.2.2.1.ok (hsb k0 gF.2.1).1 (hsb k0 gF.2.1).2 (e01.trans g0) h2 h3

theorem d__law_widened {P : Program} {w : World} {K : PySem.W.Frag} {mg : PySem.Str → Option Value} {base : Heap} {C : Addr} (T : Txt K mg C) : Dfn P w K mg base "_law_widened" 5 ["house", "here", "edges", "rising"] (sp__law_widened K C) := by
  have D__law_far := d__law_far (P := P) (w := w) (base := base) T
  obtain ⟨f, fd, F, hm⟩ := T.f__law_widened
  refine ⟨f, fd, hm, F.kp, F.binds (ps := ["house", "here", "edges", "rising"]) (fun _ _ _ _ _ _ us hl => match us, hl with | [_, _, _, _], _ => rfl), F.ok sc__law_widened (fun vs H Q E h => ?_) (fun cdv A outer s H vs Q E hr h => ?_)⟩
  · unfold sp__law_widened at h
    repeat (obtain ⟨_, h⟩ := h)
    subst_vars
    rfl
  · obtain ⟨r, p, e, h, c, b, t, up, rfl, hN, hS, hp, ho, hs, he, hb, ht, hb90, ht30, q⟩ := h
    have h14 := hN.ok.n14
    have hpos := hN.pos
    have hn8 := hS.n8
    have cB := edge_low hb
    have cT := edge_high ht
    obtain ⟨tp, tl, lxs, lys, lhel, n1, n2, n3, n4, n5, n6⟩ := hN.ex
    have hxl : lxs.length = h.n := n3.1
    refine ⟨_, (pss_cons (ps_set (i := 4) sc__law_widened.nd rfl (by first | exact Or.inl rfl | exact Or.inr rfl) (pe_lst pa_nil))
        (pss_cons (ps_set (i := 5) sc__law_widened.nd rfl (by first | exact Or.inl rfl | exact Or.inr rfl) pe_bl)
        (pss_cons (ps_for PassesOwn.never rfl (pi_range1 (by rfl) T.b_range (pa_cons (pe_op op_add (pe_op op_mul pe_int (pe_callB (kLen (K := K)) (by rfl) T.b_len (by decide +kernel) (pa_cons (pe_ix (kIxT (K := K)) (pv 0) pe_int (fun _ _ => rfl)) pa_nil))) pe_int) pa_nil)) (pg_name (i := 6) sc__law_widened.nd rfl (by first | exact Or.inl rfl | exact Or.inr rfl)) (pss_cons (ps_set (i := 7) sc__law_widened.nd rfl (by first | exact Or.inl rfl | exact Or.inr rfl) (pe_ifExp (pt_val (pv 5)) (pe_def D__law_far (hr.mono (by first | decide | omega)) (by rfl) (pa_cons (pv 0) (pa_cons (pv 1) (pa_cons (pv 2) (pa_cons (pv 3) pa_nil))))) pe_non))
        (Evl.pss_cut (ps_if (PW.pt (pw_or (pt_cmpR op_isN (pv 7) pe_non (nomark _)) (pw_or1 (PW.pt (pw_and (pt_cmpR op_gt (pe_callB (kLen (K := K)) (by rfl) T.b_len (by decide +kernel) (pa_cons (pv 4) pa_nil)) pe_int (nomark _)) (pw_and1 (pt_cmpR op_le (pe_op op_mul (pe_op op_sub (pe_ix (kIxT (K := K)) (pe_ix (kIxL (K := K)) (pv 4) (pe_un un_neg pe_int) (fun _ _ => rfl)) pe_int (fun _ _ => rfl)) (pe_ix (kIxT (K := K)) (pv 7) pe_int (fun _ _ => rfl))) (pe_ix (kIxL (K := K)) (pe_lst (pa_cons pe_int (pa_cons (pe_un un_neg pe_int) pa_nil))) (pe_callTy call_int1 (by rfl) T.b_int (by decide +kernel) (pa_cons (pv 3) pa_nil)) (fun _ _ => rfl))) pe_int (nomark _)))))))) (pss_one (ps_set (i := 5) sc__law_widened.nd rfl (by first | exact Or.inl rfl | exact Or.inr rfl) pe_bl)) pss_nil)
        (pss_one (ps_if (pt_val (pv 5)) (pss_cons (ps_expr (kBm (K := K) PySem.F.plainAttrs_list PySem.F.slot_list_append PySem.F.type_list_append mt_append (pv 4) (pa_cons (pv 7) pa_nil)))
        (pss_cons (ps_set (i := 1) sc__law_widened.nd rfl (by first | exact Or.inl rfl | exact Or.inr rfl) (pe_callTy (kList (K := K)) (by rfl) T.b_list (by decide +kernel) (pa_cons (pe_ix (kIxT (K := K)) (pv 7) pe_int (fun _ _ => rfl)) pa_nil)))
        (pss_one (ps_set (i := 3) sc__law_widened.nd rfl (by first | exact Or.inl rfl | exact Or.inr rfl) (pe_not (pv 3)))))) pss_nil)))))
        (pss_one (ps_ret (pv 4)))))), ?_⟩
    change (_ : L2.TS) _ [some _, some _, some _, some _, none, none, none, none] _
    (repeat array_get_dec)
    rename_i l H1 nl e1 hl
    rw [hxl]
    refine l_forR (m := 4 * h.n + 4) (by omega) (by omega) (fun i σ G => ∃ (p1 : Addr) (up1 go : Bool) (rs : List (Int × List Int)) (c1 : List Int) (xs : List V) (v6 v7 : Option V), σ = [some (.ref r), some (.ref p1), some (.ref e), some (.bl up1), some (.ref l), some (.bl go), v6, v7] ∧ Ex H G ∧ G p1 = some (.lst (c1.map V.int)) ∧ p1 ≠ l ∧ G l = some (.lst xs) ∧ Al (StepV K G) xs rs.reverse ∧ Wid h b t c up rs c1 up1 ∧ (go = true → rs.length = i) ∧ (go = false → Done h b t rs c1 up1) ∧ (∀ g ∈ rs, -90 ≤ g.1 ∧ g.1 ≤ 30)) ⟨p, up, true, [], c, [], none, none, rfl, e1, by sizeOf_list_dec, (ne_of_none hp nl), hl, Al.nil, .nil, fun _ => rfl, (fun z => nomatch z), (fun _ z => nomatch z)⟩ ?_ ?_
    · rintro i σ G hi ⟨p1, up1, go, rs, c1, xs, v6, v7, rfl, g0, gp, gpl, gl, gal, gw, ggo, gdn, gsm⟩
      have gI := gw.inv hpos cB cT ho hs
      have glen := gI.len
      have hx2 : xs.length = rs.length := by rw [gal.1, List.length_reverse]
      cases go with
      | false =>
        (repeat array_get_dec)
        refine l_cut (fun σ2 G2 => σ2 = [some (.ref r), some (.ref p1), some (.ref e), some (.bl up1), some (.ref l), some (.bl false), some (.int (i : Int)), some .non] ∧ G2 = G) ?_ ?_
        · (repeat array_get_dec)
          rfl
        · rintro σ2 G2 ⟨rfl, rfl⟩
          (repeat array_get_dec)
          exact ⟨p1, up1, false, rs, c1, xs, _, _, rfl, g0, gp, gpl, gl, gal, gw, (fun z => nomatch z), gdn, gsm⟩
      | true =>
        (repeat array_get_dec)
        refine ⟨r, p1, e, h, c1, b, t, up1, rfl, hN.ki g0.ki, hS, gp, gI.ok, g0 _ _ he, hb, ht, hb90, ht30, fun back H2 hE hF e2 => ?_, fun back s X T tX H2 hE hF hoX s1 s2 e2 hT htX => ?_⟩
        · (repeat array_get_dec)
          refine l_cut (fun σ2 G2 => σ2 = [some (.ref r), some (.ref p1), some (.ref e), some (.bl up1), some (.ref l), some (.bl false), some (.int (i : Int)), some .non] ∧ G2 = H2) ?_ ?_
          · (repeat array_get_dec)
            rfl
          · rintro σ2 G2 ⟨rfl, rfl⟩
            (repeat array_get_dec)
            exact ⟨p1, up1, false, rs, c1, xs, _, _, rfl, g0.trans e2, e2 _ _ gp, gpl, e2 _ _ gl, gal.imp fun _ _ z => z.ki e2.ki, gw, (fun z => nomatch z), fun _ => ⟨none, ⟨back, hE, hF⟩, fun _ _ z => nomatch z⟩, gsm⟩
        · have gf : FarO h c1 b t up1 (some (s, X)) := ⟨back, hE, hF⟩
          have hrl : rs.length = i := ggo rfl
          have gl2 := e2 _ _ gl
          have gal2 := gal.imp fun _ _ z => StepV.ki z e2.ki
          (repeat array_get_dec)
          refine l_cut (fun σ2 G2 => ∃ go2 : Bool, σ2 = [some (.ref r), some (.ref p1), some (.ref e), some (.bl up1), some (.ref l), some (.bl go2), some (.int (i : Int)), some (.ref T)] ∧ Ex H2 G2 ∧ (go2 = true ↔ GoOn rs up1 s)) ?_ ?_
          · by_cases hl2 : rs.length < 2
            · have hx3 : ¬ (xs.length : Int) > 1 := by omega
              (repeat array_get_dec)
              exact ⟨true, rfl, Ex.rfl, fun _ => .short hl2, fun _ => rfl⟩
            · have hx3 : (xs.length : Int) > 1 := by omega
              obtain ⟨⟨s1', X1⟩, ⟨s2', X2⟩, r2, rfl⟩ : ∃ g1 g2 r2, rs = g1 :: g2 :: r2 := by
                match rs, hl2 with
                | g1 :: g2 :: r2, _ => exact ⟨g1, g2, r2, rfl⟩
                | [_], h => exact absurd (by simp) h
                | [], h => exact absurd (by simp) h
              have hx4 : xs.length = r2.length + 2 := by rw [hx2]; rfl
              obtain ⟨y, hy, T2, t2, rfl, hT2, ht2⟩ := gal2.get' (i := r2.length) (a := (s2', X2)) (by simp)
              have hat : atI xs (-2) = some (.ref T2) := by
                unfold atI ixN
                rw [if_neg (by omega), if_pos (by omega)]
                show xs[((xs.length : Int) + -2).toNat]? = _
                rw [show ((xs.length : Int) + -2).toNat = r2.length by omega]
                exact hy
              have b2 := gsm (s2', X2) (by simp)
              cases up1 with
              | true =>
                have a1 : atI [V.int 1, V.int (-1)] 1 = some (V.int (-1)) := rfl
                (repeat array_get_dec)
                refine .inr ⟨true, rfl, ?_⟩
                show rIxL K _ (V.int 1) _ _
                (repeat array_get_dec)
                rename_i l4 H4 nl4 e4 hl4
                by_cases hc : (s2' - s) * (-1) ≤ 0
                · (repeat array_get_dec)
                  exact ⟨false, rfl, e4, (fun z => nomatch z), fun z => absurd (show s2' < s from z) (by omega)⟩
                · (repeat array_get_dec)
                  exact ⟨true, rfl, e4, fun _ => (show s2' < s by omega), fun _ => rfl⟩
              | false =>
                have a1 : atI [V.int 1, V.int (-1)] 0 = some (V.int 1) := rfl
                (repeat array_get_dec)
                refine .inr ⟨false, rfl, ?_⟩
                show rIxL K _ (V.int 0) _ _
                (repeat array_get_dec)
                rename_i l4 H4 nl4 e4 hl4
                by_cases hc : (s2' - s) * 1 ≤ 0
                · (repeat array_get_dec)
                  exact ⟨false, rfl, e4, (fun z => nomatch z), fun z => absurd (show -s2' < -s from z) (by omega)⟩
                · (repeat array_get_dec)
                  exact ⟨true, rfl, e4, fun _ => (show -s2' < -s by omega), fun _ => rfl⟩
          · rintro σ2 G2 ⟨go2, rfl, f2, hgo⟩
            cases go2 with
            | false =>
              (repeat array_get_dec)
              have ng : ¬ GoOn rs up1 s := fun z => nomatch hgo.mpr z
              have e3 := e2.trans f2
              exact ⟨p1, up1, false, rs, c1, xs, _, _, rfl, g0.trans e3, e3 _ _ gp, gpl, e3 _ _ gl, gal.imp fun _ _ z => z.ki e3.ki, gw, (fun z => nomatch z), fun _ => ⟨_, gf, fun s' X' z => by cases z; exact ng⟩, gsm⟩
            | true =>
              have gg := hgo.mp rfl
              have e3 := e2.trans f2
              have gl3 := e3 _ _ gl
              (repeat array_get_dec)
              rename_i G3 f3 gl4
              have ki3 := f3.ki gl3
              have hT3 := Ki.tup ki3 (f2 _ _ hT)
              have htX3 := Ki.tup ki3 (f2 _ _ htX)
              (repeat array_get_dec)
              rename_i p4 G4 np4 f4 gp4
              have gE : Ex H G3 := fun b2 o2 hb2 => f3 b2 o2 (fun z => by rw [z, nl] at hb2; cases hb2) ((g0.trans e3) b2 o2 hb2)
              have gl5 := f4 _ _ gl4
              refine ⟨p4, !up1, true, (s, X) :: rs, X, xs ++ [V.ref T], _, _, rfl, gE.trans f4, gp4, (ne_of_none gl4 np4).symm, gl5, ?_, .step gw gf gg, fun _ => by rw [List.length_cons, hrl], (fun z => nomatch z), fun g hg => ?_⟩
              · rw [List.reverse_cons]
                exact (gal.imp fun _ _ z => ((z.ki e3.ki).ki ki3).ki f4.ki).snoc ⟨T, tX, rfl, f4 _ _ hT3, .of (f4 _ _ htX3)⟩
              · rcases List.mem_cons.mp hg with rfl | hg
                · exact ⟨s1, s2⟩
                · exact gsm g hg
    · rintro σ G ⟨p1, up1, go, rs, c1, xs, v6, v7, rfl, g0, gp, gpl, gl, gal, gw, ggo, gdn, gsm⟩
      have glen := (gw.inv hpos cB cT ho hs).len
      (repeat array_get_dec)
      cases go with
      | false => exact q l xs rs c1 up1 G nl g0 gl gal gw (gdn rfl) gsm
      | true =>
        have := ggo rfl
        omega

theorem d_are_crossed {P : Program} {w : World} {K : PySem.W.Frag} {mg : PySem.Str → Option Value} {base : Heap} {C : Addr} (T : Txt K mg C) : Dfn P w K mg base "are_crossed" 1 ["low", "high"] (sp_are_crossed K C) := by
  obtain ⟨f, fd, F, hm⟩ := T.f_are_crossed
  refine ⟨f, fd, hm, F.kp, F.binds (ps := ["low", "high"]) (fun _ _ _ _ _ _ us hl => match us, hl with | [_, _], _ => rfl), F.ok sc_are_crossed (fun vs H Q E h => ?_) (fun cdv A outer s H vs Q E hr h => ?_)⟩
  · unfold sp_are_crossed at h
    repeat (obtain ⟨_, h⟩ := h)
    subst_vars
    rfl
  · obtain ⟨lo, hi, rfl, q⟩ := h
    refine ⟨_, (pss_one (ps_ret (pe_and (pe_cmpR op_notN (pv 0) pe_non (nomark _)) (pe_and (pe_cmpR op_notN (pv 1) pe_non (nomark _)) (pe_one (pe_cmpR op_gt (pv 0) (pv 1) (nomark _))))))), ?_⟩
    change (_ : L2.TS) _ [some _, some _] _
    cases lo with
    | none =>
      have en : decide (optV none = V.non) = true := rfl
      (repeat array_get_dec)
      exact q
    | some x =>
      have en : decide (optV (some x) = V.non) = false := rfl
      cases hi with
      | none =>
        have en2 : decide (optV none = V.non) = true := rfl
        (repeat array_get_dec)
        exact q
      | some y =>
        have en2 : decide (optV (some y) = V.non) = false := rfl
        (repeat array_get_dec)
        show rI0 _ (V.int x) (V.int y) _ _
        (repeat array_get_dec)
        exact q

theorem d_House___len__ {P : Program} {w : World} {K : PySem.W.Frag} {mg : PySem.Str → Option Value} {base : Heap} {C : Addr} (T : Txt K mg C) : Mtd P w K mg base C "__len__" 1 ["self"] (sp_House___len__ K C) := by
  obtain ⟨f, fd, F, hm⟩ := T.f_House___len__
  refine ⟨f, fd, hm, F.binds (ps := ["self"]) (fun _ _ _ _ _ _ us hl => match us, hl with | [_], _ => rfl), F.ok sc_House___len__ (fun vs H Q E h => ?_) (fun cdv A outer s H vs Q E hr h => ?_)⟩
  · unfold sp_House___len__ at h
    repeat (obtain ⟨_, h⟩ := h)
    subst_vars
    rfl
  · obtain ⟨a, h, rfl, hv, q⟩ := h
    obtain ⟨dx, fs, tl, tm, tr, tn, th, h1, h2, l1, l2, l3, l4, l5, ⟨xl, h3, h4⟩, _⟩ := hv.ob
    have tcls := T.cls
    have tn1 := T.n_latches
    have tn2 := T.n_marks
    have tn3 := T.n_rows
    have tn4 := T.n_numbers
    have tn5 := T.n_helps
    refine ⟨_, (pss_one (ps_ret (pe_callB (kLen (K := K)) (by rfl) T.b_len (by decide +kernel) (pa_cons (kFld (K := K) (pv 0) rfl) pa_nil)))), ?_⟩
    change (_ : L2.TS) _ [some _] _
    (repeat array_get_dec)
    rw [h4.1]
    exact q

theorem d_is_rising {P : Program} {w : World} {K : PySem.W.Frag} {mg : PySem.Str → Option Value} {base : Heap} {C : Addr} (T : Txt K mg C) : Dfn P w K mg base "is_rising" 1 ["thing"] (sp_is_rising K C) := by
  obtain ⟨f, fd, F, hm⟩ := T.f_is_rising
  refine ⟨f, fd, hm, F.kp, F.binds (ps := ["thing"]) (fun _ _ _ _ _ _ us hl => match us, hl with | [_], _ => rfl), F.ok sc_is_rising (fun vs H Q E h => ?_) (fun cdv A outer s H vs Q E hr h => ?_)⟩
  · rcases h with ⟨_, _, rfl, _⟩ | ⟨_, _, rfl, _⟩ <;> rfl
  · rcases h with ⟨a, xs, rfl, hx1, hsm, q⟩ | ⟨x, n, rfl, hs, hn, q⟩
    · refine ⟨_, (pss_cons (ps_if (pt_not (pt_val (pe_callB (kIsi (K := K)) (by rfl) T.b_isinstance (by decide +kernel) (pa_cons (pv 0) (pa_cons (pe_bltn (v := .ty "tuple") (u := .type "tuple") (by rfl) T.b_tuple (by decide +kernel) rfl) pa_nil))))) (pss_one (ps_ret pe_bl)) pss_nil)
          (pss_cons (ps_set (i := 1) sc_is_rising.nd rfl (by first | exact Or.inl rfl | exact Or.inr rfl) (pe_un un_neg pe_int))
          (pss_cons (ps_for PassesOwn.never rfl (pi_tupK (K := K) (pv 0)) (pg_name (i := 2) sc_is_rising.nd rfl (by first | exact Or.inl rfl | exact Or.inr rfl)) (pss_cons (ps_if (PW.pt (pw_or (pt_not (pt_val (pe_callB (kIsi (K := K)) (by rfl) T.b_isinstance (by decide +kernel) (pa_cons (pv 2) (pa_cons (pe_bltn (v := .ty "int") (u := .type "int") (by rfl) T.b_int (by decide +kernel) rfl) pa_nil))))) (pw_or (pt_cmpR op_isB (pv 2) pe_bl (nomark _)) (pw_or (pt_cmpR op_isB (pv 2) pe_bl (nomark _)) (pw_or1 (pt_cmpR op_le (pv 2) (pv 1) (nomark _))))))) (pss_one (ps_ret pe_bl)) pss_nil)
          (pss_one (ps_set (i := 1) sc_is_rising.nd rfl (by first | exact Or.inl rfl | exact Or.inr rfl) (pv 2)))))
          (pss_one (ps_ret pe_bl))))), ?_⟩
      change (_ : L2.TS) _ [some _, none, none] _
      (repeat array_get_dec)
      refine l_forT (xs := xs) (fun i σ H' => ∃ (l : Int) (v : Option V), σ = [some (.ref a), some (.int l), v] ∧ H' = H ∧ riseL (-1) xs = riseL l (xs.drop i)) hx1 ⟨-1, none, rfl, rfl, rfl⟩ ?_ ?_ ?_
      · rintro i σ H' ⟨l, v, rfl, rfl, er⟩; exact hx1
      · rintro i y σ H' hi ⟨l, v, rfl, rfl, er⟩
        obtain ⟨n, hy⟩ := hsm y (List.mem_of_getElem? hi)
        have ed : xs.drop i = y :: xs.drop (i + 1) := by
          obtain ⟨h1, h2⟩ := List.getElem?_eq_some_iff.mp hi
          rw [← h2]
          exact List.drop_eq_getElem_cons h1
        rw [ed] at er
        cases hy with
        | int j =>
          have er' : riseL (-1) xs = (decide (l < j) && riseL j (xs.drop (i + 1))) := er
          (repeat array_get_dec)
          refine s_dec (fun hl => ?_) (fun hl => ?_)
          · rw [er', decide_eq_false (show ¬ l < j by omega), Bool.false_and] at q
            (repeat array_get_dec)
            exact q
          · (repeat array_get_dec)
            rw [er', decide_eq_true (show l < j by omega), Bool.true_and]
        | non =>
          have er' : riseL (-1) xs = false := er
          rw [er'] at q
          (repeat array_get_dec)
          exact q
        | str z =>
          have er' : riseL (-1) xs = false := er
          rw [er'] at q
          (repeat array_get_dec)
          exact q
        | bl b =>
          have er' : riseL (-1) xs = false := er
          rw [er'] at q
          cases b
          · (repeat array_get_dec)
            exact q
          · (repeat array_get_dec)
            exact q
        | lst hl =>
          have er' : riseL (-1) xs = false := er
          rw [er'] at q
          (repeat array_get_dec)
          exact q
        | tup hl =>
          have er' : riseL (-1) xs = false := er
          rw [er'] at q
          (repeat array_get_dec)
          exact q
        | dic hl =>
          have er' : riseL (-1) xs = false := er
          rw [er'] at q
          (repeat array_get_dec)
          exact q
      · rintro σ H' ⟨l, v, rfl, rfl, er⟩
        have er' : riseL (-1) xs = true := by rw [er, List.drop_length]; rfl
        rw [er'] at q
        (repeat array_get_dec)
        exact q
    · refine ⟨_, (pss_cons (ps_if (pt_not (pt_val (pe_callB (kIsi (K := K)) (by rfl) T.b_isinstance (by decide +kernel) (pa_cons (pv 0) (pa_cons (pe_bltn (v := .ty "tuple") (u := .type "tuple") (by rfl) T.b_tuple (by decide +kernel) rfl) pa_nil))))) (pss_one (ps_ret pe_bl)) pss_nil)
          (pss_cons (ps_set (i := 1) sc_is_rising.nd rfl (by first | exact Or.inl rfl | exact Or.inr rfl) (pe_un un_neg pe_int))
          (pss_cons (ps_for PassesOwn.never rfl (pi_tupK (K := K) (pv 0)) (pg_name (i := 2) sc_is_rising.nd rfl (by first | exact Or.inl rfl | exact Or.inr rfl)) (pss_cons (ps_if (PW.pt (pw_or (pt_not (pt_val (pe_callB (kIsi (K := K)) (by rfl) T.b_isinstance (by decide +kernel) (pa_cons (pv 2) (pa_cons (pe_bltn (v := .ty "int") (u := .type "int") (by rfl) T.b_int (by decide +kernel) rfl) pa_nil))))) (pw_or (pt_cmpR op_isB (pv 2) pe_bl (nomark _)) (pw_or (pt_cmpR op_isB (pv 2) pe_bl (nomark _)) (pw_or1 (pt_cmpR op_le (pv 2) (pv 1) (nomark _))))))) (pss_one (ps_ret pe_bl)) pss_nil)
          (pss_one (ps_set (i := 1) sc_is_rising.nd rfl (by first | exact Or.inl rfl | exact Or.inr rfl) (pv 2)))))
          (pss_one (ps_ret pe_bl))))), ?_⟩
      change (_ : L2.TS) _ [some _, none, none] _
      cases hs with
      | tup hl => exact absurd rfl hn
      | int j => (repeat array_get_dec); exact q
      | non => (repeat array_get_dec); exact q
      | str z => (repeat array_get_dec); exact q
      | bl b => (repeat array_get_dec); exact q
      | lst hl => (repeat array_get_dec); exact q
      | dic hl => (repeat array_get_dec); exact q

theorem d_is_rising_below {P : Program} {w : World} {K : PySem.W.Frag} {mg : PySem.Str → Option Value} {base : Heap} {C : Addr} (T : Txt K mg C) : Dfn P w K mg base "is_rising_below" 2 ["thing", "many"] (sp_is_rising_below K C) := by
  have D_is_rising := d_is_rising (P := P) (w := w) (base := base) T
  obtain ⟨f, fd, F, hm⟩ := T.f_is_rising_below
  refine ⟨f, fd, hm, F.kp, F.binds (ps := ["thing", "many"]) (fun _ _ _ _ _ _ us hl => match us, hl with | [_, _], _ => rfl), F.ok sc_is_rising_below (fun vs H Q E h => ?_) (fun cdv A outer s H vs Q E hr h => ?_)⟩
  · rcases h with ⟨_, _, _, rfl, _⟩ | ⟨_, _, _, rfl, _⟩ <;> rfl
  · rcases h with ⟨a, xs, n, rfl, hxw, hsm, q⟩ | ⟨x, n, m, rfl, hs, hn, q⟩
    · refine ⟨_, (pss_one (ps_ret (pe_and (pe_def D_is_rising (hr.mono (by first | decide | omega)) (by rfl) (pa_cons (pv 0) pa_nil)) (pe_one (pe_or (pe_cmpR op_eq (pe_callB (kLen (K := K)) (by rfl) T.b_len (by decide +kernel) (pa_cons (pv 0) pa_nil)) pe_int (nomark _)) (pe_one (pe_cmpR op_lt (pe_ix (kIxT (K := K)) (pv 0) (pe_un un_neg pe_int) (fun _ _ => rfl)) (pv 1) (nomark _)))))))), ?_⟩
      refine ⟨_, rfl, .inl ⟨a, xs, rfl, hxw, hsm, _, rfl, ?_⟩⟩
      cases hr1 : riseL (-1) xs with
      | false =>
        rw [hr1, Bool.false_and] at q
        exact iteF q
      | true =>
        rw [hr1, Bool.true_and] at q
        refine iteT ⟨_, rfl, a, xs, rfl, .inr hxw, rfl, _, rfl, ?_⟩
        by_cases h0 : xs = []
        · subst h0
          rw [show decide (V.int (([] : List V).length : Int) = V.int 0) = true from by decide]
          exact iteT q
        · have e0 : decide (V.int (xs.length : Int) = V.int 0) = false := decide_eq_false (fun z => by
            have := V.int.inj z
            exact h0 (List.length_eq_zero_iff.mp (by omega)))
          rw [e0]
          obtain ⟨y, hy⟩ : ∃ y, xs.getLast? = some y := ⟨xs.getLast h0, List.getLast?_eq_getLast h0⟩
          obtain ⟨i, rfl⟩ := riseL_last _ _ hr1 y hy
          have hz : xs = xs.dropLast ++ [.int i] := by
            have := List.dropLast_concat_getLast h0
            rw [List.getLast?_eq_getLast h0] at hy
            rw [← Option.some.inj hy, this]
          have gl : atI xs (-1) = some (.int i) := by
            rw [hz]
            exact atI_last _ _
          refine iteF ⟨_, rfl, _, rfl, a, xs, _, _, rfl, rfl, hxw, gl, _, rfl, _, _, rfl, rfl, ?_⟩
          unfold lastB at q
          rw [hy] at q
          exact q
    · refine ⟨_, (pss_one (ps_ret (pe_and (pe_def D_is_rising (hr.mono (by first | decide | omega)) (by rfl) (pa_cons (pv 0) pa_nil)) (pe_one (pe_or (pe_cmpR op_eq (pe_callB (kLen (K := K)) (by rfl) T.b_len (by decide +kernel) (pa_cons (pv 0) pa_nil)) pe_int (nomark _)) (pe_one (pe_cmpR op_lt (pe_ix (kIxT (K := K)) (pv 0) (pe_un un_neg pe_int) (fun _ _ => rfl)) (pv 1) (nomark _)))))))), ?_⟩
      exact ⟨_, rfl, .inr ⟨x, n, rfl, hs, hn, _, rfl, iteF q⟩⟩

theorem d_check_stand {P : Program} {w : World} {K : PySem.W.Frag} {mg : PySem.Str → Option Value} {base : Heap} {C : Addr} (T : Txt K mg C) : Dfn P w K mg base "check_stand" 3 ["house", "stand"] (sp_check_stand K C) := by
  have D_House___len__ := d_House___len__ (P := P) (w := w) (base := base) T
  have D_is_rising_below := d_is_rising_below (P := P) (w := w) (base := base) T
  obtain ⟨f, fd, F, hm⟩ := T.f_check_stand
  refine ⟨f, fd, hm, F.kp, F.binds (ps := ["house", "stand"]) (fun _ _ _ _ _ _ us hl => match us, hl with | [_, _], _ => rfl), F.ok sc_check_stand (fun vs H Q E h => ?_) (fun cdv A outer s H vs Q E hr h => ?_)⟩
  · unfold sp_check_stand at h
    repeat (obtain ⟨_, h⟩ := h)
    subst_vars
    rfl
  · obtain ⟨a, h, t, st, rfl, hv, hst, ho, q⟩ := h
    obtain ⟨dx, tl, th, tn, xl, xh, xn, h1, _⟩ := hv.ob
    refine ⟨_, (pss_one (ps_if (pt_not (pt_val (pe_def D_is_rising_below (hr.mono (by first | decide | omega)) (by rfl) (pa_cons (pv 1) (pa_cons (pe_lenO D_House___len__ (hr.mono (by first | decide | omega)) (by rfl) T.b_len (pa_cons (pv 0) pa_nil)) pa_nil))))) (pss_one ps_never) pss_nil)), ?_⟩
    refine ⟨_, rfl, _, rfl, a, dx, _, rfl, h1, a, h, rfl, hv, _, rfl, ⟨by omega, by have := hv.ok.n14; omega⟩, .inl ⟨t, _, _, rfl, hst, sml_ints st, _, rfl, ?_⟩⟩
    rw [rise_st ho]
    exact iteF q

theorem d_House_marks {P : Program} {w : World} {K : PySem.W.Frag} {mg : PySem.Str → Option Value} {base : Heap} {C : Addr} (T : Txt K mg C) : Mtd P w K mg base C "marks" 1 ["self"] (sp_House_marks K C) := by
  obtain ⟨f, fd, F, hm⟩ := T.f_House_marks
  refine ⟨f, fd, hm, F.binds (ps := ["self"]) (fun _ _ _ _ _ _ us hl => match us, hl with | [_], _ => rfl), F.ok sc_House_marks (fun vs H Q E h => ?_) (fun cdv A outer s H vs Q E hr h => ?_)⟩
  · unfold sp_House_marks at h
    repeat (obtain ⟨_, h⟩ := h)
    subst_vars
    rfl
  · obtain ⟨a, h, rfl, hv, q⟩ := h
    obtain ⟨dx, fs, tl, tm, tr, tn, th, h1, h2, l1, l2, l3, l4, l5, _, ⟨xm, h3, h4⟩, _⟩ := hv.ob
    have tcls := T.cls
    have tn1 := T.n_latches
    have tn2 := T.n_marks
    have tn3 := T.n_rows
    have tn4 := T.n_numbers
    have tn5 := T.n_helps
    refine ⟨_, (pss_one (ps_ret (kFld (K := K) (pv 0) rfl))), ?_⟩
    change (_ : L2.TS) _ [some _] _
    (repeat array_get_dec)
    exact q tm xm h3 h4

theorem d_House_numbers {P : Program} {w : World} {K : PySem.W.Frag} {mg : PySem.Str → Option Value} {base : Heap} {C : Addr} (T : Txt K mg C) : Mtd P w K mg base C "numbers" 1 ["self"] (sp_House_numbers K C) := by
  obtain ⟨f, fd, F, hm⟩ := T.f_House_numbers
  refine ⟨f, fd, hm, F.binds (ps := ["self"]) (fun _ _ _ _ _ _ us hl => match us, hl with | [_], _ => rfl), F.ok sc_House_numbers (fun vs H Q E h => ?_) (fun cdv A outer s H vs Q E hr h => ?_)⟩
  · unfold sp_House_numbers at h
    repeat (obtain ⟨_, h⟩ := h)
    subst_vars
    rfl
  · obtain ⟨a, h, rfl, hv, q⟩ := h
    obtain ⟨dx, fs, tl, tm, tr, tn, th, h1, h2, l1, l2, l3, l4, l5, _, _, _, h3, _⟩ := hv.ob
    have tcls := T.cls
    have tn1 := T.n_latches
    have tn2 := T.n_marks
    have tn3 := T.n_rows
    have tn4 := T.n_numbers
    have tn5 := T.n_helps
    refine ⟨_, (pss_one (ps_ret (kFld (K := K) (pv 0) rfl))), ?_⟩
    change (_ : L2.TS) _ [some _] _
    (repeat array_get_dec)
    exact q tn h3

theorem d_lent_to_all {P : Program} {w : World} {K : PySem.W.Frag} {mg : PySem.Str → Option Value} {base : Heap} {C : Addr} (T : Txt K mg C) : Dfn P w K mg base "lent_to_all" 2 ["house", "stand"] (sp_lent_to_all K C) := by
  have D_House_numbers := d_House_numbers (P := P) (w := w) (base := base) T
  obtain ⟨f, fd, F, hm⟩ := T.f_lent_to_all
  refine ⟨f, fd, hm, F.kp, F.binds (ps := ["house", "stand"]) (fun _ _ _ _ _ _ us hl => match us, hl with | [_, _], _ => rfl), F.ok sc_lent_to_all (fun vs H Q E h => ?_) (fun cdv A outer s H vs Q E hr h => ?_)⟩
  · unfold sp_lent_to_all at h
    repeat (obtain ⟨_, h⟩ := h)
    subst_vars
    rfl
  · obtain ⟨a, t, h, st, rfl, hv, ht, ho, q⟩ := h
    have hl := ho.len
    have h14 := hv.ok.n14
    refine ⟨_, (pss_cons (ps_set (i := 2) sc_lent_to_all.nd rfl (by first | exact Or.inl rfl | exact Or.inr rfl) (pe_mth0 D_House_numbers (pv 0) T.cls (hr.mono (by first | decide | omega))))
        (pss_one (ps_ret (pe_callB (kSum (K := K)) (by rfl) T.b_sum (by decide +kernel) (pa_cons (pe_lc (own := [("one", 3)]) (g := (gName 3)) (tt := tYes)  rfl sc_lent_to_all.nd (pi_seqK (K := K) (pv 1)) (blkOk_by (own := [("one", 3)]) (N := ["house", "stand", "numbers", "one"]) (sc := defScope s_lent_to_all) (by decide +kernel)) (fun _ _ _ _ _ => (pg_name (i := 3) sc_lent_to_all.nd rfl (by first | exact Or.inl rfl | exact Or.inr rfl))) (fun _ _ _ _ _ => pts_nil) (fun _ _ _ _ _ => (pe_ix (kIxT (K := K)) (pv 2) (pv 3) (fun _ _ => rfl)))) pa_nil))))), ?_⟩
    change (_ : L2.TS) _ [some _, some _, none, none] _
    (repeat array_get_dec)
    refine ⟨a, h, rfl, hv, fun tn hn => ?_⟩
    (repeat array_get_dec)
    apply lc_ev (st.map V.int).length (fun i x _ => (st.map V.int)[i]? = some x) (fun _ => true) (fun i y H1 => ∃ z, st[i]? = some z ∧ y = V.int (encL (rowL h.hel h.n z)))
    · rw [List.length_map]; omega
    · exact fun i y H1 H2 e h => h
    · exact evi_e ht Ex.rfl (evM fun Q2 k => by (repeat array_get_dec); exact k _ _ Ex.rfl rfl)
    · intro i hi x H3 e3 hxi
      rw [List.getElem?_map] at hxi
      obtain ⟨z, hz, rfl⟩ := Option.map_eq_some_iff.mp hxi
      have hzn := ho.lo z (List.mem_of_getElem? hz)
      have hzm := ho.hi z (List.mem_of_getElem? hz)
      obtain ⟨m, rfl⟩ : ∃ m : Nat, z = (m : Int) := ⟨z.toNat, by omega⟩
      refine ⟨[some (V.ref a), some (V.ref t), some (V.ref tn), some (V.int (m : Int))], gv_name, rfl, fun H4 e4 => tv_yes, fun _ H4 e4 => evM fun Q2 k => ?_⟩
      have hat : atI (((List.range h.n).map h.num).map V.int) (m : Int) = some (V.int (h.num m)) := by
        exact atI_nat (by rw [List.getElem?_map, List.getElem?_map, List.getElem?_range (by omega)]; rfl)
      (repeat array_get_dec)
      exact k _ _ (by array_mem_dec) ⟨_, hz, rfl⟩
    intro l zs H3 nl e3 hl2 hzs
    rw [filter_all (fun _ => rfl)] at hzs
    have hza := Al.map (f := fun z => V.int (encL (rowL h.hel h.n z))) (al_at (R := fun y z => y = V.int (encL (rowL h.hel h.n z))) hzs (by rw [List.length_map]))
    (repeat array_get_dec)
    refine ⟨l, st.map fun z => encL (rowL h.hel h.n z), rfl, .of (by rw [hl2, hza, List.map_map]; rfl), ?_⟩
    exact q H3 e3

theorem d_limits {P : Program} {w : World} {K : PySem.W.Frag} {mg : PySem.Str → Option Value} {base : Heap} {C : Addr} (T : Txt K mg C) : Dfn P w K mg base "limits" 3 ["house", "stand"] (sp_limits K C) := by
  have D_House_marks := d_House_marks (P := P) (w := w) (base := base) T
  have D_lent_to_all := d_lent_to_all (P := P) (w := w) (base := base) T
  obtain ⟨t_FIELD, g_FIELD⟩ := T.g_FIELD
  obtain ⟨f, fd, F, hm⟩ := T.f_limits
  refine ⟨f, fd, hm, F.kp, F.binds (ps := ["house", "stand"]) (fun _ _ _ _ _ _ us hl => match us, hl with | [_, _], _ => rfl), F.ok sc_limits (fun vs H Q E h => ?_) (fun cdv A outer s H vs Q E hr h => ?_)⟩
  · unfold sp_limits at h
    repeat (obtain ⟨_, h⟩ := h)
    subst_vars
    rfl
  · obtain ⟨a, t, h, st, rfl, hv, hst, ho, q⟩ := h
    have h14 := hv.ok.n14
    refine ⟨_, (pss_cons (ps_set (i := 2) sc_limits.nd rfl (by first | exact Or.inl rfl | exact Or.inr rfl) (pe_def D_lent_to_all (hr.mono (by first | decide | omega)) (by rfl) (pa_cons (pv 0) (pa_cons (pv 1) pa_nil))))
        (pss_cons (ps_asg2 pe_non (pg_name (i := 3) sc_limits.nd rfl (by first | exact Or.inl rfl | exact Or.inr rfl)) (pg_name (i := 4) sc_limits.nd rfl (by first | exact Or.inl rfl | exact Or.inr rfl)))
        (pss_cons (ps_for PassesOwn.never rfl (pi_tupK (K := K) (pe_mth0 D_House_marks (pv 0) T.cls (hr.mono (by first | decide | omega)))) (pg_tupK (K := K) rfl (pgs_cons (pg_name (i := 5) sc_limits.nd rfl (by first | exact Or.inl rfl | exact Or.inr rfl)) (pgs_cons (pg_name (i := 6) sc_limits.nd rfl (by first | exact Or.inl rfl | exact Or.inr rfl)) (pgs_cons (pg_name (i := 7) sc_limits.nd rfl (by first | exact Or.inl rfl | exact Or.inr rfl)) (pgs_cons (pg_name (i := 8) sc_limits.nd rfl (by first | exact Or.inl rfl | exact Or.inr rfl)) pgs_nil))))) (pss_one (ps_if (pt_cmpR (kOpIn (K := K)) (pv 5) (pv 1) (by first | exact nomark _ | rfl)) (pss_cons (ps_set (i := 9) sc_limits.nd rfl (by first | exact Or.inl rfl | exact Or.inr rfl) (pe_op op_sub (pe_op op_add (pv 8) pe_int) (pe_op op_and255 (pe_op op_shr (pv 2) (pv 6)) (pe_glob (v := .int 255) (by rfl) g_FIELD ⟨_, rfl⟩))))
        (pss_one (ps_if (PW.pt (pw_or (pt_cmpR op_isN (pv 3) pe_non (nomark _)) (pw_or1 (pt_cmpR op_gt (pv 9) (pv 3) (nomark _))))) (pss_one (ps_set (i := 3) sc_limits.nd rfl (by first | exact Or.inl rfl | exact Or.inr rfl) (pv 9))) pss_nil))) (pss_cons (ps_set (i := 10) sc_limits.nd rfl (by first | exact Or.inl rfl | exact Or.inr rfl) (pe_op op_sub (pe_op op_sub (pv 7) pe_int) (pe_op op_and255 (pe_op op_shr (pv 2) (pv 6)) (pe_glob (v := .int 255) (by rfl) g_FIELD ⟨_, rfl⟩))))
        (pss_one (ps_if (PW.pt (pw_or (pt_cmpR op_isN (pv 4) pe_non (nomark _)) (pw_or1 (pt_cmpR op_lt (pv 10) (pv 4) (nomark _))))) (pss_one (ps_set (i := 4) sc_limits.nd rfl (by first | exact Or.inl rfl | exact Or.inr rfl) (pv 10))) pss_nil))))))
        (pss_one (ps_ret (pe_tup (pa_cons (pv 3) (pa_cons (pv 4) pa_nil)))))))), ?_⟩
    change (_ : L2.TS) _ [some _, some _, none, none, none, none, none, none, none, none, none] _
    (repeat array_get_dec)
    refine ⟨a, t, h, st, rfl, hv, .inl hst, ho, fun H1 e1 => ?_⟩
    have hv1 := hv.ki e1.ki
    (repeat array_get_dec)
    refine ⟨a, h, rfl, hv1, fun tm xs hm hal => ?_⟩
    have hxl : xs.length = h.n := by rw [hal.1, List.length_range]
    refine l_forT (xs := xs) (fun i σ H' => ∃ (v1 v2 v3 v4 v5 v6 : Option V), σ = [some (.ref a), some (.ref t), some (.int (h.lentAll st)), some (optV (h.low st i)), some (optV (h.high st i)), v1, v2, v3, v4, v5, v6] ∧ Ex H H' ∧ Ki H1 H') hm ⟨_, _, _, _, _, _, rfl, e1, Ki.rfl⟩ ?_ ?_ ?_
    · rintro i σ H' ⟨v1, v2, v3, v4, v5, v6, rfl, e, k⟩
      exact hm.ki k
    · rintro i x σ H' hi ⟨v1, v2, v3, v4, v5, v6, rfl, e2, k1⟩
      obtain ⟨j, hj, tx, rfl, hmk⟩ := hal.get hi
      have hin : i < h.n := by rw [← hxl]; exact (List.getElem?_eq_some_iff.mp hi).1
      rw [List.getElem?_range hin] at hj
      cases hj
      have hmk1 := hmk.ki k1
      have hst1 := hst.ki e2.ki
      have hla := lent_at hv.hok h14 ho hin
      by_cases hm2 : (i : Int) ∈ st
      · have e1' : h.low st (i + 1) = lowS (h.low st i) (h.dn i + 1 - h.lent st i) := by show (if (i : Int) ∈ st then _ else _) = _; rw [if_pos hm2]
        have e2' : h.high st (i + 1) = h.high st i := by show (if (i : Int) ∈ st then _ else _) = _; rw [if_pos hm2]
        rw [e1', e2']
        generalize h.high st i = hi0 at *
        generalize h.low st i = lo0 at *
        clear e1' e2'
        cases lo0 with
        | none =>
          have en : decide (optV none = V.non) = true := rfl
          (repeat array_get_dec)
          rw [hla]
          exact ⟨_, _, _, _, _, _, rfl, e2, k1⟩
        | some y =>
          have en : decide (optV (some y) = V.non) = false := rfl
          by_cases hy : y < h.dn i + 1 - h.lent st i
          · rw [show lowS (some y) (h.dn i + 1 - h.lent st i) = some (h.dn i + 1 - h.lent st i) from if_pos hy]
            (repeat array_get_dec)
            rw [hla]
            show rI0 _ _ (V.int y) _ _
            (repeat array_get_dec)
            exact ⟨_, _, _, _, _, _, rfl, e2, k1⟩
          · rw [show lowS (some y) (h.dn i + 1 - h.lent st i) = some y from if_neg hy]
            (repeat array_get_dec)
            rw [hla]
            show rI0 _ _ (V.int y) _ _
            (repeat array_get_dec)
            exact ⟨_, _, _, _, _, _, rfl, e2, k1⟩
      · have e1' : h.low st (i + 1) = h.low st i := by show (if (i : Int) ∈ st then _ else _) = _; rw [if_neg hm2]
        have e2' : h.high st (i + 1) = highS (h.high st i) (h.up i - 1 - h.lent st i) := by show (if (i : Int) ∈ st then _ else _) = _; rw [if_neg hm2]
        rw [e1', e2']
        generalize h.high st i = hi0 at *
        generalize h.low st i = lo0 at *
        clear e1' e2'
        cases hi0 with
        | none =>
          have en : decide (optV none = V.non) = true := rfl
          (repeat array_get_dec)
          rw [hla]
          exact ⟨_, _, _, _, _, _, rfl, e2, k1⟩
        | some y =>
          have en : decide (optV (some y) = V.non) = false := rfl
          by_cases hy : h.up i - 1 - h.lent st i < y
          · rw [show highS (some y) (h.up i - 1 - h.lent st i) = some (h.up i - 1 - h.lent st i) from if_pos hy]
            (repeat array_get_dec)
            rw [hla]
            show rI0 _ _ (V.int y) _ _
            (repeat array_get_dec)
            exact ⟨_, _, _, _, _, _, rfl, e2, k1⟩
          · rw [show highS (some y) (h.up i - 1 - h.lent st i) = some y from if_neg hy]
            (repeat array_get_dec)
            rw [hla]
            show rI0 _ _ (V.int y) _ _
            (repeat array_get_dec)
            exact ⟨_, _, _, _, _, _, rfl, e2, k1⟩
    · rintro σ H' ⟨v1, v2, v3, v4, v5, v6, rfl, e2, k1⟩
      rw [hxl]
      (repeat array_get_dec)
      rename_i p H4 np e4 h4
      exact q p H4 (e2.trans e4) h4

theorem d_check_spanned {P : Program} {w : World} {K : PySem.W.Frag} {mg : PySem.Str → Option Value} {base : Heap} {C : Addr} (T : Txt K mg C) : Dfn P w K mg base "check_spanned" 4 ["house", "stand"] (sp_check_spanned K C) := by
  have D_are_crossed := d_are_crossed (P := P) (w := w) (base := base) T
  have D_check_stand := d_check_stand (P := P) (w := w) (base := base) T
  have D_limits := d_limits (P := P) (w := w) (base := base) T
  obtain ⟨f, fd, F, hm⟩ := T.f_check_spanned
  refine ⟨f, fd, hm, F.kp, F.binds (ps := ["house", "stand"]) (fun _ _ _ _ _ _ us hl => match us, hl with | [_, _], _ => rfl), F.ok sc_check_spanned (fun vs H Q E h => ?_) (fun cdv A outer s H vs Q E hr h => ?_)⟩
  · unfold sp_check_spanned at h
    repeat (obtain ⟨_, h⟩ := h)
    subst_vars
    rfl
  · obtain ⟨a, t, h, c, rfl, hv, hst, ho, hs, q⟩ := h
    have hnc := not_crossed hs
    refine ⟨_, (pss_cons (ps_expr (pe_def D_check_stand (hr.mono (by first | decide | omega)) (by rfl) (pa_cons (pv 0) (pa_cons (pv 1) pa_nil))))
        (pss_cons (ps_asg (pe_def D_limits (hr.mono (by first | decide | omega)) (by rfl) (pa_cons (pv 0) (pa_cons (pv 1) pa_nil))) (pg_tupK (K := K) rfl (pgs_cons (pg_name (i := 2) sc_check_spanned.nd rfl (by first | exact Or.inl rfl | exact Or.inr rfl)) (pgs_cons (pg_name (i := 3) sc_check_spanned.nd rfl (by first | exact Or.inl rfl | exact Or.inr rfl)) pgs_nil))))
        (pss_one (ps_if (pt_val (pe_def D_are_crossed (hr.mono (by first | decide | omega)) (by rfl) (pa_cons (pv 2) (pa_cons (pv 3) pa_nil)))) (pss_one ps_never) pss_nil)))), ?_⟩
    change (_ : L2.TS) _ [some _, some _, none, none] _
    (repeat array_get_dec)
    refine ⟨a, h, t, c, rfl, hv, hst, ho, ?_⟩
    (repeat array_get_dec)
    refine ⟨a, t, h, c, rfl, hv, hst, ho, fun p H1 e1 hp => ?_⟩
    (repeat array_get_dec)
    refine ⟨_, _, rfl, ?_⟩
    rw [hnc]
    (repeat array_get_dec)
    exact q H1 e1

theorem d_level_of {P : Program} {w : World} {K : PySem.W.Frag} {mg : PySem.Str → Option Value} {base : Heap} {C : Addr} (T : Txt K mg C) : Dfn P w K mg base "level_of" 1 ["swell", "up"] (sp_level_of K C) := by
  obtain ⟨f, fd, F, hm⟩ := T.f_level_of
  refine ⟨f, fd, hm, F.kp, F.binds (ps := ["swell", "up"]) (fun _ _ _ _ _ _ us hl => match us, hl with | [_, _], _ => rfl), F.ok sc_level_of (fun vs H Q E h => ?_) (fun cdv A outer s H vs Q E hr h => ?_)⟩
  · unfold sp_level_of at h
    repeat (obtain ⟨_, h⟩ := h)
    subst_vars
    rfl
  · obtain ⟨s, up, rfl, q⟩ := h
    refine ⟨_, (pss_one (ps_ret (pe_ifExp (pt_val (pv 1)) (pv 0) (pe_un un_neg (pv 0))))), ?_⟩
    change (_ : L2.TS) _ [some _, some _] _
    cases up
    · (repeat array_get_dec)
      exact q
    · (repeat array_get_dec)
      exact q

theorem d_waiting_of {P : Program} {w : World} {K : PySem.W.Frag} {mg : PySem.Str → Option Value} {base : Heap} {C : Addr} (T : Txt K mg C) : Dfn P w K mg base "waiting_of" 3 ["house", "stand", "up"] (sp_waiting_of K C) := by
  have D_House_marks := d_House_marks (P := P) (w := w) (base := base) T
  have D_lent_to_all := d_lent_to_all (P := P) (w := w) (base := base) T
  obtain ⟨t_FIELD, g_FIELD⟩ := T.g_FIELD
  obtain ⟨f, fd, F, hm⟩ := T.f_waiting_of
  refine ⟨f, fd, hm, F.kp, F.binds (ps := ["house", "stand", "up"]) (fun _ _ _ _ _ _ us hl => match us, hl with | [_, _, _], _ => rfl), F.ok sc_waiting_of (fun vs H Q E h => ?_) (fun cdv A outer s H vs Q E hr h => ?_)⟩
  · unfold sp_waiting_of at h
    repeat (obtain ⟨_, h⟩ := h)
    subst_vars
    rfl
  · obtain ⟨a, t, h, st, up, rfl, hv, ht, ho, q⟩ := h
    have hl := ho.len
    have h14 := hv.ok.n14
    refine ⟨_, (pss_cons (ps_set (i := 3) sc_waiting_of.nd rfl (by first | exact Or.inl rfl | exact Or.inr rfl) (pe_def D_lent_to_all (hr.mono (by first | decide | omega)) (by rfl) (pa_cons (pv 0) (pa_cons (pv 1) pa_nil))))
        (pss_cons (ps_if (pt_val (pv 2)) (pss_one (ps_ret (pe_lc (own := [("latch", 4), ("at", 5), ("up_at", 8), ("_", 6)]) (g := (gTup K 4 (gCons (gName 4) (gCons (gName 5) (gCons (gName 8) (gCons (gName 6) gNil)))))) (tt := _)  rfl sc_waiting_of.nd (pi_tupK (K := K) (pe_mth0 D_House_marks (pv 0) T.cls (hr.mono (by first | decide | omega)))) (blkOk_by (own := [("latch", 4), ("at", 5), ("up_at", 8), ("_", 6)]) (N := ["house", "stand", "up", "lent", "latch", "at", "_", "down_at", "up_at"]) (sc := defScope s_waiting_of) (by decide +kernel)) (fun _ _ _ _ _ => (pg_tupK (K := K) rfl (pgs_cons (pg_name (i := 4) sc_waiting_of.nd rfl (by first | exact Or.inl rfl | exact Or.inr rfl)) (pgs_cons (pg_name (i := 5) sc_waiting_of.nd rfl (by first | exact Or.inl rfl | exact Or.inr rfl)) (pgs_cons (pg_name (i := 8) sc_waiting_of.nd rfl (by first | exact Or.inl rfl | exact Or.inr rfl)) (pgs_cons (pg_name (i := 6) sc_waiting_of.nd rfl (by first | exact Or.inl rfl | exact Or.inr rfl)) pgs_nil)))))) (fun _ _ _ _ _ => (pts_one (pt_cmpR (kOpNotIn (K := K)) (pv 4) (pv 1) (by first | exact nomark _ | rfl)))) (fun _ _ _ _ _ => (pe_tup (pa_cons (pe_op op_sub (pv 8) (pe_op op_and255 (pe_op op_shr (pv 3) (pv 5)) (pe_glob (v := .int 255) (by rfl) g_FIELD ⟨_, rfl⟩))) (pa_cons (pv 4) pa_nil))))))) pss_nil)
        (pss_one (ps_ret (pe_lc (own := [("latch", 4), ("at", 5), ("_", 6), ("down_at", 7)]) (g := (gTup K 4 (gCons (gName 4) (gCons (gName 5) (gCons (gName 6) (gCons (gName 7) gNil)))))) (tt := _)  rfl sc_waiting_of.nd (pi_tupK (K := K) (pe_mth0 D_House_marks (pv 0) T.cls (hr.mono (by first | decide | omega)))) (blkOk_by (own := [("latch", 4), ("at", 5), ("_", 6), ("down_at", 7)]) (N := ["house", "stand", "up", "lent", "latch", "at", "_", "down_at", "up_at"]) (sc := defScope s_waiting_of) (by decide +kernel)) (fun _ _ _ _ _ => (pg_tupK (K := K) rfl (pgs_cons (pg_name (i := 4) sc_waiting_of.nd rfl (by first | exact Or.inl rfl | exact Or.inr rfl)) (pgs_cons (pg_name (i := 5) sc_waiting_of.nd rfl (by first | exact Or.inl rfl | exact Or.inr rfl)) (pgs_cons (pg_name (i := 6) sc_waiting_of.nd rfl (by first | exact Or.inl rfl | exact Or.inr rfl)) (pgs_cons (pg_name (i := 7) sc_waiting_of.nd rfl (by first | exact Or.inl rfl | exact Or.inr rfl)) pgs_nil)))))) (fun _ _ _ _ _ => (pts_one (pt_cmpR (kOpIn (K := K)) (pv 4) (pv 1) (by first | exact nomark _ | rfl)))) (fun _ _ _ _ _ => (pe_tup (pa_cons (pe_op op_sub (pe_op op_and255 (pe_op op_shr (pv 3) (pv 5)) (pe_glob (v := .int 255) (by rfl) g_FIELD ⟨_, rfl⟩)) (pv 7)) (pa_cons (pv 4) pa_nil))))))))), ?_⟩
    change (_ : L2.TS) _ [some _, some _, some _, none, none, none, none, none, none] _
    (repeat array_get_dec)
    refine ⟨a, t, h, st, rfl, hv, .inl ht, ho, fun H1 e1 => ?_⟩
    have hv1 := hv.ki e1.ki
    have ht1 := ht.ki e1.ki
    cases up with
    | true =>
      (repeat array_get_dec)
      apply lc_ev h.n (fun i x H2 => MarkV K H2 h x i) (fun i => decide ((i : Int) ∈ st) != true) (fun i y H2 => ∃ T, y = .ref T ∧ H2 T = some (.tup [.int (h.need st true i), .int (i : Int)]))
      · omega
      · rintro i y H1 H2 e ⟨T, rfl, h⟩
        exact ⟨T, rfl, e _ _ trivial h⟩
      · intro R2 k
        (repeat array_get_dec)
        refine ⟨a, h, rfl, hv1, fun tm xs hm hal => ?_⟩
        exact ⟨tm, rfl, ⟨xs, hm⟩, k _ _ Ex.rfl (ok_tR (R := fun H2 x i => MarkV K H2 h x i) hm hal fun H' x i e z => z.kt e.ki.kt)⟩
      · rintro i hi x H3 e3 ⟨tx, rfl, hm⟩
        refine ⟨[some (V.ref a), some (V.ref t), some (V.bl true), some (V.int (h.lentAll st)), some (V.int (i : Int)), some (V.int ((i : Int) * 8)), some (V.int (h.dn i)), none, some (V.int (h.up i))], ?_, rfl, fun H4 e4 => ?_, fun hk H4 e4 => evM fun Q2 k => ?_⟩
        · intro Q2 k
          show gTup K 4 (gCons (gName 4) (gCons (gName 5) (gCons (gName 8) (gCons (gName 6) gNil)))) _ [some (V.ref a), some (V.ref t), some (V.bl true), some (V.int (h.lentAll st)), none, none, none, none, none] _ _
          (repeat array_get_dec)
          exact k _ Ex.rfl
        · intro Q2 k
          (repeat array_get_dec)
          exact cast (congrArg (fun b => Q2 b H4) (by cases decide ((i : Int) ∈ st) <;> rfl)) (k H4 Ex.rfl)
        · (repeat array_get_dec)
          refine k _ _ (by array_mem_dec) ⟨_, rfl, ?_⟩
          unfold Hs.need
          rw [if_pos rfl, ← lent_at hv.hok h14 ho hi]
          sizeOf_list_dec
      intro l ys H3 nl e3 hl3 hys
      refine q l H3 (e1.free nl) (e1.trans e3) ⟨ys, hl3, ?_⟩
      exact hys
    | false =>
      (repeat array_get_dec)
      apply lc_ev h.n (fun i x H2 => MarkV K H2 h x i) (fun i => decide ((i : Int) ∈ st) != false) (fun i y H2 => ∃ T, y = .ref T ∧ H2 T = some (.tup [.int (h.need st false i), .int (i : Int)]))
      · omega
      · rintro i y H1 H2 e ⟨T, rfl, h⟩
        exact ⟨T, rfl, e _ _ trivial h⟩
      · intro R2 k
        (repeat array_get_dec)
        refine ⟨a, h, rfl, hv1, fun tm xs hm hal => ?_⟩
        exact ⟨tm, rfl, ⟨xs, hm⟩, k _ _ Ex.rfl (ok_tR (R := fun H2 x i => MarkV K H2 h x i) hm hal fun H' x i e z => z.kt e.ki.kt)⟩
      · rintro i hi x H3 e3 ⟨tx, rfl, hm⟩
        refine ⟨[some (V.ref a), some (V.ref t), some (V.bl false), some (V.int (h.lentAll st)), some (V.int (i : Int)), some (V.int ((i : Int) * 8)), some (V.int (h.up i)), some (V.int (h.dn i)), none], ?_, rfl, fun H4 e4 => ?_, fun hk H4 e4 => evM fun Q2 k => ?_⟩
        · intro Q2 k
          show gTup K 4 (gCons (gName 4) (gCons (gName 5) (gCons (gName 6) (gCons (gName 7) gNil)))) _ [some (V.ref a), some (V.ref t), some (V.bl false), some (V.int (h.lentAll st)), none, none, none, none, none] _ _
          (repeat array_get_dec)
          exact k _ Ex.rfl
        · intro Q2 k
          (repeat array_get_dec)
          exact cast (congrArg (fun b => Q2 b H4) (by cases decide ((i : Int) ∈ st) <;> rfl)) (k H4 Ex.rfl)
        · (repeat array_get_dec)
          refine k _ _ (by array_mem_dec) ⟨_, rfl, ?_⟩
          unfold Hs.need
          rw [if_neg Bool.false_ne_true, ← lent_at hv.hok h14 ho hi]
          sizeOf_list_dec
      intro l ys H3 nl e3 hl3 hys
      exact q l H3 (e1.free nl) (e1.trans e3) ⟨ys, hl3, hys⟩

theorem d_eased {P : Program} {w : World} {K : PySem.W.Frag} {mg : PySem.Str → Option Value} {base : Heap} {C : Addr} (T : Txt K mg C) : Dfn P w K mg base "eased" 3 ["house", "waiting", "going"] (sp_eased K C) := by
  have D_lent_to_all := d_lent_to_all (P := P) (w := w) (base := base) T
  obtain ⟨t_FIELD_BITS, g_FIELD_BITS⟩ := T.g_FIELD_BITS
  obtain ⟨t_FIELD, g_FIELD⟩ := T.g_FIELD
  obtain ⟨f, fd, F, hm⟩ := T.f_eased
  refine ⟨f, fd, hm, F.kp, F.binds (ps := ["house", "waiting", "going"]) (fun _ _ _ _ _ _ us hl => match us, hl with | [_, _, _], _ => rfl), F.ok sc_eased (fun vs H Q E h => ?_) (fun cdv A outer s H vs Q E hr h => ?_)⟩
  · unfold sp_eased at h
    repeat (obtain ⟨_, h⟩ := h)
    subst_vars
    rfl
  · obtain ⟨a, p, g, h, st, ls, up, rfl, hv, hw, hg, hri, hl, q⟩ := h
    have h14 := hv.ok.n14
    have ho := zs_ok hri fun l m => (hl l m).1
    have hml := mov_len h st up
    obtain ⟨xs, hp, hal⟩ := hw.ex
    have hg2 : H g = some (.lst ((zs ls).map V.int)) := by rw [hg, nints_ints]; rfl
    refine ⟨_, (pss_cons (ps_set (i := 3) sc_eased.nd rfl (by first | exact Or.inl rfl | exact Or.inr rfl) (pe_def D_lent_to_all (hr.mono (by first | decide | omega)) (by rfl) (pa_cons (pv 0) (pa_cons (pv 2) pa_nil))))
        (pss_one (ps_ret (pe_lc (own := [("need", 4), ("latch", 5)]) (g := (gTup K 2 (gCons (gName 4) (gCons (gName 5) gNil)))) (tt := _)  rfl sc_eased.nd (pi_listK (K := K) (pv 1)) (blkOk_by (own := [("need", 4), ("latch", 5)]) (N := ["house", "waiting", "going", "lent", "need", "latch"]) (sc := defScope s_eased) (by decide +kernel)) (fun _ _ _ _ _ => (pg_tupK (K := K) rfl (pgs_cons (pg_name (i := 4) sc_eased.nd rfl (by first | exact Or.inl rfl | exact Or.inr rfl)) (pgs_cons (pg_name (i := 5) sc_eased.nd rfl (by first | exact Or.inl rfl | exact Or.inr rfl)) pgs_nil)))) (fun _ _ _ _ _ => (pts_one (pt_cmpR (kOpNotIn (K := K)) (pv 5) (pv 2) (by first | exact nomark _ | rfl)))) (fun _ _ _ _ _ => (pe_tup (pa_cons (pe_op op_sub (pv 4) (pe_op op_and255 (pe_op op_shr (pv 3) (pe_op op_mul (pv 5) (pe_glob (v := .int 8) (by rfl) g_FIELD_BITS ⟨_, rfl⟩))) (pe_glob (v := .int 255) (by rfl) g_FIELD ⟨_, rfl⟩))) (pa_cons (pv 5) pa_nil)))))))), ?_⟩
    change (_ : L2.TS) _ [some _, some _, some _, none, none, none] _
    (repeat array_get_dec)
    refine ⟨a, g, h, zs ls, rfl, hv, .inr (.of hg2), ho, fun H1 e1 => ?_⟩
    (repeat array_get_dec)
    apply lc_evA (h.mov st up) (fun b x H2 => ∃ T, x = .ref T ∧ H2 T = some (.tup [.int (h.need st up b), .int (b : Int)])) (fun l => !decide (l ∈ ls)) (fun b y H2 => ∃ T, y = .ref T ∧ H2 T = some (.tup [.int (h.need (stepS h.n st ls up) up b), .int (b : Int)]))
    · omega
    · rintro b y H1 H2 e ⟨T, rfl, h⟩
      exact ⟨T, rfl, e _ _ trivial h⟩
    · exact evi_lA (R := fun H2 x (b : Nat) => ∃ T, x = .ref T ∧ H2 T = some (.tup [.int (h.need st up b), .int (b : Int)])) (.of (e1 _ _ hp)) (hal.imp fun v l ⟨T, a, b⟩ => ⟨T, a, e1 _ _ b⟩) (fun H' x i e ⟨T, a, b⟩ => ⟨T, a, e _ _ b⟩) (evM fun Q2 k => by (repeat array_get_dec); exact k _ _ Ex.rfl rfl)
    · rintro b hb x H3 e3 ⟨T2, rfl, hT⟩
      have hbn := mov_lt hb
      refine ⟨[some (V.ref a), some (V.ref p), some (V.ref g), some (V.int (h.lentAll (zs ls))), some (V.int (h.need st up b)), some (V.int (b : Int))], gv_tup2 (.of hT), rfl, fun H4 e4 => ?_, fun hk H4 e4 => evM fun Q2 k => ?_⟩
      · intro Q2 k
        (repeat array_get_dec)
        exact cast (congrArg (fun b => Q2 b H4) (by rw [decide_eq_decide.mpr mem_zs])) (k H4 Ex.rfl)
      · (repeat array_get_dec)
        refine k _ _ (by array_mem_dec) ⟨_, rfl, ?_⟩
        rw [need_step hv.hok hl, ← lent_at hv.hok h14 ho hbn]
        sizeOf_list_dec
    intro l ys H3 nl e3 hl3 hys
    exact q l H3 (e1.free nl) (e1.trans e3) ⟨ys, hl3, by rw [mov_filter]; exact hys⟩

theorem d_waves_at {P : Program} {w : World} {K : PySem.W.Frag} {mg : PySem.Str → Option Value} {base : Heap} {C : Addr} (T : Txt K mg C) : Dfn P w K mg base "waves_at" 4 ["house", "waiting", "level"] (sp_waves_at K C) := by
  have D_eased := d_eased (P := P) (w := w) (base := base) T
  obtain ⟨f, fd, F, hm⟩ := T.f_waves_at
  refine ⟨f, fd, hm, F.kp, F.binds (ps := ["house", "waiting", "level"]) (fun _ _ _ _ _ _ us hl => match us, hl with | [_, _, _], _ => rfl), F.ok sc_waves_at (fun vs H Q E h => ?_) (fun cdv A outer s H vs Q E hr h => ?_)⟩
  · unfold sp_waves_at at h
    repeat (obtain ⟨_, h⟩ := h)
    subst_vars
    rfl
  · obtain ⟨a, p, h, st, s, up, rfl, hv, hw, ho, hpos, q⟩ := h
    have h14 := hv.ok.n14
    have hml := mov_len h st up
    generalize hlv : (if up then s else -s : Int) = lv at *
    refine ⟨_, (pss_cons (ps_set (i := 3) sc_waves_at.nd rfl (by first | exact Or.inl rfl | exact Or.inr rfl) (pe_lst pa_nil))
        (pss_cons (ps_setLc (i := 4) (own := [("need", 5), ("latch", 6)]) (g := (gTup K 2 (gCons (gName 5) (gCons (gName 6) gNil)))) (tt := _)  rfl sc_waves_at.nd rfl rfl (sw_true rfl rfl rfl (by decide +kernel)) (pi_listK (K := K) (pv 1)) (blkOk_by (own := [("need", 5), ("latch", 6)]) (N := ["house", "waiting", "level", "waves", "going", "need", "latch"]) (sc := defScope s_waves_at) (by decide +kernel)) (fun _ _ _ _ _ => (pg_tupK (K := K) rfl (pgs_cons (pg_name (i := 5) sc_waves_at.nd rfl (by first | exact Or.inl rfl | exact Or.inr rfl)) (pgs_cons (pg_name (i := 6) sc_waves_at.nd rfl (by first | exact Or.inl rfl | exact Or.inr rfl)) pgs_nil)))) (fun _ _ _ _ _ => (pts_one (pt_cmpR op_le (pv 5) (pv 2) (nomark _)))) (fun _ _ _ _ _ => (pv 6)))
        (pss_cons (ps_while PassesOwn.never (kTruth (K := K) (pv 4)) (pss_cons (ps_expr (kBm (K := K) PySem.F.plainAttrs_list PySem.F.slot_list_append PySem.F.type_list_append mt_append (pv 3) (pa_cons (pv 4) pa_nil)))
        (pss_cons (ps_set (i := 1) sc_waves_at.nd rfl (by first | exact Or.inl rfl | exact Or.inr rfl) (pe_ifExp (pt_cmpR op_lt (pe_callB (kLen (K := K)) (by rfl) T.b_len (by decide +kernel) (pa_cons (pv 4) pa_nil)) (pe_callB (kLen (K := K)) (by rfl) T.b_len (by decide +kernel) (pa_cons (pv 1) pa_nil)) (nomark _)) (pe_def D_eased (hr.mono (by first | decide | omega)) (by rfl) (pa_cons (pv 0) (pa_cons (pv 1) (pa_cons (pv 4) pa_nil)))) (pe_lst pa_nil)))
        (pss_one (ps_setLc (i := 4) (own := [("need", 5), ("latch", 6)]) (g := (gTup K 2 (gCons (gName 5) (gCons (gName 6) gNil)))) (tt := _)  rfl sc_waves_at.nd rfl rfl (sw_true rfl rfl rfl (by decide +kernel)) (pi_listK (K := K) (pv 1)) (blkOk_by (own := [("need", 5), ("latch", 6)]) (N := ["house", "waiting", "level", "waves", "going", "need", "latch"]) (sc := defScope s_waves_at) (by decide +kernel)) (fun _ _ _ _ _ => (pg_tupK (K := K) rfl (pgs_cons (pg_name (i := 5) sc_waves_at.nd rfl (by first | exact Or.inl rfl | exact Or.inr rfl)) (pgs_cons (pg_name (i := 6) sc_waves_at.nd rfl (by first | exact Or.inl rfl | exact Or.inr rfl)) pgs_nil)))) (fun _ _ _ _ _ => (pts_one (pt_cmpR op_le (pv 5) (pv 2) (nomark _)))) (fun _ _ _ _ _ => (pv 6)))))))
        (pss_one (ps_ret (pe_tup (pa_cons (pv 3) (pa_cons (pv 1) pa_nil)))))))), ?_⟩
    change (_ : L2.TS) _ [some _, some _, some _, none, none, none, none] _
    (repeat array_get_dec)
    rename_i pw H1 npw e1 hpw
    have hw1 := hw.up e1
    refine going_lc hlv hw1 h14 fun g H2 ng e2 hg => ?_
    (repeat array_get_dec)
    refine l_while (fun σ G => ∃ (c : List Int) (p1 b : Addr) (rs : List V) (ws : List (List Nat)), σ = [some (.ref a), some (.ref p1), some (.int lv), some (.ref pw), some (.ref b), none, none] ∧ Ex H G ∧ StOk h.n c ∧ WaitV K G p1 h c up ∧ p1 ≠ pw ∧ G pw = some (.lst rs) ∧ WavesV pw G rs ws ∧ RunOk h s up st ws ∧ c = foldS h.n up st ws ∧ G b = some (.lst (nints (h.want c s up))) ∧ b ≠ pw ∧ (∀ T, Clo h s up c T → Clo h s up st T) ∧ ws.length + (h.mov c up).length ≤ h.n ∧ (∀ w ∈ ws, w ≠ []) ∧ (∀ x ∈ rs, ∃ b, x = V.ref b ∧ H b = none) ∧ H b = none ∧ (p1 = p ∨ H p1 = none)) (fun σ G => 15 - lenSlot 3 σ G) ⟨st, p, g, [], [], rfl, e1.trans e2, ho, hw1.up e2, ?_, e2 _ _ hpw, Al.nil, fun i w hi => by simp at hi, rfl, hg, (ne_of_none hpw ng).symm, fun T hT => hT, by rw [List.length_nil, Nat.zero_add]; exact hml, by simp, by simp, e1.free ng, .inl rfl⟩ ?_
    · intro e
      obtain ⟨xs, h1, _⟩ := hw.ex
      rw [e, npw] at h1
      cases h1
    rintro σ G ⟨c, p1, b, rs, ws, rfl, g0, go, gw, gpn, gp, gv, gr, gc, gb, gbn, gcl, glen, gne, gfr, gbn0, gpp⟩
    have hrl : rs.length = ws.length := gv.1
    have hwl := want_len h c s up
    have hin : ∀ l ∈ h.want c s up, l < h.n ∧ decide ((l : Int) ∈ c) = !up := fun l hl => ⟨want_lt hl, (mem_want.mp hl).2.1⟩
    (repeat array_get_dec)
    rw [nints_ne]
    cases hwe : (h.want c s up).isEmpty with
    | true =>
      have hw' : h.want c s up = [] := List.isEmpty_iff.mp hwe
      (repeat array_get_dec)
      rename_i r G' nr e' hrt
      subst gc
      exact q r pw p1 rs ws G' (g0.trans e') hrt npw (e' _ _ gp) (gv.exB e'.exB) gr (gcl _ (Clo.self go hw')) ⟨by omega, gne, gfr, gpp⟩ (gw.up e')
    | false =>
      have hne : h.want c s up ≠ [] := fun z => by rw [z] at hwe; cases hwe
      obtain ⟨xs, gx, gxa⟩ := gw.ex
      have hxl : xs.length = (h.mov c up).length := gxa.1
      have hnl : (nints (h.want c s up)).length = (h.want c s up).length := by unfold nints; rw [List.length_map]
      have hrl2 : rs.length < 100 := by omega
      by_cases hlt : ((nints (h.want c s up)).length : Int) < (xs.length : Int)
      · (repeat array_get_dec)
        rename_i G1 e5 hpw1
        have k1 : Ki G G1 := e5.ki gp
        have gb1 := e5 _ _ gbn gb
        have gw1 := gw.exB e5 gp gpn
        have g1 : Ex H G1 := fun x o hxo => e5 x o (fun z => by rw [z, npw] at hxo; cases hxo) (g0 _ _ hxo)
        refine ⟨a, p1, b, h, c, h.want c s up, up, rfl, hv.ki g1.ki, gw1, gb1, want_rise h c s up, hin, fun p2 G2 n2 e6 w2 => ?_⟩
        (repeat array_get_dec)
        refine going_lc hlv w2 h14 fun b2 G3 n3 e7 hb2 => ?_
        (repeat array_get_dec)
        have hp3 := (e6.trans e7) _ _ hpw1
        refine ⟨⟨stepS h.n c (h.want c s up) up, p2, b2, rs ++ [V.ref b], ws ++ [h.want c s up], rfl, (g1.trans e6).trans e7, stepS_ok _ _ _ _, w2.up e7, (ne_of_none hpw1 n2).symm, hp3, Al.snoc ((gv.exB e5).exB (e6.trans e7).exB) ⟨b, rfl, gbn, (e6.trans e7) _ _ gb1⟩, ?_, ?_, hb2, (ne_of_none (e6 _ _ hpw1) n3).symm, fun T hT => gcl T (hT.step hpos go fun l hl => hl), ?_, fun w hw0 => (List.mem_append.mp hw0).elim (gne w) fun z => by rw [List.mem_singleton.mp z]; exact hne, fun x hx0 => (List.mem_append.mp hx0).elim (gfr x) fun z => ⟨b, List.mem_singleton.mp z, gbn0⟩, (g1.trans e6).free n3, .inr (g1.free n2)⟩, ?_⟩
        · have := gr.snoc
          rw [← gc] at this
          exact this
        · rw [foldS_snoc, ← gc]
        · have := mov_step (h := h) (s := s) (up := up) (st := c) hne fun l hl => hl
          rw [List.length_append, List.length_singleton]
          omega
        · show 15 - (match G3 pw with | some (.lst xs) => xs.length | _ => 0) < 15 - (match G pw with | some (.lst xs) => xs.length | _ => 0)
          rw [hp3, gp]
          simp only [List.length_append, List.length_cons, List.length_nil]
          omega
      · (repeat array_get_dec)
        rename_i G1 e5 hpw1 p2 G2 n2 e6 hp2
        have k1 : Ki G G1 := e5.ki gp
        have gb1 := e5 _ _ gbn gb
        have gw1 := gw.exB e5 gp gpn
        have g1 : Ex H G1 := fun x o hxo => e5 x o (fun z => by rw [z, npw] at hxo; cases hxo) (g0 _ _ hxo)
        have w2 : WaitV K G2 p2 h (stepS h.n c (h.want c s up) up) up := ⟨[], hp2, by rw [want_all (by omega)]; exact Al.nil⟩
        refine going_lc hlv w2 h14 fun b2 G3 n3 e7 hb2 => ?_
        (repeat array_get_dec)
        have hp3 := (e6.trans e7) _ _ hpw1
        refine ⟨⟨stepS h.n c (h.want c s up) up, p2, b2, rs ++ [V.ref b], ws ++ [h.want c s up], rfl, (g1.trans e6).trans e7, stepS_ok _ _ _ _, w2.up e7, (ne_of_none hpw1 n2).symm, hp3, Al.snoc ((gv.exB e5).exB (e6.trans e7).exB) ⟨b, rfl, gbn, (e6.trans e7) _ _ gb1⟩, ?_, ?_, hb2, (ne_of_none (e6 _ _ hpw1) n3).symm, fun T hT => gcl T (hT.step hpos go fun l hl => hl), ?_, fun w hw0 => (List.mem_append.mp hw0).elim (gne w) fun z => by rw [List.mem_singleton.mp z]; exact hne, fun x hx0 => (List.mem_append.mp hx0).elim (gfr x) fun z => ⟨b, List.mem_singleton.mp z, gbn0⟩, (g1.trans e6).free n3, .inr (g1.free n2)⟩, ?_⟩
        · have := gr.snoc
          rw [← gc] at this
          exact this
        · rw [foldS_snoc, ← gc]
        · have := mov_step (h := h) (s := s) (up := up) (st := c) hne fun l hl => hl
          rw [List.length_append, List.length_singleton]
          omega
        · show 15 - (match G3 pw with | some (.lst xs) => xs.length | _ => 0) < 15 - (match G pw with | some (.lst xs) => xs.length | _ => 0)
          rw [hp3, gp]
          simp only [List.length_append, List.length_cons, List.length_nil]
          omega

theorem d_steps_of {P : Program} {w : World} {K : PySem.W.Frag} {mg : PySem.Str → Option Value} {base : Heap} {C : Addr} (T : Txt K mg C) : Dfn P w K mg base "steps_of" 5 ["house", "stand", "up", "last"] (sp_steps_of K C) := by
  have D_level_of := d_level_of (P := P) (w := w) (base := base) T
  have D_waiting_of := d_waiting_of (P := P) (w := w) (base := base) T
  have D_waves_at := d_waves_at (P := P) (w := w) (base := base) T
  obtain ⟨f, fd, F, hm⟩ := T.f_steps_of
  refine ⟨f, fd, hm, F.kp, F.binds (ps := ["house", "stand", "up", "last"]) (fun _ _ _ _ _ _ us hl => match us, hl with | [_, _, _, _], _ => rfl), F.ok sc_steps_of (fun vs H Q E h => ?_) (fun cdv A outer s H vs Q E hr h => ?_)⟩
  · unfold sp_steps_of at h
    repeat (obtain ⟨_, h⟩ := h)
    subst_vars
    rfl
  · obtain ⟨a, t, h, st, up, last, rfl, hv, hst, ho, hpos, q⟩ := h
    have h14 := hv.ok.n14
    have hml := mov_len h st up
    refine ⟨_, (pss_cons (ps_set (i := 4) sc_steps_of.nd rfl (by first | exact Or.inl rfl | exact Or.inr rfl) (pe_lst pa_nil))
        (pss_cons (ps_set (i := 5) sc_steps_of.nd rfl (by first | exact Or.inl rfl | exact Or.inr rfl) (pe_def D_waiting_of (hr.mono (by first | decide | omega)) (by rfl) (pa_cons (pv 0) (pa_cons (pv 1) (pa_cons (pv 2) pa_nil)))))
        (pss_cons (ps_while PassesOwn.never (kTruth (K := K) (pv 5)) (pss_cons (ps_set (i := 6) sc_steps_of.nd rfl (by first | exact Or.inl rfl | exact Or.inr rfl) (pe_ix (kIxT (K := K)) (pe_callB (L2.kMinP (K := K) (units1 hr)) (by rfl) T.b_min (by decide +kernel) (pa_cons (pv 5) pa_nil)) pe_int (fun _ _ => rfl)))
        (Evl.pss_cut (ps_if (PW.pt (pw_and (pt_cmpR op_notN (pv 3) pe_non (nomark _)) (pw_and1 (pt_cmpR op_gt (pv 6) (pv 3) (nomark _))))) (pss_one ps_break) pss_nil)
        (pss_cons (ps_asg (pe_def D_waves_at (hr.mono (by first | decide | omega)) (by rfl) (pa_cons (pv 0) (pa_cons (pv 5) (pa_cons (pv 6) pa_nil)))) (pg_tupK (K := K) rfl (pgs_cons (pg_name (i := 7) sc_steps_of.nd rfl (by first | exact Or.inl rfl | exact Or.inr rfl)) (pgs_cons (pg_name (i := 5) sc_steps_of.nd rfl (by first | exact Or.inl rfl | exact Or.inr rfl)) pgs_nil))))
        (pss_one (ps_expr (kBm (K := K) PySem.F.plainAttrs_list PySem.F.slot_list_append PySem.F.type_list_append mt_append (pv 4) (pa_cons (pe_tup (pa_cons (pe_def D_level_of (hr.mono (by first | decide | omega)) (by rfl) (pa_cons (pv 6) (pa_cons (pv 2) pa_nil))) (pa_cons (pv 7) pa_nil))) pa_nil))))))))
        (pss_one (ps_ret (pv 4)))))), ?_⟩
    change (_ : L2.TS) _ [some _, some _, some _, some _, none, none, none, none] _
    (repeat array_get_dec)
    rename_i p H1 np e1 hp
    refine ⟨a, t, h, st, up, rfl, hv.ki e1.ki, hst.ki e1.ki, ho, fun q1 H2 nq1 e2 w1 => ?_⟩
    (repeat array_get_dec)
    have hpq : q1 ≠ p := fun z => by rw [z, hp] at nq1; cases nq1
    refine l_while (fun σ G => ∃ (fs : List (Int × List (List Nat))) (xs : List V) (q1 : Addr) (v6 v7 : Option V), σ = [some (.ref a), some (.ref t), some (.bl up), some (optV last), some (.ref p), some (.ref q1), v6, v7] ∧ Ex H G ∧ G p = some (.lst xs) ∧ Al (FallW p G) xs fs ∧ q1 ≠ p ∧ WaitV K G q1 h (endF h.n up st fs) up ∧ FallsR h up st fs ∧ StOk h.n (endF h.n up st fs) ∧ fs.length + (h.mov (endF h.n up st fs) up).length ≤ h.n ∧ (∀ L, last = some L → ∀ f ∈ fs, lev f.1 up ≤ L)) (fun σ G => 20 - lenSlot 4 σ G) ⟨[], [], q1, _, _, rfl, e1.trans e2, e2 _ _ hp, Al.nil, hpq, w1, FallsR.nil, ho, by rw [List.length_nil, Nat.zero_add]; exact hml, by simp⟩ ?_
    rintro σ G ⟨fs, xs, q1, v6, v7, rfl, g0, gp, gal, gqp, gw, gf, go, gl, glast⟩
    generalize hc : endF h.n up st fs = c at *
    obtain ⟨ws, hw1, hwal⟩ := gw.ex
    have hwl : ws.length = (h.mov c up).length := hwal.1
    have hxl : xs.length = fs.length := gal.1
    have hmc := mov_len h c up
    (repeat array_get_dec)
    cases hm : (h.mov c up) with
    | nil =>
      have hws : ws = [] := by
        rw [hm] at hwl
        exact List.length_eq_zero_iff.mp hwl
      subst hws
      rw [show (([] : List V).isEmpty) = true from rfl]
      (repeat array_get_dec)
      exact q p xs fs G g0 np gp (gal.imp fun _ _ z => z.v) gf (.inl (by rw [hc]; exact hm)) (by rw [hc]; exact go) (by omega) glast
    | cons l0 rm =>
      obtain ⟨x0, wr, rfl⟩ : ∃ x0 wr, ws = x0 :: wr := by
        cases ws with
        | nil => rw [hm] at hwl; simp at hwl
        | cons x r => exact ⟨x, r, rfl⟩
      have hne : 0 < (h.mov c up).length := by rw [hm]; simp
      rw [show ((x0 :: wr).isEmpty) = false from rfl]
      (repeat array_get_dec)
      refine s_minW (f := fun l => h.need c up l) hw1 hwal hne fun l T hl hmin hT => ?_
      have hln := mov_lt hl
      have hnext : ∀ s, lev s up = h.need c up l → NextAt h up c s := fun s e => ⟨⟨l, hl, e.symm⟩, fun m hm2 => by rw [e]; exact hmin m hm2⟩
      (repeat array_get_dec)
      refine l_cut (fun σ2 G2 => σ2 = [some (V.ref a), some (V.ref t), some (V.bl up), some (optV last), some (V.ref p), some (V.ref q1), some (V.int (h.need c up l)), v7] ∧ G2 = G ∧ ∀ L, last = some L → h.need c up l ≤ L) ?_ ?_
      · cases last with
        | none =>
          have en : decide (optV none = V.non) = true := rfl
          (repeat array_get_dec)
          intro L hL
          cases hL
        | some L =>
          have en : decide (optV (some L) = V.non) = false := rfl
          by_cases hL : L < h.need c up l
          · (repeat array_get_dec)
            show rI0 _ (V.int (h.need c up l)) (V.int L) _ _
            (repeat array_get_dec)
            exact q p xs fs G g0 np gp (gal.imp fun _ _ z => z.v) gf (.inr ⟨L, rfl, fun m hm2 => by rw [hc] at hm2 ⊢; have := hmin m hm2; omega⟩) (by rw [hc]; exact go) (by omega) glast
          · (repeat array_get_dec)
            show rI0 _ (V.int (h.need c up l)) (V.int L) _ _
            (repeat array_get_dec)
            intro L2 hL2
            cases hL2
            omega
      · rintro σ2 G2 ⟨rfl, rfl, hle⟩
        obtain ⟨s, es⟩ : ∃ s : Int, (if up = true then s else -s) = h.need c up l := ⟨if up = true then h.need c up l else -(h.need c up l), by cases up <;> simp⟩
        have els : lev s up = h.need c up l := es
        have els2 : lev (h.need c up l) up = s := by
          unfold lev at els ⊢
          cases up with
          | true => rw [if_pos rfl] at els ⊢; exact els.symm
          | false => rw [if_neg Bool.false_ne_true] at els ⊢; omega
        (repeat array_get_dec)
        refine ⟨a, q1, h, c, s, up, by rw [es]; rfl, hv.ki g0.ki, gw, go, hpos, fun r pw pq rs us G3 f3 hr npw hpw hwv hrun hclo hus hwq => ?_⟩
        (repeat array_get_dec)
        refine ⟨h.need c up l, up, rfl, ?_⟩
        rw [els2]
        have gp3 := f3 _ _ gp
        have hx14 : xs.length < 1000 := by omega
        (repeat array_get_dec)
        rename_i T2 G4 nT2 f4 hT2 G5 f5 hp5
        have hpwp : pw ≠ p := fun z => by rw [z, gp] at npw; cases npw
        have hpqp : pq ≠ p := by
          rcases hus.2.2.2 with z | z
          · rw [z]; exact gqp
          · exact fun y => by rw [y, gp] at z; cases z
        have hp4 := f4 _ _ gp3
        have fw : FallW p G4 (V.ref T2) (s, us) := by
          refine ⟨T2, pw, rs, rfl, hT2, hpwp, f4 _ _ hpw, hwv.1, fun i x w hi hw => ?_⟩
          obtain ⟨b, rfl, hb1, hb2⟩ := hwv.2 i x w hi hw
          obtain ⟨b', eb, nb⟩ := hus.2.2.1 _ (List.mem_of_getElem? hi)
          cases eb
          exact ⟨b, rfl, hb1, (fun y => by rw [y, gp] at nb; cases nb), f4 _ _ hb2⟩
        have gal4 : Al (FallW p G4) xs fs := gal.imp fun _ _ ⟨T, pw, rs, h1, h2, h3, h4, h5⟩ => ⟨T, pw, rs, h1, f4 _ _ (f3 _ _ h2), h3, f4 _ _ (f3 _ _ h4), h5.imp fun _ _ ⟨b, b1, b2, b3, b4⟩ => ⟨b, b1, b2, b3, f4 _ _ (f3 _ _ b4)⟩⟩
        have eend : endF h.n up st (fs ++ [(s, us)]) = foldS h.n up c us := by rw [endF_snoc, hc]
        refine ⟨⟨fs ++ [(s, us)], xs ++ [V.ref T2], pq, _, _, rfl, ex_exB ((g0.trans f3).trans f4) f5 np, hp5, Al.snoc (gal4.imp fun _ _ z => z.exB f5 hp4) (fw.exB f5 hp4), hpqp, ?_, ?_, ?_, ?_, ?_⟩, ?_⟩
        · rw [eend]
          exact (hwq.up f4).exB f5 hp4 hpqp
        · exact gf.snoc (by rw [hc]; exact hnext s els) (by rw [hc]; exact hrun) (by rw [hc]; exact hclo) hus.2.1
        · rw [eend]
          exact hclo.ok
        · rw [eend, List.length_append, List.length_singleton]
          have h1 : h.want c s up ≠ [] := fun z => by
            have hw2 : l ∈ h.want c s up := want_mov.mpr ⟨hl, by rw [← need_goes]; exact decide_eq_true (by have := els; unfold lev at this; omega)⟩
            rw [z] at hw2
            cases hw2
          have h2 := mov_step (h := h) (s := s) (up := up) (st := c) (ls := h.want c s up) h1 fun l hl => hl
          have h3 : (h.mov (foldS h.n up c us) up).length ≤ (h.mov (stepS h.n c (h.want c s up) up) up).length := by
            cases us with
            | nil =>
              have := hclo.fin
              exact absurd this h1
            | cons u ur =>
              have hu0 := hrun 0 u rfl
              rw [List.take_zero] at hu0
              have hu1 : u = h.want c s up := hu0
              have e3 : foldS h.n up c (u :: ur) = foldS h.n up (stepS h.n c u up) ur := rfl
              rw [e3, hu1, fold_flatU ur (stepS_ok _ _ _ _), mov_filter]
              exact List.length_filter_le _ _
          omega
        · intro L hL f hf
          rcases List.mem_append.mp hf with hf | hf
          · exact glast L hL f hf
          · rw [List.mem_singleton.mp hf]
            show lev s up ≤ L
            rw [els]
            exact hle L hL
        · rw [lenSlot_eq (i := 4) rfl hp5, lenSlot_eq (i := 4) rfl gp, List.length_append, List.length_singleton]
          omega

theorem d_together {P : Program} {w : World} {K : PySem.W.Frag} {mg : PySem.Str → Option Value} {base : Heap} {C : Addr} (T : Txt K mg C) : Dfn P w K mg base "together" 1 ["waves"] (sp_together K C) := by
  obtain ⟨f, fd, F, hm⟩ := T.f_together
  refine ⟨f, fd, hm, F.kp, F.binds (ps := ["waves"]) (fun _ _ _ _ _ _ us hl => match us, hl with | [_], _ => rfl), F.ok sc_together (fun vs H Q E h => ?_) (fun cdv A outer s H vs Q E hr h => ?_)⟩
  · unfold sp_together at h
    repeat (obtain ⟨_, h⟩ := h)
    subst_vars
    rfl
  · obtain ⟨pw, rs, ws, n, rfl, hpw, gv, hn14, fnd, fin, hw14, q⟩ := h
    have flen := nodup_len fnd fin
    have hrl : rs.length = ws.length := gv.1
    have hfl : (flat2 ws.length (fun i => (ws.getD i []).length) fun _ _ => true).length ≤ 14 := by
      have := congrArg List.length (flat2_flatten ws)
      rw [List.length_map] at this
      omega
    refine ⟨_, (pss_one (ps_ret (pe_callTy (kTuple (K := K)) (by rfl) T.b_tuple (by decide +kernel) (pa_cons (pe_callB (kSortedI (K := K)) (by rfl) T.b_sorted (by decide +kernel) (pa_cons (pe_lc2 (own := [("wave", 1), ("latch", 2)]) (vs1 := [2]) (g := (gName 1)) (g1 := (gName 2)) (tt := tYes) (tt1 := tYes) rfl sc_together.nd (pi_listK (K := K) (pv 0)) (blkOk_by (own := [("wave", 1), ("latch", 2)]) (N := ["waves", "wave", "latch"]) (sc := defScope s_together) (by decide +kernel)) (by decide) (fun _ _ _ _ _ => (pg_name (i := 1) sc_together.nd rfl (by first | exact Or.inl rfl | exact Or.inr rfl))) (fun _ _ _ _ _ => pts_nil) (fun _ _ _ _ _ => (pi_listK (K := K) (pv 1))) (fun _ _ _ _ _ => (pg_name (i := 2) sc_together.nd rfl (by first | exact Or.inl rfl | exact Or.inr rfl))) (fun _ _ _ _ _ => pts_nil) (fun _ _ _ _ _ => (pv 2))) pa_nil)) pa_nil)))), ?_⟩
    change (_ : L2.TS) _ [some _, none, none] _
    (repeat array_get_dec)
    apply lc2_ev ws.length (fun i x _ => ∃ w, ws[i]? = some w ∧ ∃ b, x = V.ref b ∧ b ≠ pw ∧ H b = some (.lst (nints w))) (fun i => (ws.getD i []).length) (fun i j z _ => z = V.int (((ws.getD i []).getD j 0 : Nat) : Int)) (fun _ _ => true) (fun i j y _ => y = V.int (((ws.getD i []).getD j 0 : Nat) : Int))
    · omega
    · exact fun i j y H1 H2 _ h => h
    · exact evi_lA (R := fun _ x (w : List Nat) => ∃ b, x = V.ref b ∧ b ≠ pw ∧ H b = some (.lst (nints w))) (.of hpw) gv (fun H' x i e h => h) (fun Q k => ⟨_, rfl, k _ _ Ex.rfl rfl⟩)
    · rintro i hi x H3 e3 ⟨w, hwi, b, rfl, hbp, hb⟩
      have ew : ws.getD i [] = w := by rw [List.getD_eq_getElem?_getD, hwi]; rfl
      refine ⟨_, gv_name, rfl, fun H4 e4 => ?_, ?_⟩
      · intro R2 k
        have hnl : (nints w).length = (ws.getD i []).length := by rw [ew]; unfold nints; rw [List.length_map]
        refine evi_l (K := K) (.of hb) (.of (e4 _ _ hb)) (fun Q k => ⟨_, rfl, k _ _ Ex.rfl rfl⟩) R2 fun J G e hJ => k J G e fun H' e' => ?_
        obtain ⟨g1, g2⟩ := hJ H' e'
        rw [hnl] at g1 g2
        refine ⟨fun j hj => ⟨(g1 j hj).1, fun x G2 hy => ?_⟩, g2⟩
        obtain ⟨e3, h3⟩ := (g1 j hj).2 x G2 hy
        refine ⟨e3, ?_⟩
        unfold nints at h3
        rw [List.getElem?_map] at h3
        obtain ⟨m, hm2, rfl⟩ := Option.map_eq_some_iff.mp h3
        rw [ew, List.getD_eq_getElem?_getD, hm2]
        rfl
      · rintro j hj z H5 e5 rfl
        exact ⟨_, gv_name, rfl, fun H6 e6 => tv_yes, fun _ H6 e6 Q2 k => ⟨_, rfl, k _ _ Ex.rfl rfl⟩⟩
    intro l ys H3 nl e3 hl3 hys
    have e : ys = (zs ws.flatten).map V.int := by
      rw [← nints_zs, ← flat2_flatten]
      have := Al.map (f := fun (p : Nat × Nat) => V.int (((ws.getD p.1 []).getD p.2 0 : Nat) : Int)) hys
      rw [this]
      unfold nints
      rw [List.map_map]
      rfl
    subst e
    (repeat array_get_dec)
    rename_i ms l2 H4 hms hmw nl2 e4 hl2 t H5 nt e5 ht
    have em : ms = zs (srt n ws.flatten) := by
      have r : RepL n ws.flatten (zs (srt n ws.flatten)) := ⟨srt_ok, fnd, fun l => by rw [mem_zs, mem_srt fin]⟩
      exact r.sorted hms hmw
    rw [em] at ht
    exact q t H5 ((e3.trans e4).trans e5) ((e3.trans e4).free nt) ht

theorem d_branch_of {P : Program} {w : World} {K : PySem.W.Frag} {mg : PySem.Str → Option Value} {base : Heap} {C : Addr} (T : Txt K mg C) : Dfn P w K mg base "branch_of" 6 ["house", "stand", "up"] (sp_branch_of K C) := by
  have D_steps_of := d_steps_of (P := P) (w := w) (base := base) T
  have D_together := d_together (P := P) (w := w) (base := base) T
  obtain ⟨f, fd, F, hm⟩ := T.f_branch_of
  refine ⟨f, fd, hm, F.kp, F.binds (ps := ["house", "stand", "up"]) (fun _ _ _ _ _ _ us hl => match us, hl with | [_, _, _], _ => rfl), F.ok sc_branch_of (fun vs H Q E h => ?_) (fun cdv A outer s H vs Q E hr h => ?_)⟩
  · unfold sp_branch_of at h
    repeat (obtain ⟨_, h⟩ := h)
    subst_vars
    rfl
  · obtain ⟨a, t, h, st, up, rfl, hv, hst, ho, hpos, q⟩ := h
    have h14 := hv.ok.n14
    refine ⟨_, (pss_one (ps_ret (pe_lc (own := [("swell", 3), ("waves", 4)]) (g := (gTup K 2 (gCons (gName 3) (gCons (gName 4) gNil)))) (tt := tYes)  rfl sc_branch_of.nd (pi_listK (K := K) (pe_def D_steps_of (hr.mono (by first | decide | omega)) (by rfl) (pa_cons (pv 0) (pa_cons (pv 1) (pa_cons (pv 2) (pa_cons pe_non pa_nil)))))) (blkOk_by (own := [("swell", 3), ("waves", 4)]) (N := ["house", "stand", "up", "swell", "waves"]) (sc := defScope s_branch_of) (by decide +kernel)) (fun _ _ _ _ _ => (pg_tupK (K := K) rfl (pgs_cons (pg_name (i := 3) sc_branch_of.nd rfl (by first | exact Or.inl rfl | exact Or.inr rfl)) (pgs_cons (pg_name (i := 4) sc_branch_of.nd rfl (by first | exact Or.inl rfl | exact Or.inr rfl)) pgs_nil)))) (fun _ _ _ _ _ => pts_nil) (fun _ _ _ _ _ => (pe_tup (pa_cons (pv 3) (pa_cons (pe_def D_together (hr.mono (by first | decide | omega)) (by rfl) (pa_cons (pv 4) pa_nil)) pa_nil))))))), ?_⟩
    change (_ : L2.TS) _ [some _, some _, some _, none, none] _
    (repeat array_get_dec)
    refine lc_call ?_
    (repeat array_get_dec)
    refine ⟨a, t, h, st, up, none, rfl, hv, hst, ho, hpos, fun p1 xs1 fs H1 e1 np1 hp1 hal1 hf hfin hoE hl14 hlast => ⟨p1, rfl, ⟨xs1, .of hp1⟩, ?_⟩⟩
    apply lc_evAN fs (fun f v H2 => FallV K H2 v f) (fun _ => true) (fun f v H2 => BranchV H2 v h.n f)
    · omega
    · rintro b y H2 H3 e ⟨T, t2, rfl, q1, q2⟩
      exact ⟨T, t2, rfl, e _ _ trivial q1, e _ _ trivial q2⟩
    · exact evn_lA (R := fun H2 v f => FallV K H2 v f) (.of hp1) hal1 fun H' x i e z => z.up e
    · rintro f hf2 x H3 e3 ⟨T, pw, rs, rfl, hT, hpw, hwv⟩
      obtain ⟨i, hi⟩ := List.getElem?_of_mem hf2
      have hc := (hf.clo i f hi)
      have ho2 : StOk h.n (endF h.n up st (fs.take i)) := by
        cases i with
        | zero => exact ho
        | succ i =>
          obtain ⟨f', hi2⟩ : ∃ f', fs[i]? = some f' := ⟨_, List.getElem?_eq_getElem (by have := (List.getElem?_eq_some_iff.mp hi).1; omega)⟩
          exact (hf.clo i _ hi2).ok
      obtain ⟨fnd, fin⟩ := flat_goodU ho2 (hf.run i f hi) f.2.length (Nat.le_refl _)
      rw [List.take_length] at fnd fin
      refine ⟨[some (.ref a), some (.ref t), some (.bl up), some (.int f.1), some (.ref pw)], gv_tup2 (.of hT), rfl, fun H4 e4 => tv_yes, fun hk H4 e4 => evM fun Q2 k => ?_⟩
      have hlen14 : f.2.length ≤ 14 := by
        have := nodup_len fnd fun l hl => (fin l hl).1
        have hne := hf.ne i f hi
        have : ∀ ws : List (List Nat), (∀ w ∈ ws, w ≠ []) → ws.length ≤ ws.flatten.length := by
          intro ws
          induction ws with
          | nil => simp
          | cons w r ih =>
            intro hw
            have h1 := ih fun x sizeOf_list_dec => hw x (List.mem_cons_of_mem _ sizeOf_list_dec)
            have h2 : 0 < w.length := List.length_pos_iff.mpr (hw w (List.mem_cons_self ..))
            rw [List.length_cons, List.flatten_cons, List.length_append]
            omega
        have := this f.2 hne
        omega
      (repeat array_get_dec)
      refine ⟨pw, rs, f.2, h.n, rfl, e4 _ _ hpw, hwv.exB e4.exB, h14, fnd, fun l hl => (fin l hl).1, hlen14, fun t2 H5 e5 nt2 ht2 => ?_⟩
      (repeat array_get_dec)
      rename_i T3 H6 nT3 e6 hT3
      exact k _ _ (e5.trans e6) ⟨T3, t2, rfl, hT3, e6 _ _ ht2⟩
    intro l ys H3 nl e3 hl3 hys
    rw [List.filter_eq_self.mpr fun _ _ => rfl] at hys
    refine q l ys fs H3 (e1.trans e3) (e1.free nl) hl3 hys hf ?_ hoE hl14
    rcases hfin with h1 | ⟨L, h1, _⟩
    · exact h1
    · cases h1

theorem d_gone {P : Program} {w : World} {K : PySem.W.Frag} {mg : PySem.Str → Option Value} {base : Heap} {C : Addr} (T : Txt K mg C) : Dfn P w K mg base "gone" 1 ["stand", "latches", "up"] (sp_gone K C) := by
  obtain ⟨f, fd, F, hm⟩ := T.f_gone
  refine ⟨f, fd, hm, F.kp, F.binds (ps := ["stand", "latches", "up"]) (fun _ _ _ _ _ _ us hl => match us, hl with | [_, _, _], _ => rfl), F.ok sc_gone (fun vs H Q E h => ?_) (fun cdv A outer s H vs Q E hr h => ?_)⟩
  · unfold sp_gone at h
    repeat (obtain ⟨_, h⟩ := h)
    subst_vars
    rfl
  · obtain ⟨t, p, st, ls, n, up, rfl, hst, hp, hn14, hl14, ho, hup, q⟩ := h
    have hsl := ho.len
    rw [nints_ints] at hp
    refine ⟨_, (pss_cons (ps_if (pt_val (pv 2)) (pss_one (ps_ret (pe_callTy (kTuple (K := K)) (by rfl) T.b_tuple (by decide +kernel) (pa_cons (pe_callB (kSortedI (K := K)) (by rfl) T.b_sorted (by decide +kernel) (pa_cons (pe_lst (StX.pa_star (pv 0) (StX.pa_star (pv 1) pa_nil))) pa_nil)) pa_nil)))) pss_nil)
      (pss_one (ps_ret (pe_callTy (kTuple (K := K)) (by rfl) T.b_tuple (by decide +kernel) (pa_cons (pe_lc (own := [("latch", 3)]) (g := (gName 3)) (tt := _)  rfl sc_gone.nd (pi_tupK (K := K) (pv 0)) (blkOk_by (own := [("latch", 3)]) (N := ["stand", "latches", "up", "latch"]) (sc := defScope s_gone) (by decide +kernel)) (fun _ _ _ _ _ => (pg_name (i := 3) sc_gone.nd rfl (by first | exact Or.inl rfl | exact Or.inr rfl))) (fun _ _ _ _ _ => (pts_one (pt_cmpR (kOpNotIn (K := K)) (pv 3) (pv 1) (by first | exact nomark _ | rfl)))) (fun _ _ _ _ _ => (pv 3))) pa_nil))))), ?_⟩
    cases up with
    | true =>
      obtain ⟨hnd, hin⟩ := hup rfl
      refine ⟨_, rfl, _, rfl, iteT ?_⟩
      refine ⟨_, rfl, t, _, rfl, .inl hst, _, rfl, p, _, rfl, hp, ?_, fun l nl => ?_⟩
      · refine Nat.le_trans (show _ ≤ 28 from ?_) (by decide)
        rw [List.length_append, List.length_append, List.length_map, List.length_map, List.length_map, List.length_nil]
        omega
      have e : st.map V.int ++ ((ls.map fun (l : Nat) => (l : Int)).map V.int ++ []) = (st ++ ls.map fun (l : Nat) => (l : Int)).map V.int := by rw [List.append_nil, List.map_append]
      refine ⟨l, st ++ ls.map (fun (l : Nat) => (l : Int)), rfl, by rw [← e]; exact .of upd_same, fun ns p2 hpm hpw np2 => ?_⟩
      rw [sort_up ho hpm hpw hnd hin]
      exact ⟨p2, _, rfl, .inl ⟨.of upd_same, fun t' nt' => q t' _ (((Ex.new nl).trans (Ex.new np2)).trans (Ex.new nt')) upd_same⟩⟩
    | false =>
      refine ⟨_, rfl, _, rfl, iteF (r_next ?_)⟩
      dsimp only
      refine r_ret (r_cb (r_cons (lcT_ev (K := K) (as := st) (kp := fun x => !decide (x ∈ ls.map fun (l : Nat) => (l : Int))) (RA := fun _ x (z : Int) => x = .int z) (RB := fun z y _ => y = .int z) ?_ (by omega) (fun _ _ _ _ _ e => e) ?_ _ fun v G1 e1 hnew => ?_)))
      · exact fun Q k => ⟨_, rfl, k _ _ Ex.rfl ⟨t, _, rfl, hst, Al.of_map (R := fun x (z : Int) => x = .int z) (f := V.int) fun _ _ => rfl⟩⟩
      · rintro G1 f1 k x z hk rfl G2 f2
        refine ⟨_, gv_name, rfl, fun G3 f3 Q k => ?_, fun _ G3 f3 Q k => ⟨_, rfl, k _ _ Ex.rfl rfl⟩⟩
        refine ⟨_, rfl, _, rfl, ?_⟩
        rcases hp.ex ((f1.trans f2).trans f3) with hp | hp
        · exact s_ninT hp ⟨_, rfl, k _ Ex.rfl⟩
        · exact s_ninL hp ⟨_, rfl, k _ Ex.rfl⟩
      · obtain ⟨pl, rfl, hpl, hpls⟩ := hnew.vals (f := V.int)
        rw [filter_down ho ls] at hpls
        exact ⟨pl, _, rfl, .inl ⟨.of hpls, fun t' nt' => q t' _ (e1.trans (Ex.new nt')) upd_same⟩⟩

theorem d_end_of {P : Program} {w : World} {K : PySem.W.Frag} {mg : PySem.Str → Option Value} {base : Heap} {C : Addr} (T : Txt K mg C) : Dfn P w K mg base "end_of" 5 ["house", "stand", "swell", "up"] (sp_end_of K C) := by
  have D_gone := d_gone (P := P) (w := w) (base := base) T
  have D_level_of := d_level_of (P := P) (w := w) (base := base) T
  have D_waiting_of := d_waiting_of (P := P) (w := w) (base := base) T
  have D_waves_at := d_waves_at (P := P) (w := w) (base := base) T
  obtain ⟨f, fd, F, hm⟩ := T.f_end_of
  refine ⟨f, fd, hm, F.kp, F.binds (ps := ["house", "stand", "swell", "up"]) (fun _ _ _ _ _ _ us hl => match us, hl with | [_, _, _, _], _ => rfl), F.ok sc_end_of (fun vs H Q E h => ?_) (fun cdv A outer s H vs Q E hr h => ?_)⟩
  · unfold sp_end_of at h
    repeat (obtain ⟨_, h⟩ := h)
    subst_vars
    rfl
  · obtain ⟨a, h, t, st, s, up, rfl, hv, hst, ho, hpos, q⟩ := h
    have hn14 := hv.ok.n14
    refine ⟨_, (pss_cons (ps_asg (pe_def D_waves_at (hr.mono (by first | decide | omega)) (by rfl) (pa_cons (pv 0) (pa_cons (pe_def D_waiting_of (hr.mono (by first | decide | omega)) (by rfl) (pa_cons (pv 0) (pa_cons (pv 1) (pa_cons (pv 3) pa_nil)))) (pa_cons (pe_def D_level_of (hr.mono (by first | decide | omega)) (by rfl) (pa_cons (pv 2) (pa_cons (pv 3) pa_nil))) pa_nil)))) (pg_tupK (K := K) rfl (pgs_cons (pg_name (i := 4) sc_end_of.nd rfl (by first | exact Or.inl rfl | exact Or.inr rfl)) (pgs_cons (pg_name (i := 5) sc_end_of.nd rfl (by first | exact Or.inl rfl | exact Or.inr rfl)) pgs_nil))))
        (pss_cons (ps_if (pt_not (pt_val (pv 3))) (pss_one (ps_ret (pe_callTy (kTuple (K := K)) (by rfl) T.b_tuple (by decide +kernel) (pa_cons (pe_lc (own := [("_", 8), ("latch", 7)]) (g := (gTup K 2 (gCons (gName 8) (gCons (gName 7) gNil)))) (tt := tYes)  rfl sc_end_of.nd (pi_listK (K := K) (pv 5)) (blkOk_by (own := [("_", 8), ("latch", 7)]) (N := ["house", "stand", "swell", "up", "waves", "waiting", "wave", "latch", "_"]) (sc := defScope s_end_of) (by decide +kernel)) (fun _ _ _ _ _ => (pg_tupK (K := K) rfl (pgs_cons (pg_name (i := 8) sc_end_of.nd rfl (by first | exact Or.inl rfl | exact Or.inr rfl)) (pgs_cons (pg_name (i := 7) sc_end_of.nd rfl (by first | exact Or.inl rfl | exact Or.inr rfl)) pgs_nil)))) (fun _ _ _ _ _ => pts_nil) (fun _ _ _ _ _ => (pv 7))) pa_nil)))) pss_nil)
        (pss_one (ps_ret (pe_def D_gone (hr.mono (by first | decide | omega)) (by rfl) (pa_cons (pv 1) (pa_cons (pe_lc2 (own := [("wave", 6), ("latch", 7)]) (vs1 := [7]) (g := (gName 6)) (g1 := (gName 7)) (tt := tYes) (tt1 := tYes) rfl sc_end_of.nd (pi_listK (K := K) (pv 4)) (blkOk_by (own := [("wave", 6), ("latch", 7)]) (N := ["house", "stand", "swell", "up", "waves", "waiting", "wave", "latch", "_"]) (sc := defScope s_end_of) (by decide +kernel)) (by decide) (fun _ _ _ _ _ => (pg_name (i := 6) sc_end_of.nd rfl (by first | exact Or.inl rfl | exact Or.inr rfl))) (fun _ _ _ _ _ => pts_nil) (fun _ _ _ _ _ => (pi_listK (K := K) (pv 6))) (fun _ _ _ _ _ => (pg_name (i := 7) sc_end_of.nd rfl (by first | exact Or.inl rfl | exact Or.inr rfl))) (fun _ _ _ _ _ => pts_nil) (fun _ _ _ _ _ => (pv 7))) (pa_cons pe_bl pa_nil)))))))), ?_⟩
    change (_ : L2.TS) _ [some _, some _, some _, some _, none, none, none, none, none] _
    (repeat array_get_dec)
    refine ⟨a, t, h, st, up, rfl, hv, hst, ho, fun p H1 np e1 hw => ?_⟩
    (repeat array_get_dec)
    refine ⟨s, up, rfl, ?_⟩
    (repeat array_get_dec)
    refine ⟨a, p, h, st, s, up, rfl, hv.ki e1.ki, hw, ho, hpos, fun r pw pq rs ws H2 e2 hrt npw hpw gv gr hc hwl hq => ?_⟩
    have e12 := e1.trans e2
    have hrl : rs.length = ws.length := gv.1
    (repeat array_get_dec)
    cases up with
    | false =>
      have hT : StOk h.n (foldS h.n false st ws) := hc.ok
      have hml := mov_len h (foldS h.n false st ws) false
      obtain ⟨xs, hp, hal⟩ := hq.ex
      (repeat array_get_dec)
      apply lc_evA (h.mov (foldS h.n false st ws) false) (fun b x H2 => ∃ T, x = .ref T ∧ H2 T = some (.tup [.int (h.need (foldS h.n false st ws) false b), .int (b : Int)])) (fun _ => true) (fun b y _ => y = V.int (b : Int))
      · omega
      · exact fun b y H1 H2 _ h => h
      · exact evi_lA (R := fun H2 x (b : Nat) => ∃ T, x = .ref T ∧ H2 T = some (.tup [.int (h.need (foldS h.n false st ws) false b), .int (b : Int)])) (.of hp) hal (fun H' x i e ⟨T, a, b⟩ => ⟨T, a, e _ _ b⟩) (fun Q k => ⟨_, rfl, k _ _ Ex.rfl rfl⟩)
      · rintro b hb x H3 e3 ⟨T2, rfl, hT⟩
        exact ⟨_, gv_tup2 (.of hT), rfl, fun H4 e4 => tv_yes, fun hk H4 e4 Q2 k => ⟨_, rfl, k _ _ Ex.rfl rfl⟩⟩
      intro l ys H3 nl e3 hl3 hys
      rw [List.filter_eq_self.mpr fun _ _ => rfl] at hys
      have e : ys = nints (h.mov (foldS h.n false st ws) false) := Al.map (f := fun (b : Nat) => V.int (b : Int)) hys
      rw [e, mov_self hT] at hl3
      (repeat array_get_dec)
      rename_i t' H4 nt' e4 ht'
      exact q t' _ H4 ((e12.trans e3).trans e4) (.of ht') (fun _ => ht') hc
    | true =>
      obtain ⟨fnd, fin⟩ := flat_good ho gr ws.length (Nat.le_refl _)
      rw [List.take_length] at fnd fin
      have flen := nodup_len fnd fun l hl => (fin l hl).1
      have hfl : (flat2 ws.length (fun i => (ws.getD i []).length) fun _ _ => true).length ≤ 14 := by
        have := congrArg List.length (flat2_flatten ws)
        rw [List.length_map] at this
        omega
      (repeat array_get_dec)
      apply lc2_ev ws.length (fun i x _ => ∃ w, ws[i]? = some w ∧ ∃ b, x = V.ref b ∧ b ≠ pw ∧ H2 b = some (.lst (nints w))) (fun i => (ws.getD i []).length) (fun i j z _ => z = V.int (((ws.getD i []).getD j 0 : Nat) : Int)) (fun _ _ => true) (fun i j y _ => y = V.int (((ws.getD i []).getD j 0 : Nat) : Int))
      · omega
      · exact fun i j y H1 H2 _ h => h
      · exact evi_lA (R := fun _ x (w : List Nat) => ∃ b, x = V.ref b ∧ b ≠ pw ∧ H2 b = some (.lst (nints w))) (.of hpw) gv (fun H' x i e h => h) (fun Q k => ⟨_, rfl, k _ _ Ex.rfl rfl⟩)
      · rintro i hi x H3 e3 ⟨w, hwi, b, rfl, hbp, hb⟩
        have ew : ws.getD i [] = w := by rw [List.getD_eq_getElem?_getD, hwi]; rfl
        refine ⟨_, gv_name, rfl, fun H4 e4 => ?_, ?_⟩
        · intro R2 k
          have hnl : (nints w).length = (ws.getD i []).length := by rw [ew]; unfold nints; rw [List.length_map]
          refine evi_l (K := K) (.of hb) (.of (e4 _ _ hb)) (fun Q k => ⟨_, rfl, k _ _ Ex.rfl rfl⟩) R2 fun J G e hJ => k J G e fun H' e' => ?_
          obtain ⟨g1, g2⟩ := hJ H' e'
          rw [hnl] at g1 g2
          refine ⟨fun j hj => ⟨(g1 j hj).1, fun x G2 hy => ?_⟩, g2⟩
          obtain ⟨e3, h3⟩ := (g1 j hj).2 x G2 hy
          refine ⟨e3, ?_⟩
          unfold nints at h3
          rw [List.getElem?_map] at h3
          obtain ⟨m, hm2, rfl⟩ := Option.map_eq_some_iff.mp h3
          rw [ew, List.getD_eq_getElem?_getD, hm2]
          rfl
        · rintro j hj z H5 e5 rfl
          exact ⟨_, gv_name, rfl, fun H6 e6 => tv_yes, fun _ H6 e6 Q2 k => ⟨_, rfl, k _ _ Ex.rfl rfl⟩⟩
      intro l ys H3 nl e3 hl3 hys
      have e : ys = nints ws.flatten := by
        rw [← flat2_flatten]
        have := Al.map (f := fun (p : Nat × Nat) => V.int (((ws.getD p.1 []).getD p.2 0 : Nat) : Int)) hys
        rw [this]
        unfold nints
        rw [List.map_map]
        rfl
      subst e
      (repeat array_get_dec)
      refine ⟨t, l, st, ws.flatten, h.n, true, rfl, (hst.ki e12.ki).ki e3.ki, .inr (.of hl3), hn14, by omega, ho, fun _ => ⟨fnd, fin⟩, fun t' H' e4 ht' => ?_⟩
      rw [← fold_flat ws ho] at ht'
      exact q t' _ H' ((e12.trans e3).trans e4) (.of ht') (fun _ => ht') hc

theorem d_floor {P : Program} {w : World} {K : PySem.W.Frag} {mg : PySem.Str → Option Value} {base : Heap} {C : Addr} (T : Txt K mg C) : Dfn P w K mg base "floor" 7 ["house"] (sp_floor K C) := by
  have D_House___len__ := d_House___len__ (P := P) (w := w) (base := base) T
  have D_branch_of := d_branch_of (P := P) (w := w) (base := base) T
  obtain ⟨f, fd, F, hm⟩ := T.f_floor
  refine ⟨f, fd, hm, F.kp, F.binds (ps := ["house"]) (fun _ _ _ _ _ _ us hl => match us, hl with | [_], _ => rfl), F.ok sc_floor (fun vs H Q E h => ?_) (fun cdv A outer s H vs Q E hr h => ?_)⟩
  · unfold sp_floor at h
    repeat (obtain ⟨_, h⟩ := h)
    subst_vars
    rfl
  · obtain ⟨a, h, rfl, hv, hpos, q⟩ := h
    have h14 := hv.ok.n14
    have h11 := hv.ok.n1
    obtain ⟨dx, fs, tl, tm, tr, tn, th, h1, h2, l1, l2, l3, l4, l5, ⟨xl, h3, h4⟩, _⟩ := hv.ob
    refine ⟨_, (pss_one (ps_ret (pe_ix (kIxT (K := K)) (pe_ix (kIxL (K := K)) (pe_def D_branch_of (hr.mono (by first | decide | omega)) (by rfl) (pa_cons (pv 0) (pa_cons (pe_tupRg (by rfl) (by rfl) T.b_tuple (prg_1 (by rfl) T.b_range (pe_lenO D_House___len__ (hr.mono (by first | decide | omega)) (by rfl) T.b_len (pa_cons (pv 0) pa_nil)))) (pa_cons pe_bl pa_nil)))) (pe_un un_neg pe_int) (fun _ _ => rfl)) pe_int (fun _ _ => rfl)))), ?_⟩
    change (_ : L2.TS) _ [some _] _
    (repeat array_get_dec)
    refine ⟨a, dx, _, rfl, h1, a, h, rfl, hv, _, rfl, ⟨by omega, by omega⟩, ?_⟩
    refine s_kTR (by omega) fun t H1 nt e1 ht => ?_
    rw [← rgV_nat, rgV_ord] at ht
    (repeat array_get_dec)
    refine ⟨a, t, h, ordI h.n, false, rfl, hv.ki e1.ki, .of ht, ord_ok _, hpos, fun p xs fs H2 e2 np hp hal hf hm hoE hl14 => ?_⟩
    have hme : h.mov (ordI h.n) false ≠ [] := fun z => by
      have : 0 ∈ h.mov (ordI h.n) false := mem_mov.mpr ⟨by omega, by rw [Bool.not_false]; exact decide_eq_true (mem_ordI (by omega))⟩
      rw [z] at this
      cases this
    obtain ⟨fs0, f, rfl, hE⟩ := edge_of hpos hf (ord_ok _) hme hm
    obtain ⟨rs0, x, rfl, T, t2, rfl, hT, ht2⟩ := al_lastG hal
    have hat := atI_end rs0 (V.ref T)
    (repeat array_get_dec)
    exact q f.1 H2 (e1.trans e2) hE

theorem d_roof {P : Program} {w : World} {K : PySem.W.Frag} {mg : PySem.Str → Option Value} {base : Heap} {C : Addr} (T : Txt K mg C) : Dfn P w K mg base "roof" 7 ["house"] (sp_roof K C) := by
  have D_branch_of := d_branch_of (P := P) (w := w) (base := base) T
  obtain ⟨f, fd, F, hm⟩ := T.f_roof
  refine ⟨f, fd, hm, F.kp, F.binds (ps := ["house"]) (fun _ _ _ _ _ _ us hl => match us, hl with | [_], _ => rfl), F.ok sc_roof (fun vs H Q E h => ?_) (fun cdv A outer s H vs Q E hr h => ?_)⟩
  · unfold sp_roof at h
    repeat (obtain ⟨_, h⟩ := h)
    subst_vars
    rfl
  · obtain ⟨a, h, rfl, hv, hpos, q⟩ := h
    have h14 := hv.ok.n14
    have h11 := hv.ok.n1
    refine ⟨_, (pss_one (ps_ret (pe_ix (kIxT (K := K)) (pe_ix (kIxL (K := K)) (pe_def D_branch_of (hr.mono (by first | decide | omega)) (by rfl) (pa_cons (pv 0) (pa_cons (pe_tup pa_nil) (pa_cons pe_bl pa_nil)))) (pe_un un_neg pe_int) (fun _ _ => rfl)) pe_int (fun _ _ => rfl)))), ?_⟩
    change (_ : L2.TS) _ [some _] _
    (repeat array_get_dec)
    rename_i t H1 nt e1 ht
    refine ⟨a, t, h, [], true, rfl, hv.ki e1.ki, .of ht, nil_ok0 _, hpos, fun p xs fs H2 e2 np hp hal hf hm hoE hl14 => ?_⟩
    have hme : h.mov [] true ≠ [] := fun z => by
      have : 0 ∈ h.mov [] true := mem_mov.mpr ⟨by omega, by simp⟩
      rw [z] at this
      cases this
    obtain ⟨fs0, f, rfl, hE⟩ := edge_of hpos hf (nil_ok0 _) hme hm
    obtain ⟨rs0, x, rfl, T, t2, rfl, hT, ht2⟩ := al_lastG hal
    have hat := atI_end rs0 (V.ref T)
    (repeat array_get_dec)
    exact q f.1 H2 (e1.trans e2) hE

theorem d_ends_of {P : Program} {w : World} {K : PySem.W.Frag} {mg : PySem.Str → Option Value} {base : Heap} {C : Addr} (T : Txt K mg C) : Dfn P w K mg base "ends_of" 8 ["house", "stand"] (sp_ends_of K C) := by
  have D_floor := d_floor (P := P) (w := w) (base := base) T
  have D_limits := d_limits (P := P) (w := w) (base := base) T
  have D_roof := d_roof (P := P) (w := w) (base := base) T
  obtain ⟨f, fd, F, hm⟩ := T.f_ends_of
  refine ⟨f, fd, hm, F.kp, F.binds (ps := ["house", "stand"]) (fun _ _ _ _ _ _ us hl => match us, hl with | [_, _], _ => rfl), F.ok sc_ends_of (fun vs H Q E h => ?_) (fun cdv A outer s H vs Q E hr h => ?_)⟩
  · unfold sp_ends_of at h
    repeat (obtain ⟨_, h⟩ := h)
    subst_vars
    rfl
  · obtain ⟨a, t, h, c, rfl, hv, hst, ho, hpos, q⟩ := h
    refine ⟨_, (pss_cons (ps_asg (pe_def D_limits (hr.mono (by first | decide | omega)) (by rfl) (pa_cons (pv 0) (pa_cons (pv 1) pa_nil))) (pg_tupK (K := K) rfl (pgs_cons (pg_name (i := 2) sc_ends_of.nd rfl (by first | exact Or.inl rfl | exact Or.inr rfl)) (pgs_cons (pg_name (i := 3) sc_ends_of.nd rfl (by first | exact Or.inl rfl | exact Or.inr rfl)) pgs_nil))))
        (Evl.pss_cut (ps_if (pt_cmpR op_isN (pv 2) pe_non (nomark _)) (pss_one (ps_set (i := 2) sc_ends_of.nd rfl (by first | exact Or.inl rfl | exact Or.inr rfl) (pe_def D_floor (hr.mono (by first | decide | omega)) (by rfl) (pa_cons (pv 0) pa_nil)))) pss_nil)
        (pss_cons (ps_if (pt_cmpR op_isN (pv 3) pe_non (nomark _)) (pss_one (ps_set (i := 3) sc_ends_of.nd rfl (by first | exact Or.inl rfl | exact Or.inr rfl) (pe_def D_roof (hr.mono (by first | decide | omega)) (by rfl) (pa_cons (pv 0) pa_nil)))) pss_nil)
        (pss_one (ps_ret (pe_tup (pa_cons (pv 2) (pa_cons (pv 3) pa_nil)))))))), ?_⟩
    change (_ : L2.TS) _ [some _, some _, none, none] _
    (repeat array_get_dec)
    refine ⟨a, t, h, c, rfl, hv, hst, ho, fun p H1 e1 hp => ?_⟩
    have hv1 := hv.ki e1.ki
    (repeat array_get_dec)
    refine l_cut (fun σ G => ∃ lo : Int, σ = [some (V.ref a), some (V.ref t), some (V.int lo), some (optV (h.high c h.n))] ∧ Ex H1 G ∧ h.want c lo false = [] ∧ ∀ b, EdgeQ h false (ordI h.n) b → EndL h c b lo) ?_ ?_
    · cases hl : h.low c h.n with
      | none =>
        have en : decide (optV none = V.non) = true := rfl
        (repeat array_get_dec)
        refine ⟨a, h, rfl, hv1, hpos, fun b H2 e2 hb => ?_⟩
        (repeat array_get_dec)
        exact ⟨b, rfl, e2, by rw [low_nil ho hl]; simp [Hs.want, Hs.mov], fun b' hb' => .inl ⟨low_nil ho hl, edge_uniq hb hb'⟩⟩
      | some y =>
        have en : decide (optV (some y) = V.non) = false := rfl
        (repeat array_get_dec)
        exact ⟨y, rfl, Ex.rfl, ((low_some hl).2 y).mpr (Int.le_refl _), fun b' hb' => .inr (low_some hl)⟩
    · rintro σ G ⟨lo, rfl, f0, hwl, hlo⟩
      have hv2 := hv1.ki f0.ki
      cases hh : h.high c h.n with
      | none =>
        have en : decide (optV none = V.non) = true := rfl
        (repeat array_get_dec)
        refine ⟨a, h, rfl, hv2, hpos, fun t2 H2 e2 ht => ?_⟩
        (repeat array_get_dec)
        rename_i p9 H9 np9 e9 hp9
        exact q p9 lo t2 H9 (e1.trans (f0.trans (e2.trans e9))) hp9 ⟨hlo, fun t' ht' => .inl ⟨high_all ho hh, edge_uniq ht ht'⟩, hwl, by rw [high_all ho hh]; unfold Hs.want; rw [show h.mov (ordI h.n) true = [] from mov_top (up := true)]; rfl⟩
      | some y =>
        have en : decide (optV (some y) = V.non) = false := rfl
        (repeat array_get_dec)
        rename_i p9 H9 np9 e9 hp9
        exact q p9 lo y H9 (e1.trans (f0.trans e9)) hp9 ⟨hlo, fun t' ht' => .inr (high_some hh), hwl, ((high_some hh).2 y).mpr (Int.le_refl _)⟩

theorem d_farthest {P : Program} {w : World} {K : PySem.W.Frag} {mg : PySem.Str → Option Value} {base : Heap} {C : Addr} (T : Txt K mg C) : Dfn P w K mg base "farthest" 9 ["house", "stand", "up"] (sp_farthest K C) := by
  have D_branch_of := d_branch_of (P := P) (w := w) (base := base) T
  have D_end_of := d_end_of (P := P) (w := w) (base := base) T
  have D_ends_of := d_ends_of (P := P) (w := w) (base := base) T
  have D_gone := d_gone (P := P) (w := w) (base := base) T
  obtain ⟨f, fd, F, hm⟩ := T.f_farthest
  refine ⟨f, fd, hm, F.kp, F.binds (ps := ["house", "stand", "up"]) (fun _ _ _ _ _ _ us hl => match us, hl with | [_, _, _], _ => rfl), F.ok sc_farthest (fun vs H Q E h => ?_) (fun cdv A outer s H vs Q E hr h => ?_)⟩
  · unfold sp_farthest at h
    repeat (obtain ⟨_, h⟩ := h)
    subst_vars
    rfl
  · obtain ⟨a, t, h, c, up, rfl, hv, hst, ho, hpos, q1, q2⟩ := h
    have h14 := hv.ok.n14
    refine ⟨_, (Evl.pss_cut (ps_asg (pe_def D_ends_of (hr.mono (by first | decide | omega)) (by rfl) (pa_cons (pv 0) (pa_cons (pv 1) pa_nil))) (pg_tupK (K := K) rfl (pgs_cons (pg_name (i := 3) sc_farthest.nd rfl (by first | exact Or.inl rfl | exact Or.inr rfl)) (pgs_cons (pg_name (i := 4) sc_farthest.nd rfl (by first | exact Or.inl rfl | exact Or.inr rfl)) pgs_nil))))
        (pss_cons (ps_set (i := 5) sc_farthest.nd rfl (by first | exact Or.inl rfl | exact Or.inr rfl) pe_non)
        (pss_cons (ps_set (i := 6) sc_farthest.nd rfl (by first | exact Or.inl rfl | exact Or.inr rfl) (pv 1))
        (Evl.pss_cut (ps_for PassesOwn.never rfl (pi_listK (K := K) (pe_def D_branch_of (hr.mono (by first | decide | omega)) (by rfl) (pa_cons (pv 0) (pa_cons (pv 1) (pa_cons (pv 2) pa_nil))))) (pg_tupK (K := K) rfl (pgs_cons (pg_name (i := 7) sc_farthest.nd rfl (by first | exact Or.inl rfl | exact Or.inr rfl)) (pgs_cons (pg_name (i := 8) sc_farthest.nd rfl (by first | exact Or.inl rfl | exact Or.inr rfl)) pgs_nil))) (pss_cons (ps_set (i := 6) sc_farthest.nd rfl (by first | exact Or.inl rfl | exact Or.inr rfl) (pe_def D_gone (hr.mono (by first | decide | omega)) (by rfl) (pa_cons (pv 6) (pa_cons (pv 8) (pa_cons (pv 2) pa_nil)))))
        (pss_cons (ps_if (pt_cmpR (kNeD (K := K) (units64 hr)) (pe_def D_end_of (hr.mono (by first | decide | omega)) (by rfl) (pa_cons (pv 0) (pa_cons (pv 6) (pa_cons (pe_ifExp (pt_val (pv 2)) (pv 3) (pv 4)) (pa_cons (pe_not (pv 2)) pa_nil))))) (pv 1) (nomark _)) (pss_one ps_break) pss_nil)
        (pss_one (ps_set (i := 5) sc_farthest.nd rfl (by first | exact Or.inl rfl | exact Or.inr rfl) (pv 6))))))
        (pss_cons (ps_if (pt_cmpR op_isN (pv 5) pe_non (nomark _)) (pss_one (ps_ret pe_non)) pss_nil)
        (pss_cons (ps_asg (pe_def D_ends_of (hr.mono (by first | decide | omega)) (by rfl) (pa_cons (pv 0) (pa_cons (pv 5) pa_nil))) (pg_tupK (K := K) rfl (pgs_cons (pg_name (i := 3) sc_farthest.nd rfl (by first | exact Or.inl rfl | exact Or.inr rfl)) (pgs_cons (pg_name (i := 4) sc_farthest.nd rfl (by first | exact Or.inl rfl | exact Or.inr rfl)) pgs_nil))))
        (pss_one (ps_ret (pe_tup (pa_cons (pe_ifExp (pt_val (pv 2)) (pv 4) (pv 3)) (pa_cons (pv 5) pa_nil))))))))))), ?_⟩
    change (_ : L2.TS) _ [some _, some _, some _, none, none, none, none, none, none] _
    refine l_cut (fun σ G => ∃ lo hi : Int, σ = [some (V.ref a), some (V.ref t), some (V.bl up), some (V.int lo), some (V.int hi), none, none, none, none] ∧ Ex H G ∧ EndsV h c lo hi) ?_ ?_
    · (repeat array_get_dec)
      refine ⟨a, t, h, c, rfl, hv, hst, ho, hpos, fun p lo hi H1 e1 hp hE => ?_⟩
      (repeat array_get_dec)
      exact ⟨lo, hi, rfl, e1, hE⟩
    · rintro σ G ⟨lo, hi, rfl, f0, hE⟩
      have hv0 := hv.ki f0.ki
      have hst0 := hst.ki f0.ki
      have hw : h.want c (if up = true then lo else hi) (!up) = [] := by
        cases up with
        | true => exact hE.nl
        | false => exact hE.nh
      have hEU : ∀ b t, EdgeQ h false (ordI h.n) b → EdgeQ h true [] t → EndU h (!up) c b t (if up = true then lo else hi) := fun b t hb ht => by
        cases up with
        | true => exact hE.eL b hb
        | false => exact hE.eH t ht
      generalize hbk : (if up = true then lo else hi) = back at *
      (repeat array_get_dec)
      refine l_cut (fun σ G2 => ∃ (fv : V) (v6 v7 v8 : Option V), σ = [some (V.ref a), some (V.ref t), some (V.bl up), some (V.int lo), some (V.int hi), some fv, v6, v7, v8] ∧ Ex G G2 ∧ ((fv = .non ∧ FarN h c up back) ∨ ∃ tX X, fv = .ref tX ∧ SqT K G2 tX (X.map V.int) ∧ StOk h.n X ∧ FarW h c up back X)) ?_ ?_
      · (repeat array_get_dec)
        refine ⟨a, t, h, c, up, rfl, hv0, hst0, ho, hpos, fun p xs fs H1 e1 np hp hal hf0 hm hoE hl14 => ?_⟩
        have hxl : xs.length = fs.length := hal.1
        have way : ∀ i, 0 < i → i ≤ fs.length → ∃ s', Clo h s' up c (endF h.n up c (fs.take i)) := fun i i0 i1 => by
          obtain ⟨k, rfl⟩ : ∃ k, i = k + 1 := ⟨i - 1, by omega⟩
          obtain ⟨f, hf⟩ : ∃ f, fs[k]? = some f := ⟨_, List.getElem?_eq_getElem (by omega)⟩
          exact ⟨f.1, falls_clo hf0 ho k f hf⟩
        (repeat array_get_dec)
        refine l_forL (xs := xs) (fun i σ G2 => ∃ (fv : V) (t' : Addr) (v7 v8 : Option V), σ = [some (V.ref a), some (V.ref t), some (V.bl up), some (V.int lo), some (V.int hi), some fv, some (V.ref t'), v7, v8] ∧ Ex H1 G2 ∧ SqT K G2 t' ((endF h.n up c (fs.take i)).map V.int) ∧ ((i = 0 ∧ fv = .non) ∨ (0 < i ∧ fv = .ref t' ∧ Clo h back (!up) (endF h.n up c (fs.take i)) c))) (.of hp) ⟨.non, t, _, _, rfl, Ex.rfl, by rw [List.take_zero]; exact hst0.ki e1.ki, .inl ⟨rfl, rfl⟩⟩ ?_ ?_ ?_
        · rintro i σ G2 ⟨fv, t', v7, v8, rfl, g0, _⟩
          exact .of (g0 _ _ hp)
        · rintro i x σ G2 sizeOf_list_dec ⟨fv, t', v7, v8, rfl, g0, gt, galt⟩
          obtain ⟨f, hfi, T, tb, rfl, hT, htb⟩ := hal.get sizeOf_list_dec
          have hil : i < fs.length := (List.getElem?_eq_some_iff.mp hfi).1
          have hT2 := g0 _ _ hT
          have htb2 := g0 _ _ htb
          have oX := endF_okT hf0 ho (show i ≤ fs.length by omega)
          obtain ⟨fnd, fin⟩ := flat_goodU oX (hf0.run i f hfi) f.2.length (Nat.le_refl _)
          rw [List.take_length] at fnd fin
          have hmem : ∀ l, l ∈ srt h.n f.2.flatten ↔ l ∈ f.2.flatten := fun l => mem_srt fun l hl => (fin l hl).1
          have hsnd : (srt h.n f.2.flatten).Nodup := List.nodup_iff_pairwise_ne.mpr ((List.pairwise_map.mp (srt_ok (n := h.n) (row := f.2.flatten)).up).imp fun {x y} z => by omega)
          have hsl : (srt h.n f.2.flatten).length ≤ h.n := nodup_len hsnd fun l hl => (fin l ((hmem l).mp hl)).1
          have eX : stepS h.n (endF h.n up c (fs.take i)) (srt h.n f.2.flatten) up = endF h.n up c (fs.take (i + 1)) := by
            rw [step_mem hmem, ← fold_flatU f.2 oX, take_snoc hfi, endF_snoc]
          (repeat array_get_dec)
          refine ⟨t', tb, _, srt h.n f.2.flatten, h.n, up, rfl, gt, .inl (.of (by rw [nints_zs]; exact htb2)), h14, by omega, oX, fun hu => ⟨hsnd, fun l hl => ?_⟩, fun t3 G3 f3 ht3 => ?_⟩
          · subst hu
            have := fin l ((hmem l).mp hl)
            exact ⟨this.1, of_decide_eq_false this.2⟩
          · rw [eX] at ht3
            have oX3 := endF_okT hf0 ho (show i + 1 ≤ fs.length by omega)
            have hv3 := hv0.ki (e1.trans (g0.trans f3)).ki
            have hst3 := hst0.ki (e1.trans (g0.trans f3)).ki
            (repeat array_get_dec)
            refine s_ifVV rfl rfl ?_
            rw [hbk]
            (repeat array_get_dec)
            refine ⟨a, h, t3, _, back, !up, rfl, hv3, .of ht3, oX3, hpos, fun t4 W G4 f4 ht4 _ hW => ?_⟩
            have hst4 := hst3.ki f4.ki
            (repeat array_get_dec)
            by_cases hWc : W = c
            · (repeat array_get_dec)
              rw [hWc] at hW
              exact ⟨_, _, _, _, rfl, by array_mem_dec, .of (f4 _ _ ht3), .inr ⟨by omega, rfl, hW⟩⟩
            · have hno : ¬ Clo h back (!up) (endF h.n up c (fs.take (i + 1))) c := fun z => hWc (Clo.uniq hW z)
              have hstop := far_stop hpos hf0 ho hw hil hno
              (repeat array_get_dec)
              refine ⟨fv, _, _, _, rfl, by array_mem_dec, ?_⟩
              rcases galt with ⟨rfl, rfl⟩ | ⟨i0, rfl, hb⟩
              · refine .inl ⟨rfl, fun s' Y hY hk => ?_⟩
                have := hstop s' Y hY hk
                rw [List.take_zero] at this
                exact Lq.eq hY.ok ho this hY.ge
              · exact .inr ⟨t', _, rfl, gt.ki (f3.trans f4).ki, oX, fall_ne hpos hf0 ho i0 (by omega), way i i0 (by omega), hb, hstop⟩
        · rintro σ G2 ⟨fv, t', v7, v8, rfl, g0, gt, galt⟩
          have etop : endF h.n up c (fs.take xs.length) = topOf h up := by
            rw [hxl, List.take_length]
            exact top_mov hoE hm
          refine ⟨fv, _, _, _, rfl, by array_mem_dec, ?_⟩
          rcases galt with ⟨e0, rfl⟩ | ⟨i0, rfl, hb⟩
          · refine .inl ⟨rfl, fun s' Y hY hk => ?_⟩
            rw [e0, List.take_zero] at etop
            have := top_ge (up := up) hY.ok
            rw [← etop] at this
            exact Lq.eq hY.ok ho this hY.ge
          · refine .inr ⟨t', _, rfl, gt, endF_okT hf0 ho (by omega), fall_ne hpos hf0 ho i0 (by omega), way _ i0 (by omega), hb, fun s' Y hY hk => ?_⟩
            rw [etop]
            exact top_ge hY.ok
      · rintro σ G2 ⟨fv, v6, v7, v8, rfl, g0, galt⟩
        rcases galt with ⟨rfl, hN⟩ | ⟨tX, X, rfl, hX, hoX, hW⟩
        · (repeat array_get_dec)
          exact q1 back G2 hEU hN (f0.trans g0)
        · (repeat array_get_dec)
          refine ⟨a, tX, h, X, rfl, hv0.ki g0.ki, hX, hoX, hpos, fun p2 lo2 hi2 H1 e1 hp2 hE2 => ?_⟩
          have hX1 := hX.ki e1.ki
          cases up with
          | true =>
            (repeat array_get_dec)
            rename_i T9 H9 nT9 e9 hT9
            exact q2 back hi2 X T9 tX H9 hEU (fun b t hb ht => ⟨hW.ne, hW.way, hW.back, hW.far, hE2.eH t ht⟩) hoX (f0.trans (g0.trans (e1.trans e9))) hT9 (hX1.ki e9.ki)
          | false =>
            (repeat array_get_dec)
            rename_i T9 H9 nT9 e9 hT9
            exact q2 back lo2 X T9 tX H9 hEU (fun b t hb ht => ⟨hW.ne, hW.way, hW.back, hW.far, hE2.eL b hb⟩) hoX (f0.trans (g0.trans (e1.trans e9))) hT9 (hX1.ki e9.ki)

theorem d_is_wider {P : Program} {w : World} {K : PySem.W.Frag} {mg : PySem.Str → Option Value} {base : Heap} {C : Addr} (T : Txt K mg C) : Dfn P w K mg base "is_wider" 1 ["swell", "last", "up"] (sp_is_wider K C) := by
  obtain ⟨f, fd, F, hm⟩ := T.f_is_wider
  refine ⟨f, fd, hm, F.kp, F.binds (ps := ["swell", "last", "up"]) (fun _ _ _ _ _ _ us hl => match us, hl with | [_, _, _], _ => rfl), F.ok sc_is_wider (fun vs H Q E h => ?_) (fun cdv A outer s H vs Q E hr h => ?_)⟩
  · unfold sp_is_wider at h
    repeat (obtain ⟨_, h⟩ := h)
    subst_vars
    rfl
  · obtain ⟨s, l, up, rfl, q⟩ := h
    refine ⟨_, (pss_one (ps_ret (pe_ifExp (pt_val (pv 2)) (pe_cmpR op_gt (pv 0) (pv 1) (nomark _)) (pe_cmpR op_lt (pv 0) (pv 1) (nomark _))))), ?_⟩
    change (_ : L2.TS) _ [some _, some _, some _] _
    cases up with
    | true =>
      have e : decide (lev l true < lev s true) = decide (l < s) := by unfold lev; simp
      rw [e] at q
      (repeat array_get_dec)
      exact q
    | false =>
      have e : decide (lev l false < lev s false) = decide (s < l) := by
        unfold lev
        simp
      rw [e] at q
      (repeat array_get_dec)
      exact q

theorem d_widening_of {P : Program} {w : World} {K : PySem.W.Frag} {mg : PySem.Str → Option Value} {base : Heap} {C : Addr} (T : Txt K mg C) : Dfn P w K mg base "widening_of" 10 ["house", "stand", "up"] (sp_widening_of K C) := by
  have D_farthest := d_farthest (P := P) (w := w) (base := base) T
  have D_is_wider := d_is_wider (P := P) (w := w) (base := base) T
  obtain ⟨f, fd, F, hm⟩ := T.f_widening_of
  refine ⟨f, fd, hm, F.kp, F.binds (ps := ["house", "stand", "up"]) (fun _ _ _ _ _ _ us hl => match us, hl with | [_, _, _], _ => rfl), F.ok sc_widening_of (fun vs H Q E h => ?_) (fun cdv A outer s H vs Q E hr h => ?_)⟩
  · unfold sp_widening_of at h
    repeat (obtain ⟨_, h⟩ := h)
    subst_vars
    rfl
  · obtain ⟨a, t, h, c, u0, b, e, rfl, hv, hst, ho, hpos, hs, hb, ht, q⟩ := h
    have h14 := hv.ok.n14
    have cB := edge_low hb
    have cT := edge_high ht
    refine ⟨_, (pss_cons (ps_set (i := 3) sc_widening_of.nd rfl (by first | exact Or.inl rfl | exact Or.inr rfl) (pe_lst pa_nil))
        (pss_cons (ps_set (i := 4) sc_widening_of.nd rfl (by first | exact Or.inl rfl | exact Or.inr rfl) (pe_def D_farthest (hr.mono (by first | decide | omega)) (by rfl) (pa_cons (pv 0) (pa_cons (pv 1) (pa_cons (pv 2) pa_nil)))))
        (pss_cons (ps_while PassesOwn.never (PW.pt (pw_and (pt_cmpR op_notN (pv 4) pe_non (nomark _)) (pw_and1 (PW.pt (pw_or (pt_cmpR op_lt (pe_callB (kLen (K := K)) (by rfl) T.b_len (by decide +kernel) (pa_cons (pv 3) pa_nil)) pe_int (nomark _)) (pw_or1 (pt_val (pe_def D_is_wider (hr.mono (by first | decide | omega)) (by rfl) (pa_cons (pe_ix (kIxT (K := K)) (pv 4) pe_int (fun _ _ => rfl)) (pa_cons (pe_ix (kIxT (K := K)) (pe_ix (kIxL (K := K)) (pv 3) (pe_un un_neg pe_int) (fun _ _ => rfl)) pe_int (fun _ _ => rfl)) (pa_cons (pv 2) pa_nil))))))))))) (pss_cons (ps_expr (kBm (K := K) PySem.F.plainAttrs_list PySem.F.slot_list_append PySem.F.type_list_append mt_append (pv 3) (pa_cons (pv 4) pa_nil)))
        (pss_cons (ps_set (i := 2) sc_widening_of.nd rfl (by first | exact Or.inl rfl | exact Or.inr rfl) (pe_not (pv 2)))
        (pss_one (ps_set (i := 4) sc_widening_of.nd rfl (by first | exact Or.inl rfl | exact Or.inr rfl) (pe_def D_farthest (hr.mono (by first | decide | omega)) (by rfl) (pa_cons (pv 0) (pa_cons (pe_ix (kIxT (K := K)) (pv 4) pe_int (fun _ _ => rfl)) (pa_cons (pv 2) pa_nil)))))))))
        (pss_one (ps_ret (pv 3)))))), ?_⟩
    change (_ : L2.TS) _ [some _, some _, some _, none, none] _
    (repeat array_get_dec)
    rename_i p H1 np e1 hp
    refine far2 (hv.ki e1.ki) (hst.ki e1.ki) ho hpos hb ht fun v o H2 e2 hvo hfo => ?_
    (repeat array_get_dec)
    refine l_while (fun σ G => ∃ (rs : List (Int × List Int)) (c1 : List Int) (up1 : Bool) (xs : List V) (v : V) (o : Option (Int × List Int)), σ = [some (.ref a), some (.ref t), some (.bl up1), some (.ref p), some v] ∧ Ex H G ∧ G p = some (.lst xs) ∧ Al (StepV K G) xs rs.reverse ∧ Wid h b e c u0 rs c1 up1 ∧ FarV K G v o ∧ FarO h c1 b e up1 o) (fun σ G => 40 - lenSlot 3 σ G) ⟨[], c, u0, [], v, o, rfl, e1.trans e2, e2 _ _ hp, Al.nil, .nil, hvo, hfo⟩ ?_
    rintro σ G ⟨rs, c1, up1, xs, v, o, rfl, g0, gp, gal, gw, gv, gf⟩
    have gI := gw.inv hpos cB cT ho hs
    have glen := gI.len
    have hxl : xs.length = rs.length := by rw [gal.1, List.length_reverse]
    match o, gv, gf with
    | none, gv, gf =>
      cases (show v = .non from gv)
      (repeat array_get_dec)
      exact q p xs rs c1 up1 G np g0 gp gal gw ⟨none, gf, fun _ _ z => nomatch z⟩
    | some (s, X), ⟨T, tX, ev, hT, htX⟩, gf =>
      subst ev
      (repeat array_get_dec)
      refine or_one (GoOn rs up1 s) (fun gg => ?_) fun hA => ?_
      · refine s_kWT ?_
        (repeat array_get_dec)
        rename_i G1 f1 gp1
        have ki1 : Ki G G1 := f1.ki gp
        have gE : Ex H G1 := fun b2 o2 hb2 => f1 b2 o2 (fun z => by rw [z, np] at hb2; cases hb2) (g0 b2 o2 hb2)
        have hT1 := Ki.tup ki1 hT
        have htX1 := htX.ki ki1
        have gw2 := Wid.step gw gf gg
        have g2I := gw2.inv hpos cB cT ho hs
        have g2len := g2I.len
        rw [List.length_cons] at g2len
        (repeat array_get_dec)
        refine far2 (hv.ki gE.ki) htX1 g2I.ok hpos hb ht fun v2 o2 G2 f2 gv2 gf2 => ?_
        (repeat array_get_dec)
        have gp2 := f2 _ _ gp1
        refine ⟨⟨(s, X) :: rs, X, !up1, xs ++ [V.ref T], v2, o2, rfl, gE.trans f2, gp2, ?_, gw2, gv2, gf2⟩, ?_⟩
        · rw [List.reverse_cons]
          exact (gal.imp fun _ _ z => (z.ki ki1).ki f2.ki).snoc ⟨T, tX, rfl, f2 _ _ hT1, htX1.ki f2.ki⟩
        · rw [lenSlot_eq (p := p) rfl gp2, lenSlot_eq (p := p) rfl gp, List.length_append]
          simp only [List.length_cons, List.length_nil]
          omega
      · by_cases hl2 : rs.length < 2
        · have hx2 : (xs.length : Int) < 2 := by omega
          rw [decide_eq_true hx2]
          exact hA (.short hl2)
        · have hx2 : ¬ (xs.length : Int) < 2 := by omega
          obtain ⟨⟨s1, X1⟩, ⟨s2, X2⟩, r2, rfl⟩ : ∃ g1 g2 r2, rs = g1 :: g2 :: r2 := by
            match rs, hl2 with
            | g1 :: g2 :: r2, _ => exact ⟨g1, g2, r2, rfl⟩
            | [_], h => exact absurd (by simp) h
            | [], h => exact absurd (by simp) h
          have sizeOf_list_dec : xs.length = r2.length + 2 := by rw [hxl]; rfl
          obtain ⟨y, hy, T2, t2, rfl, hT2, ht2⟩ := gal.get' (i := r2.length) (a := (s2, X2)) (by simp)
          have hat : atI xs (-2) = some (.ref T2) := by
            unfold atI ixN
            rw [if_neg (by omega), if_pos (by omega)]
            show xs[((xs.length : Int) + -2).toNat]? = _
            rw [show ((xs.length : Int) + -2).toNat = r2.length by omega]
            exact hy
          (repeat array_get_dec)
          refine ⟨s, s2, up1, rfl, ?_⟩
          by_cases hg : lev s2 up1 < lev s up1
          · rw [decide_eq_true hg]
            exact ⟨_, rfl, hA hg⟩
          · rw [decide_eq_false hg]
            (repeat array_get_dec)
            exact q p xs _ c1 up1 G np g0 gp gal gw ⟨some (s, X), gf, fun s' X' z => by cases z; exact hg⟩

theorem d_widening {P : Program} {w : World} {K : PySem.W.Frag} {mg : PySem.Str → Option Value} {base : Heap} {C : Addr} (T : Txt K mg C) : Dfk P w K mg base "widening" 11 2 ["house", "stand", "way"] "way" (.str "dip") (sp_widening K C) := by
  have D_check_spanned := d_check_spanned (P := P) (w := w) (base := base) T
  have D_widening_of := d_widening_of (P := P) (w := w) (base := base) T
  obtain ⟨f, fd, F, hm⟩ := T.f_widening
  refine ⟨f, fd, hm, F.kp, F.binds0 2 (by simp) (by simp) (fun _ _ _ _ _ _ us ks hu hk => match us, hu, ks, hk with | [_, _], _, [_], _ => ⟨_, _, _, _, _, _, rfl, rfl, rfl⟩), F.kbinds0 2 ["way"] [] (fun us _ ws => us ++ ws) (by simp) (by simp) (fun r1 _ r3 => r1.append r3) (fun _ _ _ _ _ _ us mv ws hu hm hw => match us, hu, mv, hm, ws, hw with | [_, _], _, [], _, [_], _ => rfl), FunD.ok (CX := CX0) F sc_widening (fun vs H Q E h => ?_) (fun cdv A outer s H vs Q E hr h => ?_)⟩
  · unfold sp_widening at h
    repeat (obtain ⟨_, h⟩ := h)
    subst_vars
    rfl
  · obtain ⟨a, t, h, c, u0, b, e, rfl, hv, hst, ho, hpos, hs, hb, ht, q⟩ := h
    refine ⟨_, (pss_cons (ps_expr (pe_def D_check_spanned (hr.mono (by first | decide | omega)) (by rfl) (pa_cons (pv 0) (pa_cons (pv 1) pa_nil))))
        (pss_one (ps_ret (pe_def D_widening_of (hr.mono (by first | decide | omega)) (by rfl) (pa_cons (pv 0) (pa_cons (pv 1) (pa_cons (pe_cmpR op_eq (pv 2) pe_str (nomark _)) pa_nil))))))), ?_⟩
    change (_ : L2.TS) _ [some _, some _, some _] _
    (repeat array_get_dec)
    refine ⟨a, t, h, c, rfl, hv, hst, ho, hs, fun H1 e1 => ?_⟩
    have ew : ((if u0 = true then (PySem.Str.ofString "peak") else PySem.Str.ofString "dip") == PySem.Str.ofString "peak") = u0 := by cases u0 <;> decide
    have ew : decide ((if u0 = true then PySem.Str.ofString "peak" else PySem.Str.ofString "dip") = PySem.Str.ofString "peak") = u0 := by cases u0 <;> decide
    (repeat array_get_dec)
    rw [ew]
    exact ⟨a, t, h, c, u0, b, e, rfl, hv.ki e1.ki, hst.ki e1.ki, ho, hpos, hs, hb, ht, fun p xs rs c' up' H' np ex h1 h2 h3 h4 => q p xs rs c' up' H' (e1.free np) (e1.trans ex) h1 h2 h3 h4⟩

theorem d__law_right {P : Program} {w : World} {K : PySem.W.Frag} {mg : PySem.Str → Option Value} {base : Heap} {C : Addr} (T : Txt K mg C) : DfnG P w K mg base "_law_right" 12 ["well"] (sp__law_right K C) := by
  have D_House := d_House___init__ (P := P) (w := w) (base := base) T
  have D__law_edges := d__law_edges (P := P) (w := w) (base := base) T
  have D__law_house := d__law_house (P := P) (w := w) (base := base) T
  have D__law_pick := d__law_pick (P := P) (w := w) (base := base) T
  have D__law_stood := d__law_stood (P := P) (w := w) (base := base) T
  have D__law_widened := d__law_widened (P := P) (w := w) (base := base) T
  have D_widening := d_widening (P := P) (w := w) (base := base) T
  obtain ⟨f, fd, F, hm⟩ := T.f__law_right
  refine ⟨f, fd, hm, F.kp, F.binds (ps := ["well"]) (fun _ _ _ _ _ _ us hl => match us, hl with | [_], _ => rfl), fnG_of F sc__law_right (fun vs H Q E h => ?_) (fun cdv A outer s H vs Q E hq hr h => ?_)⟩
  · unfold sp__law_right at h
    repeat (obtain ⟨_, h⟩ := h)
    subst_vars
    rfl
  · obtain ⟨j, n, rfl, hj, hn, q⟩ := h
    refine ⟨_, (pss_cons (ps_set (i := 1) sc__law_right.nd rfl (by first | exact Or.inl rfl | exact Or.inr rfl) (pe_def D__law_house (hr.mono (by first | decide | omega)) (by rfl) (pa_cons (pv 0) (pa_cons (pe_ix (kIxL (K := K)) (pe_lst (pa_cons (pe_op op_add pe_int (pe_def D__law_pick (hr.mono (by first | decide | omega)) (by rfl) (pa_cons (pv 0) (pa_cons pe_int pa_nil)))) (pa_cons pe_int (pa_cons pe_int pa_nil)))) (pe_def D__law_pick (hr.mono (by first | decide | omega)) (by rfl) (pa_cons (pv 0) (pa_cons pe_int pa_nil))) (fun _ _ => rfl)) pa_nil))))
        (pss_cons (ps_set (i := 2) sc__law_right.nd rfl (by first | exact Or.inl rfl | exact Or.inr rfl) (pe_def D__law_edges (hr.mono (by first | decide | omega)) (by rfl) (pa_cons (pv 1) pa_nil)))
        (pss_cons (ps_set (i := 3) sc__law_right.nd rfl (by first | exact Or.inl rfl | exact Or.inr rfl) (pe_mkd D_House (hr.mono (by first | decide | omega)) (by rfl) (pa_cons (pe_ix (kIxT (K := K)) (pv 1) pe_int (fun _ _ => rfl)) (pa_cons (pe_ix (kIxT (K := K)) (pv 1) pe_int (fun _ _ => rfl)) pa_nil))))
        (pss_cons (ps_for PassesOwn.never rfl (pi_range1 (by rfl) T.b_range (pa_cons pe_int pa_nil)) (pg_name (i := 4) sc__law_right.nd rfl (by first | exact Or.inl rfl | exact Or.inr rfl)) (pss_cons (ps_set (i := 5) sc__law_right.nd rfl (by first | exact Or.inl rfl | exact Or.inr rfl) (pe_def D__law_stood (hr.mono (by first | decide | omega)) (by rfl) (pa_cons (pv 0) (pa_cons (pv 1) (pa_cons (pv 2) pa_nil)))))
        (pss_cons (ps_setLc (i := 6) (own := [("rising", 11)]) (g := (gName 11)) (tt := tYes)  rfl sc__law_right.nd rfl rfl (sw_true rfl rfl rfl (by decide +kernel)) (pi_tupK (K := K) (pe_tup (pa_cons pe_bl (pa_cons pe_bl pa_nil)))) (blkOk_by (own := [("rising", 11)]) (N := ["well", "house", "edges", "told", "turn", "here", "dues", "found", "row", "swells", "k", "rising", "step"]) (sc := defScope s__law_right) (by decide +kernel)) (fun _ _ _ _ _ => (pg_name (i := 11) sc__law_right.nd rfl (by first | exact Or.inl rfl | exact Or.inr rfl))) (fun _ _ _ _ _ => pts_nil) (fun _ _ _ _ _ => (pe_def D__law_widened (hr.mono (by first | decide | omega)) (by rfl) (pa_cons (pv 1) (pa_cons (pv 5) (pa_cons (pv 2) (pa_cons (pv 11) pa_nil)))))))
        (pss_cons (ps_set (i := 7) sc__law_right.nd rfl (by first | exact Or.inl rfl | exact Or.inr rfl) (pe_lst (pa_cons (pe_defkw D_widening (hr.mono (by first | decide | omega)) (by rfl) (pa_cons (pv 3) (pa_cons (pe_callTy (kTuple (K := K)) (by rfl) T.b_tuple (by decide +kernel) (pa_cons (pv 5) pa_nil)) pa_nil)) (pk_cons pe_str pk_nil)) (pa_cons (pe_defkw D_widening (hr.mono (by first | decide | omega)) (by rfl) (pa_cons (pv 3) (pa_cons (pe_callTy (kTuple (K := K)) (by rfl) T.b_tuple (by decide +kernel) (pa_cons (pv 5) pa_nil)) pa_nil)) (pk_cons pe_str pk_nil)) pa_nil))))
        (pss_cons (ps_if (pt_cmpR op_ne (pe_callB (My.kReprD (K := K) hq (units64 hr)) (by rfl) T.b_repr (by decide +kernel) (pa_cons (pv 7) pa_nil)) (pe_callB (My.kReprD (K := K) hq (units64 hr)) (by rfl) T.b_repr (by decide +kernel) (pa_cons (pv 6) pa_nil)) (nomark _)) (pss_one (ps_ret pe_bl)) pss_nil)
        (pss_cons (ps_for PassesOwn.never rfl (pi_listK (K := K) (pv 7)) (pg_name (i := 8) sc__law_right.nd rfl (by first | exact Or.inl rfl | exact Or.inr rfl)) (pss_one (ps_expr (kBm (K := K) PySem.F.plainAttrs_list PySem.F.slot_list_append PySem.F.type_list_append mt_append (pv 8) (pa_cons (pe_tup (pa_cons pe_int (pa_cons (pe_tup pa_nil) pa_nil))) pa_nil)))))
        (pss_cons (ps_if (pt_cmpR op_ne (pe_callB (My.kReprD (K := K) hq (units64 hr)) (by rfl) T.b_repr (by decide +kernel) (pa_cons (pe_lst (pa_cons (pe_defk D_widening (hr.mono (by first | decide | omega)) (by rfl) (pa_cons (pv 3) (pa_cons (pe_callTy (kTuple (K := K)) (by rfl) T.b_tuple (by decide +kernel) (pa_cons (pv 5) pa_nil)) pa_nil))) (pa_cons (pe_defkw D_widening (hr.mono (by first | decide | omega)) (by rfl) (pa_cons (pv 3) (pa_cons (pe_callTy (kTuple (K := K)) (by rfl) T.b_tuple (by decide +kernel) (pa_cons (pv 5) pa_nil)) pa_nil)) (pk_cons pe_str pk_nil)) pa_nil))) pa_nil)) (pe_callB (My.kReprD (K := K) hq (units64 hr)) (by rfl) T.b_repr (by decide +kernel) (pa_cons (pv 6) pa_nil)) (nomark _)) (pss_one (ps_ret pe_bl)) pss_nil)
        (pss_one (ps_for PassesOwn.never rfl (pi_listK (K := K) (pv 6)) (pg_name (i := 8) sc__law_right.nd rfl (by first | exact Or.inl rfl | exact Or.inr rfl)) (pss_cons (ps_setLc (i := 9) (own := [("step", 12)]) (g := (gName 12)) (tt := tYes)  rfl sc__law_right.nd rfl rfl (sw_true rfl rfl rfl (by decide +kernel)) (pi_listK (K := K) (pv 8)) (blkOk_by (own := [("step", 12)]) (N := ["well", "house", "edges", "told", "turn", "here", "dues", "found", "row", "swells", "k", "rising", "step"]) (sc := defScope s__law_right) (by decide +kernel)) (fun _ _ _ _ _ => (pg_name (i := 12) sc__law_right.nd rfl (by first | exact Or.inl rfl | exact Or.inr rfl))) (fun _ _ _ _ _ => pts_nil) (fun _ _ _ _ _ => (pe_ix (kIxT (K := K)) (pv 12) pe_int (fun _ _ => rfl))))
        (pss_one (ps_for PassesOwn.never rfl (pi_range2 (by rfl) T.b_range (pa_cons pe_int (pa_cons (pe_callB (kLen (K := K)) (by rfl) T.b_len (by decide +kernel) (pa_cons (pv 9) pa_nil)) pa_nil))) (pg_name (i := 10) sc__law_right.nd rfl (by first | exact Or.inl rfl | exact Or.inr rfl)) (pss_one (ps_if (pt_chain op_le op_le (pe_callB (My.kMinL (K := K) rfl) (by rfl) T.b_min (by decide +kernel) (pa_cons (pe_slice (kSlL (K := K)) (pv 9) po_none (po_some (pv 10))) pa_nil)) (pe_ix (kIxL (K := K)) (pv 9) (pv 10) (fun _ _ => rfl)) (pe_callB (My.kMaxL (K := K) rfl) (by rfl) T.b_max (by decide +kernel) (pa_cons (pe_slice (kSlL (K := K)) (pv 9) po_none (po_some (pv 10))) pa_nil))) (pss_one (ps_ret pe_bl)) pss_nil))))))))))))))
        (pss_one (ps_ret pe_bl)))))), ?_⟩
    change (_ : L2.TS) _ [some _, none, none, none, none, none, none, none, none, none, none, none, none] _
    (repeat array_get_dec)
    refine ⟨j, _, 5, rfl, hj, by decide, by decide, by omega, fun d1 H1 d10 d15 e1 j1 => ?_⟩
    (repeat array_get_dec)
    rename_i l1 H2 nl1 e2 hl1
    have hl1j := j1.free nl1
    refine ⟨j, _, 3, rfl, j1.ex e2, by decide, by decide, by omega, fun d2 H3 d20 d23 e3 j3 => ?_⟩
    obtain ⟨w, hwm, hw⟩ := pickJ [1 + d1, 4, 5] d20 d23
    have hw15 : 1 ≤ w ∧ w ≤ 5 := by simp at hwm; omega
    have hw' : atI [V.int (1 + d1), V.int 4, V.int 5] d2 = some (.int w) := hw
    have hl13 := e3 _ _ hl1j hl1
    (repeat array_get_dec)
    obtain ⟨m, rfl⟩ : ∃ m : Nat, w = (m : Int) := ⟨w.toNat, by omega⟩
    refine ⟨j, _, m, rfl, j3, by omega, by omega, by omega, fun r tp tl xs ys lat hel H4 e4 j4 hr htp hal htl hbl hlm hlat hhel h200 => ?_⟩
    have hlen : lat.length = m := hlm
    have b4 : ExB j H H4 := ((e1.trans e2.exB).trans e3).trans e4
    rw [← hlm] at hhel
    obtain ⟨h0, hN0, hS0, hn0, hsame⟩ := net_of hr htp hal htl hbl (by omega) (by omega) hlat hhel
    (repeat array_get_dec)
    refine ⟨r, h0, rfl, hN0, hS0, fun b t pe H5 e5 hpe hb ht hb90 ht30 => ?_⟩
    have hr5 := e5 _ _ hr
    (repeat array_get_dec)
    intro x dx nx ndx nex
    refine mk_house nx ndx nex (.of (e5 _ _ htp)) (hal.imp fun _ _ z => z.ki e5.ki) (.of (e5 _ _ htl)) (hbl.imp fun _ _ z => TripV.ki z e5.ki) ⟨by omega, by omega, fun z hz => (hlat z hz).1⟩ hhel fun h H6 e6 hv elat ehel esrt hpos => ?_
    have eh := hsame h elat ehel esrt
    subst eh
    have hN6 := hN0.ki (e5.trans e6).ki
    have hpe6 := e6 _ _ hpe
    have j6 := j4.ex (e5.trans e6)
    have b6 : ExB j H H6 := b4.trans (e5.trans e6).exB
    have cB := edge_low hb
    have cT := edge_high ht
    have hn8 := hS0.n8
    have pej : pe ≠ j := fun z => by
      obtain ⟨_, _, _, q1, _⟩ := j6
      rw [z, q1] at hpe6
      cases hpe6
    (repeat array_get_dec)
    refine l_forR (m := 3) rfl (by decide) (fun i σ G => ∃ (v4 v5 v6 v7 v8 v9 v10 v11 v12 : Option V), σ = [some (.ref j), some (.ref r), some (.ref pe), some (.ref x), v4, v5, v6, v7, v8, v9, v10, v11, v12] ∧ ExB j H6 G ∧ JarAt G j (n + 1000 + 200 * (i : Int))) ⟨_, _, _, _, _, _, _, _, _, rfl, ExB.rfl, j6.le (by omega)⟩ ?_ ?_
    · rintro i σ G hi ⟨v4, v5, v6, v7, v8, v9, v10, v11, v12, rfl, gB, gj⟩
      have gN := hN6.ki (j6.ki gB)
      have gv := hv.ki (j6.ki gB)
      have gpe := gB _ _ pej hpe6
      (repeat array_get_dec)
      refine ⟨j, r, pe, h, _, b, t, rfl, gj, by omega, gN, hS0, gpe, hb, ht, hb90, ht30, fun p c G1 pj f1 k1 hp hoc hsc => ?_⟩
      have gN1 := gN.ki (gj.ki f1)
      have gv1 := gv.ki (gj.ki f1)
      have gpe1 := f1 _ _ pej gpe
      (repeat array_get_dec)
      apply lc_evAD [false, true] (fun b0 v _ => v = V.bl b0) (fun _ => true) (fun D b0 y H => WidV K h b t c G1 D b0 y H)
      · simp
      · rintro D b0 y H1 H2 e2 e3 ⟨l, xs, rs, c', up', z1, z0, z2, z3, z4, z5, z6, z7⟩
        exact ⟨l, xs, rs, c', up', z1, z0, z2, e2 _ _ z0 z3, z4.imp fun _ _ z => z.ki e3, z5, z6, z7⟩
      · refine evn_t (fun _ _ _ _ _ h => h) fun Q2 k => ?_
        (repeat array_get_dec)
        rename_i tt H7 ntt e7 htt
        exact k tt _ H7 e7 htt (.cons rfl (.cons rfl .nil))
      · rintro b0 hb0 x1 H7 e7 rfl
        refine ⟨[some (V.ref j), some (V.ref r), some (V.ref pe), some (V.ref x), some (V.int (i : Int)), some (V.ref p), v6, v7, v8, v9, v10, some (V.bl b0), v12], gv_name, rfl, fun H8 e8 => tv_yes, fun hk D H8 e8 nD hD => evM fun Q2 k => ?_⟩
        have e78 := e7.trans e8
        obtain ⟨yD, hD⟩ := hD
        (repeat array_get_dec)
        refine ⟨r, p, pe, h, c, b, t, b0, rfl, gN1.ki e78.ki, hS0, e78 _ _ hp, hoc, hsc, e78 _ _ gpe1, hb, ht, hb90, ht30, fun l xs rs c' up' H9 nl e9 hl hal2 hw hd hsm => ?_⟩
        exact k _ _ e9 ⟨l, xs, rs, c', up', rfl, (fun z => by rw [z, hD] at nl; cases nl), e78.free nl, hl, hal2, hw, hd, (hw.inv hpos cB cT hoc hsc).small hn8 hsm⟩
      intro l ys H7 nl e7 hl hys
      rw [List.filter_eq_self.mpr fun _ _ => rfl] at hys
      have hyl : ys.length = 2 := hys.1
      obtain ⟨y1, y2, rfl⟩ : ∃ y1 y2, ys = [y1, y2] := by
        match ys, hyl with
        | [y1, y2], _ => exact ⟨y1, y2, rfl⟩
      obtain ⟨w1, xs1, rs1, c1, u1, rfl, z10, z11, z12, z13, z14, z15, z16⟩ := hys.2 0 y1 false rfl rfl
      obtain ⟨w2, xs2, rs2, c2, u2, rfl, z20, z21, z22, z23, z24, z25, z26⟩ := hys.2 1 y2 true rfl rfl
      have ro := widP_ro z16 z26
      have I1 := z14.inv hpos cB cT hoc hsc
      have I2 := z24.inv hpos cB cT hoc hsc
      -- asked once, whatever is done to the lists that were told ahead
      have ask : ∀ (G2 : Hp) (ta : Addr) (u0 : Bool) (Q2 : VK), Ki H7 G2 → G2 ta = some (.tup (c.map V.int)) → (∀ p1 xs H', G2 p1 = none → Ex G2 H' → H' p1 = some (.lst xs) → Al (StepV K H') xs (if u0 = true then rs2 else rs1).reverse → Q2 (.ref p1) H') → sp_widening K C [.ref x, .ref ta, .str (if u0 = true then "peak" else "dip")] G2 Q2 E0 := fun G2 ta u0 Q2 e8 hta k =>
        ⟨x, ta, h, c, u0, b, t, rfl, gv1.ki (e7.ki.trans e8), .of hta, hoc, hpos, hsc, hb, ht, fun p1 xs rs c' up' H' np ex hp1 hal2 hw hd => k p1 xs H' np ex hp1 (by
          cases u0 with
          | true =>
            obtain ⟨er, _, _⟩ := hw.uniq hd z24 z25
            rw [er] at hal2
            exact hal2
          | false =>
            obtain ⟨er, _, _⟩ := hw.uniq hd z14 z15
            rw [er] at hal2
            exact hal2)⟩
      have hp7 := e7 _ _ hp
      (repeat array_get_dec)
      rename_i ta H8 nta e8 hta
      refine ask H8 ta false _ e8.ki hta fun p1 ps1 H9 np1 e9 hp1 al1 => ?_
      have hp9 := (e8.trans e9) _ _ hp7
      (repeat array_get_dec)
      rename_i tb HA ntb eA htb
      refine ask HA tb true _ ((e8.trans e9).trans eA).ki htb fun p2 ps2 HB np2 eB hp2 al2 => ?_
      (repeat array_get_dec)
      rename_i l2 HC nl2 eC hl2
      have e7B : Ex H7 HB := ((e8.trans e9).trans eA).trans eB
      have e7C : Ex H7 HC := e7B.trans eC
      have p1C : HC p1 = some (.lst ps1) := ((eA.trans eB).trans eC) _ _ hp1
      have p2C : HC p2 = some (.lst ps2) := eC _ _ hp2
      have p17 : H7 p1 = none := e8.free np1
      have p27 : H7 p2 = none := ((e8.trans e9).trans eA).free np2
      have due : ∀ G2, Ki H7 G2 → (∀ q2 o2, q2 ≠ p1 → q2 ≠ p2 → H7 q2 = some o2 → G2 q2 = some o2) → Dp K G2 (.ref l) (.list [widL rs1, widL rs2]) := fun G2 ki k => by
        have n7 : ∀ {q2 o2}, H7 q2 = some o2 → G2 q2 = some o2 := fun {q2 o2} h2 => k q2 o2 (fun z => by rw [z, p17] at h2; cases h2) (fun z => by rw [z, p27] at h2; cases h2) h2
        exact widP_dp (n7 hl) (widL_dp (n7 z12) (z13.imp fun _ _ z => z.ki ki)) (widL_dp (n7 z22) (z23.imp fun _ _ z => z.ki ki))
      refine s_repr (d := .list [widL rs1, widL rs2]) (widP_dp hl2 (widL_dp p1C (al1.imp fun _ _ z => z.ki ((eA.trans eB).trans eC).ki)) (widL_dp p2C (al2.imp fun _ _ z => z.ki eC.ki))) ro (by decide) (by decide) ?_
      (repeat array_get_dec)
      refine s_repr (due HC e7C.ki fun _ _ _ _ z => e7C _ _ z) ro (by decide) (by decide) ?_
      (repeat array_get_dec)
      have lp1 : ps1.length ≤ 16 := by have := al1.1; have := z16.1; simp at *; omega
      have lp2 : ps2.length ≤ 16 := by have := al2.1; have := z26.1; simp at *; omega
      have p12 : p1 ≠ p2 := fun z => by have := eA _ _ hp1; rw [z, np2] at this; cases this
      have l2p1 : l2 ≠ p1 := fun z => by rw [z, (eA.trans eB) _ _ hp1] at nl2; cases nl2
      have l2p2 : l2 ≠ p2 := fun z => by rw [z, hp2] at nl2; cases nl2
      refine l_forL (xs := [V.ref p1, V.ref p2]) (fun i2 σ G2 => ∃ (v8 : Option V) (ya yb : List V), σ = [some (.ref j), some (.ref r), some (.ref pe), some (.ref x), some (.int (i : Int)), some (.ref p), some (.ref l), some (.ref l2), v8, v9, v10, v11, v12] ∧ (∀ q2 o2, q2 ≠ p1 → q2 ≠ p2 → HC q2 = some o2 → G2 q2 = some o2) ∧ G2 p1 = some (.lst ya) ∧ G2 p2 = some (.lst yb) ∧ ya.length ≤ 16 + i2 ∧ yb.length ≤ 16 + i2) (.of hl2) ⟨_, ps1, ps2, rfl, fun _ _ _ _ z => z, p1C, p2C, by omega, by omega⟩ ?_ ?_ ?_
      · rintro i2 σ G2 ⟨v8, ya, yb, rfl, k0, ka, kb, kl, kl2⟩
        exact .of (k0 _ _ l2p1 l2p2 hl2)
      · rintro i2 v σ G2 hv2 ⟨v8, ya, yb, rfl, k0, ka, kb, kl, kl2⟩
        match i2, hv2 with
        | 0, hv2 =>
          cases hv2
          (repeat array_get_dec)
          rename_i t0 G3 nt0 f3 ht0 t1 G4 nt1 f4 ht1 G5 f5 kp
          have kb5 := f5 _ _ p12.symm (f4 _ _ (f3 _ _ kb))
          exact ⟨_, _, _, rfl, fun q2 o2 n1 n2 h2 => f5 _ _ n1 (f4 _ _ (f3 _ _ (k0 _ _ n1 n2 h2))), kp, kb5, by rw [List.length_append]; simp; omega, by omega⟩
        | 1, hv2 =>
          cases hv2
          (repeat array_get_dec)
          rename_i t0 G3 nt0 f3 ht0 t1 G4 nt1 f4 ht1 G5 f5 kp
          have ka5 := f5 _ _ p12 (f4 _ _ (f3 _ _ ka))
          exact ⟨_, _, _, rfl, fun q2 o2 n1 n2 h2 => f5 _ _ n2 (f4 _ _ (f3 _ _ (k0 _ _ n1 n2 h2))), ka5, kp, by omega, by rw [List.length_append]; simp; omega⟩
      · rintro σ G2 ⟨v8, ya, yb, rfl, k0, ka, kb, kl, kl2⟩
        have ki2 : Ki HC G2 := fun q2 o2 im h2 => k0 q2 o2 (fun z => by rw [z, p1C] at h2; cases h2; exact im.elim) (fun z => by rw [z, p2C] at h2; cases h2; exact im.elim) h2
        have k7 : ∀ q2 o2, H7 q2 = some o2 → G2 q2 = some o2 := fun q2 o2 h2 => k0 q2 o2 (fun z => by rw [z, p17] at h2; cases h2) (fun z => by rw [z, p27] at h2; cases h2) (e7C _ _ h2)
        have e72 : Ex H7 G2 := k7
        have pG := e72 _ _ hp7
        (repeat array_get_dec)
        rename_i tc G3 ntc f3 htc
        refine ask G3 tc false _ (e72.trans f3).ki htc fun p3 ps3 G4 np3 f4 hp3 al3 => ?_
        have hp4 := (f3.trans f4) _ _ pG
        (repeat array_get_dec)
        rename_i td G5 ntd f5 htd
        refine ask G5 td true _ (((e72.trans f3).trans f4).trans f5).ki htd fun p4 ps4 G6 np4 f6 hp4' al4 => ?_
        (repeat array_get_dec)
        rename_i l3 G7 nl3 f7 hl3
        have e77 : Ex H7 G7 := ((((e72.trans f3).trans f4).trans f5).trans f6).trans f7
        refine s_repr (d := .list [widL rs1, widL rs2]) (widP_dp hl3 (widL_dp (((f5.trans f6).trans f7) _ _ hp3) (al3.imp fun _ _ z => z.ki ((f5.trans f6).trans f7).ki)) (widL_dp (f7 _ _ hp4') (al4.imp fun _ _ z => z.ki f7.ki))) ro (by decide) (by decide) ?_
        (repeat array_get_dec)
        refine s_repr (due G7 e77.ki fun _ _ _ _ z => e77 _ _ z) ro (by decide) (by decide) ?_
        (repeat array_get_dec)
        refine l_forL (xs := [V.ref w1, V.ref w2]) (fun i2 σ G8 => ∃ (v8 v9 v10 v12 : Option V), σ = [some (.ref j), some (.ref r), some (.ref pe), some (.ref x), some (.int (i : Int)), some (.ref p), some (.ref l), some (.ref l2), v8, v9, v10, v11, v12] ∧ Ex G7 G8) (.of (e77 _ _ hl)) ⟨_, _, _, _, rfl, Ex.rfl⟩ ?_ ?_ ?_
        · rintro i2 σ G8 ⟨v8, v9, v10, v12, rfl, f8⟩
          exact .of (f8 _ _ (e77 _ _ hl))
        · rintro i2 v σ G8 hv2 ⟨v8, v9, v10, v12, rfl, f8⟩
          have e78 := e77.trans f8
          obtain ⟨wk, xk, rk, uk, rfl, gl, gal, gext, gln⟩ : ∃ wk xk rk u, v = .ref wk ∧ G8 wk = some (.lst xk) ∧ Al (StepV K G8) xk rk.reverse ∧ Ext rk u ∧ rk.length ≤ 16 := by
            match i2, hv2 with
            | 0, hv2 =>
              cases hv2
              exact ⟨w1, xs1, rs1, _, rfl, e78 _ _ z12, z13.imp fun _ _ z => z.ki e78.ki, I1.ext, z16.1⟩
            | 1, hv2 =>
              cases hv2
              exact ⟨w2, xs2, rs2, _, rfl, e78 _ _ z22, z23.imp fun _ _ z => z.ki e78.ki, I2.ext, z26.1⟩
          (repeat array_get_dec)
          apply lc_gen (as := rk.reverse) (RA := StepV K) (RB := fun g y _ => y = .int g.1) rfl
          · with_reducible repeat (first | exact SetR.z | apply SetR.s)
          · intro v; with_reducible repeat (first | exact SetR.z | apply SetR.s)
          · refine evM fun Q2 k => ?_
            (repeat array_get_dec)
            exact k _ _ Ex.rfl ⟨wk, xk, rfl, .of gl, gal⟩
          · rw [List.length_reverse]; omega
          · exact fun _ _ _ _ _ z => z
          · rintro i3 x3 g H1' f9 _ ⟨T, tX, rfl, hT, htX⟩ H2' f10
            refine evM fun Q2 k => ?_
            (repeat array_get_dec)
            exact k _ _ Ex.rfl rfl
          intro lw yw G9 nlw f9 hlw hyw
          have ey := Al.map_ints (H := G9) (f := fun g : Int × List Int => g.1) hyw
          subst ey
          have hlen2 : (rk.reverse.map (·.1)).length = rk.length := by simp
          (repeat array_get_dec)
          refine l_forAC (by omega) (by omega) (fun i4 σ GA => ∃ (v10 v12 : Option V), σ = [some (.ref j), some (.ref r), some (.ref pe), some (.ref x), some (.int (i : Int)), some (.ref p), some (.ref l), some (.ref l2), some (.ref wk), some (.ref lw), v10, v11, v12] ∧ Ex G9 GA) ⟨_, _, rfl, Ex.rfl⟩ ?_ ?_
          · rintro i4 σ GA hi4 ⟨v10, v12, rfl, fA⟩
            have hlwA := fA _ _ hlw
            (repeat array_get_dec)
            rename_i lk GB nlk fB hlk
            generalize hL : rk.reverse.map (fun g => g.1) = L at *
            have hk4 : 1 + i4 < L.length := by omega
            obtain ⟨s, hs4⟩ : ∃ s, L[1 + i4]? = some s := ⟨_, List.getElem?_eq_getElem hk4⟩
            obtain ⟨d', hd'⟩ := ext_out gext (k := 1 + i4) (s := s) (by rw [← hs4, ← hL])
            have hat4 : atI (L.map V.int) (1 + (i4 : Int)) = some (.int s) := by
              rw [show (1 + (i4 : Int)) = ((1 + i4 : Nat) : Int) by omega]
              exact atI_nat (by rw [List.getElem?_map, hs4]; rfl)
            have et4 : (1 + (i4 : Int)).toNat = 1 + i4 := by omega
            rw [et4] at hlk
            have tl4 : 0 < (L.take (1 + i4)).length := by rw [List.length_take]; omega
            have hd2 : ∀ y, y ∈ L.take (1 + i4) → lev y d' < lev s d' := fun y hy => hd' y (by rw [← hL] at hy; exact hy)
            refine s_minL (L := L.take (1 + i4)) (.of hlk) tl4 fun m4 hm4 hmin4 => ?_
            have hlwB := fB _ _ hlwA
            have hms := hd2 m4 hm4
            cases d' with
            | true =>
              have hle4 : m4 ≤ s := by unfold lev at hms; simp at hms; omega
              (repeat array_get_dec)
              rename_i lx GC nlx fC hlx m5 hm5 hmax5
              have hns : ¬ s ≤ m5 := by
                have := hd2 m5 hm5
                unfold lev at this
                simp at this
                omega
              (repeat array_get_dec)
              exact ⟨_, _, rfl, (fA.trans fB).trans fC⟩
            | false =>
              have hle4 : ¬ m4 ≤ s := by unfold lev at hms; simp at hms; omega
              (repeat array_get_dec)
              exact ⟨_, _, rfl, fA.trans fB⟩
          · rintro σ GA ⟨v10, v12, rfl, fA⟩
            exact ⟨_, _, _, _, rfl, (f8.trans f9).trans fA⟩
        · rintro σ G8 ⟨v8, v9, v10, v12, rfl, f8⟩
          exact ⟨_, _, _, _, _, _, _, _, _, rfl, (gB.trans f1).trans (e7.trans (e77.trans f8)).exB, (k1.ex (e7.trans (e77.trans f8))).le (by omega)⟩
    · rintro σ G ⟨v4, v5, v6, v7, v8, v9, v10, v11, v12, rfl, gB, gj⟩
      (repeat array_get_dec)
      exact q _ (b6.trans gB)

theorem d__law_well {P : Program} {w : World} {K : PySem.W.Frag} {mg : PySem.Str → Option Value} {base : Heap} {C : Addr} (T : Txt K mg C) : Dfn P w K mg base "_law_well" 1 ["script", "k"] (sp__law_well K C) := by
  obtain ⟨f, fd, F, hm⟩ := T.f__law_well
  refine ⟨f, fd, hm, F.kp, F.binds (ps := ["script", "k"]) (fun _ _ _ _ _ _ us hl => match us, hl with | [_, _], _ => rfl), F.ok sc__law_well (fun vs H Q E h => ?_) (fun cdv A outer s H vs Q E hr h => ?_)⟩
  · unfold sp__law_well at h
    repeat (obtain ⟨_, h⟩ := h)
    subst_vars
    rfl
  · obtain ⟨s, ns, k, rfl, hs, h0, h63, q⟩ := h
    have big : (0 : Int) < (10 : Int) ^ (50 : Int).toNat + 151 ∧ (10 : Int) ^ (50 : Int).toNat + 151 < 2 ^ 180 := by decide +kernel
    have rest : ∀ (c : Int) (p : Addr) (H' : Hp), H p = none → Ex H H' → H' p = some (.lst [.int (if c - (10 : Int) ^ (18 : Int).toNat > 0 then c - (10 : Int) ^ (18 : Int).toNat else 0), .int (c.fmod ((10 : Int) ^ (50 : Int).toNat + 151) * 67 + 11 * k + 5), .int 0]) → Q (.ref p) H' := fun c p H' np e hp => by
      have hf := fmod_r (x := c) (m := (10 : Int) ^ (50 : Int).toNat + 151) big.1
      refine q p _ np e ⟨_, _, _, hp, ?_, ?_, ?_, by omega, by omega⟩
      · split <;> omega
      · omega
      · have : (2 : Int) ^ 201 = 2 ^ 180 * 2 ^ 21 := by decide
        have h71 : (67 : Int) < 2 ^ 7 := by decide
        omega
    refine ⟨_, (pss_cons (ps_set (i := 2) sc__law_well.nd rfl (by first | exact Or.inl rfl | exact Or.inr rfl) (pe_ifExp (pt_cmpR op_lt (pv 1) (pe_callB (kLen (K := K)) (by rfl) T.b_len (by decide +kernel) (pa_cons (pv 0) pa_nil)) (nomark _)) (pe_ix (kIxL (K := K)) (pv 0) (pv 1) (fun _ _ => rfl)) pe_int))
        (pss_one (ps_ret (pe_lst (pa_cons (pe_callB kMax2 (by rfl) T.b_max (by decide +kernel) (pa_cons pe_int (pa_cons (pe_op op_sub (pv 2) (pe_op op_powW pe_int pe_int)) pa_nil))) (pa_cons (pe_op op_add (pe_op op_add (pe_op op_mul (pe_op op_modN (pv 2) (pe_op op_add (pe_op op_powW pe_int pe_int) pe_int)) pe_int) (pe_op op_mul pe_int (pv 1))) pe_int) (pa_cons pe_int pa_nil))))))), ?_⟩
    change (_ : L2.TS) _ [some _, some _, none] _
    (repeat array_get_dec)
    by_cases hk : k < (ns.length : Int)
    · obtain ⟨j, rfl⟩ : ∃ j : Nat, k = (j : Int) := ⟨k.toNat, by omega⟩
      have hj : j < ns.length := by omega
      have hat : atI (ns.map V.int) (j : Int) = some (.int ns[j]) := atI_nat (by rw [List.getElem?_map, List.getElem?_eq_getElem hj]; rfl)
      (repeat array_get_dec)
      rename_i p2 H2 np2 e2 hp2
      exact rest _ p2 H2 np2 e2 hp2
    · (repeat array_get_dec)
      rename_i p2 H2 np2 e2 hp2
      exact rest _ p2 H2 np2 e2 hp2

theorem d_law {P : Program} {w : World} {K : PySem.W.Frag} {mg : PySem.Str → Option Value} {base : Heap} {C f : Addr} {fd : FuncData} (T : Txt K mg C) (F : Fun K "law" "law" s_law f fd) : FnG P w K mg base 13 f fd ["script"] (sp_law K C) := by
  have D__law_right := d__law_right (P := P) (w := w) (base := base) T
  have D__law_well := d__law_well (P := P) (w := w) (base := base) T
  refine fnG_of F sc_law (fun vs H Q E h => ?_) (fun cdv A outer s H vs Q E hq hr h => ?_)
  · unfold sp_law at h
    repeat (obtain ⟨_, h⟩ := h)
    subst_vars
    rfl
  · obtain ⟨a, ns, rfl, hs, hlen, q⟩ := h
    refine ⟨_, (pss_cons (ps_for PassesOwn.never rfl (pi_range1 (by rfl) T.b_range (pa_cons (pe_callB kMax2 (by rfl) T.b_max (by decide +kernel) (pa_cons pe_int (pa_cons (pe_callB kMin2 (by rfl) T.b_min (by decide +kernel) (pa_cons pe_int (pa_cons (pe_callB (kLen (K := K)) (by rfl) T.b_len (by decide +kernel) (pa_cons (pv 0) pa_nil)) pa_nil))) pa_nil))) pa_nil)) (pg_name (i := 1) sc_law.nd rfl (by first | exact Or.inl rfl | exact Or.inr rfl)) (pss_one (ps_if (pt_not (pt_val (pe_defG D__law_right hq (hr.mono (by first | decide | omega)) (by rfl) (pa_cons (pe_def D__law_well (hr.mono (by first | decide | omega)) (by rfl) (pa_cons (pv 0) (pa_cons (pv 1) pa_nil))) pa_nil)))) (pss_one (ps_ret pe_bl)) pss_nil)))
        (pss_one (ps_ret pe_bl))), ?_⟩
    change (_ : L2.TS) _ [some _, none] _
    (repeat array_get_dec)
    obtain ⟨top, htop, ht6⟩ : ∃ top : Nat, (if (if (ns.length : Int) < 2 then (ns.length : Int) else 2) > 1 then (if (ns.length : Int) < 2 then (ns.length : Int) else 2) else 1) = (top : Int) ∧ top ≤ 2 :=
      ⟨(if (if (ns.length : Int) < 2 then (ns.length : Int) else 2) > 1 then (if (ns.length : Int) < 2 then (ns.length : Int) else 2) else 1).toNat, by split <;> split <;> omega, by split <;> split <;> omega⟩
    refine l_forR (m := top) htop (by omega) (fun i σ H' => ∃ v1, σ = [some (.ref a), v1] ∧ Ex H H') ⟨_, rfl, Ex.rfl⟩ ?_ ?_
    · rintro i σ G hi ⟨v1, rfl, g0⟩
      (repeat array_get_dec)
      refine ⟨a, ns, _, rfl, by sizeOf_list_dec, by omega, by omega, fun j H1 nj e1 j1 => ?_⟩
      have keep : ∀ {G'}, ExB j H1 G' → Ex H G' := fun {G'} e b o hb => e b o (ne_of_none (g0 b o hb) nj) (e1 b o (g0 b o hb))
      (repeat array_get_dec)
      refine ⟨j, _, rfl, j1, by decide, fun H2 e2 => ?_⟩
      (repeat array_get_dec)
      exact ⟨_, rfl, keep e2⟩
    · rintro σ G ⟨v1, rfl, g0⟩
      (repeat array_get_dec)
      exact q _
end My
namespace My
open PySem PySem.Spec PyProof.Rows L2
theorem all_mk {l : PySem.W.OpenLaw} {w : World} {K : PySem.W.Frag} {h : Heap} {mg : PySem.Str → Option Value} {C fa f0 f1 f2 f3 f4 f5 f6 f7 dt7 dv7 f8 f9 f10 f11 f12 f13 f14 f15 f16 f17 f18 f19 f20 f21 f22 f23 f24 f25 f26 f27 f28 f29 f30 f31 f32 f33 f34 f35 f36 f37 f38 f39 f40 f41 f42 f43 kd43 f44 f45 f46 : Addr} {od0 an0 od1 an1 od2 an2 od3 an3 od4 an4 od5 an5 od6 an6 od7 an7 odt7 od8 an8 od9 an9 od10 an10 od11 an11 od12 an12 od13 an13 od14 an14 od15 an15 od16 an16 od17 an17 od18 an18 od19 an19 od20 an20 od21 an21 od22 an22 od23 an23 od24 an24 od25 an25 od26 an26 od27 an27 od28 an28 od29 an29 od30 an30 od31 an31 od32 an32 od33 an33 od34 an34 od35 an35 od36 an36 od37 an37 od38 an38 od39 an39 od40 an40 od41 an41 od42 an42 od43 an43 od44 an44 od45 an45 od46 an46 : Option Addr} {sl0 sl1 sl2 sl3 sl4 sl5 sl6 sl7 sdt7 sl8 sl9 sl10 sl11 sl12 sl13 sl14 sl15 sl16 sl17 sl18 sl19 sl20 sl21 sl22 sl23 sl24 sl25 sl26 sl27 sl28 sl29 sl30 sl31 sl32 sl33 sl34 sl35 sl36 sl37 sl38 sl39 sl40 sl41 sl42 sl43 sl44 sl45 sl46 : Array (Option Value)} {oc0 dc0 pm0 cd0 ct0 kV0 oc1 dc1 pm1 cd1 ct1 kV1 oc2 dc2 pm2 cd2 ct2 kV2 oc3 dc3 pm3 cd3 ct3 kV3 oc4 dc4 pm4 cd4 ct4 kV4 oc5 dc5 pm5 cd5 ct5 kV5 oc6 dc6 pm6 cd6 ct6 kV6 oc7 dc7 pm7 cd7 ct7 kV7 cdt7 oc8 dc8 pm8 cd8 ct8 kV8 oc9 dc9 pm9 cd9 ct9 kV9 oc10 dc10 pm10 cd10 ct10 kV10 oc11 dc11 pm11 cd11 ct11 kV11 oc12 dc12 pm12 cd12 ct12 kV12 oc13 dc13 pm13 cd13 ct13 kV13 oc14 dc14 pm14 cd14 ct14 kV14 oc15 dc15 pm15 cd15 ct15 kV15 oc16 dc16 pm16 cd16 ct16 kV16 oc17 dc17 pm17 cd17 ct17 kV17 oc18 dc18 pm18 cd18 ct18 kV18 oc19 dc19 pm19 cd19 ct19 kV19 oc20 dc20 pm20 cd20 ct20 kV20 oc21 dc21 pm21 cd21 ct21 kV21 oc22 dc22 pm22 cd22 ct22 kV22 oc23 dc23 pm23 cd23 ct23 kV23 oc24 dc24 pm24 cd24 ct24 kV24 oc25 dc25 pm25 cd25 ct25 kV25 oc26 dc26 pm26 cd26 ct26 kV26 oc27 dc27 pm27 cd27 ct27 kV27 oc28 dc28 pm28 cd28 ct28 kV28 oc29 dc29 pm29 cd29 ct29 kV29 oc30 dc30 pm30 cd30 ct30 kV30 oc31 dc31 pm31 cd31 ct31 kV31 oc32 dc32 pm32 cd32 ct32 kV32 oc33 dc33 pm33 cd33 ct33 kV33 oc34 dc34 pm34 cd34 ct34 kV34 oc35 dc35 pm35 cd35 ct35 kV35 oc36 dc36 pm36 cd36 ct36 kV36 oc37 dc37 pm37 cd37 ct37 kV37 oc38 dc38 pm38 cd38 ct38 kV38 oc39 dc39 pm39 cd39 ct39 kV39 oc40 dc40 pm40 cd40 ct40 kV40 oc41 dc41 pm41 cd41 ct41 kV41 oc42 dc42 pm42 cd42 ct42 kV42 oc43 dc43 pm43 cd43 ct43 oc44 dc44 pm44 cd44 ct44 kV44 oc45 dc45 pm45 cd45 ct45 kV45 oc46 dc46 pm46 cd46 ct46 kV46 : Value} {ndt : Nat} {kt43 t_MOST_LATCHES t_MOST_HELP t_FIELD_BITS t_FIELD : Tok} (X : K.In h) (G : h.Ns mainGlobals mg) (hfa : mg "law" = some (.ref fa))
    (aC : PySem.W.nsIn K mainGlobals "House" = some (some (.ref C)))
    (pgC : PySem.W.plainGet K C Str.empty = true)
    (hdC : PySem.W.hasDictIn K C = true)
    (poC : PySem.W.plainOver K C = true)
    (saC : PySem.W.findIn K (.ref C) "__setattr__" = some (some (.builtin "object.__setattr__")))
    (mkC : PySem.W.makesIn K C = true)
    (kcC : PySem.W.keepIn K (.ref C) = true)
    (n_latches : PySem.W.findIn K (.ref C) "_latches" = some none)
    (n_marks : PySem.W.findIn K (.ref C) "_marks" = some none)
    (n_rows : PySem.W.findIn K (.ref C) "_rows" = some none)
    (n_numbers : PySem.W.findIn K (.ref C) "_numbers" = some none)
    (n_helps : PySem.W.findIn K (.ref C) "_helps" = some none)
    (a0 : PySem.W.nsIn K mainGlobals "in_one_number" = some (some (.ref f0)))
    (l0 : K.lookup f0 = some ⟨oc0, od0, .func (PySem.W.fnOf "in_one_number" "in_one_number" (defArgs s_in_one_number) (defBody s_in_one_number) (defScope s_in_one_number) .none kV0 dc0 pm0 an0 cd0 ct0), sl0⟩)
    (c0 : PySem.W.codeIn K cd0 "in_one_number" = true)
    (k0 : PySem.W.keepIn K (.ref f0) = true)
    (a1 : PySem.W.findIn K (.ref C) "_lend" = some (some (.ref f1)))
    (i1 : PySem.W.isFn K (.ref f1) = true)
    (l1 : K.lookup f1 = some ⟨oc1, od1, .func (PySem.W.fnOf "_lend" "House._lend" (defArgs s_House__lend) (defBody s_House__lend) (defScope s_House__lend) .none kV1 dc1 pm1 an1 cd1 ct1), sl1⟩)
    (c1 : PySem.W.codeIn K cd1 "House._lend" = true)
    (k1 : PySem.W.keepIn K (.ref f1) = true)
    (a2 : PySem.W.nsIn K mainGlobals "is_whole" = some (some (.ref f2)))
    (l2 : K.lookup f2 = some ⟨oc2, od2, .func (PySem.W.fnOf "is_whole" "is_whole" (defArgs s_is_whole) (defBody s_is_whole) (defScope s_is_whole) .none kV2 dc2 pm2 an2 cd2 ct2), sl2⟩)
    (c2 : PySem.W.codeIn K cd2 "is_whole" = true)
    (k2 : PySem.W.keepIn K (.ref f2) = true)
    (a3 : PySem.W.nsIn K mainGlobals "is_pair" = some (some (.ref f3)))
    (l3 : K.lookup f3 = some ⟨oc3, od3, .func (PySem.W.fnOf "is_pair" "is_pair" (defArgs s_is_pair) (defBody s_is_pair) (defScope s_is_pair) .none kV3 dc3 pm3 an3 cd3 ct3), sl3⟩)
    (c3 : PySem.W.codeIn K cd3 "is_pair" = true)
    (k3 : PySem.W.keepIn K (.ref f3) = true)
    (a4 : PySem.W.nsIn K mainGlobals "check_latches" = some (some (.ref f4)))
    (l4 : K.lookup f4 = some ⟨oc4, od4, .func (PySem.W.fnOf "check_latches" "check_latches" (defArgs s_check_latches) (defBody s_check_latches) (defScope s_check_latches) .none kV4 dc4 pm4 an4 cd4 ct4), sl4⟩)
    (c4 : PySem.W.codeIn K cd4 "check_latches" = true)
    (k4 : PySem.W.keepIn K (.ref f4) = true)
    (a5 : PySem.W.nsIn K mainGlobals "is_lending" = some (some (.ref f5)))
    (l5 : K.lookup f5 = some ⟨oc5, od5, .func (PySem.W.fnOf "is_lending" "is_lending" (defArgs s_is_lending) (defBody s_is_lending) (defScope s_is_lending) .none kV5 dc5 pm5 an5 cd5 ct5), sl5⟩)
    (c5 : PySem.W.codeIn K cd5 "is_lending" = true)
    (k5 : PySem.W.keepIn K (.ref f5) = true)
    (a6 : PySem.W.nsIn K mainGlobals "rows_lent" = some (some (.ref f6)))
    (l6 : K.lookup f6 = some ⟨oc6, od6, .func (PySem.W.fnOf "rows_lent" "rows_lent" (defArgs s_rows_lent) (defBody s_rows_lent) (defScope s_rows_lent) .none kV6 dc6 pm6 an6 cd6 ct6), sl6⟩)
    (c6 : PySem.W.codeIn K cd6 "rows_lent" = true)
    (k6 : PySem.W.keepIn K (.ref f6) = true)
    (a7 : PySem.W.findIn K (.ref C) "__init__" = some (some (.ref f7)))
    (i7 : PySem.W.isFn K (.ref f7) = true)
    (l7 : K.lookup f7 = some ⟨oc7, od7, .func (PySem.W.fnOf "__init__" "House.__init__" (defArgs s_House___init__) (defBody s_House___init__) (defScope s_House___init__) (.ref dt7) kV7 dc7 pm7 an7 cd7 ct7), sl7⟩)
    (c7 : PySem.W.codeIn K cd7 "House.__init__" = true)
    (k7 : PySem.W.keepIn K (.ref f7) = true)
    (t7 : K.lookup dt7 = some ⟨cdt7, odt7, .seq #[.ref dv7] ndt, sdt7⟩)
    (a8 : PySem.W.nsIn K mainGlobals "_law_pull" = some (some (.ref f8)))
    (l8 : K.lookup f8 = some ⟨oc8, od8, .func (PySem.W.fnOf "_law_pull" "_law_pull" (defArgs s__law_pull) (defBody s__law_pull) (defScope s__law_pull) .none kV8 dc8 pm8 an8 cd8 ct8), sl8⟩)
    (c8 : PySem.W.codeIn K cd8 "_law_pull" = true)
    (k8 : PySem.W.keepIn K (.ref f8) = true)
    (a9 : PySem.W.nsIn K mainGlobals "_law_wants" = some (some (.ref f9)))
    (l9 : K.lookup f9 = some ⟨oc9, od9, .func (PySem.W.fnOf "_law_wants" "_law_wants" (defArgs s__law_wants) (defBody s__law_wants) (defScope s__law_wants) .none kV9 dc9 pm9 an9 cd9 ct9), sl9⟩)
    (c9 : PySem.W.codeIn K cd9 "_law_wants" = true)
    (k9 : PySem.W.keepIn K (.ref f9) = true)
    (a10 : PySem.W.nsIn K mainGlobals "_law_rested" = some (some (.ref f10)))
    (l10 : K.lookup f10 = some ⟨oc10, od10, .func (PySem.W.fnOf "_law_rested" "_law_rested" (defArgs s__law_rested) (defBody s__law_rested) (defScope s__law_rested) .none kV10 dc10 pm10 an10 cd10 ct10), sl10⟩)
    (c10 : PySem.W.codeIn K cd10 "_law_rested" = true)
    (k10 : PySem.W.keepIn K (.ref f10) = true)
    (a11 : PySem.W.nsIn K mainGlobals "_law_edges" = some (some (.ref f11)))
    (l11 : K.lookup f11 = some ⟨oc11, od11, .func (PySem.W.fnOf "_law_edges" "_law_edges" (defArgs s__law_edges) (defBody s__law_edges) (defScope s__law_edges) .none kV11 dc11 pm11 an11 cd11 ct11), sl11⟩)
    (c11 : PySem.W.codeIn K cd11 "_law_edges" = true)
    (k11 : PySem.W.keepIn K (.ref f11) = true)
    (a12 : PySem.W.nsIn K mainGlobals "_law_pick" = some (some (.ref f12)))
    (l12 : K.lookup f12 = some ⟨oc12, od12, .func (PySem.W.fnOf "_law_pick" "_law_pick" (defArgs s__law_pick) (defBody s__law_pick) (defScope s__law_pick) .none kV12 dc12 pm12 an12 cd12 ct12), sl12⟩)
    (c12 : PySem.W.codeIn K cd12 "_law_pick" = true)
    (k12 : PySem.W.keepIn K (.ref f12) = true)
    (a13 : PySem.W.nsIn K mainGlobals "_law_house" = some (some (.ref f13)))
    (l13 : K.lookup f13 = some ⟨oc13, od13, .func (PySem.W.fnOf "_law_house" "_law_house" (defArgs s__law_house) (defBody s__law_house) (defScope s__law_house) .none kV13 dc13 pm13 an13 cd13 ct13), sl13⟩)
    (c13 : PySem.W.codeIn K cd13 "_law_house" = true)
    (k13 : PySem.W.keepIn K (.ref f13) = true)
    (a14 : PySem.W.nsIn K mainGlobals "_law_span" = some (some (.ref f14)))
    (l14 : K.lookup f14 = some ⟨oc14, od14, .func (PySem.W.fnOf "_law_span" "_law_span" (defArgs s__law_span) (defBody s__law_span) (defScope s__law_span) .none kV14 dc14 pm14 an14 cd14 ct14), sl14⟩)
    (c14 : PySem.W.codeIn K cd14 "_law_span" = true)
    (k14 : PySem.W.keepIn K (.ref f14) = true)
    (a15 : PySem.W.nsIn K mainGlobals "_law_stood" = some (some (.ref f15)))
    (l15 : K.lookup f15 = some ⟨oc15, od15, .func (PySem.W.fnOf "_law_stood" "_law_stood" (defArgs s__law_stood) (defBody s__law_stood) (defScope s__law_stood) .none kV15 dc15 pm15 an15 cd15 ct15), sl15⟩)
    (c15 : PySem.W.codeIn K cd15 "_law_stood" = true)
    (k15 : PySem.W.keepIn K (.ref f15) = true)
    (a16 : PySem.W.nsIn K mainGlobals "_law_far" = some (some (.ref f16)))
    (l16 : K.lookup f16 = some ⟨oc16, od16, .func (PySem.W.fnOf "_law_far" "_law_far" (defArgs s__law_far) (defBody s__law_far) (defScope s__law_far) .none kV16 dc16 pm16 an16 cd16 ct16), sl16⟩)
    (c16 : PySem.W.codeIn K cd16 "_law_far" = true)
    (k16 : PySem.W.keepIn K (.ref f16) = true)
    (a17 : PySem.W.nsIn K mainGlobals "_law_widened" = some (some (.ref f17)))
    (l17 : K.lookup f17 = some ⟨oc17, od17, .func (PySem.W.fnOf "_law_widened" "_law_widened" (defArgs s__law_widened) (defBody s__law_widened) (defScope s__law_widened) .none kV17 dc17 pm17 an17 cd17 ct17), sl17⟩)
    (c17 : PySem.W.codeIn K cd17 "_law_widened" = true)
    (k17 : PySem.W.keepIn K (.ref f17) = true)
    (a18 : PySem.W.nsIn K mainGlobals "are_crossed" = some (some (.ref f18)))
    (l18 : K.lookup f18 = some ⟨oc18, od18, .func (PySem.W.fnOf "are_crossed" "are_crossed" (defArgs s_are_crossed) (defBody s_are_crossed) (defScope s_are_crossed) .none kV18 dc18 pm18 an18 cd18 ct18), sl18⟩)
    (c18 : PySem.W.codeIn K cd18 "are_crossed" = true)
    (k18 : PySem.W.keepIn K (.ref f18) = true)
    (a19 : PySem.W.findIn K (.ref C) "__len__" = some (some (.ref f19)))
    (i19 : PySem.W.isFn K (.ref f19) = true)
    (l19 : K.lookup f19 = some ⟨oc19, od19, .func (PySem.W.fnOf "__len__" "House.__len__" (defArgs s_House___len__) (defBody s_House___len__) (defScope s_House___len__) .none kV19 dc19 pm19 an19 cd19 ct19), sl19⟩)
    (c19 : PySem.W.codeIn K cd19 "House.__len__" = true)
    (k19 : PySem.W.keepIn K (.ref f19) = true)
    (a20 : PySem.W.nsIn K mainGlobals "is_rising" = some (some (.ref f20)))
    (l20 : K.lookup f20 = some ⟨oc20, od20, .func (PySem.W.fnOf "is_rising" "is_rising" (defArgs s_is_rising) (defBody s_is_rising) (defScope s_is_rising) .none kV20 dc20 pm20 an20 cd20 ct20), sl20⟩)
    (c20 : PySem.W.codeIn K cd20 "is_rising" = true)
    (k20 : PySem.W.keepIn K (.ref f20) = true)
    (a21 : PySem.W.nsIn K mainGlobals "is_rising_below" = some (some (.ref f21)))
    (l21 : K.lookup f21 = some ⟨oc21, od21, .func (PySem.W.fnOf "is_rising_below" "is_rising_below" (defArgs s_is_rising_below) (defBody s_is_rising_below) (defScope s_is_rising_below) .none kV21 dc21 pm21 an21 cd21 ct21), sl21⟩)
    (c21 : PySem.W.codeIn K cd21 "is_rising_below" = true)
    (k21 : PySem.W.keepIn K (.ref f21) = true)
    (a22 : PySem.W.nsIn K mainGlobals "check_stand" = some (some (.ref f22)))
    (l22 : K.lookup f22 = some ⟨oc22, od22, .func (PySem.W.fnOf "check_stand" "check_stand" (defArgs s_check_stand) (defBody s_check_stand) (defScope s_check_stand) .none kV22 dc22 pm22 an22 cd22 ct22), sl22⟩)
    (c22 : PySem.W.codeIn K cd22 "check_stand" = true)
    (k22 : PySem.W.keepIn K (.ref f22) = true)
    (a23 : PySem.W.findIn K (.ref C) "marks" = some (some (.ref f23)))
    (i23 : PySem.W.isFn K (.ref f23) = true)
    (l23 : K.lookup f23 = some ⟨oc23, od23, .func (PySem.W.fnOf "marks" "House.marks" (defArgs s_House_marks) (defBody s_House_marks) (defScope s_House_marks) .none kV23 dc23 pm23 an23 cd23 ct23), sl23⟩)
    (c23 : PySem.W.codeIn K cd23 "House.marks" = true)
    (k23 : PySem.W.keepIn K (.ref f23) = true)
    (a24 : PySem.W.findIn K (.ref C) "numbers" = some (some (.ref f24)))
    (i24 : PySem.W.isFn K (.ref f24) = true)
    (l24 : K.lookup f24 = some ⟨oc24, od24, .func (PySem.W.fnOf "numbers" "House.numbers" (defArgs s_House_numbers) (defBody s_House_numbers) (defScope s_House_numbers) .none kV24 dc24 pm24 an24 cd24 ct24), sl24⟩)
    (c24 : PySem.W.codeIn K cd24 "House.numbers" = true)
    (k24 : PySem.W.keepIn K (.ref f24) = true)
    (a25 : PySem.W.nsIn K mainGlobals "lent_to_all" = some (some (.ref f25)))
    (l25 : K.lookup f25 = some ⟨oc25, od25, .func (PySem.W.fnOf "lent_to_all" "lent_to_all" (defArgs s_lent_to_all) (defBody s_lent_to_all) (defScope s_lent_to_all) .none kV25 dc25 pm25 an25 cd25 ct25), sl25⟩)
    (c25 : PySem.W.codeIn K cd25 "lent_to_all" = true)
    (k25 : PySem.W.keepIn K (.ref f25) = true)
    (a26 : PySem.W.nsIn K mainGlobals "limits" = some (some (.ref f26)))
    (l26 : K.lookup f26 = some ⟨oc26, od26, .func (PySem.W.fnOf "limits" "limits" (defArgs s_limits) (defBody s_limits) (defScope s_limits) .none kV26 dc26 pm26 an26 cd26 ct26), sl26⟩)
    (c26 : PySem.W.codeIn K cd26 "limits" = true)
    (k26 : PySem.W.keepIn K (.ref f26) = true)
    (a27 : PySem.W.nsIn K mainGlobals "check_spanned" = some (some (.ref f27)))
    (l27 : K.lookup f27 = some ⟨oc27, od27, .func (PySem.W.fnOf "check_spanned" "check_spanned" (defArgs s_check_spanned) (defBody s_check_spanned) (defScope s_check_spanned) .none kV27 dc27 pm27 an27 cd27 ct27), sl27⟩)
    (c27 : PySem.W.codeIn K cd27 "check_spanned" = true)
    (k27 : PySem.W.keepIn K (.ref f27) = true)
    (a28 : PySem.W.nsIn K mainGlobals "level_of" = some (some (.ref f28)))
    (l28 : K.lookup f28 = some ⟨oc28, od28, .func (PySem.W.fnOf "level_of" "level_of" (defArgs s_level_of) (defBody s_level_of) (defScope s_level_of) .none kV28 dc28 pm28 an28 cd28 ct28), sl28⟩)
    (c28 : PySem.W.codeIn K cd28 "level_of" = true)
    (k28 : PySem.W.keepIn K (.ref f28) = true)
    (a29 : PySem.W.nsIn K mainGlobals "waiting_of" = some (some (.ref f29)))
    (l29 : K.lookup f29 = some ⟨oc29, od29, .func (PySem.W.fnOf "waiting_of" "waiting_of" (defArgs s_waiting_of) (defBody s_waiting_of) (defScope s_waiting_of) .none kV29 dc29 pm29 an29 cd29 ct29), sl29⟩)
    (c29 : PySem.W.codeIn K cd29 "waiting_of" = true)
    (k29 : PySem.W.keepIn K (.ref f29) = true)
    (a30 : PySem.W.nsIn K mainGlobals "eased" = some (some (.ref f30)))
    (l30 : K.lookup f30 = some ⟨oc30, od30, .func (PySem.W.fnOf "eased" "eased" (defArgs s_eased) (defBody s_eased) (defScope s_eased) .none kV30 dc30 pm30 an30 cd30 ct30), sl30⟩)
    (c30 : PySem.W.codeIn K cd30 "eased" = true)
    (k30 : PySem.W.keepIn K (.ref f30) = true)
    (a31 : PySem.W.nsIn K mainGlobals "waves_at" = some (some (.ref f31)))
    (l31 : K.lookup f31 = some ⟨oc31, od31, .func (PySem.W.fnOf "waves_at" "waves_at" (defArgs s_waves_at) (defBody s_waves_at) (defScope s_waves_at) .none kV31 dc31 pm31 an31 cd31 ct31), sl31⟩)
    (c31 : PySem.W.codeIn K cd31 "waves_at" = true)
    (k31 : PySem.W.keepIn K (.ref f31) = true)
    (a32 : PySem.W.nsIn K mainGlobals "steps_of" = some (some (.ref f32)))
    (l32 : K.lookup f32 = some ⟨oc32, od32, .func (PySem.W.fnOf "steps_of" "steps_of" (defArgs s_steps_of) (defBody s_steps_of) (defScope s_steps_of) .none kV32 dc32 pm32 an32 cd32 ct32), sl32⟩)
    (c32 : PySem.W.codeIn K cd32 "steps_of" = true)
    (k32 : PySem.W.keepIn K (.ref f32) = true)
    (a33 : PySem.W.nsIn K mainGlobals "together" = some (some (.ref f33)))
    (l33 : K.lookup f33 = some ⟨oc33, od33, .func (PySem.W.fnOf "together" "together" (defArgs s_together) (defBody s_together) (defScope s_together) .none kV33 dc33 pm33 an33 cd33 ct33), sl33⟩)
    (c33 : PySem.W.codeIn K cd33 "together" = true)
    (k33 : PySem.W.keepIn K (.ref f33) = true)
    (a34 : PySem.W.nsIn K mainGlobals "branch_of" = some (some (.ref f34)))
    (l34 : K.lookup f34 = some ⟨oc34, od34, .func (PySem.W.fnOf "branch_of" "branch_of" (defArgs s_branch_of) (defBody s_branch_of) (defScope s_branch_of) .none kV34 dc34 pm34 an34 cd34 ct34), sl34⟩)
    (c34 : PySem.W.codeIn K cd34 "branch_of" = true)
    (k34 : PySem.W.keepIn K (.ref f34) = true)
    (a35 : PySem.W.nsIn K mainGlobals "gone" = some (some (.ref f35)))
    (l35 : K.lookup f35 = some ⟨oc35, od35, .func (PySem.W.fnOf "gone" "gone" (defArgs s_gone) (defBody s_gone) (defScope s_gone) .none kV35 dc35 pm35 an35 cd35 ct35), sl35⟩)
    (c35 : PySem.W.codeIn K cd35 "gone" = true)
    (k35 : PySem.W.keepIn K (.ref f35) = true)
    (a36 : PySem.W.nsIn K mainGlobals "end_of" = some (some (.ref f36)))
    (l36 : K.lookup f36 = some ⟨oc36, od36, .func (PySem.W.fnOf "end_of" "end_of" (defArgs s_end_of) (defBody s_end_of) (defScope s_end_of) .none kV36 dc36 pm36 an36 cd36 ct36), sl36⟩)
    (c36 : PySem.W.codeIn K cd36 "end_of" = true)
    (k36 : PySem.W.keepIn K (.ref f36) = true)
    (a37 : PySem.W.nsIn K mainGlobals "floor" = some (some (.ref f37)))
    (l37 : K.lookup f37 = some ⟨oc37, od37, .func (PySem.W.fnOf "floor" "floor" (defArgs s_floor) (defBody s_floor) (defScope s_floor) .none kV37 dc37 pm37 an37 cd37 ct37), sl37⟩)
    (c37 : PySem.W.codeIn K cd37 "floor" = true)
    (k37 : PySem.W.keepIn K (.ref f37) = true)
    (a38 : PySem.W.nsIn K mainGlobals "roof" = some (some (.ref f38)))
    (l38 : K.lookup f38 = some ⟨oc38, od38, .func (PySem.W.fnOf "roof" "roof" (defArgs s_roof) (defBody s_roof) (defScope s_roof) .none kV38 dc38 pm38 an38 cd38 ct38), sl38⟩)
    (c38 : PySem.W.codeIn K cd38 "roof" = true)
    (k38 : PySem.W.keepIn K (.ref f38) = true)
    (a39 : PySem.W.nsIn K mainGlobals "ends_of" = some (some (.ref f39)))
    (l39 : K.lookup f39 = some ⟨oc39, od39, .func (PySem.W.fnOf "ends_of" "ends_of" (defArgs s_ends_of) (defBody s_ends_of) (defScope s_ends_of) .none kV39 dc39 pm39 an39 cd39 ct39), sl39⟩)
    (c39 : PySem.W.codeIn K cd39 "ends_of" = true)
    (k39 : PySem.W.keepIn K (.ref f39) = true)
    (a40 : PySem.W.nsIn K mainGlobals "farthest" = some (some (.ref f40)))
    (l40 : K.lookup f40 = some ⟨oc40, od40, .func (PySem.W.fnOf "farthest" "farthest" (defArgs s_farthest) (defBody s_farthest) (defScope s_farthest) .none kV40 dc40 pm40 an40 cd40 ct40), sl40⟩)
    (c40 : PySem.W.codeIn K cd40 "farthest" = true)
    (k40 : PySem.W.keepIn K (.ref f40) = true)
    (a41 : PySem.W.nsIn K mainGlobals "is_wider" = some (some (.ref f41)))
    (l41 : K.lookup f41 = some ⟨oc41, od41, .func (PySem.W.fnOf "is_wider" "is_wider" (defArgs s_is_wider) (defBody s_is_wider) (defScope s_is_wider) .none kV41 dc41 pm41 an41 cd41 ct41), sl41⟩)
    (c41 : PySem.W.codeIn K cd41 "is_wider" = true)
    (k41 : PySem.W.keepIn K (.ref f41) = true)
    (a42 : PySem.W.nsIn K mainGlobals "widening_of" = some (some (.ref f42)))
    (l42 : K.lookup f42 = some ⟨oc42, od42, .func (PySem.W.fnOf "widening_of" "widening_of" (defArgs s_widening_of) (defBody s_widening_of) (defScope s_widening_of) .none kV42 dc42 pm42 an42 cd42 ct42), sl42⟩)
    (c42 : PySem.W.codeIn K cd42 "widening_of" = true)
    (k42 : PySem.W.keepIn K (.ref f42) = true)
    (a43 : PySem.W.nsIn K mainGlobals "widening" = some (some (.ref f43)))
    (l43 : K.lookup f43 = some ⟨oc43, od43, .func (PySem.W.fnOf "widening" "widening" (defArgs s_widening) (defBody s_widening) (defScope s_widening) .none (.ref kd43) dc43 pm43 an43 cd43 ct43), sl43⟩)
    (kw43 : PySem.W.nsIn K kd43 "way" = some (some (.str "dip" kt43)))
    (c43 : PySem.W.codeIn K cd43 "widening" = true)
    (k43 : PySem.W.keepIn K (.ref f43) = true)
    (a44 : PySem.W.nsIn K mainGlobals "_law_right" = some (some (.ref f44)))
    (l44 : K.lookup f44 = some ⟨oc44, od44, .func (PySem.W.fnOf "_law_right" "_law_right" (defArgs s__law_right) (defBody s__law_right) (defScope s__law_right) .none kV44 dc44 pm44 an44 cd44 ct44), sl44⟩)
    (c44 : PySem.W.codeIn K cd44 "_law_right" = true)
    (k44 : PySem.W.keepIn K (.ref f44) = true)
    (a45 : PySem.W.nsIn K mainGlobals "_law_well" = some (some (.ref f45)))
    (l45 : K.lookup f45 = some ⟨oc45, od45, .func (PySem.W.fnOf "_law_well" "_law_well" (defArgs s__law_well) (defBody s__law_well) (defScope s__law_well) .none kV45 dc45 pm45 an45 cd45 ct45), sl45⟩)
    (c45 : PySem.W.codeIn K cd45 "_law_well" = true)
    (k45 : PySem.W.keepIn K (.ref f45) = true)
    (a46 : PySem.W.nsIn K mainGlobals "law" = some (some (.ref f46)))
    (l46 : K.lookup f46 = some ⟨oc46, od46, .func (PySem.W.fnOf "law" "law" (defArgs s_law) (defBody s_law) (defScope s_law) .none kV46 dc46 pm46 an46 cd46 ct46), sl46⟩)
    (c46 : PySem.W.codeIn K cd46 "law" = true)
    (k46 : PySem.W.keepIn K (.ref f46) = true)
    (b_bool : PySem.W.nsIn K mainGlobals "bool" = some none)
    (b_enumerate : PySem.W.nsIn K mainGlobals "enumerate" = some none)
    (b_int : PySem.W.nsIn K mainGlobals "int" = some none)
    (b_isinstance : PySem.W.nsIn K mainGlobals "isinstance" = some none)
    (b_len : PySem.W.nsIn K mainGlobals "len" = some none)
    (b_list : PySem.W.nsIn K mainGlobals "list" = some none)
    (b_max : PySem.W.nsIn K mainGlobals "max" = some none)
    (b_min : PySem.W.nsIn K mainGlobals "min" = some none)
    (b_range : PySem.W.nsIn K mainGlobals "range" = some none)
    (b_repr : PySem.W.nsIn K mainGlobals "repr" = some none)
    (b_reversed : PySem.W.nsIn K mainGlobals "reversed" = some none)
    (b_sorted : PySem.W.nsIn K mainGlobals "sorted" = some none)
    (b_sum : PySem.W.nsIn K mainGlobals "sum" = some none)
    (b_tuple : PySem.W.nsIn K mainGlobals "tuple" = some none)
    (g_MOST_LATCHES : PySem.W.nsIn K mainGlobals "MOST_LATCHES" = some (some (.int 14 t_MOST_LATCHES)))
    (g_MOST_HELP : PySem.W.nsIn K mainGlobals "MOST_HELP" = some (some (.int 9 t_MOST_HELP)))
    (g_FIELD_BITS : PySem.W.nsIn K mainGlobals "FIELD_BITS" = some (some (.int 8 t_FIELD_BITS)))
    (g_FIELD : PySem.W.nsIn K mainGlobals "FIELD" = some (some (.int 255 t_FIELD))) :
    ∃ fd : FuncData, (∀ (s : Shared) (v : Value), BindsTo s fd ⟨[v], []⟩ [("script", v)]) ∧ ∀ base : Heap, K.In base → base.Ns mainGlobals mg → FnG l.prog w K mg base 13 fa fd ["script"] (sp_law K 0) := by
  have e := hfa.symm.trans (PySem.W.mg_of X G a46)
  cases e
  have T : Txt K mg C := ⟨⟨pgC, hdC, poC, saC⟩,
    PySem.W.mg_of X G aC,
    n_latches,
    n_marks,
    n_rows,
    n_numbers,
    n_helps,
    ⟨_, _, fun_mk (st := s_in_one_number) l0 c0 k0, PySem.W.mg_of X G a0⟩,
    ⟨f1, _, fun_mk (st := s_House__lend) l1 c1 k1, ⟨a1, i1, k1⟩⟩,
    ⟨_, _, fun_mk (st := s_is_whole) l2 c2 k2, PySem.W.mg_of X G a2⟩,
    ⟨_, _, fun_mk (st := s_is_pair) l3 c3 k3, PySem.W.mg_of X G a3⟩,
    ⟨_, _, fun_mk (st := s_check_latches) l4 c4 k4, PySem.W.mg_of X G a4⟩,
    ⟨_, _, fun_mk (st := s_is_lending) l5 c5 k5, PySem.W.mg_of X G a5⟩,
    ⟨_, _, fun_mk (st := s_rows_lent) l6 c6 k6, PySem.W.mg_of X G a6⟩,
    ⟨f7, _, dv7, ⟨⟨_, _, _, _, _, _, _, _, _, _, rfl, l7, c7, .inr ⟨by simp, dt7, _, [.ref dv7], ndt, rfl, t7, rfl, .cons rfl .nil⟩, .inl rfl⟩, k7⟩, ⟨mkC, a7, i7, kcC⟩⟩,
    ⟨_, _, fun_mk (st := s__law_pull) l8 c8 k8, PySem.W.mg_of X G a8⟩,
    ⟨_, _, fun_mk (st := s__law_wants) l9 c9 k9, PySem.W.mg_of X G a9⟩,
    ⟨_, _, fun_mk (st := s__law_rested) l10 c10 k10, PySem.W.mg_of X G a10⟩,
    ⟨_, _, fun_mk (st := s__law_edges) l11 c11 k11, PySem.W.mg_of X G a11⟩,
    ⟨_, _, fun_mk (st := s__law_pick) l12 c12 k12, PySem.W.mg_of X G a12⟩,
    ⟨_, _, fun_mk (st := s__law_house) l13 c13 k13, PySem.W.mg_of X G a13⟩,
    ⟨_, _, fun_mk (st := s__law_span) l14 c14 k14, PySem.W.mg_of X G a14⟩,
    ⟨_, _, fun_mk (st := s__law_stood) l15 c15 k15, PySem.W.mg_of X G a15⟩,
    ⟨_, _, fun_mk (st := s__law_far) l16 c16 k16, PySem.W.mg_of X G a16⟩,
    ⟨_, _, fun_mk (st := s__law_widened) l17 c17 k17, PySem.W.mg_of X G a17⟩,
    ⟨_, _, fun_mk (st := s_are_crossed) l18 c18 k18, PySem.W.mg_of X G a18⟩,
    ⟨f19, _, fun_mk (st := s_House___len__) l19 c19 k19, ⟨a19, i19, k19⟩⟩,
    ⟨_, _, fun_mk (st := s_is_rising) l20 c20 k20, PySem.W.mg_of X G a20⟩,
    ⟨_, _, fun_mk (st := s_is_rising_below) l21 c21 k21, PySem.W.mg_of X G a21⟩,
    ⟨_, _, fun_mk (st := s_check_stand) l22 c22 k22, PySem.W.mg_of X G a22⟩,
    ⟨f23, _, fun_mk (st := s_House_marks) l23 c23 k23, ⟨a23, i23, k23⟩⟩,
    ⟨f24, _, fun_mk (st := s_House_numbers) l24 c24 k24, ⟨a24, i24, k24⟩⟩,
    ⟨_, _, fun_mk (st := s_lent_to_all) l25 c25 k25, PySem.W.mg_of X G a25⟩,
    ⟨_, _, fun_mk (st := s_limits) l26 c26 k26, PySem.W.mg_of X G a26⟩,
    ⟨_, _, fun_mk (st := s_check_spanned) l27 c27 k27, PySem.W.mg_of X G a27⟩,
    ⟨_, _, fun_mk (st := s_level_of) l28 c28 k28, PySem.W.mg_of X G a28⟩,
    ⟨_, _, fun_mk (st := s_waiting_of) l29 c29 k29, PySem.W.mg_of X G a29⟩,
    ⟨_, _, fun_mk (st := s_eased) l30 c30 k30, PySem.W.mg_of X G a30⟩,
    ⟨_, _, fun_mk (st := s_waves_at) l31 c31 k31, PySem.W.mg_of X G a31⟩,
    ⟨_, _, fun_mk (st := s_steps_of) l32 c32 k32, PySem.W.mg_of X G a32⟩,
    ⟨_, _, fun_mk (st := s_together) l33 c33 k33, PySem.W.mg_of X G a33⟩,
    ⟨_, _, fun_mk (st := s_branch_of) l34 c34 k34, PySem.W.mg_of X G a34⟩,
    ⟨_, _, fun_mk (st := s_gone) l35 c35 k35, PySem.W.mg_of X G a35⟩,
    ⟨_, _, fun_mk (st := s_end_of) l36 c36 k36, PySem.W.mg_of X G a36⟩,
    ⟨_, _, fun_mk (st := s_floor) l37 c37 k37, PySem.W.mg_of X G a37⟩,
    ⟨_, _, fun_mk (st := s_roof) l38 c38 k38, PySem.W.mg_of X G a38⟩,
    ⟨_, _, fun_mk (st := s_ends_of) l39 c39 k39, PySem.W.mg_of X G a39⟩,
    ⟨_, _, fun_mk (st := s_farthest) l40 c40 k40, PySem.W.mg_of X G a40⟩,
    ⟨_, _, fun_mk (st := s_is_wider) l41 c41 k41, PySem.W.mg_of X G a41⟩,
    ⟨_, _, fun_mk (st := s_widening_of) l42 c42 k42, PySem.W.mg_of X G a42⟩,
    ⟨f43, _, ⟨⟨_, _, _, _, _, _, _, _, _, _, rfl, l43, c43, .inl ⟨rfl, rfl⟩, .inr ⟨kd43, rfl, fun q hq => by rw [List.mem_singleton.mp hq]; exact ⟨_, kw43, ⟨_, rfl⟩⟩⟩⟩, k43⟩, PySem.W.mg_of X G a43⟩,
    ⟨_, _, fun_mk (st := s__law_right) l44 c44 k44, PySem.W.mg_of X G a44⟩,
    ⟨_, _, fun_mk (st := s__law_well) l45 c45 k45, PySem.W.mg_of X G a45⟩,
    ⟨_, _, fun_mk (st := s_law) l46 c46 k46, PySem.W.mg_of X G a46⟩,
    PySem.W.mg_none_of X G b_bool,
    PySem.W.mg_none_of X G b_enumerate,
    PySem.W.mg_none_of X G b_int,
    PySem.W.mg_none_of X G b_isinstance,
    PySem.W.mg_none_of X G b_len,
    PySem.W.mg_none_of X G b_list,
    PySem.W.mg_none_of X G b_max,
    PySem.W.mg_none_of X G b_min,
    PySem.W.mg_none_of X G b_range,
    PySem.W.mg_none_of X G b_repr,
    PySem.W.mg_none_of X G b_reversed,
    PySem.W.mg_none_of X G b_sorted,
    PySem.W.mg_none_of X G b_sum,
    PySem.W.mg_none_of X G b_tuple,
    ⟨t_MOST_LATCHES, PySem.W.mg_of X G g_MOST_LATCHES⟩,
    ⟨t_MOST_HELP, PySem.W.mg_of X G g_MOST_HELP⟩,
    ⟨t_FIELD_BITS, PySem.W.mg_of X G g_FIELD_BITS⟩,
    ⟨t_FIELD, PySem.W.mg_of X G g_FIELD⟩⟩
  exact ⟨PySem.W.fnOf "law" "law" (defArgs s_law) (defBody s_law) (defScope s_law) .none kV46 dc46 pm46 an46 cd46 ct46, fun s v => .of_eq rfl, fun base _ _ => d_law (C := C) T (fun_mk (st := s_law) l46 c46 k46)⟩
end My
open PySem PySem.W PyProof.Rows
set_option maxRecDepth 100000 in
set_option maxHeartbeats 0 in
theorem PySem.Challenge.cw_swaykeep_k63_widenings_told_holds : PySem.Challenge.rw_swaykeep_k63_widenings_told.Holds := by
  w_on; o_law; k_head; (case hw => w_witness2)
  k_fill
  refine My.walk_ofG (l := PySem.Challenge.rw_swaykeep_k63_widenings_told) (n := 63) (k := 13) (x := "script") (sp := fun w => My.sp_law _ 0) rfl (by decide) rfl ⟨rfl, by decide, by decide⟩ (fun w h Y => PySem.W.kIn_of Y) ?F (fun _ _ a ns hl _ hS => ⟨a, ns, rfl, hS, hl, fun _ => rfl⟩)
  case F =>
    intro w mg fa h KX G hmg
    refine' My.all_mk KX G hmg ?aC ?pgC ?hdC ?poC ?saC ?mkC ?kcC ?n_latches ?n_marks ?n_rows ?n_numbers ?n_helps ?a0 ?l0 ?c0 ?k0 ?a1 ?i1 ?l1 ?c1 ?k1 ?a2 ?l2 ?c2 ?k2 ?a3 ?l3 ?c3 ?k3 ?a4 ?l4 ?c4 ?k4 ?a5 ?l5 ?c5 ?k5 ?a6 ?l6 ?c6 ?k6 ?a7 ?i7 ?l7 ?c7 ?k7 ?t7 ?a8 ?l8 ?c8 ?k8 ?a9 ?l9 ?c9 ?k9 ?a10 ?l10 ?c10 ?k10 ?a11 ?l11 ?c11 ?k11 ?a12 ?l12 ?c12 ?k12 ?a13 ?l13 ?c13 ?k13 ?a14 ?l14 ?c14 ?k14 ?a15 ?l15 ?c15 ?k15 ?a16 ?l16 ?c16 ?k16 ?a17 ?l17 ?c17 ?k17 ?a18 ?l18 ?c18 ?k18 ?a19 ?i19 ?l19 ?c19 ?k19 ?a20 ?l20 ?c20 ?k20 ?a21 ?l21 ?c21 ?k21 ?a22 ?l22 ?c22 ?k22 ?a23 ?i23 ?l23 ?c23 ?k23 ?a24 ?i24 ?l24 ?c24 ?k24 ?a25 ?l25 ?c25 ?k25 ?a26 ?l26 ?c26 ?k26 ?a27 ?l27 ?c27 ?k27 ?a28 ?l28 ?c28 ?k28 ?a29 ?l29 ?c29 ?k29 ?a30 ?l30 ?c30 ?k30 ?a31 ?l31 ?c31 ?k31 ?a32 ?l32 ?c32 ?k32 ?a33 ?l33 ?c33 ?k33 ?a34 ?l34 ?c34 ?k34 ?a35 ?l35 ?c35 ?k35 ?a36 ?l36 ?c36 ?k36 ?a37 ?l37 ?c37 ?k37 ?a38 ?l38 ?c38 ?k38 ?a39 ?l39 ?c39 ?k39 ?a40 ?l40 ?c40 ?k40 ?a41 ?l41 ?c41 ?k41 ?a42 ?l42 ?c42 ?k42 ?a43 ?l43 ?kw43 ?c43 ?k43 ?a44 ?l44 ?c44 ?k44 ?a45 ?l45 ?c45 ?k45 ?a46 ?l46 ?c46 ?k46 ?b_bool ?b_enumerate ?b_int ?b_isinstance ?b_len ?b_list ?b_max ?b_min ?b_range ?b_repr ?b_reversed ?b_sorted ?b_sum ?b_tuple ?g_MOST_LATCHES ?g_MOST_HELP ?g_FIELD_BITS ?g_FIELD
    (case aC => k_is)
    (case pgC => k_is)
    (case hdC => k_is)
    (case poC => k_is)
    (case saC => k_is)
    (case mkC => k_is)
    (case kcC => k_is)
    (case n_latches => k_is)
    (case n_marks => k_is)
    (case n_rows => k_is)
    (case n_numbers => k_is)
    (case n_helps => k_is)
    (case a0 => k_is)
    (case l0 => k_is)
    (case c0 => k_is)
    (case k0 => k_is)
    (case a1 => k_is)
    (case i1 => k_is)
    (case l1 => k_is)
    (case c1 => k_is)
    (case k1 => k_is)
    (case a2 => k_is)
    (case l2 => k_is)
    (case c2 => k_is)
    (case k2 => k_is)
    (case a3 => k_is)
    (case l3 => k_is)
    (case c3 => k_is)
    (case k3 => k_is)
    (case a4 => k_is)
    (case l4 => k_is)
    (case c4 => k_is)
    (case k4 => k_is)
    (case a5 => k_is)
    (case l5 => k_is)
    (case c5 => k_is)
    (case k5 => k_is)
    (case a6 => k_is)
    (case l6 => k_is)
    (case c6 => k_is)
    (case k6 => k_is)
    (case a7 => k_is)
    (case i7 => k_is)
    (case l7 => k_is)
    (case c7 => k_is)
    (case k7 => k_is)
    (case t7 => k_is)
    (case a8 => k_is)
    (case l8 => k_is)
    (case c8 => k_is)
    (case k8 => k_is)
    (case a9 => k_is)
    (case l9 => k_is)
    (case c9 => k_is)
    (case k9 => k_is)
    (case a10 => k_is)
    (case l10 => k_is)
    (case c10 => k_is)
    (case k10 => k_is)
    (case a11 => k_is)
    (case l11 => k_is)
    (case c11 => k_is)
    (case k11 => k_is)
    (case a12 => k_is)
    (case l12 => k_is)
    (case c12 => k_is)
    (case k12 => k_is)
    (case a13 => k_is)
    (case l13 => k_is)
    (case c13 => k_is)
    (case k13 => k_is)
    (case a14 => k_is)
    (case l14 => k_is)
    (case c14 => k_is)
    (case k14 => k_is)
    (case a15 => k_is)
    (case l15 => k_is)
    (case c15 => k_is)
    (case k15 => k_is)
    (case a16 => k_is)
    (case l16 => k_is)
    (case c16 => k_is)
    (case k16 => k_is)
    (case a17 => k_is)
    (case l17 => k_is)
    (case c17 => k_is)
    (case k17 => k_is)
    (case a18 => k_is)
    (case l18 => k_is)
    (case c18 => k_is)
    (case k18 => k_is)
    (case a19 => k_is)
    (case i19 => k_is)
    (case l19 => k_is)
    (case c19 => k_is)
    (case k19 => k_is)
    (case a20 => k_is)
    (case l20 => k_is)
    (case c20 => k_is)
    (case k20 => k_is)
    (case a21 => k_is)
    (case l21 => k_is)
    (case c21 => k_is)
    (case k21 => k_is)
    (case a22 => k_is)
    (case l22 => k_is)
    (case c22 => k_is)
    (case k22 => k_is)
    (case a23 => k_is)
    (case i23 => k_is)
    (case l23 => k_is)
    (case c23 => k_is)
    (case k23 => k_is)
    (case a24 => k_is)
    (case i24 => k_is)
    (case l24 => k_is)
    (case c24 => k_is)
    (case k24 => k_is)
    (case a25 => k_is)
    (case l25 => k_is)
    (case c25 => k_is)
    (case k25 => k_is)
    (case a26 => k_is)
    (case l26 => k_is)
    (case c26 => k_is)
    (case k26 => k_is)
    (case a27 => k_is)
    (case l27 => k_is)
    (case c27 => k_is)
    (case k27 => k_is)
    (case a28 => k_is)
    (case l28 => k_is)
    (case c28 => k_is)
    (case k28 => k_is)
    (case a29 => k_is)
    (case l29 => k_is)
    (case c29 => k_is)
    (case k29 => k_is)
    (case a30 => k_is)
    (case l30 => k_is)
    (case c30 => k_is)
    (case k30 => k_is)
    (case a31 => k_is)
    (case l31 => k_is)
    (case c31 => k_is)
    (case k31 => k_is)
    (case a32 => k_is)
    (case l32 => k_is)
    (case c32 => k_is)
    (case k32 => k_is)
    (case a33 => k_is)
    (case l33 => k_is)
    (case c33 => k_is)
    (case k33 => k_is)
    (case a34 => k_is)
    (case l34 => k_is)
    (case c34 => k_is)
    (case k34 => k_is)
    (case a35 => k_is)
    (case l35 => k_is)
    (case c35 => k_is)
    (case k35 => k_is)
    (case a36 => k_is)
    (case l36 => k_is)
    (case c36 => k_is)
    (case k36 => k_is)
    (case a37 => k_is)
    (case l37 => k_is)
    (case c37 => k_is)
    (case k37 => k_is)
    (case a38 => k_is)
    (case l38 => k_is)
    (case c38 => k_is)
    (case k38 => k_is)
    (case a39 => k_is)
    (case l39 => k_is)
    (case c39 => k_is)
    (case k39 => k_is)
    (case a40 => k_is)
    (case l40 => k_is)
    (case c40 => k_is)
    (case k40 => k_is)
    (case a41 => k_is)
    (case l41 => k_is)
    (case c41 => k_is)
    (case k41 => k_is)
    (case a42 => k_is)
    (case l42 => k_is)
    (case c42 => k_is)
    (case k42 => k_is)
    (case a43 => k_is)
    (case l43 => k_is)
    (case kw43 => k_is)
    (case c43 => k_is)
    (case k43 => k_is)
    (case a44 => k_is)
    (case l44 => k_is)
    (case c44 => k_is)
    (case k44 => k_is)
    (case a45 => k_is)
    (case l45 => k_is)
    (case c45 => k_is)
    (case k45 => k_is)
    (case a46 => k_is)
    (case l46 => k_is)
    (case c46 => k_is)
    (case k46 => k_is)
    (case b_bool => k_is)
    (case b_enumerate => k_is)
    (case b_int => k_is)
    (case b_isinstance => k_is)
    (case b_len => k_is)
    (case b_list => k_is)
    (case b_max => k_is)
    (case b_min => k_is)
    (case b_range => k_is)
    (case b_repr => k_is)
    (case b_reversed => k_is)
    (case b_sorted => k_is)
    (case b_sum => k_is)
    (case b_tuple => k_is)
    (case g_MOST_LATCHES => k_is)
    (case g_MOST_HELP => k_is)
    (case g_FIELD_BITS => k_is)
    (case g_FIELD => k_is)
