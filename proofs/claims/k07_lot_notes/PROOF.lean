import PyProof.Rows.All
import Wide.All
import OpenK.AllK
import Wide.FinOn
import HandS.ForMost
import HandS.IsInst
import HandS.Style
import HandS.Defaults
import HandS.MakeKwOnly
import HandS.Conv
import HandS.Sort
import HandS.SortRule
import HandS.Deep
import HandS.Property
import HandS.TupSets
import HandS.Codes
import HandS.ExcCtx
import HandS.Comp
import HandS.Exc
import HandS.ExcInit
import HandS.ExcField
import HandS.ExcIs
import HandS.TryOnly
import HandS.Nested
import HandS.FStr
import KE.KExcSuper
import HandS.SetFor
import HandS.ExcOwn
import KE.KExcIs
import KE.DataFind
import HandS.HotCalls
import HandS.WordsExc
import HandS.FStrTup
import PyProof.ReprHeads
import PyProof.ReprHeadsEmpty
import PyProof.ReprNest
import PyProof.ReprDict
import HandS.NoneIn
import HandS.Text
import HandS.StrMore
import HandS.TupAny
import PyProof.Rows.StrAscii
import HandS.RaiseMore
import HandS.Walk
import KE.KOpsOwn
import HandS.TryMany
import HandS.SlotsOwn
import HandS.Small
import HandS.MakeKw
import PySem.Challenge.RW_rimcords_k07_lot_notes
set_option Elab.async false
set_option linter.all false
set_option maxRecDepth 100000
/-! Rules of my own for the hand layer. -/
namespace Own
open PySem PySem.Spec PyProof.Rows L2
/-- the two ints of a pair that stands in the heap -/
def kOf (H : Hp) (v : V) : Int × Int := match v with
  | .ref a => match H a with
    | some (.tup [.int i, .int j]) => (i, j)
    | _ => (0, 0)
  | _ => (0, 0)
theorem kOf_at {H : Hp} {a : Addr} {i j : Int} (h : H a = some (.tup [.int i, .int j])) : kOf H (.ref a) = (i, j) := by
  show (match H a with | some (.tup [.int i, .int j]) => (i, j) | _ => (0, 0)) = (i, j)
  rw [h]
def rSortedDT : List V → Hp → VK → Prop := fun vs H Q => ∃ (d : Addr) (kvs : List (List Key × V)), vs = [V.ref d] ∧ Rd H d (.dT kvs) ∧ (∀ kv ∈ kvs, ∃ i j : Int, kv.1 = [Sum.inl i, Sum.inl j]) ∧
  ∀ (bs : List Addr) (ys : List V) (p : Addr), IsKeys H kvs bs → SrtO.Srtd (ltP (kOf H)) ys → SrtO.Stb (ltP (kOf H)) ys (bs.map V.ref) → H p = none → Q (.ref p) (upd H p (.lst ys))
section
variable {X : Cx}
theorem paired_right {α β : Type} {R : α → β → Prop} {xs : List α} {ys : List β} (h : Paired R xs ys) : ∀ y ∈ ys, ∃ x ∈ xs, R x y := by
  induction h with
  | nil => intro y hy; cases hy
  | cons h t ih =>
    intro y hy
    rcases List.mem_cons.mp hy with e | e
    · subst e
      exact ⟨_, List.mem_cons_self, h⟩
    · obtain ⟨x, hx, hr⟩ := ih y e
      exact ⟨x, List.mem_cons_of_mem _ hx, hr⟩
theorem cr_sortedDT (hc : X.calm = true) : CallR X (.builtin "sorted") rSortedDT := by
  intro pins s σ H xs us Q I r h
  obtain ⟨d, kvs, rfl, hd, hkv, q⟩ := h
  obtain ⟨u, rfl, rx⟩ := r.one
  cases rx
  obtain ⟨z, hs, ks, pr, o, es, ep, ho, hx, hdt, he, hn⟩ := (show ObjOk X.prog X.w H s.heap d (.dT kvs) from hd.ok I.hok)
  have l1 : es.size = ks.length := size_of_entries he
  have l2 : kvs.length = ks.length := Paired.length pr
  refine Calls.call_function_entry PyProof.Rows.kind_sorted PyProof.Rows.plain_sorted PyProof.Rows.entry_sorted (PyProof.Rows.args_sorted1 _) ?_
  unfold Builtin.«sorted»
  refine wpAny_bind (m := checkCount "sorted" 1 1 _) (wpAny_pure ?_)
  refine wpAny_bind (PySem.W.kdu_collect (A := X.A.in1) (kdl_raw hs hx hdt) (I.ok.hd hc) ho (by omega) fun h' tk acc' kp it => ?_)
  have ea : acc'.toList = ks.map fun x => Value.ref x.2.1 := by
    have hl : acc'.toList.length = ks.length := by rw [Array.length_toList, it.1]; exact l1
    apply List.ext_getElem?
    intro j
    rw [List.getElem?_map]
    cases hj : acc'.toList[j]? with
    | none =>
      have h1 := List.getElem?_eq_none_iff.mp hj
      rw [List.getElem?_eq_none (by omega)]
      all_goals rfl
    | some v =>
      obtain ⟨en, hen, hv⟩ := it.2 j v (by rw [← Array.getElem?_toList]; exact hj)
      have qe := entry_at he j
      rw [hen] at qe
      cases hb : ks[j]? with
      | none =>
        rw [hb] at qe
        exact nomatch (show some en = none from qe)
      | some b =>
        rw [hb] at qe
        have e2 : en = entryOfKey (tupleKind (mixKind X.prog X.w)) b := Option.some.inj qe
        rw [hv, e2]
        all_goals rfl
  have hal : acc'.toList.length ≤ sizeLine := by rw [ea, List.length_map]; omega
  have I1 : Inv X pins σ H { s with heap := h', toks := tk } := I.kept kp
  have keys := isKeys_of pr
  have hpair : ∀ v ∈ acc'.toList, ∃ t i j, v = Value.ref t ∧ H t = some (.tup [.int i, .int j]) := fun v hv => by
    rw [ea] at hv
    obtain ⟨x, hx, rfl⟩ := List.mem_map.mp hv
    obtain ⟨kv, hkm, hb⟩ := paired_right keys x.2.1 (List.mem_map.mpr ⟨x, hx, rfl⟩)
    obtain ⟨i, j, e⟩ := hkv kv hkm
    rw [e] at hb
    exact ⟨_, i, j, rfl, hb⟩
  refine wpAny_bind (wpAny_newList ?_ hal)
  have hoL : (h'.push (seqObj "list" acc'.toList.toArray 0)).get? h'.objs.size = some (seqObj "list" acc'.toList.toArray 0) := Heap.get?_push_size _ rfl
  have hp : ∀ v ∈ acc'.toList, Srt.IsPair (h'.push (seqObj "list" acc'.toList.toArray 0)) v (kOf H (backV v)).1 (kOf H (backV v)).2 := fun v hv => by
    obtain ⟨t, i, j, rfl, ht⟩ := hpair v hv
    obtain ⟨_, its2, r2, o, ho2, hc2, n2, hd2⟩ := I1.hok _ _ ht
    obtain ⟨u1, u2, rfl, ri, rj⟩ := vals2 r2
    obtain ⟨t1, rfl⟩ := ri
    obtain ⟨t2, rfl⟩ := rj
    rw [show backV (Value.ref t) = V.ref t from rfl, kOf_at ht]
    exact ⟨t, o, t1, t2, n2, rfl, Heap.get?_push_of_some _ ho2, hc2, hd2⟩
  show wpAny _ _ _ _ _ { s with heap := h'.push (seqObj "list" acc'.toList.toArray 0), toks := tk }
  refine wpAny_bind (wpAny_holding (wpAny_call_entry PyProof.Rows.slot_list_sort ⟨_, hoL, rfl⟩ PyProof.Rows.entry_list_sort
    (SrtO.list_sort_ord (s := { s with heap := h'.push (seqObj "list" acc'.toList.toArray 0), toks := tk }) (SrtO.swo_lex fun v => kOf H (backV v)) hoL hal (fun h2 => ?_) fun out hs hb => ⟨_, rfl, ?_⟩) (PyProof.Rows.args_list_sort _)))
  · refine SrtO.pairs_sortableO (s := { s with heap := h'.push (seqObj "list" acc'.toList.toArray 0), toks := tk }) (by omega) hp fun o e => ?_
    have e' : some o = some (seqObj "list" acc'.toList.toArray 0) := e.symm.trans hoL
    cases e'
    intro c
    exact absurd (Value.type.inj c) (by decide)
  · obtain ⟨e', he'⟩ := PyProof.Rows.sortedHeap_at (vs := acc'.toList) (out := out.toArray) hoL
    have hrefs : ∀ u ∈ out, ∃ a, u = Value.ref a := fun u hu => by
      obtain ⟨t, i, j, e, _⟩ := hpair u (hb.perm.mem_iff.mp hu)
      exact ⟨t, e⟩
    have hb2 : SrtO.Stb (ltP (kOf H)) (out.map backV) ((ks.map fun x => x.2.1).map V.ref) := by
      have e1 : ((ks.map fun x => x.2.1).map V.ref) = acc'.toList.map backV := by
        rw [ea, List.map_map, List.map_map]
        rfl
      rw [e1]
      exact SrtO.Stb.map (ltP_swo (kOf H)) backV hb
    have hlen : (out.map backV).length ≤ sizeLine := by
      rw [List.length_map, hb.perm.length_eq]
      exact hal
    refine wpAny_pure ⟨_, rfl, .ref h'.objs.size, upd H h'.objs.size (.lst (out.map backV)), I1.laid (t' := tk) (fun b u e => ?_) (Nat.le_refl _)
      (show ObjOk X.prog X.w _ _ _ (.lst (out.map backV)) from ⟨hlen, out, e', vals_back hrefs, by exact he'⟩), rfl, q _ _ _ keys (SrtO.srtd_map hs) hb2 (I1.hok.fresh (Nat.le_refl _))⟩
    have hbn : b < h'.objs.size := Heap.lt_size e
    rw [PyProof.Rows.sortedHeap_old (Nat.ne_of_lt hbn) (by rw [size_push']; exact Nat.lt_succ_of_lt hbn)]
    exact Heap.get?_push_of_some _ e
/-- len(o), o an instance of an own class with a __len__ -/
def rLenOwn (C : Addr) (sp : Sp) (E : XK) : List V → Hp → VK → Prop := fun vs H Q => ∃ (a dx : Addr) (fs : List (Str × V)), vs = [V.ref a] ∧ H a = some (.ins C dx fs) ∧ sp [V.ref a] H (fun v H' => ∃ n : Nat, v = .int (n : Int) ∧ n ≤ sizeLine ∧ Q (.int (n : Int)) H') E
theorem cr_lenOwn {CX : CXT} {k : Nat} {C f : Addr} {fd : FuncData} {ps : List Str} {sp : Sp} {E : XK} (hm : Meth X.K C "__len__" f) (F : FnOk X.prog X.w X.K X.mg X.base CX k f fd ps sp) (hr : Room (k + 1) X.A) (hb : Binds X.K fd ps []) (hx : Passes CX X.nox E) :
    CallR X (.builtin "len") (rLenOwn C sp E) := by
  intro pins s σ H xs us Q I r h
  obtain ⟨a, dx, fs, rfl, ea, q⟩ := h
  obtain ⟨u, rfl, rx⟩ := vals1 r
  cases rx
  obtain ⟨mA, O, _, _, _, _⟩ := ins_get I.hok ea
  obtain ⟨od, J, _⟩ := O.look
  have hl : [Value.ref a].length = ps.length := (F.len _ _ _ _ q : _)
  apply Calls.call_function_entry kind_len plain_len entry_len (args_len1 _)
  show wpAny _ _ (Builtin.«len» _) _ _ _
  unfold Builtin.«len»
  apply wpAny_bind (m := oneArg "len" _)
  apply wpAny_pure
  apply wpAny_bind (m := callSpecial? (.ref a) (Str.ofString "__len__"))
  apply PySem.W.special_fn I.kIn J hm.at_ (beq_iff_eq.mp hm.fn)
  apply wpAny_call
  refine codeAny_mono (F.run X.A.in1 X.stack s H ⟨[.ref a], []⟩ [.ref a] [V.ref a] _ E hr.in1 I.env0.in1 (hb s [.ref a] I.kIn hl) (.cons rfl .nil) q) fun r s' hq => ?_
  rcases r with e | fl
  · exact False.elim (hx pins σ H s e s' (I.wish _) hq)
  · cases fl <;> first | exact False.elim hq | skip
    rename_i u
    obtain ⟨v, H', I3, rv, n, ev, hn, q3⟩ := I.after hq
    subst ev
    obtain ⟨t, et⟩ := rv
    subst et
    have h63 : sizeLine < 2 ^ 63 := by decide
    apply wpAny_bind
    apply wpAny_holding
    apply wpAny_pure
    apply wpAny_bind
    apply wpAny_letGo
    show wpAny _ _ (if (n : Int) < 0 then _ else _) _ _ _
    rw [if_neg (by omega)]
    show wpAny _ _ (if (n : Int) ≥ 2 ^ 63 then _ else _) _ _ _
    rw [if_neg (by omega)]
    apply wpAny_bind
    apply wpAny_mkInt
    exact wpAny_pure ⟨_, rfl, .int (n : Int), H', I3.tok _, ⟨_, rfl⟩, q3⟩
/-- for x in xs, xs a list or a tuple -/
def iSeq (K : PySem.W.Frag) (ta : TE) : TI := fun σ H R => ta σ H fun x H1 => ∃ a, x = .ref a ∧ (((∃ xs, SqL K H1 a xs) ∧ R (Itl K a) H1) ∨ ((∃ xs, SqT K H1 a xs) ∧ R (Itt K a) H1))
theorem pi_seq {tg l : Expr} {tl : TE} (hl : PE X l tl) : PI X tg l (iSeq X.K tl) := by
  refine ⟨fun pins s σ H R I h => thn (hl.run pins s σ H _ I h) ?_⟩
  rintro v s1 ⟨x, H1, I1, r1, a, rfl, q | q⟩
  all_goals
    obtain ⟨⟨xs, hq⟩, q⟩ := q
    obtain rfl : v = Value.ref a := r1
    have fresh := I1.fpOk (Nat.le_refl s1.heap.objs.size) (I1.hok.fresh (Nat.le_refl _))
    have older : ∀ {u : Obj}, Inv X pins σ H1 { s1 with heap := s1.heap.push u, toks := s1.toks } := fun {u} => I1.kept (t' := s1.toks) fun b o e => Heap.get?_push_of_some _ e
  · obtain ⟨its, rv, p, hz⟩ := I1.list hq
    exact wpAny_pyIter_list p.isList ⟨_, [s1.heap.objs.size], _, _, H1, rfl, older, turn_list a _, ⟨_, Heap.get?_push_size _ rfl, rfl, rfl⟩, fun b hb => by rw [List.mem_singleton.mp hb]; exact fresh, q⟩
  · obtain ⟨its, rv, p, hz⟩ := I1.tuple hq
    exact wpAny_pyIter_tuple (show s1.heap.IsTuple a its.toArray from p) ⟨_, [s1.heap.objs.size], _, _, H1, rfl, older, turn_tuple a _, ⟨_, Heap.get?_push_size _ rfl, rfl, rfl⟩, fun b hb => by rw [List.mem_singleton.mp hb]; exact fresh, q⟩
/-- the loop's rule for both -/
def SqB (K : PySem.W.Frag) (H : Hp) (a : Addr) (xs : List V) : Prop := SqL K H a xs ∨ SqT K H a xs
end
end Own

namespace Own
open PySem PySem.Spec PyProof.Rows L2
/-! ### a list comprehension whose element may raise -/
def cEnd (M : Model) (A : Around) (E : Value → Shared → Prop) (use : Option (Value → Sem Unit)) (Q : Value → Shared → Prop) (acc : Value) (C : Addr) (fr : Option Addr) : Result → Shared → Prop
  | .ok f, t => compPost M A E use Q acc C (.ok f) t
  | .error u, t => ∃ m, t.heap.Ns C m ∧ ∀ g, Heap.SameBut C t.heap g → ∀ c1 : Env, c1.locals = C → c1.frame = fr →
      wpAny M A (passOn "comprehension.variables-let-go" u c1 : Sem Value) (fun _ _ => False) E { t with heap := g }
section
variable {M : Model} {A : Around} {E : Value → Shared → Prop} {s : Shared} {env : Env}
theorem wpAny_compE {e : Expr} {scope : Scope} {pos : Pos} {mk first : Sem Value} {g : Comprehension} {gs : List Comprehension} {cl : List (Str × Addr)} {use : Option (Value → Sem Unit)} {Q : Value → Shared → Prop}
    (h1 : clausesOf e = g :: gs) (h2 : ∀ y, foldedSetIterable g.iter env y = pure y) (h3 : closureFor scope env = pure cl) (h4 : scope.kind = .function) (h5 : ∀ y ∈ scope.names, y.2 = .local → scope.names.lookup y.1 = some .local)
    (run : wpAny M A first (fun y t1 => wpAny M A (pyIter y) (fun it t2 => wpAny M A mk (fun acc t3 => wpAny M A (newFunctionEnv scope env.globals cl [] env.qual none .none (some env))
      (fun ce t4 => codeAny M A (.compStart e 0 it acc { ce with scope := relabel scope env }) (cEnd M A E use Q acc ce.locals ce.frame) t4) E t3) E t2) E t1) E s) :
    wpAny M A (comprehension e scope env pos mk false first use) Q E s := by
  unfold comprehension
  rw [h3, h1]
  refine wpAny_bind (wpAny_mono run (fun y t1 r1 => ?_) fun _ _ z => z)
  refine wpAny_bind (wpAny_standAt (wpAny_bind (wpAny_of_eq (h2 y) (wpAny_bind (wpAny_holding (wpAny_mono r1 (fun it t2 r2 => ?_) fun _ _ z => z))))))
  refine wpAny_standIf (wpAny_bind (wpAny_mono r2 (fun acc t3 r3 => ?_) fun _ _ z => z))
  refine wpAny_bind (wpAny_pure (wpAny_bind (wpAny_mono r3 (fun ce t4 r4 => ?_) fun _ _ z => z)))
  dsimp only
  generalize hL : (scope.names.filter fun y => (y.2 == .local || y.2 == .cell) && y.1 != (".0" : Str)).reverse = vl
  have k1 : ∀ y ∈ vl, y.2 = .local → Env.kindOf { ce with scope := relabel scope env } y.1 = some .local := fun y hy hl => by
    rw [← hL] at hy
    exact lookup_relabel_local (h5 y (List.mem_filter.mp (List.mem_reverse.mp hy)).1 hl)
  have k2 : ∀ y ∈ vl.drop 1 ++ vl.take 1, y.2 = .local → Env.kindOf { ce with scope := relabel scope env } y.1 = some .local := fun y hy hl =>
    (List.mem_append.mp hy).elim (fun z => k1 y (List.mem_of_mem_drop z) hl) fun z => k1 y (List.mem_of_mem_take z) hl
  refine wpAny_holding (wpAny_bind (wpAny_attempt (wpAny_holding (wpAny_run (codeAny_mono r4 fun r t hr => ?_)))))
  cases r with
  | ok f =>
    cases use with
    | none =>
      obtain ⟨m, hn, hr⟩ := hr
      exact wpAny_bind (wpAny_holding (wpAny_comp_letGo (cenv := { ce with scope := relabel scope env }) h4 _ t m k1 hn fun g m2 _ sb => wpAny_pure (hr g sb)))
    | some u =>
      refine wpAny_bind (wpAny_rule (wpAny_bind (wpAny_holding (wpAny_mono hr (fun _ t5 hr5 => ?_) fun _ _ z => z))))
      obtain ⟨m, hn, hr5⟩ := hr5
      exact wpAny_bind (wpAny_comp_letGo (cenv := { ce with scope := relabel scope env }) h4 _ t5 m k2 hn fun g m2 _ sb => wpAny_pure (hr5 g sb))
  | error u =>
    obtain ⟨m, hn, hr⟩ := hr
    exact wpAny_bind (wpAny_holding (wpAny_comp_letGo (cenv := { ce with scope := relabel scope env }) h4 _ t m k1 hn fun g m2 _ sb => wpAny_mono (hr g sb _ rfl rfl) (fun _ _ z => z.elim) fun _ _ z => z))
end
theorem frames_same {C : Addr} {B h h' : Heap} (sb : Heap.SameBut C h h') : ∀ {l : List Env}, h.FunFrames B l → C ∉ frs l → h'.FunFrames B l
  | [], _, _ => trivial
  | env :: l, hl, hn => by
    obtain ⟨hk, ⟨L, o, hf, hb, ho, hd⟩, hr⟩ := hl
    have nL : L ≠ C := fun z => hn (by rw [← z]; exact List.mem_filterMap.mpr ⟨env, List.mem_cons_self, hf⟩)
    refine ⟨hk, ⟨L, o, hf, hb, (sb.2 L nL).trans ho, hd⟩, frames_same sb hr fun z => hn ?_⟩
    obtain ⟨e, he, q⟩ := List.mem_filterMap.mp z
    exact List.mem_filterMap.mpr ⟨e, List.mem_cons_of_mem _ he, q⟩
theorem noteFrame_same {u : Value} {e1 e2 : Env} (h : e1.frame = e2.frame) : noteFrame u e1 = noteFrame u e2 := by
  unfold noteFrame PySem.frameOf
  rw [h]
/-- an exception of a call within a block whose locals stand at C -/
def XC (X : Cx) (E : XK) (pins : List (Addr × Obj)) (σ : L2.St) (C : Addr) (u : Value) (t : Shared) : Prop :=
  ∃ (a : Addr) (B : Heap) (sI : Shared) (H : Hp) (cls : Value) (d : Option Addr), u = .ref a ∧ Inv X pins σ H sI ∧ (∀ b o, sI.heap.get? b = some o → b ∉ frs X.stack → B.get? b = some o) ∧ sI.heap.UpToSlots t.heap ∧
    HandSPX.FlyingZ B X.stack a (L2N.Zn cls d) t.heap ∧ H a = none ∧ t.os = sI.os ∧ AllBare t.gens ∧ E cls d H ∧ B.get? C = none ∧ sI.heap.get? C = none ∧ C ∉ frs X.stack ∧ ∃ m, t.heap.Ns C m
section
variable {X : Cx} {pins : List (Addr × Obj)} {σ : L2.St} {H : Hp} {s t : Shared} {C : Addr} {E : XK} {m : Str → Option Value} {u : Value}
theorem xc_call (I : Inv X pins σ H s) (f : FpOk X pins H C) (nS : C ∉ frs X.stack) (hn : s.heap.Ns C m) (c : L2N.CX X.prog X.w X.stack H s E u t) : XC X E pins σ C u t := by
  obtain ⟨a, B, H', cls, d, rfl, fl, hok, ub, na, os, ag, hE⟩ := c
  obtain ⟨G, g1, g2⟩ := restrict t.heap fun b => ((B.get? b).isSome || decide (b ∈ frs X.stack)) && decide (b ≠ C)
  obtain ⟨B1, b1, b2⟩ := restrict B fun b => decide (b ≠ C)
  have st : B.StaysIn t.heap := fl.1
  have hC0 : ∃ o, s.heap.get? C = some o := let ⟨o, _, _, e, _⟩ := hn; ⟨o, e⟩
  obtain ⟨oC, eC⟩ := hC0
  have hC1 : H' C = none := ub.free C oC eC f.1
  have gB : ∀ b o, b ≠ C → B.get? b = some o → G.get? b = some o := fun b o n e => by
    rw [g1 b (by simp [e, n])]
    exact st b o e
  have gF : ∀ b, b ≠ C → b ∈ frs X.stack → G.get? b = t.heap.get? b := fun b n hb => g1 b (by simp [hb, n])
  have og : ∀ b o, G.get? b = some o → t.heap.get? b = some o ∧ b ≠ C ∧ ((B.get? b).isSome = true ∨ b ∈ frs X.stack) := fun b o e => by
    cases q : (((B.get? b).isSome || decide (b ∈ frs X.stack)) && decide (b ≠ C)) with
    | false => rw [g2 b q] at e; cases e
    | true =>
      rw [g1 b q] at e
      simp only [Bool.and_eq_true, Bool.or_eq_true, decide_eq_true_eq] at q
      exact ⟨e, q.2, q.1⟩
  have bn : B1.get? C = none := b2 C (by simp)
  have b1' : ∀ b, b ≠ C → B1.get? b = B.get? b := fun b n => b1 b (by simp [n])
  have bo : ∀ b o, B1.get? b = some o → B.get? b = some o := fun b o e => by
    by_cases n : b = C
    · rw [n, bn] at e; cases e
    · rw [← b1' b n]; exact e
  have gn : G.get? C = none := g2 C (by simp)
  refine ⟨a, B1, { s with heap := G, gens := t.gens, drawn := t.drawn, toks := t.toks }, H', cls, d, rfl, ?_, fun b o e hb => ?_, Heap.UpToSlots.of_keeps fun b o e => (og b o e).1, ?_, na, os, ag, hE, bn, gn, nS, ?_⟩
  · refine I.call (ch := [C]) ⟨fun b o e n hb hc => gB b o (fun z => hc (by simp [z])) (ub.keep b o e n hb), fun b o e n hb hc => ?_, fun b o e n _ => ub.free b o e n, fun b o e hc => ?_, ub.tups, ub.frzs, ub.tbls⟩
      (fun b w e => (hok b w e).stay (fun c v hc q => gB c v (fun z => ?_) q) (fun _ q => q) fun _ _ q => q) ag (fun b hb => ?_)
    · have n : b ≠ C := fun z => hc (by simp [z])
      obtain ⟨sl, q⟩ := ub.slot b o e hb
      exact ⟨sl, by rw [gF b n hb]; exact q⟩
    · have n : b ≠ C := fun z => hc (by simp [z])
      by_cases hb : b ∈ frs X.stack
      · obtain ⟨sl, q⟩ := ub.slot b o e hb
        exact ⟨_, by rw [gF b n hb]; exact q⟩
      · obtain ⟨o', q⟩ := ub.there b o e hb
        exact ⟨o', gB b o' n q⟩
    · rw [z] at hc
      rcases hc with y | y
      · rw [← y, hC1] at e; cases e
      · rw [hC1] at y; cases y
    · have e : b = C := by simpa using hb
      rw [e]
      exact ⟨f.2.2.2.1, f.2.1, f.2.2.2.2.1, f.2.2.2.2.2⟩
  · obtain ⟨e', n, h⟩ := og b o e
    rcases h with h | h
    · obtain ⟨o', q⟩ := Option.isSome_iff_exists.mp h
      have z := st b o' q
      rw [e'] at z; cases z
      rw [b1' b n]
      exact q
    · exact absurd h hb
  · obtain ⟨f1, f2, f3, f4⟩ := fl
    have aC : B1.get? a = none := by
      cases q : B1.get? a with
      | none => rfl
      | some o => have z := bo a o q; rw [f2] at z; cases z
    refine ⟨fun b o e => f1 b o (bo b o e), aC, funFrames_none f3 fun L hL => ?_, ?_⟩
    · cases q : B1.get? L with
      | none => rfl
      | some o =>
        have z := bo L o q
        rw [(f3.mem hL).1] at z; cases z
    · obtain ⟨oe, vs, T, oT, ts, he, hz, hd, h1, hnT, r⟩ := f4
      refine ⟨oe, vs, T, oT, ts, he, hz, hd, h1, ?_, r⟩
      cases q : B1.get? T with
      | none => rfl
      | some o => have z := bo T o q; rw [hnT] at z; cases z
  · -- the block's dict
    obtain ⟨o, es, ep, e, hd, r⟩ := hn
    rw [eC] at e; cases e
    exact ⟨m, oC, es, ep, st C _ (ub.keep C oC eC f.1 nS), hd, r⟩
theorem xc_note {ce : Env} {acc : Value} {use : Option (Value → Sem Unit)} {Qf : Value → Shared → Prop} (hs : X.stack = X.env :: X.outer) (hf : X.env.frame = some X.env.locals) (tk : L2N.Takes X fun cls d _ H => E cls d H)
    (hfr : ce.frame = X.env.frame) (x : XC X E pins σ C u t) : notedBy (model X.prog X.w) X.A ce (fun e t1 => cEnd (model X.prog X.w) X.A X.xe use Qf acc C X.env.frame (.error e) t1) u t := by
  obtain ⟨a, B, sI, H, cls, d, rfl, I, nb, up, fl, na, os, ag, hE, bC, iC, nS, m, hn⟩ := x
  show wpAny _ _ (noteFrame _ ce) _ _ _
  rw [noteFrame_same hfr]
  have fr : X.A.frames = some (X.env :: X.outer) := by rw [I.ok.frames, hs]
  rw [hs] at fl
  refine PXN.looks_onZ L2N.Zn.steady fr hf fl fun h1 hh up1 => ?_
  rw [← hs] at hh
  refine ⟨m, up1.ns hn, fun g sb c1 e1 e2 => ?_⟩
  obtain ⟨k1, k2, k3, k4⟩ := hh
  have sb2 : ∀ b, b ≠ C → g.get? b = h1.get? b := sb.2
  have g1 : B.StaysIn g := fun b o e => (sb2 b fun z => by rw [z, bC] at e; cases e).trans (k1 b o e)
  have g3 : g.FunFrames B X.stack := frames_same sb k3 nS
  obtain ⟨oC, esC, epC, eC, dC, _⟩ := up1.ns hn
  have g4 : HandSPX.TracedZ g B a (L2N.Zn cls d) (rawInt X.env.locals) := by
    obtain ⟨oe, vs, T, oT, ts, he, hz, hd, h1', hnT, hTe, hT, hdT, h3⟩ := k4
    have eC' : h1.get? C = some oC := eC
    refine ⟨oe, vs, T, oT, ts, (sb2 a fun z => ?_).trans he, hz, hd, h1', hnT, hTe, (sb2 T fun z => ?_).trans hT, hdT, h3⟩
    · rw [z, eC'] at he; cases he; rw [dC] at hd; cases hd
    · rw [z, eC'] at hT; cases hT; rw [dC] at hdT; cases hdT
  unfold PySem.passOn
  obtain ⟨oe, vs, T, oT, ts, he, hz, hd, h1', r⟩ := id g4
  refine wpAny_bind (wpAny_field he hd h1' ?_)
  rw [if_neg (by simp)]
  refine wpAny_bind ?_
  refine HandSPX.setFlight_anyZ g1 g3 g4 fun h2 w1 w3 w4 up2 => wpAny_throw (tk _ _ ?_)
  rw [e2, hf] at w4
  refine ⟨a, B, sI, pins, σ, H, cls, d, rfl, I, nb, ?_, .inr (.inr ⟨w1, k2, w3, w4⟩), na, os, ag, hE⟩
  have up3 : sI.heap.UpToSlots g := fun b o e nf => by
    obtain ⟨sl, q⟩ := up.trans up1 b o e nf
    exact ⟨sl, (sb2 b fun z => by rw [z, iC] at e; cases e).trans q⟩
  exact up3.trans up2
end
section
variable {X : Cx} {E : XK}
/-- the block's context, its errors going out of the def -/
abbrev blkX (X : Cx) (s : Shared) (H : Hp) (scope : Scope) (ce : Env) (fp : List Addr) (xe : Value → Shared → Prop) : Cx := (X.blk s H scope ce fp).tr [] xe
theorem inv_blkX {X : Cx} {pins : List (Addr × Obj)} {σ : L2.St} {H G : Hp} {s t : Shared} {scope : Scope} {ce : Env} {fp : List Addr} (xe : Value → Shared → Prop) (I : Inv (X.blk s G scope ce fp) pins σ H t) : Inv (blkX X s G scope ce fp xe) pins σ H t :=
  ⟨I.ok.toTry _ _, I.os, I.bare, I.base, I.loc, I.cell, I.free, I.freeC, I.pin, I.hok, I.len⟩
theorem thnX {α : Type} {x : Sem α} {Q Q' : α → Shared → Prop} {M : Model} {A : Around} {E E' : Value → Shared → Prop} {s : Shared} (h : wpAny M A x Q E s) (hE : ∀ e s, E e s → E' e s) (hQ : ∀ a s, Q a s → Q' a s) : wpAny M A x Q' E' s := wpAny_mono h hQ hE
theorem lcX_core {pins : List (Addr × Obj)} {s : Shared} {σ : L2.St} {H : Hp} {Q : VK} {elt tg iter : Expr} {ifs : List Expr} {scope : Scope} {own : List (Str × Nat)} {pos pos' : Pos} {wi : TI} {g : TG} {tt : TT} {te : TE} {use : Option (Value → Sem Unit)} {Qf : Value → Shared → Prop}
    (hs : X.stack = X.env :: X.outer) (hf : X.env.frame = some X.env.locals) (tk : L2N.Takes X fun cls d _ H => E cls d H) (hc : X.calm = true) (hN : X.N.Nodup) (I : Inv X pins σ H s) (hi : PI X tg iter wi) (ok : BlkOk X.N X.env.scope scope own)
    (hg : ∀ s H C cl fp xe, PG (blkX X s H scope (compEnvC scope cl C X.env) fp xe) tg g) (ht : ∀ s H C cl fp xe, PTs (blkX X s H scope (compEnvC scope cl C X.env) fp xe) ifs tt)
    (he : ∀ s H C cl fp xe, (∀ σ, PassesAt (L2N.CX X.prog X.w) (blkX X s H scope (compEnvC scope cl C X.env) fp xe) σ E) → PE (blkX X s H scope (compEnvC scope cl C X.env) fp xe) elt te) (hsi : ∀ x, foldedSetIterable iter X.env x = pure x)
    (h : tLc wi g tt te (own.map (·.2)) σ H Q)
    (fin0 : ∀ D C s' m H', Inv X pins σ H' s' → Q (.ref D) H' → s'.heap.Ns C m → FpOk X pins H' C → compPost (model X.prog X.w) X.A X.xe use Qf (.ref D) C (.ok .next) s') :
    wpAny (model X.prog X.w) X.A (comprehension (.ListComp elt [⟨tg, iter, ifs, 0⟩] scope pos) scope X.env pos' (newList []) false (eval iter X.env) use) Qf X.xe s := by
  have fre : ∀ y ∈ scope.names, y.2 = .free → ∃ c, X.env.cells.lookup y.1 = some c := fun y hy e => (ok.free y hy e).elim (fun k => I.ok.has _ (.inl k)) fun k => I.ok.has _ (.inr k)
  refine wpAny_compE (use := use) rfl hsi (closure_ok fre) ok.kind (fun y hy e => by rw [ok.uniq y hy, e]) ?_
  refine thn (hi.run pins s σ H _ I h) fun xv s1 hx => thn hx fun itv s2 h2 => ?_
  obtain ⟨it, fp, tn, J, H2, e, I2, T, st2, f2, q⟩ := h2
  subst e
  refine wpAny_newObj_type (newEnv_comp ?_) (by show 0 ≤ sizeLine; decide)
  generalize hD : s2.heap.objs.size = D
  have hDn : H2 D = none := I2.hok.fresh (Nat.le_of_eq hD)
  obtain ⟨W, ⟨m0, w0⟩, turn⟩ := q D hDn
  generalize hs3 : ({ s2 with heap := s2.heap.push { cls := .type "list", data := .seq ([] : List Value).toArray } } : Shared) = s3
  have h3 : s3.heap = s2.heap.push { cls := .type "list", data := .seq ([] : List Value).toArray } := by rw [← hs3]
  have I3 : Inv X pins σ (upd H2 D (.lst [])) s3 := by
    rw [← hs3]
    exact I2.laid (t' := s2.toks) (fun b o e => Heap.get?_push_of_some _ e) (Nat.le_of_eq hD) ⟨Nat.zero_le _, [], 0, .nil, by rw [← hD]; exact Heap.get?_push_size _ rfl⟩
  have f3 : ∀ b ∈ fp, FpOk X pins (upd H2 D (.lst [])) b ∧ b < s3.heap.objs.size := fun b hb => by
    obtain ⟨o, e, _⟩ := T.obj _ _ st2 b hb
    have lt := Heap.lt_size e
    refine ⟨⟨?_, (f2 b hb).2⟩, by rw [h3, Heap.size_push]; exact Nat.lt_succ_of_lt lt⟩
    rw [upd_ne (by rw [← hD]; exact Nat.ne_of_lt lt)]
    exact (f2 b hb).1
  have st3 : tn 0 s3.heap := T.keep _ _ _ st2 fun b _ o e => by rw [h3]; exact Heap.get?_push_of_some _ e
  have I4 := block_start I3 ok hN f3
  generalize hcl : cellsFrom (s3.heap.objs.size + 1) scope.names (cloFrom X.env.cells scope.names []) = cl at I4
  have fC := I3.fpOk (Nat.le_refl _) (I3.hok.fresh (Nat.le_refl _))
  have nS : s3.heap.objs.size ∉ frs X.stack := fun z => by
    rcases List.mem_cons.mp (I3.stkSub _ z) with w | w
    · exact fC.2.1 w
    · exact fC.2.2.1 w
  generalize hxe : XC X E pins σ s3.heap.objs.size = xe
  generalize hH3 : upd H2 D (.lst []) = H3 at I3 I4 w0 f3 fC
  have pg := hg s3 H3 s3.heap.objs.size cl fp xe
  have pt := ht s3 H3 s3.heap.objs.size cl fp xe
  have back : ∀ {pY : List (Addr × Obj)} {σ' : L2.St} {H' : Hp} {s' : Shared}, Inv (blkX X s3 H3 scope (compEnvC scope cl s3.heap.objs.size X.env) fp xe) pY σ' H' s' → Inv X pins σ H' s' := fun {pY σ' H' s'} I' =>
    I3.call' (ch := fp) I'.os I'.base I'.hok I'.bare fun b hb => ⟨(f3 b hb).1.2.2.2.1, (f3 b hb).1.2.1, (f3 b hb).1.2.2.2.2.1, (f3 b hb).1.2.2.2.2.2⟩
  have pe := he s3 H3 s3.heap.objs.size cl fp xe fun σ' pY H' s' u t I' c => by
    rw [← hxe]
    obtain ⟨m, hn, _⟩ := I'.loc
    exact xc_call (back I') (I3.fpOk (Nat.le_refl _) I'.free) nS hn c
  show codeAny _ _ (.compStart (.ListComp elt [⟨tg, iter, ifs, 0⟩] scope pos) 0 (.ref it) (.ref D) (compEnvC scope cl s3.heap.objs.size X.env))
    (cEnd (model X.prog X.w) X.A X.xe use Qf (.ref D) s3.heap.objs.size X.env.frame) { s3 with heap := pushCells (s3.heap.push { cls := .type "dict", data := .dict #[] }) scope.names }
  have nfp : ∀ b ∈ fp, H3 b = none := fun b hb => (f3 b hb).1.1
  generalize hce : compEnvC scope cl s3.heap.objs.size X.env = ce at I4 pg pt pe back ⊢
  have cL : ce.locals = s3.heap.objs.size := by subst hce; rfl
  have cF : ce.frame = X.env.frame := by subst hce; rfl
  generalize hs4 : ({ s3 with heap := pushCells (s3.heap.push { cls := .type "dict", data := .dict #[] }) scope.names } : Shared) = s4 at I4 ⊢
  have st4 : tn 0 s4.heap := T.keep _ _ _ st3 fun b _ o e => by rw [← hs4]; exact pushCells_keeps _ _ _ _ (Heap.get?_push_of_some _ e)
  have out : ∀ u t, xe u t → notedBy (model X.prog X.w) X.A ce (fun e t1 => cEnd (model X.prog X.w) X.A X.xe use Qf (.ref D) s3.heap.objs.size X.env.frame (.error e) t1) u t := fun u t z => by
    rw [← hxe] at z
    exact xc_note hs hf tk cF z
  have I4' := inv_blkX xe I4
  have stat : ∀ {σ' : L2.St} {H' : Hp} {s' : Shared}, Inv (blkX X s3 H3 scope ce fp xe) [] σ' H' s' → (∀ b ∈ fp, H' b = none) → ∀ b ∈ fp, FpOk (blkX X s3 H3 scope ce fp xe) [] H' b := fun {σ' H' s'} I' hn b hb =>
    ⟨hn b hb, (I'.ok.exf b hb).1, I'.ok.exfs b hb, .inl hb, fun x c e => (I'.ok.exf b hb).2 x c e, fun p hp => nomatch hp⟩
  have loop : codeAny (model X.prog X.w) X.A (.compLoop (.ListComp elt [⟨tg, iter, ifs, 0⟩] scope pos) 0 (.ref it) (.ref D) ce) (cEnd (model X.prog X.w) X.A X.xe use Qf (.ref D) s3.heap.objs.size X.env.frame) s4 := by
    refine compLoop_any (fun n s' => ∃ i H', Inv (blkX X s3 H3 scope ce fp xe) [] (wipe σ (own.map (·.2))) H' s' ∧ tn i s'.heap ∧ (∀ b ∈ fp, H' b = none) ∧ W i n H') ?_ m0 ⟨0, H3, I4', st4, nfp, w0⟩
    rintro n s5 ⟨i, H5, I5, st5, n5, w5⟩
    rcases turn i n H5 w5 with ⟨stop, qq⟩ | ⟨go, Nx, hNx, step⟩
    · refine thnF (T.done (blkX X s3 H3 scope ce fp xe) rfl rfl rfl hc i [] s5 _ H5 (fun _ _ => False) I5 (stat I5 n5) st5 stop) fun r s6 ⟨hr, I6⟩ => ?_
      subst hr
      have nC : H5 s3.heap.objs.size = none := by
        have z : H5 ce.locals = none := I6.free
        rw [cL] at z
        exact z
      obtain ⟨m, hn, _⟩ := I6.loc
      have hn : s6.heap.Ns ce.locals m := hn
      rw [cL] at hn
      exact fin0 D s3.heap.objs.size s6 m H5 (back I6) qq hn (I3.fpOk (Nat.le_refl _) nC)
    · refine thnF (T.item (blkX X s3 H3 scope ce fp xe) rfl rfl rfl hc i [] s5 _ H5 (fun _ _ => False) I5 (stat I5 n5) st5 go) fun r s6 ⟨u, hr, h6⟩ => ?_
      subst hr
      refine thnF h6 fun _ s7 ⟨x, H7, I7, r7, y7, st7, n7⟩ => ?_
      have I7' := I7.pinned (stat I7 n7) (T.obj _ _ st7)
      refine thnX (pg.run _ s7 _ H7 x u _ I7' r7 (step x H7 y7)) out fun _ s8 ⟨σ8, H8, I8, hw8, q8⟩ => ?_
      refine thnX (pt.run _ s8 σ8 H8 _ I8 q8) out fun b s9 ⟨H9, I9, q9⟩ => ?_
      have fin : ∀ {s' : Shared} {H' : Hp}, Inv (blkX X s3 H3 scope ce fp xe) ([] ++ pinsAt fp s7.heap) σ8 H' s' → Nx H' → ∃ m, m < n ∧ ∃ i H', Inv (blkX X s3 H3 scope ce fp xe) [] (wipe σ (own.map (·.2))) H' s' ∧ tn i s'.heap ∧ (∀ b ∈ fp, H' b = none) ∧ W i m H' := fun {s' H'} I' nx => by
        obtain ⟨m', hm, w'⟩ := hNx H' nx
        have pin' : ∀ b ∈ fp, ∀ o, s7.heap.get? b = some o → s'.heap.get? b = some o ∧ H' b = none := fun b hb o e =>
          let z := I'.pin (b, o) (List.mem_append_right _ (List.mem_append_right _ (mem_pinsAt hb e)))
          ⟨z.1, z.2.1⟩
        refine ⟨m', hm, i + 1, H', (I'.unpinned (pins := [])).weak (by rw [← hw8, wipe_length]) (fun j v e => by rw [← hw8] at e; exact (wipe_some e).1), T.keep _ _ _ st7 fun b hb o e => (pin' b hb o e).1, fun b hb => ?_, w'⟩
        obtain ⟨o, e, _⟩ := T.obj _ _ st7 b hb
        exact (pin' b hb o e).2
      cases b with
      | false =>
        simp only [Bool.false_eq_true, if_false] at q9 ⊢
        exact fin I9 q9
      | true =>
        simp only [if_true] at q9 ⊢
        refine thnX (pe.run _ s9 σ8 H9 _ I9 q9) out fun z s10 ⟨yv, H10, I10, r10, acc, hD10, hz10, nx⟩ => ?_
        exact app_ok (X := blkX X s3 H3 scope ce fp xe) I10 hD10 hz10 r10 fun s11 I11 => fin I11 nx
  exact codeAny_compStart_list loop (T.self X.A 0 _ _ _ st4 loop)
/-- as a value -/
theorem pe_lcX {elt tg iter : Expr} {ifs : List Expr} {scope : Scope} {own : List (Str × Nat)} {pos : Pos} {wi : TI} {g : TG} {tt : TT} {te : TE}
    (hs : X.stack = X.env :: X.outer) (hf : X.env.frame = some X.env.locals) (tk : L2N.Takes X fun cls d _ H => E cls d H) (hc : X.calm = true) (hN : X.N.Nodup) (hi : PI X tg iter wi) (ok : BlkOk X.N X.env.scope scope own)
    (hg : ∀ s H C cl fp xe, PG (blkX X s H scope (compEnvC scope cl C X.env) fp xe) tg g) (ht : ∀ s H C cl fp xe, PTs (blkX X s H scope (compEnvC scope cl C X.env) fp xe) ifs tt)
    (he : ∀ s H C cl fp xe, (∀ σ, PassesAt (L2N.CX X.prog X.w) (blkX X s H scope (compEnvC scope cl C X.env) fp xe) σ E) → PE (blkX X s H scope (compEnvC scope cl C X.env) fp xe) elt te) (hsi : ∀ x, foldedSetIterable iter X.env x = pure x := by intro _; rfl) :
    PE X (.ListComp elt [⟨tg, iter, ifs, 0⟩] scope pos) (tLc wi g tt te (own.map (·.2))) := by
  constructor
  intro pins s σ H Q I h
  rw [eval_ListComp]
  refine lcX_core hs hf tk hc hN I hi ok hg ht he hsi h fun D C s' m H' I' q hn f => ⟨m, hn, fun g sb => ?_⟩
  exact ⟨.ref D, H', I'.turned (t' := s'.toks) (fun b o n e => (sb.2 b n).trans e) f.1 f.2.1 f.2.2.2.1 f.2.2.2.2.1 f.2.2.2.2.2, rfl, q⟩
end
end Own

/-! Lots of cords as plain lists. -/
namespace Own
/-- one entry: two pins and a number of cords -/
abbrev Tr := Int × Int × Int
def lo (a b : Int) : Int := if b < a then b else a
def hi (a b : Int) : Int := if b > a then b else a
theorem lo_hi (a b : Int) : (a ≤ b ∧ lo a b = a ∧ hi a b = b) ∨ (b < a ∧ lo a b = b ∧ hi a b = a) := by
  unfold lo hi
  by_cases h : b < a
  · right
    rw [if_pos h, if_neg (by omega)]
    omega
  · left
    rw [if_neg h]
    by_cases e : b > a
    · rw [if_pos e]
      omega
    · rw [if_neg e]
      omega
/-- its pins as they stand, and in order -/
def pr (t : Tr) : Int × Int := (t.1, t.2.1)
def ky (t : Tr) : Int × Int := (lo t.1 t.2.1, hi t.1 t.2.1)
def Lex (p q : Int × Int) : Prop := p.1 < q.1 ∨ (p.1 = q.1 ∧ p.2 < q.2)
/-- the cords of all entries that the test takes: by the pins as they stand, by the pins in order -/
def bs (f : Int × Int → Bool) : List Tr → Int
  | [] => 0
  | t :: r => (if f (pr t) = true then t.2.2 else 0) + bs f r
def bk (f : Int × Int → Bool) : List Tr → Int
  | [] => 0
  | t :: r => (if f (ky t) = true then t.2.2 else 0) + bk f r
def tot (p : Int × Int) (l : List Tr) : Int := bk (fun q => decide (q = p)) l
theorem bs_append (f : Int × Int → Bool) (l m : List Tr) : bs f (l ++ m) = bs f l + bs f m := by
  induction l with
  | nil => simp [bs]
  | cons t r ih =>
    rw [List.cons_append, bs, bs, ih]
    omega
theorem bk_append (f : Int × Int → Bool) (l m : List Tr) : bk f (l ++ m) = bk f l + bk f m := by
  induction l with
  | nil => simp [bk]
  | cons t r ih =>
    rw [List.cons_append, bk, bk, ih]
    omega
theorem bs_congr {f g : Int × Int → Bool} {l : List Tr} (h : ∀ t ∈ l, f (pr t) = g (pr t)) : bs f l = bs g l := by
  induction l with
  | nil => rfl
  | cons t r ih =>
    rw [bs, bs, h t List.mem_cons_self, ih fun u hu => h u (List.mem_cons_of_mem _ hu)]
/-- r is l in order: one entry for each two pins, the smaller pin first -/
structure IsNorm (l r : List Tr) : Prop where
  srt : (r.map pr).Pairwise Lex
  mem : ∀ p, p ∈ r.map pr ↔ p ∈ l.map ky
  cnt : ∀ e ∈ r, e.2.2 = tot (pr e) l
theorem lex_irr {p : Int × Int} : ¬ Lex p p := by
  unfold Lex
  omega
theorem lex_asym {p q : Int × Int} (h : Lex p q) : ¬ Lex q p := by
  unfold Lex at h ⊢
  omega
theorem sorted_uniq : ∀ {xs ys : List (Int × Int)}, xs.Pairwise Lex → ys.Pairwise Lex → (∀ p, p ∈ xs ↔ p ∈ ys) → xs = ys
  | [], [], _, _, _ => rfl
  | [], y :: ys, _, _, h => absurd ((h y).mpr List.mem_cons_self) (by simp)
  | x :: xs, [], _, _, h => absurd ((h x).mp List.mem_cons_self) (by simp)
  | x :: xs, y :: ys, hx, hy, h => by
    have hx1 := List.pairwise_cons.mp hx
    have hy1 := List.pairwise_cons.mp hy
    have e : x = y := by
      rcases List.mem_cons.mp ((h x).mp List.mem_cons_self) with e | m
      · exact e
      · rcases List.mem_cons.mp ((h y).mpr List.mem_cons_self) with e | m2
        · exact e.symm
        · exact absurd (hy1.1 x m) (lex_asym (hx1.1 y m2))
    subst e
    congr 1
    refine sorted_uniq hx1.2 hy1.2 fun p => ⟨fun m => ?_, fun m => ?_⟩
    · rcases List.mem_cons.mp ((h p).mp (List.mem_cons_of_mem _ m)) with e | m2
      · subst e
        exact absurd (hx1.1 p m) lex_irr
      · exact m2
    · rcases List.mem_cons.mp ((h p).mpr (List.mem_cons_of_mem _ m)) with e | m2
      · subst e
        exact absurd (hy1.1 p m) lex_irr
      · exact m2
theorem of_pairs {r : List Tr} {g : Int × Int → Int} (h : ∀ e ∈ r, e.2.2 = g (pr e)) : r = (r.map pr).map fun p => (p.1, p.2, g p) := by
  induction r with
  | nil => rfl
  | cons e r ih =>
    rw [List.map_cons, List.map_cons, ← ih fun u hu => h u (List.mem_cons_of_mem _ hu), ← h e List.mem_cons_self]
    rfl
theorem norm_uniq {l r s : List Tr} (h : IsNorm l r) (k : IsNorm l s) : r = s := by
  have e : r.map pr = s.map pr := sorted_uniq h.srt k.srt fun p => by rw [h.mem, k.mem]
  exact (of_pairs (g := fun p => tot p l) h.cnt).trans ((congrArg (List.map _) e).trans (of_pairs (g := fun p => tot p l) k.cnt).symm)
/-- the sum over a list of pairs, by their numbers in l -/
def ps (f : Int × Int → Bool) (l : List Tr) : List (Int × Int) → Int
  | [] => 0
  | p :: r => (if f p = true then tot p l else 0) + ps f l r
theorem ps_nil (f : Int × Int → Bool) (P : List (Int × Int)) : ps f [] P = 0 := by
  induction P with
  | nil => rfl
  | cons p r ih =>
    rw [ps, ih]
    show (if f p = true then (0 : Int) else 0) + 0 = 0
    split <;> rfl
theorem tot_cons (p : Int × Int) (t : Tr) (l : List Tr) : tot p (t :: l) = (if ky t = p then t.2.2 else 0) + tot p l := by
  unfold tot
  rw [bk]
  by_cases h : ky t = p <;> simp [h]
theorem ps_out (f : Int × Int → Bool) (t : Tr) (l : List Tr) {P : List (Int × Int)} (h : ky t ∉ P) : ps f (t :: l) P = ps f l P := by
  induction P with
  | nil => rfl
  | cons p r ih =>
    have hne : ¬ ky t = p := fun z => h (by rw [z]; exact List.mem_cons_self)
    have ht : tot p (t :: l) = tot p l := by
      rw [tot_cons, if_neg hne]
      omega
    rw [ps, ps, ih fun z => h (List.mem_cons_of_mem _ z), ht]
theorem ps_in (f : Int × Int → Bool) (t : Tr) (l : List Tr) {P : List (Int × Int)} (hn : P.Nodup) (h : ky t ∈ P) : ps f (t :: l) P = (if f (ky t) = true then t.2.2 else 0) + ps f l P := by
  induction P with
  | nil => cases h
  | cons p r ih =>
    have hc := List.nodup_cons.mp hn
    by_cases e : ky t = p
    · subst e
      rw [ps, ps, tot_cons, if_pos rfl, ps_out f t l hc.1]
      split <;> omega
    · have hr : ky t ∈ r := (List.mem_cons.mp h).resolve_left e
      rw [ps, ps, tot_cons, if_neg e, ih hc.2 hr]
      split <;> split <;> omega
theorem ps_all (f : Int × Int → Bool) {P : List (Int × Int)} (hn : P.Nodup) : ∀ {l : List Tr}, (∀ t ∈ l, ky t ∈ P) → ps f l P = bk f l
  | [], _ => ps_nil f P
  | t :: l, h => by
    rw [ps_in f t l hn (h t List.mem_cons_self), ps_all f hn fun u hu => h u (List.mem_cons_of_mem _ hu)]
    rfl
theorem srt_nodup {xs : List (Int × Int)} (h : xs.Pairwise Lex) : xs.Nodup := by
  refine List.Pairwise.imp ?_ h
  intro a b hab e
  subst e
  exact lex_irr hab
theorem bs_ps (f : Int × Int → Bool) {l r : List Tr} (h : ∀ e ∈ r, e.2.2 = tot (pr e) l) : bs f r = ps f l (r.map pr) := by
  induction r with
  | nil => rfl
  | cons e r ih =>
    rw [bs, List.map_cons, ps, ih fun u hu => h u (List.mem_cons_of_mem _ hu), h e List.mem_cons_self]
theorem bs_norm (f : Int × Int → Bool) {l r : List Tr} (h : IsNorm l r) : bs f r = bk f l := by
  rw [bs_ps f h.cnt, ps_all f (srt_nodup h.srt) fun t ht => (h.mem _).mpr (List.mem_map.mpr ⟨t, ht, rfl⟩)]
/-- an entry that may stand in a lot -/
def Vld (n : Int) (t : Tr) : Prop := 0 ≤ t.1 ∧ t.1 < n ∧ 0 ≤ t.2.1 ∧ t.2.1 < n ∧ t.1 ≠ t.2.1 ∧ 1 ≤ t.2.2
/-- a lot in order on n pins -/
structure Good (n : Int) (r : List Tr) : Prop where
  srt : (r.map pr).Pairwise Lex
  ord : ∀ e ∈ r, 0 ≤ e.1 ∧ e.1 < e.2.1 ∧ e.2.1 < n ∧ 1 ≤ e.2.2
theorem ky_ord {e : Tr} (h : e.1 < e.2.1) : ky e = pr e := by
  have := lo_hi e.1 e.2.1
  unfold ky pr
  rw [Prod.mk.injEq]
  omega
theorem Good.vld {n : Int} {r : List Tr} (g : Good n r) : ∀ e ∈ r, Vld n e := fun e h => by
  have := g.ord e h
  unfold Vld
  omega
theorem bk_bs (f : Int × Int → Bool) {r : List Tr} (h : ∀ e ∈ r, e.1 < e.2.1) : bk f r = bs f r := by
  induction r with
  | nil => rfl
  | cons e r ih => rw [bk, bs, ky_ord (h e List.mem_cons_self), ih fun u hu => h u (List.mem_cons_of_mem _ hu)]
theorem bs_none {f : Int × Int → Bool} {r : List Tr} (h : ∀ e ∈ r, f (pr e) = false) : bs f r = 0 := by
  induction r with
  | nil => rfl
  | cons e r ih =>
    rw [bs, h e List.mem_cons_self, ih fun u hu => h u (List.mem_cons_of_mem _ hu)]
    rfl
theorem self_cnt {r : List Tr} (h : (r.map pr).Nodup) : ∀ e ∈ r, e.2.2 = bs (fun q => decide (q = pr e)) r := by
  induction r with
  | nil => intro e he; cases he
  | cons t r ih =>
    have hc := List.nodup_cons.mp h
    intro e he
    rw [bs]
    rcases List.mem_cons.mp he with rfl | hr
    · rw [bs_none fun u hu => decide_eq_false fun z => hc.1 (by rw [← z]; exact List.mem_map.mpr ⟨u, hu, rfl⟩)]
      simp
    · have hne : ¬ pr t = pr e := fun z => hc.1 (by rw [z]; exact List.mem_map.mpr ⟨e, hr, rfl⟩)
      rw [← ih hc.2 e hr]
      simp [hne]
theorem Good.self {n : Int} {r : List Tr} (g : Good n r) : IsNorm r r := by
  have ho : ∀ e ∈ r, e.1 < e.2.1 := fun e h => (g.ord e h).2.1
  have hm : r.map ky = r.map pr := List.map_congr_left fun e h => ky_ord (ho e h)
  refine ⟨g.srt, fun p => by rw [hm], fun e h => ?_⟩
  unfold tot
  rw [bk_bs _ ho]
  exact self_cnt (srt_nodup g.srt) e h
theorem bk_pos {l : List Tr} (h : ∀ t ∈ l, 1 ≤ t.2.2) {p : Int × Int} (m : p ∈ l.map ky) : 1 ≤ tot p l := by
  have nn : ∀ {m : List Tr}, (∀ t ∈ m, 1 ≤ t.2.2) → 0 ≤ tot p m := by
    intro m hm
    induction m with
    | nil => exact Int.le_refl 0
    | cons t r ih =>
      have h1 := hm t List.mem_cons_self
      have h2 := ih fun u hu => hm u (List.mem_cons_of_mem _ hu)
      rw [tot_cons]
      split <;> omega
  induction l with
  | nil => cases m
  | cons t r ih =>
    have h1 := h t List.mem_cons_self
    have h2 := nn fun u hu => h u (List.mem_cons_of_mem _ hu)
    rw [tot_cons]
    rcases List.mem_cons.mp m with e | hr
    · rw [if_pos e.symm]
      omega
    · have h3 := ih (fun u hu => h u (List.mem_cons_of_mem _ hu)) hr
      split <;> omega
theorem IsNorm.good {n : Int} {l r : List Tr} (h : IsNorm l r) (v : ∀ t ∈ l, Vld n t) : Good n r := by
  refine ⟨h.srt, fun e he => ?_⟩
  have hm : pr e ∈ l.map ky := (h.mem _).mp (List.mem_map.mpr ⟨e, he, rfl⟩)
  have hp := bk_pos (fun t ht => (v t ht).2.2.2.2.2) hm
  rw [← h.cnt e he] at hp
  obtain ⟨t, ht, e1⟩ := List.mem_map.mp hm
  have hv := v t ht
  unfold Vld at hv
  have h1 := lo_hi t.1 t.2.1
  unfold ky pr at e1
  rw [Prod.mk.injEq] at e1
  omega
/-! ### renamed pins -/
def mp (g : Int → Int) (l : List Tr) : List Tr := l.map fun t => (g t.1, g t.2.1, t.2.2)
theorem bk_mp (g : Int → Int) (f : Int × Int → Bool) (l : List Tr) : bk f (mp g l) = bk (fun q => f (lo (g q.1) (g q.2), hi (g q.1) (g q.2))) l := by
  induction l with
  | nil => rfl
  | cons t r ih =>
    show (if f (ky (g t.1, g t.2.1, t.2.2)) = true then t.2.2 else 0) + bk f (mp g r) = _
    rw [ih, bk]
    have e : ky (g t.1, g t.2.1, t.2.2) = (lo (g (ky t).1) (g (ky t).2), hi (g (ky t).1) (g (ky t).2)) := by
      unfold ky
      dsimp only
      rcases lo_hi t.1 t.2.1 with h | h
      · rw [h.2.1, h.2.2]
      · rw [h.2.1, h.2.2]
        have a := lo_hi (g t.1) (g t.2.1)
        have b := lo_hi (g t.2.1) (g t.1)
        rw [Prod.mk.injEq]
        omega
    rw [e]
theorem mem_mp (g : Int → Int) {l r : List Tr} (h : ∀ p, p ∈ l.map ky ↔ p ∈ r.map ky) (p : Int × Int) : p ∈ (mp g l).map ky → p ∈ (mp g r).map ky := by
  have e : ∀ t : Tr, ky (g t.1, g t.2.1, t.2.2) = (lo (g (ky t).1) (g (ky t).2), hi (g (ky t).1) (g (ky t).2)) := fun t => by
    unfold ky
    dsimp only
    rcases lo_hi t.1 t.2.1 with h | h
    · rw [h.2.1, h.2.2]
    · rw [h.2.1, h.2.2]
      have a := lo_hi (g t.1) (g t.2.1)
      have b := lo_hi (g t.2.1) (g t.1)
      rw [Prod.mk.injEq]
      omega
  intro m
  obtain ⟨u, hu, e1⟩ := List.mem_map.mp m
  obtain ⟨t, ht, rfl⟩ := List.mem_map.mp hu
  obtain ⟨s, hs, e2⟩ := List.mem_map.mp ((h _).mp (List.mem_map.mpr ⟨t, ht, rfl⟩))
  refine List.mem_map.mpr ⟨_, List.mem_map.mpr ⟨s, hs, rfl⟩, ?_⟩
  rw [← e1, e, e, e2]
theorem norm_keys {n : Int} {l r : List Tr} (h : IsNorm l r) (g : Good n r) (p : Int × Int) : p ∈ l.map ky ↔ p ∈ r.map ky := by
  rw [← h.mem, List.map_congr_left fun e he => ky_ord (g.ord e he).2.1]
theorem norm_tot {n : Int} {l r : List Tr} (h : IsNorm l r) (g : Good n r) (f : Int × Int → Bool) : bk f r = bk f l := by
  rw [bk_bs f fun e he => (g.ord e he).2.1, bs_norm f h]
/-- renaming behind the ordering is renaming ahead of it -/
theorem norm_mp {n : Int} {l r x : List Tr} (h : IsNorm l r) (g : Good n r) (σ : Int → Int) (k : IsNorm (mp σ r) x) : IsNorm (mp σ l) x := by
  refine ⟨k.srt, fun p => (k.mem p).trans ⟨mem_mp σ (fun q => (norm_keys h g q).symm) p, mem_mp σ (norm_keys h g) p⟩, fun e he => ?_⟩
  rw [k.cnt e he]
  unfold tot
  rw [bk_mp, bk_mp, norm_tot h g]
theorem mp_mp (σ τ : Int → Int) (l : List Tr) : mp τ (mp σ l) = mp (fun x => τ (σ x)) l := by
  unfold mp
  rw [List.map_map]
  rfl
theorem mp_congr {σ τ : Int → Int} {n : Int} {l : List Tr} (v : ∀ t ∈ l, Vld n t) (h : ∀ x, 0 ≤ x → x < n → σ x = τ x) : mp σ l = mp τ l := by
  refine List.map_congr_left fun t ht => ?_
  have := v t ht
  unfold Vld at this
  rw [h t.1 (by omega) (by omega), h t.2.1 (by omega) (by omega)]
theorem mp_id {σ : Int → Int} {n : Int} {l : List Tr} (v : ∀ t ∈ l, Vld n t) (h : ∀ x, 0 ≤ x → x < n → σ x = x) : mp σ l = l := by
  rw [mp_congr (τ := fun x => x) v h]
  unfold mp
  exact List.map_id' l
theorem mp_vld {σ : Int → Int} {n : Int} {l : List Tr} (v : ∀ t ∈ l, Vld n t) (h : ∀ x, 0 ≤ x → x < n → 0 ≤ σ x ∧ σ x < n) (inj : ∀ x y, 0 ≤ x → x < n → 0 ≤ y → y < n → σ x = σ y → x = y) : ∀ t ∈ mp σ l, Vld n t := fun u hu => by
  obtain ⟨t, ht, rfl⟩ := List.mem_map.mp hu
  have hv := v t ht
  unfold Vld at hv ⊢
  have h1 := h t.1 (by omega) (by omega)
  have h2 := h t.2.1 (by omega) (by omega)
  have h3 := inj t.1 t.2.1 (by omega) (by omega) (by omega) (by omega)
  dsimp only
  refine ⟨h1.1, h1.2, h2.1, h2.2, fun z => hv.2.2.2.2.1 (h3 z), hv.2.2.2.2.2⟩
end Own

namespace Own
open PySem PySem.Spec PyProof.Rows L2
/-! ### the text by places -/
def top (i : Nat) : Stmt := PySem.Challenge.pw_rimcords_k07_lot_notes.main.body.getD i (.Pass ⟨0, 0, 0, 0⟩)
abbrev s__wall : Stmt := top 0
theorem sc__wall : FnScope ["k"] ["k"] (defScope s__wall) := ⟨rfl, rfl, rfl, by decide +kernel, rfl, by decide +kernel, by decide +kernel⟩
abbrev s_gaps : Stmt := top 11
theorem sc_gaps : FnScope ["pins"] ["pins"] (defScope s_gaps) := ⟨rfl, rfl, rfl, by decide +kernel, rfl, by decide +kernel, by decide +kernel⟩
abbrev s_is_whole : Stmt := top 13
theorem sc_is_whole : FnScope ["value"] ["value"] (defScope s_is_whole) := ⟨rfl, rfl, rfl, by decide +kernel, rfl, by decide +kernel, by decide +kernel⟩
abbrev s_is_sequence : Stmt := top 14
theorem sc_is_sequence : FnScope ["value"] ["value"] (defScope s_is_sequence) := ⟨rfl, rfl, rfl, by decide +kernel, rfl, by decide +kernel, by decide +kernel⟩
abbrev s_is_below : Stmt := top 15
theorem sc_is_below : FnScope ["value", "bound"] ["value", "bound"] (defScope s_is_below) := ⟨rfl, rfl, rfl, by decide +kernel, rfl, by decide +kernel, by decide +kernel⟩
abbrev s_check_pins : Stmt := top 16
theorem sc_check_pins : FnScope ["pins"] ["pins"] (defScope s_check_pins) := ⟨rfl, rfl, rfl, by decide +kernel, rfl, by decide +kernel, by decide +kernel⟩
abbrev s_check_pin : Stmt := top 17
theorem sc_check_pin : FnScope ["pins", "pin"] ["pins", "pin"] (defScope s_check_pin) := ⟨rfl, rfl, rfl, by decide +kernel, rfl, by decide +kernel, by decide +kernel⟩
abbrev s_check_like : Stmt := top 18
theorem sc_check_like : FnScope ["one", "other"] ["one", "other"] (defScope s_check_like) := ⟨rfl, rfl, rfl, by decide +kernel, rfl, by decide +kernel, by decide +kernel⟩
abbrev s_check_number : Stmt := top 19
theorem sc_check_number : FnScope ["number", "least"] ["number", "least"] (defScope s_check_number) := ⟨rfl, rfl, rfl, by decide +kernel, rfl, by decide +kernel, by decide +kernel⟩
abbrev s_is_entry : Stmt := top 21
theorem sc_is_entry : FnScope ["pins", "entry", "a", "b", "many"] ["pins", "entry"] (defScope s_is_entry) := ⟨rfl, rfl, rfl, by decide +kernel, rfl, by decide +kernel, by decide +kernel⟩
abbrev s_gathered : Stmt := top 22
theorem sc_gathered : FnScope ["pins", "entries", "held", "entry", "pair", "a", "b", "many"] ["pins", "entries"] (defScope s_gathered) := ⟨rfl, rfl, rfl, by decide +kernel, rfl, by decide +kernel, by decide +kernel⟩
abbrev s_by_pair : Stmt := top 23
theorem sc_by_pair : FnScope ["cords", "a", "b", "many"] ["cords"] (defScope s_by_pair) := ⟨rfl, rfl, rfl, by decide +kernel, rfl, by decide +kernel, by decide +kernel⟩
abbrev s_entries_of : Stmt := top 24
theorem sc_entries_of : FnScope ["held", "a", "b"] ["held"] (defScope s_entries_of) := ⟨rfl, rfl, rfl, by decide +kernel, rfl, by decide +kernel, by decide +kernel⟩
abbrev s_ends_at_pins : Stmt := top 25
theorem sc_ends_at_pins : FnScope ["pins", "cords", "ends", "a", "b", "many"] ["pins", "cords"] (defScope s_ends_at_pins) := ⟨rfl, rfl, rfl, by decide +kernel, rfl, by decide +kernel, by decide +kernel⟩
abbrev s_cord_grid : Stmt := top 26
theorem sc_cord_grid : FnScope ["pins", "cords", "rows", "a", "b", "many", "_"] ["pins", "cords"] (defScope s_cord_grid) := ⟨rfl, rfl, rfl, by decide +kernel, rfl, by decide +kernel, by decide +kernel⟩
abbrev s_sums_before : Stmt := top 27
theorem sc_sums_before : FnScope ["row", "sums", "total", "number"] ["row"] (defScope s_sums_before) := ⟨rfl, rfl, rfl, by decide +kernel, rfl, by decide +kernel, by decide +kernel⟩
abbrev s_table_rows : Stmt := top 28
theorem sc_table_rows : FnScope ["pins", "cords", "sums", "size", "rows", "i", "across", "j", "row", "_"] ["pins", "cords"] (defScope s_table_rows) := ⟨rfl, rfl, rfl, by decide +kernel, rfl, by decide +kernel, by decide +kernel⟩
abbrev s_first_bar : Stmt := top 29
theorem sc_first_bar : FnScope ["pins", "held", "wished", "i", "j"] ["pins", "held", "wished"] (defScope s_first_bar) := ⟨rfl, rfl, rfl, by decide +kernel, rfl, by decide +kernel, by decide +kernel⟩
abbrev s_odd_pins : Stmt := top 30
theorem sc_odd_pins : FnScope ["ends", "wished", "pin", "many"] ["ends", "wished"] (defScope s_odd_pins) := ⟨rfl, rfl, rfl, by decide +kernel, rfl, by decide +kernel, by decide +kernel⟩
abbrev s_Lot_init : Stmt := inClass (top 32) 0
theorem sc_Lot_init : FnScope ["self", "pins", "cords"] ["self", "pins", "cords"] (defScope s_Lot_init) := ⟨rfl, rfl, rfl, by decide +kernel, rfl, by decide +kernel, by decide +kernel⟩
abbrev s_Lot_ends : Stmt := inClass (top 32) 3
theorem sc_Lot_ends : FnScope ["self", "pin"] ["self", "pin"] (defScope s_Lot_ends) := ⟨rfl, rfl, rfl, by decide +kernel, rfl, by decide +kernel, by decide +kernel⟩
abbrev s_Lot_total : Stmt := inClass (top 32) 4
theorem sc_Lot_total : FnScope ["self", "entry"] ["self"] (defScope s_Lot_total) := ⟨rfl, rfl, rfl, by decide +kernel, rfl, by decide +kernel, by decide +kernel⟩
abbrev s_Lot_len : Stmt := inClass (top 32) 5
theorem sc_Lot_len : FnScope ["self"] ["self"] (defScope s_Lot_len) := ⟨rfl, rfl, rfl, by decide +kernel, rfl, by decide +kernel, by decide +kernel⟩
abbrev s_Lot_eq : Stmt := inClass (top 32) 7
theorem sc_Lot_eq : FnScope ["self", "other"] ["self", "other"] (defScope s_Lot_eq) := ⟨rfl, rfl, rfl, by decide +kernel, rfl, by decide +kernel, by decide +kernel⟩
abbrev s_written : Stmt := top 34
theorem sc_written : FnScope ["lines", "words", "word"] ["lines"] (defScope s_written) := ⟨rfl, rfl, rfl, by decide +kernel, rfl, by decide +kernel, by decide +kernel⟩
abbrev s_is_number : Stmt := top 35
theorem sc_is_number : FnScope ["word", "digits"] ["word"] (defScope s_is_number) := ⟨rfl, rfl, rfl, by decide +kernel, rfl, by decide +kernel, by decide +kernel⟩
abbrev s_numbers_of : Stmt := top 36
theorem sc_numbers_of : FnScope ["words", "place", "word"] ["words", "place"] (defScope s_numbers_of) := ⟨rfl, rfl, rfl, by decide +kernel, rfl, by decide +kernel, by decide +kernel⟩
abbrev s_words_at : Stmt := top 37
theorem sc_words_at : FnScope ["lines", "place"] ["lines", "place"] (defScope s_words_at) := ⟨rfl, rfl, rfl, by decide +kernel, rfl, by decide +kernel, by decide +kernel⟩
abbrev s_read_line : Stmt := top 38
theorem sc_read_line : FnScope ["lines", "place", "counts", "words", "numbers", "due"] ["lines", "place", "counts"] (defScope s_read_line) := ⟨rfl, rfl, rfl, by decide +kernel, rfl, by decide +kernel, by decide +kernel⟩
abbrev s_read_numbers : Stmt := top 39
theorem sc_read_numbers : FnScope ["lines", "place", "due", "numbers"] ["lines", "place", "due"] (defScope s_read_numbers) := ⟨rfl, rfl, rfl, by decide +kernel, rfl, by decide +kernel, by decide +kernel⟩
abbrev s_format_lot : Stmt := top 41
theorem sc_format_lot : FnScope ["lot"] ["lot"] (defScope s_format_lot) := ⟨rfl, rfl, rfl, by decide +kernel, rfl, by decide +kernel, by decide +kernel⟩
abbrev s_parse_lot : Stmt := top 42
theorem sc_parse_lot : FnScope ["text", "lines", "_", "pins", "place"] ["text"] (defScope s_parse_lot) := ⟨rfl, rfl, rfl, by decide +kernel, rfl, by decide +kernel, by decide +kernel⟩
abbrev s__law_whole : Stmt := top 44
theorem sc__law_whole : FnScope ["_law_value"] ["_law_value"] (defScope s__law_whole) := ⟨rfl, rfl, rfl, by decide +kernel, rfl, by decide +kernel, by decide +kernel⟩
abbrev s__law_cell : Stmt := top 45
theorem sc__law_cell : FnScope ["_law_script", "_law_k", "_law_seed", "_law_cell_here"] ["_law_script", "_law_k"] (defScope s__law_cell) := ⟨rfl, rfl, rfl, by decide +kernel, rfl, by decide +kernel, by decide +kernel⟩
abbrev s__law_digits : Stmt := top 46
theorem sc__law_digits : FnScope ["_law_cell_here", "_law_sizes", "_law_row", "_law_rest", "_law_seed", "_law_k", "_law_size", "_law_twice"] ["_law_cell_here", "_law_sizes"] (defScope s__law_digits) := ⟨rfl, rfl, rfl, by decide +kernel, rfl, by decide +kernel, by decide +kernel⟩
abbrev s__law_same : Stmt := top 47
theorem sc__law_same : FnScope ["_law_value", "_law_due", "_law_k"] ["_law_value", "_law_due"] (defScope s__law_same) := ⟨rfl, rfl, rfl, by decide +kernel, rfl, by decide +kernel, by decide +kernel⟩
abbrev s__law_norm : Stmt := top 48
theorem sc__law_norm : FnScope ["_law_triples", "_law_pairs", "_law_entry_here", "_law_row", "_law_pair", "_law_low", "_law_high", "_law_many"] ["_law_triples"] (defScope s__law_norm) := ⟨rfl, rfl, rfl, by decide +kernel, rfl, by decide +kernel, by decide +kernel⟩
abbrev s__law_lot_is : Stmt := top 49
theorem sc__law_lot_is : FnScope ["_law_thing", "_law_pins_here", "_law_bunch"] ["_law_thing", "_law_pins_here", "_law_bunch"] (defScope s__law_lot_is) := ⟨rfl, rfl, rfl, by decide +kernel, rfl, by decide +kernel, by decide +kernel⟩
abbrev s__law_counts : Stmt := top 50
theorem sc__law_counts : FnScope ["_law_thing", "_law_pins_here", "_law_bunch", "_law_spot", "_law_entry_here"] ["_law_thing", "_law_pins_here", "_law_bunch"] (defScope s__law_counts) := ⟨rfl, rfl, rfl, by decide +kernel, rfl, by decide +kernel, by decide +kernel⟩
abbrev s__law_pins : Stmt := top 51
theorem sc__law_pins : FnScope ["_law_cell_here", "_law_row"] ["_law_cell_here"] (defScope s__law_pins) := ⟨rfl, rfl, rfl, by decide +kernel, rfl, by decide +kernel, by decide +kernel⟩
abbrev s__law_entry : Stmt := top 52
theorem sc__law_entry : FnScope ["_law_cell_here", "_law_pins_here", "_law_earlier", "_law_row", "_law_one", "_law_other", "_law_old"] ["_law_cell_here", "_law_pins_here", "_law_earlier"] (defScope s__law_entry) := ⟨rfl, rfl, rfl, by decide +kernel, rfl, by decide +kernel, by decide +kernel⟩
abbrev s__law_note : Stmt := top 53
theorem sc__law_note : FnScope ["_law_pins_here", "_law_entries", "_law_lines", "_law_entry_here"] ["_law_pins_here", "_law_entries"] (defScope s__law_note) := ⟨rfl, rfl, rfl, by decide +kernel, rfl, by decide +kernel, by decide +kernel⟩
abbrev s__law_number : Stmt := top 54
theorem sc__law_number : FnScope ["_law_word", "_law_digits_here", "_law_sign"] ["_law_word"] (defScope s__law_number) := ⟨rfl, rfl, rfl, by decide +kernel, rfl, by decide +kernel, by decide +kernel⟩
abbrev s__law_read : Stmt := top 55
theorem sc__law_read : FnScope ["_law_note_here", "_law_lines", "_law_entries", "_law_k", "_law_pins_here", "_law_entry_here", "_law_words_here", "_law_word"] ["_law_note_here"] (defScope s__law_read) := ⟨rfl, rfl, rfl, by decide +kernel, rfl, by decide +kernel, by decide +kernel⟩
abbrev s__law_heads : Stmt := top 56
theorem sc__law_heads : FnScope ["_law_pins_here", "_law_p", "_law_heads_here"] ["_law_pins_here"] (defScope s__law_heads) := ⟨rfl, rfl, rfl, by decide +kernel, rfl, by decide +kernel, by decide +kernel⟩
abbrev s__law_words : Stmt := top 57
theorem sc__law_words : FnScope ["_law_word", "_law_row"] ["_law_word"] (defScope s__law_words) := ⟨rfl, rfl, rfl, by decide +kernel, rfl, by decide +kernel, by decide +kernel⟩
abbrev s__law_forms : Stmt := top 58
theorem sc__law_forms : FnScope ["_law_line", "_law_at", "_law_words_here", "_law_w", "_law_forms_here", "_law_word"] ["_law_line", "_law_at"] (defScope s__law_forms) := ⟨rfl, rfl, rfl, by decide +kernel, rfl, by decide +kernel, by decide +kernel⟩
abbrev s__law_wrong_line : Stmt := top 59
theorem sc__law_wrong_line : FnScope ["_law_pins_here", "_law_draw", "_law_far", "_law_near", "_law_side", "_law_bad"] ["_law_pins_here", "_law_draw"] (defScope s__law_wrong_line) := ⟨rfl, rfl, rfl, by decide +kernel, rfl, by decide +kernel, by decide +kernel⟩
abbrev s__law_spoilt : Stmt := top 60
theorem sc__law_spoilt : FnScope ["_law_lines", "_law_kind", "_law_cell_here", "_law_pins_here", "_law_draw", "_law_place"] ["_law_lines", "_law_kind", "_law_cell_here", "_law_pins_here"] (defScope s__law_spoilt) := ⟨rfl, rfl, rfl, by decide +kernel, rfl, by decide +kernel, by decide +kernel⟩
abbrev s__law_outcome : Stmt := top 61
theorem sc__law_outcome : FnScope ["_law_note_here", "_law_due", "_law_thing"] ["_law_note_here", "_law_due"] (defScope s__law_outcome) := ⟨rfl, rfl, rfl, by decide +kernel, rfl, by decide +kernel, by decide +kernel⟩
abbrev s__law_asked : Stmt := top 62
theorem sc__law_asked : FnScope ["_law_lines", "_law_note_here"] ["_law_lines"] (defScope s__law_asked) := ⟨rfl, rfl, rfl, by decide +kernel, rfl, by decide +kernel, by decide +kernel⟩
abbrev s__law_forms_asked : Stmt := top 63
theorem sc__law_forms_asked : FnScope ["_law_lines", "_law_cell_here", "_law_pins_here", "_law_draw", "_law_heads_here", "_law_k", "_law_body", "_law_at", "_law_form"] ["_law_lines", "_law_cell_here", "_law_pins_here"] (defScope s__law_forms_asked) := ⟨rfl, rfl, rfl, by decide +kernel, rfl, by decide +kernel, by decide +kernel⟩
abbrev s__law_texts_asked : Stmt := top 64
theorem sc__law_texts_asked : FnScope ["_law_script", "_law_lines", "_law_pins_here", "_law_k", "_law_draw", "_law_spoilt_here"] ["_law_script", "_law_lines", "_law_pins_here"] (defScope s__law_texts_asked) := ⟨rfl, rfl, rfl, by decide +kernel, rfl, by decide +kernel, by decide +kernel⟩
abbrev s_law : Stmt := top 65
theorem sc_law : FnScope ["_law_script", "_law_pins_here", "_law_many", "_law_entries", "_law_k", "_law_bunch", "_law_thing", "_law_note_here", "_law_back", "_law_drawn", "_law_lines", "_law_row"] ["_law_script"] (defScope s_law) := ⟨rfl, rfl, rfl, by decide +kernel, rfl, by decide +kernel, by decide +kernel⟩
end Own

namespace Own
open PySem PySem.Spec PyProof.Rows L2
/-! ### heaps -/
theorem same_upd {H : Hp} {p : Addr} {o : HO} (h : H p = none) : Same H (upd H p o) := fun b x e => by
  rw [upd_ne (ne_of_none e h)]
  exact e
/-- a tuple of three ints -/
abbrev tv (t : Tr) : List V := [.int t.1, .int t.2.1, .int t.2.2]
def TrV (H : Hp) (vs : List V) (l : List Tr) : Prop := vs.length = l.length ∧ ∀ (i : Nat) (t : Tr), l[i]? = some t → ∃ b, vs[i]? = some (.ref b) ∧ H b = some (.tup (tv t))
def Trip (H : Hp) (a : Addr) (l : List Tr) : Prop := ∃ vs, H a = some (.tup vs) ∧ TrV H vs l
def TripL (H : Hp) (a : Addr) (l : List Tr) : Prop := ∃ vs, H a = some (.lst vs) ∧ TrV H vs l
theorem TrV.same {H H' : Hp} {vs : List V} {l : List Tr} (s : Same H H') (h : TrV H vs l) : TrV H' vs l := ⟨h.1, fun i t e => by
  obtain ⟨b, e1, e2⟩ := h.2 i t e
  exact ⟨b, e1, s _ _ e2⟩⟩
theorem Trip.same {H H' : Hp} {a : Addr} {l : List Tr} (s : Same H H') (h : Trip H a l) : Trip H' a l := by
  obtain ⟨vs, e, t⟩ := h
  exact ⟨vs, s _ _ e, t.same s⟩
theorem TripL.same {H H' : Hp} {a : Addr} {l : List Tr} (s : Same H H') (h : TripL H a l) : TripL H' a l := by
  obtain ⟨vs, e, t⟩ := h
  exact ⟨vs, s _ _ e, t.same s⟩
theorem TrV.nil {H : Hp} : TrV H [] [] := ⟨rfl, fun i t e => by simp at e⟩
theorem TrV.snoc {H : Hp} {vs : List V} {l : List Tr} {b : Addr} {t : Tr} (h : TrV H vs l) (e : H b = some (.tup (tv t))) : TrV H (vs ++ [.ref b]) (l ++ [t]) := by
  refine ⟨by rw [List.length_append, List.length_append, h.1]; rfl, fun i u hu => ?_⟩
  by_cases hi : i < l.length
  · rw [List.getElem?_append_left hi] at hu
    obtain ⟨c, e1, e2⟩ := h.2 i u hu
    exact ⟨c, by rw [List.getElem?_append_left (by rw [h.1]; exact hi)]; exact e1, e2⟩
  · rw [List.getElem?_append_right (by omega)] at hu
    have hi2 : i - l.length = 0 := by
      cases hk : i - l.length with
      | zero => rfl
      | succ k => rw [hk] at hu; simp at hu
    rw [hi2] at hu
    obtain rfl : t = u := Option.some.inj hu
    exact ⟨b, by rw [List.getElem?_append_right (by rw [h.1]; omega), h.1, hi2]; rfl, e⟩
theorem TrV.at_ {H : Hp} {vs : List V} {l : List Tr} (h : TrV H vs l) {i : Nat} {x : V} (e : vs[i]? = some x) : ∃ b t, x = .ref b ∧ l[i]? = some t ∧ H b = some (.tup (tv t)) := by
  have hi : i < l.length := by
    rw [← h.1]
    exact (List.getElem?_eq_some_iff.mp e).1
  obtain ⟨b, e1, e2⟩ := h.2 i l[i] (List.getElem?_eq_getElem hi)
  rw [e] at e1
  exact ⟨b, l[i], Option.some.inj e1, List.getElem?_eq_getElem hi, e2⟩
theorem SqB.same {K : PySem.W.Frag} {H H' : Hp} {a : Addr} {xs : List V} (s : Same H H') (h : SqB K H a xs) : SqB K H' a xs := by
  rcases h with h | ((h | ⟨o, h⟩) | h)
  · exact .inl (s.seq h)
  · exact .inr (.inl (.inl (s _ _ h)))
  · exact .inr (.inl (.inr ⟨o, s _ _ h⟩))
  · exact .inr (.inr h)
theorem Trip.sq {K : PySem.W.Frag} {H : Hp} {a : Addr} {l : List Tr} (h : Trip H a l) : ∃ vs, SqB K H a vs ∧ TrV H vs l := by
  obtain ⟨vs, e, t⟩ := h
  exact ⟨vs, .inr (.inl (.inl e)), t⟩
theorem TripL.sq {K : PySem.W.Frag} {H : Hp} {a : Addr} {l : List Tr} (h : TripL H a l) : ∃ vs, SqB K H a vs ∧ TrV H vs l := by
  obtain ⟨vs, e, t⟩ := h
  exact ⟨vs, .inl (.inl (.inl e)), t⟩
/-- a loop over a list or a tuple: what stood in Hb stands in each turn -/
theorem for_same {K : PySem.W.Frag} {a : Addr} {xs : List V} {g : TG} {tb : TS} {D : Ends} {σ : L2.St} {H Hb : Hp} (hB : SqB K Hb a xs) (Pv : Nat → L2.St → Hp → Prop) (h0 : Pv 0 σ H) (hk : ∀ i σ' H', Pv i σ' H' → Same Hb H')
    (hs : ∀ i x σ H, xs[i]? = some x → Pv i σ H → g x σ H fun σ2 H2 => tb { D with nx := Pv (i + 1), ct := Pv (i + 1), bk := D.nx } σ2 H2) (hd : ∀ σ H, Pv xs.length σ H → D.nx σ H) :
    ((∃ xs, SqL K H a xs) ∧ ∃ W : Nat → Nat → L2.St → Hp → Prop, (∃ m, W 0 m σ H) ∧ ∀ i m σ H, W i m σ H →
      ((Itl K a).stop i H ∧ D.nx σ H) ∨ ((Itl K a).go i H ∧ ∃ N : L2.St → Hp → Prop, (∀ σ' H', N σ' H' → ∃ m', m' < m ∧ W (i + 1) m' σ' H') ∧ ∀ x H', (Itl K a).yld i H x H' → g x σ H' fun σ2 H2 => tb { D with nx := N, ct := N, bk := D.nx } σ2 H2)) ∨
    ((∃ xs, SqT K H a xs) ∧ ∃ W : Nat → Nat → L2.St → Hp → Prop, (∃ m, W 0 m σ H) ∧ ∀ i m σ H, W i m σ H →
      ((Itt K a).stop i H ∧ D.nx σ H) ∨ ((Itt K a).go i H ∧ ∃ N : L2.St → Hp → Prop, (∀ σ' H', N σ' H' → ∃ m', m' < m ∧ W (i + 1) m' σ' H') ∧ ∀ x H', (Itt K a).yld i H x H' → g x σ H' fun σ2 H2 => tb { D with nx := N, ct := N, bk := D.nx } σ2 H2)) := by
  have tup : ∀ {H'}, SqT K Hb a xs → Same Hb H' → SqT K H' a xs := fun h s => by
    rcases h with (h | ⟨o, h⟩) | h
    · exact .inl (.inl (s _ _ h))
    · exact .inl (.inr ⟨o, s _ _ h⟩)
    · exact .inr h
  rcases hB with h | h
  · exact .inl ⟨⟨xs, (hk 0 σ H h0).seq h⟩, for_list Pv h0 (fun i σ' H' _ p => (hk i σ' H' p).seq h) hs hd⟩
  · exact .inr ⟨⟨xs, tup h (hk 0 σ H h0)⟩, for_tup Pv h0 (fun i σ' H' _ p => tup h (hk i σ' H' p)) hs hd⟩
theorem kitTrue {K : PySem.W.Frag} {t : Value} : PySem.W.kitOne K t t = some true := by
  unfold PySem.W.kitOne
  rw [if_pos (beq_self_eq_true t)]
section
variable {P : Program} {w : World} {K : PySem.W.Frag} {mg : Str → Option Value} {base : Heap}
structure Df (K : PySem.W.Frag) (mg : Str → Option Value) (x : Str) (st : Stmt) (ps : List Str) (f : Addr) (fd : FuncData) : Prop where
  F : Fun K x x st f fd
  g : mg x = some (.ref f)
  b : Binds K fd ps []
/-- the built-ins that the text calls -/
structure Bi (mg : Str → Option Value) : Prop where
  b_max : mg "max" = none
  b_min : mg "min" = none
  b_tuple : mg "tuple" = none
  b_range : mg "range" = none
  b_isinstance : mg "isinstance" = none
  b_int : mg "int" = none
  b_bool : mg "bool" = none
  b_len : mg "len" = none
  b_list : mg "list" = none
  b_str : mg "str" = none
  b_sorted : mg "sorted" = none
  b_sum : mg "sum" = none
/-! ### kinds -/
def spWhole : Sp := fun vs H Q _ => ∃ i : Int, vs = [.int i] ∧ Q (.bl true) H
theorem ok_whole {f : Addr} {fd : FuncData} (F : Fun K "is_whole" "is_whole" s_is_whole f fd) (T : Bi mg) : FnOk P w K mg base CX0 1 f fd ["value"] spWhole := by
  refine F.ok sc_is_whole (fun vs H Q E h => ?_) (fun cdv A outer s H vs Q E hr h => ?_)
  · obtain ⟨i, rfl, _⟩ := h
    rfl
  · obtain ⟨i, rfl, q⟩ := h
    refine ⟨_, (pss_one (ps_ret (pe_and (pe_callB call_isi (by rfl) T.b_isinstance (by decide +kernel) (pa_cons (pv 0) (pa_cons (pe_bltn (v := .ty "int") (by rfl) T.b_int (by decide +kernel) rfl) pa_nil))) (pe_one (pe_not (pe_callB call_isi (by rfl) T.b_isinstance (by decide +kernel) (pa_cons (pv 0) (pa_cons (pe_bltn (v := .ty "bool") (by rfl) T.b_bool (by decide +kernel) rfl) pa_nil)))))))), ?_⟩
    refine ⟨_, rfl, _, _, _, _, true, rfl, .ty "int", .base (.int i), kit_ty (by decide +kernel), true, rfl, ?_⟩
    exact ⟨_, rfl, _, _, _, _, false, rfl, .ty "bool", .base (.int i), kit_ty (by decide +kernel), false, rfl, q⟩
def spSeq : Sp := fun vs H Q _ => ∃ (a : Addr) (xs : List V), vs = [.ref a] ∧ H a = some (.tup xs) ∧ ∀ H', Same H H' → Q (.bl true) H'
theorem ok_seq {f : Addr} {fd : FuncData} (F : Fun K "is_sequence" "is_sequence" s_is_sequence f fd) (T : Bi mg) : FnOk P w K mg base CX0 1 f fd ["value"] spSeq := by
  refine F.ok sc_is_sequence (fun vs H Q E h => ?_) (fun cdv A outer s H vs Q E hr h => ?_)
  · obtain ⟨a, xs, rfl, _⟩ := h
    rfl
  · obtain ⟨a, xs, rfl, ha, q⟩ := h
    refine ⟨_, (pss_one (ps_ret (pe_callB call_isiT (by rfl) T.b_isinstance (by decide +kernel) (pa_cons (pv 0) (pa_cons (pe_tup (pa_cons (pe_bltn (v := .ty "list") (by rfl) T.b_list (by decide +kernel) rfl) (pa_cons (pe_bltn (v := .ty "tuple") (by rfl) T.b_tuple (by decide +kernel) rfl) pa_nil))) pa_nil))))), ?_⟩
    refine ⟨_, rfl, by show 2 ≤ sizeLine; decide, fun p np => ?_⟩
    have s1 : Same H (upd H p (.tup [.ty "list", .ty "tuple"])) := same_upd np
    exact ⟨_, p, _, _, _, true, rfl, upd_same, .cons (.ty "list") (.cons (.ty "tuple") .nil), .base (.tup (s1 _ _ ha)), kitAny_cons (b := false) (kit_ty (by decide +kernel)) (fun _ => kitAny_cons (b := true) (kit_ty (by decide +kernel)) (fun z => by cases z) (fun _ => rfl)) (fun z => by cases z), q _ s1⟩
def spBelow : Sp := fun vs H Q _ => ∃ x n : Int, vs = [.int x, .int n] ∧ 0 ≤ x ∧ x < n ∧ Q (.bl true) H
theorem ok_below {f : Addr} {fd : FuncData} (F : Fun K "is_below" "is_below" s_is_below f fd) (T : Bi mg) {f_w : Addr} {d_w : FuncData} (D_w : Df K mg "is_whole" s_is_whole ["value"] f_w d_w) : FnOk P w K mg base CX0 2 f fd ["value", "bound"] spBelow := by
  have G_w : FnOk P w K mg base CX0 1 f_w d_w ["value"] spWhole := ok_whole D_w.F T
  refine F.ok sc_is_below (fun vs H Q E h => ?_) (fun cdv A outer s H vs Q E hr h => ?_)
  · obtain ⟨x, n, rfl, _⟩ := h
    rfl
  · obtain ⟨x, n, rfl, h0, h1, q⟩ := h
    refine ⟨_, (pss_one (ps_ret (pe_and (pe_call G_w hr (by rfl) D_w.g D_w.F.kp D_w.b .nil pass0 (pa_cons (pv 0) pa_nil)) (pe_one (pe_chain op_le op_lt pe_int (pv 0) (pv 1)))))), ?_⟩
    refine ⟨_, rfl, x, rfl, true, rfl, ?_⟩
    refine ⟨_, rfl, 0, x, rfl, rfl, _, rfl, ?_⟩
    rw [decide_eq_true h0, if_pos rfl]
    refine ⟨_, rfl, x, n, rfl, rfl, ?_⟩
    show Q (.bl (decide (x < n))) H
    rw [decide_eq_true h1]
    exact q
def spCkPins : Sp := fun vs H Q _ => ∃ n : Int, vs = [.int n] ∧ 0 ≤ n ∧ Q .non H
theorem ok_ckpins {f : Addr} {fd : FuncData} (F : Fun K "check_pins" "check_pins" s_check_pins f fd) (T : Bi mg) {f_w : Addr} {d_w : FuncData} (D_w : Df K mg "is_whole" s_is_whole ["value"] f_w d_w) : FnOk P w K mg base CX0 2 f fd ["pins"] spCkPins := by
  have G_w : FnOk P w K mg base CX0 1 f_w d_w ["value"] spWhole := ok_whole D_w.F T
  refine F.ok sc_check_pins (fun vs H Q E h => ?_) (fun cdv A outer s H vs Q E hr h => ?_)
  · obtain ⟨n, rfl, _⟩ := h
    rfl
  · obtain ⟨n, rfl, h0, q⟩ := h
    refine ⟨_, (pss_one (ps_if (PW.pt (pw_or (pt_not (pt_val (pe_call G_w hr (by rfl) D_w.g D_w.F.kp D_w.b .nil pass0 (pa_cons (pv 0) pa_nil)))) (pw_or1 (pt_cmpR op_lt (pv 0) pe_int (nomark _))))) (pss_one ps_never) pss_nil)), ?_⟩
    refine ⟨_, rfl, n, rfl, true, rfl, ?_⟩
    refine ⟨_, rfl, n, 0, rfl, rfl, _, rfl, ?_⟩
    rw [decide_eq_false (by omega)]
    exact q
def spCkPin : Sp := fun vs H Q _ => ∃ n x : Int, vs = [.int n, .int x] ∧ 0 ≤ x ∧ x < n ∧ Q .non H
theorem ok_ckpin {f : Addr} {fd : FuncData} (F : Fun K "check_pin" "check_pin" s_check_pin f fd) (T : Bi mg) {f_w : Addr} {d_w : FuncData} (D_w : Df K mg "is_whole" s_is_whole ["value"] f_w d_w) {f_b : Addr} {d_b : FuncData} (D_b : Df K mg "is_below" s_is_below ["value", "bound"] f_b d_b) : FnOk P w K mg base CX0 3 f fd ["pins", "pin"] spCkPin := by
  have G_b : FnOk P w K mg base CX0 2 f_b d_b ["value", "bound"] spBelow := ok_below D_b.F T D_w
  refine F.ok sc_check_pin (fun vs H Q E h => ?_) (fun cdv A outer s H vs Q E hr h => ?_)
  · obtain ⟨n, x, rfl, _⟩ := h
    rfl
  · obtain ⟨n, x, rfl, h0, h1, q⟩ := h
    refine ⟨_, (pss_one (ps_if (pt_not (pt_val (pe_call G_b hr (by rfl) D_b.g D_b.F.kp D_b.b .nil pass0 (pa_cons (pv 1) (pa_cons (pv 0) pa_nil))))) (pss_one ps_never) pss_nil)), ?_⟩
    exact ⟨_, rfl, _, rfl, x, n, rfl, h0, h1, true, rfl, q⟩
def spEntry : Sp := fun vs H Q _ => ∃ (n : Int) (b : Addr) (t : Tr), vs = [.int n, .ref b] ∧ H b = some (.tup (tv t)) ∧ Vld n t ∧ ∀ H', Same H H' → Q (.bl true) H'
theorem ok_entry {f : Addr} {fd : FuncData} (F : Fun K "is_entry" "is_entry" s_is_entry f fd) (T : Bi mg) {f_w : Addr} {d_w : FuncData} (D_w : Df K mg "is_whole" s_is_whole ["value"] f_w d_w) {f_b : Addr} {d_b : FuncData} (D_b : Df K mg "is_below" s_is_below ["value", "bound"] f_b d_b) {f_q : Addr} {d_q : FuncData} (D_q : Df K mg "is_sequence" s_is_sequence ["value"] f_q d_q) : FnOk P w K mg base CX0 3 f fd ["pins", "entry"] spEntry := by
  have G_w : FnOk P w K mg base CX0 1 f_w d_w ["value"] spWhole := ok_whole D_w.F T
  have G_b : FnOk P w K mg base CX0 2 f_b d_b ["value", "bound"] spBelow := ok_below D_b.F T D_w
  have G_q : FnOk P w K mg base CX0 1 f_q d_q ["value"] spSeq := ok_seq D_q.F T
  refine F.ok sc_is_entry (fun vs H Q E h => ?_) (fun cdv A outer s H vs Q E hr h => ?_)
  · obtain ⟨n, b, t, rfl, _⟩ := h
    rfl
  · obtain ⟨n, b, t, rfl, hb, hv, q⟩ := h
    refine ⟨_, (pss_cons (ps_if (PW.pt (pw_or (pt_not (pt_val (pe_call G_q (hr.mono (by decide)) (by rfl) D_q.g D_q.F.kp D_q.b .nil pass0 (pa_cons (pv 1) pa_nil)))) (pw_or1 (pt_cmpR op_ne (pe_callB call_len_seq (by rfl) T.b_len PySem.boot_len (pa_cons (pv 1) pa_nil)) pe_int (nomark _))))) (pss_one (ps_ret pe_bl)) pss_nil)
        (pss_cons (ps_asg (pv 1) (pg_tup (by rfl) (pgs_cons (pg_name (i := 2) sc_is_entry.nd rfl (.inl rfl)) (pgs_cons (pg_name (i := 3) sc_is_entry.nd rfl (.inl rfl)) (pgs_cons (pg_name (i := 4) sc_is_entry.nd rfl (.inl rfl)) pgs_nil)))))
        (pss_one (ps_ret (pe_and (pe_call G_b hr (by rfl) D_b.g D_b.F.kp D_b.b .nil pass0 (pa_cons (pv 2) (pa_cons (pv 0) pa_nil))) (pe_and (pe_call G_b hr (by rfl) D_b.g D_b.F.kp D_b.b .nil pass0 (pa_cons (pv 3) (pa_cons (pv 0) pa_nil))) (pe_and (pe_cmpR op_ne (pv 2) (pv 3) (nomark _)) (pe_and (pe_call G_w (hr.mono (by decide)) (by rfl) D_w.g D_w.F.kp D_w.b .nil pass0 (pa_cons (pv 4) pa_nil)) (pe_one (pe_cmpR op_ge (pv 4) pe_int (nomark _))))))))))), ?_⟩
    obtain ⟨v0, v1, v2, v3, v4, v5⟩ := hv
    refine ⟨_, rfl, b, _, rfl, hb, fun H1 sm => ⟨true, rfl, ?_⟩⟩
    have hT : SqT K H1 b (tv t) := .inl (.inl (sm _ _ hb))
    refine ⟨_, rfl, b, _, rfl, .inr hT, rfl, _, rfl, iteNS rfl ?_⟩
    refine ⟨_, rfl, b, _, rfl, hT, rfl, _, _, rfl, _, _, rfl, _, _, rfl, rfl, ?_⟩
    refine ⟨_, rfl, _, rfl, t.1, n, rfl, v0, v1, true, rfl, ?_⟩
    refine ⟨_, rfl, _, rfl, t.2.1, n, rfl, v2, v3, true, rfl, ?_⟩
    refine ⟨_, rfl, _, rfl, rfl, _, rfl, ?_⟩
    rw [decide_eq_false (fun z => v4 (V.int.inj z))]
    refine ⟨_, rfl, t.2.2, rfl, true, rfl, ?_⟩
    refine ⟨_, rfl, t.2.2, 1, rfl, rfl, ?_⟩
    show Q (.bl (decide (1 ≤ t.2.2))) H1
    rw [decide_eq_true v5]
    exact q H1 sm
end
end Own

/-! The dict of a lot that is made. -/
namespace Own
open PySem PySem.Spec PyProof.Rows L2
def kk (p : Int × Int) : List Key := [.inl p.1, .inl p.2]
theorem kk_inj {p q : Int × Int} (h : kk p = kk q) : p = q := by
  unfold kk at h
  injection h with h1 h2
  injection h2 with h3 _
  injection h1 with h1
  injection h3 with h3
  exact Prod.ext h1 h3
structure DInv (kvs : List (List Key × V)) (m : List Tr) : Prop where
  val : ∀ p, valV kvs (kk p) = if p ∈ m.map ky then some (.int (tot p m)) else none
  frm : ∀ kv ∈ kvs, ∃ p, kv.1 = kk p
  nd : (kvs.map (·.1)).Nodup
theorem DInv.nil : DInv [] [] := ⟨fun p => rfl, fun kv (h : kv ∈ []) => absurd h List.not_mem_nil, List.nodup_nil⟩
theorem putK_keys {kvs : List (List Key × V)} {k : List Key} {v : V} : (∃ x, valV kvs k = some x) → (putK kvs k v).map (·.1) = kvs.map (·.1) := fun ⟨x, h⟩ => by
  unfold putK
  rw [valV_any, h]
  show (kvs.map _).map _ = _
  rw [List.map_map]
  refine List.map_congr_left fun kv _ => ?_
  show (if kv.1 = k then (kv.1, v) else kv).1 = kv.1
  split <;> rfl
theorem not_key {kvs : List (List Key × V)} {k : List Key} (h : valV kvs k = none) : k ∉ kvs.map (·.1) := fun m => by
  have a := valV_any k kvs
  rw [h] at a
  obtain ⟨kv, hm, e⟩ := List.mem_map.mp m
  have : (kvs.any fun kv => decide (kv.1 = k)) = true := List.any_eq_true.mpr ⟨kv, hm, decide_eq_true e⟩
  rw [this] at a
  cases a
theorem tot_snoc (p : Int × Int) (m : List Tr) (t : Tr) : tot p (m ++ [t]) = tot p m + (if ky t = p then t.2.2 else 0) := by
  unfold tot
  rw [bk_append]
  show _ + ((if decide (ky t = p) = true then t.2.2 else 0) + 0) = _
  by_cases h : ky t = p
  · rw [if_pos (decide_eq_true h), if_pos h]
    omega
  · rw [if_neg (by rw [decide_eq_false h]; decide), if_neg h]
    omega
theorem tot_out {p : Int × Int} {m : List Tr} (h : p ∉ m.map ky) : tot p m = 0 := by
  induction m with
  | nil => rfl
  | cons t r ih =>
    rw [tot_cons, ih fun z => h (by rw [List.map_cons]; exact List.mem_cons_of_mem _ z), if_neg fun z => h (by rw [List.map_cons, z]; exact List.mem_cons_self)]
    rfl
/-- what stands there, or 0 -/
theorem DInv.get {kvs : List (List Key × V)} {m : List Tr} (d : DInv kvs m) (p : Int × Int) : (valV kvs (kk p)).getD (.int 0) = .int (tot p m) := by
  rw [d.val]
  split
  · rfl
  · rename_i h
    rw [tot_out h]
    rfl
theorem DInv.put {kvs : List (List Key × V)} {m : List Tr} (d : DInv kvs m) (t : Tr) : DInv (putK kvs (kk (ky t)) (.int (tot (ky t) m + t.2.2))) (m ++ [t]) := by
  refine ⟨fun p => ?_, fun kv h => ?_, ?_⟩
  · rw [valV_put, d.val, tot_snoc, List.map_append]
    by_cases h : p = ky t
    · subst h
      rw [if_pos rfl, if_pos (List.mem_append_right _ (by rw [List.map_cons]; exact List.mem_cons_self)), if_pos rfl]
    · have hne : ¬ ky t = p := fun z => h z.symm
      rw [if_neg fun z : kk p = kk (ky t) => h (kk_inj z)]
      by_cases hm : p ∈ m.map ky
      · rw [if_pos hm, if_pos (List.mem_append_left _ hm), if_neg hne, Int.add_zero]
      · rw [if_neg hm, if_neg fun z => by
          rcases List.mem_append.mp z with z | z
          · exact hm z
          · exact h (List.mem_singleton.mp z)]
  · cases e : valV kvs (kk (ky t)) with
    | none =>
      rw [putK_new _ e] at h
      rcases List.mem_append.mp h with h | h
      · exact d.frm kv h
      · exact ⟨ky t, by rw [List.mem_singleton.mp h]⟩
    | some x =>
      have hk : kv.1 ∈ (putK kvs (kk (ky t)) (.int (tot (ky t) m + t.2.2))).map (·.1) := List.mem_map.mpr ⟨kv, h, rfl⟩
      rw [putK_keys ⟨x, e⟩] at hk
      obtain ⟨kv2, h2, e2⟩ := List.mem_map.mp hk
      obtain ⟨p, hp⟩ := d.frm kv2 h2
      exact ⟨p, by rw [← e2]; exact hp⟩
  · cases e : valV kvs (kk (ky t)) with
    | none =>
      rw [putK_new _ e, List.map_append]
      exact List.nodup_append.mpr ⟨d.nd, by simp, fun a ha b hb z => not_key e (by
        have hb2 : b = kk (ky t) := List.mem_singleton.mp hb
        rw [hb2] at z
        rw [← z]
        exact ha)⟩
    | some x =>
      rw [putK_keys ⟨x, e⟩]
      exact d.nd
theorem putK_len {kvs : List (List Key × V)} {k : List Key} {v : V} : (putK kvs k v).length ≤ kvs.length + 1 := by
  cases e : valV kvs k with
  | none =>
    rw [putK_new _ e, List.length_append]
    exact Nat.le_refl _
  | some x =>
    have := congrArg List.length (putK_keys (v := v) ⟨x, e⟩)
    rw [List.length_map, List.length_map] at this
    omega
theorem DInv.mem {kvs : List (List Key × V)} {m : List Tr} (d : DInv kvs m) (p : Int × Int) : kk p ∈ kvs.map (·.1) ↔ p ∈ m.map ky := by
  constructor
  · intro h
    by_cases hm : p ∈ m.map ky
    · exact hm
    · exact absurd h (not_key (by rw [d.val, if_neg hm]))
  · intro h
    have e := d.val p
    rw [if_pos h] at e
    have a := valV_any (kk p) kvs
    rw [e] at a
    obtain ⟨kv, hm, hk⟩ := List.any_eq_true.mp a
    exact List.mem_map.mpr ⟨kv, hm, of_decide_eq_true hk⟩
/-- the sorted keys, strictly in order -/
theorem sorted_lex {xs : List (Int × Int)} (hn : xs.Nodup) (hs : xs.Pairwise fun x y => SrtO.lexB y x = false) : xs.Pairwise Lex := by
  refine List.Pairwise.imp₂ (R := fun x y => SrtO.lexB y x = false) (S := fun x y => x ≠ y) ?_ hs hn
  intro a b h1 h2
  have h3 := SrtO.lexB_no.mp h1
  unfold Lex
  have h4 : ¬ (a.1 = b.1 ∧ a.2 = b.2) := fun z => h2 (Prod.ext z.1 z.2)
  omega
end Own

namespace Own
open PySem PySem.Spec PyProof.Rows L2
def SameT (H H' : Hp) : Prop := ∀ b o, H b = some (.tup o) → H' b = some (.tup o)
theorem TrV.sameT {H H' : Hp} {vs : List V} {l : List Tr} (s : SameT H H') (h : TrV H vs l) : TrV H' vs l := ⟨h.1, fun i t e => by
  obtain ⟨b, e1, e2⟩ := h.2 i t e
  exact ⟨b, e1, s _ _ e2⟩⟩
theorem sameT_put {H H' : Hp} {D : Addr} {vs ws : List V} (e : H D = some (.lst vs)) (s : Same H H') : SameT H (upd H' D (.lst ws)) := fun b o h => by
  have hb : b ≠ D := fun z => by
    rw [z, e] at h
    cases h
  rw [upd_ne hb]
  exact s _ _ h
theorem same_put {H H1 H' : Hp} {D : Addr} {o : HO} (n : H D = none) (s : Same H H') : Same H (upd H' D o) := fun b u h => by
  rw [upd_ne (ne_of_none h n)]
  exact s _ _ h
theorem keys_of {H : Hp} {kvs : List (List Key × V)} {bs : List Addr} (h : IsKeys H kvs bs) (f : ∀ kv ∈ kvs, ∃ p, kv.1 = kk p) : ((bs.map V.ref).map (kOf H)).map kk = kvs.map (·.1) ∧ ∀ b ∈ bs, ∃ p : Int × Int, H b = some (.tup [.int p.1, .int p.2]) := by
  unfold IsKeys at h
  induction h with
  | nil => exact ⟨rfl, fun b h => by cases h⟩
  | @cons kv b ks bs hb t ih =>
    obtain ⟨p, hp⟩ := f kv List.mem_cons_self
    rw [hp] at hb
    have hb2 : H b = some (.tup [.int p.1, .int p.2]) := hb
    obtain ⟨i1, i2⟩ := ih fun kv h => f kv (List.mem_cons_of_mem _ h)
    refine ⟨?_, fun c hc => ?_⟩
    · rw [List.map_cons, List.map_cons, List.map_cons, List.map_cons, i1, kOf_at hb2, hp]
    · rcases List.mem_cons.mp hc with e | e
      · exact ⟨p, by rw [e]; exact hb2⟩
      · exact i2 c e
section
variable {P : Program} {w : World} {K : PySem.W.Frag} {mg : Str → Option Value} {base : Heap}
/-! ### the entries of a lot, gathered -/
def spGathered (K : PySem.W.Frag) : Sp := fun vs H Q _ => ∃ (n : Int) (a : Addr) (xs : List V) (l : List Tr), vs = [.int n, .ref a] ∧ SqB K H a xs ∧ TrV H xs l ∧ (∀ t ∈ l, Vld n t) ∧ l.length ≤ 1000 ∧
  ∀ H' c r, Same H H' → H c = none → Trip H' c r → IsNorm l r → Q (.ref c) H'
theorem ok_gathered {f : Addr} {fd : FuncData} (F : Fun K "gathered" "gathered" s_gathered f fd) (T : Bi mg) {f_e : Addr} {d_e : FuncData} (D_e : Df K mg "is_entry" s_is_entry ["pins", "entry"] f_e d_e) (G_e : FnOk P w K mg base CX0 3 f_e d_e ["pins", "entry"] spEntry) :
    FnOk P w K mg base CX0 4 f fd ["pins", "entries"] (spGathered K) := by
  refine F.ok sc_gathered (fun vs H Q E h => ?_) (fun cdv A outer s H vs Q E hr h => ?_)
  · obtain ⟨n, a, xs, l, rfl, _⟩ := h
    rfl
  · obtain ⟨n, a, xs, l, rfl, hB, hx, hv, hl, q⟩ := h
    have hu := hu_of hr
    refine ⟨_, (pss_cons (ps_set (i := 2) sc_gathered.nd rfl (.inr rfl) pe_dnewT)
        (pss_cons (ps_for PassesOwn.never rfl (pi_seq (pv 1)) (pg_name (i := 3) sc_gathered.nd rfl (.inl rfl))
        (pss_cons (ps_if (pt_not (pt_val (pe_call G_e hr (by rfl) D_e.g D_e.F.kp D_e.b .nil pass0 (pa_cons (pv 0) (pa_cons (pv 3) pa_nil))))) (pss_one ps_never) pss_nil)
        (pss_cons (ps_asg (pv 3) (pg_tup (by rfl) (pgs_cons (pg_name (i := 5) sc_gathered.nd rfl (.inl rfl)) (pgs_cons (pg_name (i := 6) sc_gathered.nd rfl (.inl rfl)) (pgs_cons (pg_name (i := 7) sc_gathered.nd rfl (.inl rfl)) pgs_nil)))))
        (pss_cons (ps_set (i := 4) sc_gathered.nd rfl (.inl rfl) (pe_tup (pa_cons (pe_callB (call_min2 rfl) (by rfl) T.b_min (by decide +kernel) (pa_cons (pv 5) (pa_cons (pv 6) pa_nil))) (pa_cons (pe_callB (call_max2 rfl) (by rfl) T.b_max (by decide +kernel) (pa_cons (pv 5) (pa_cons (pv 6) pa_nil))) pa_nil))))
        (pss_one (ps_dput hu (pv 2) (pv 4) (pe_op op_add (pe_dget2 hu (pv 2) (pv 4) pe_int ⟨rfl, rfl, rfl, rfl⟩) (pv 7)) rfl))))))
        (pss_one (ps_ret (pe_callTy call_tuple_of (by rfl) T.b_tuple (by decide +kernel) (pa_cons (pe_lc (own := [("a", 5), ("b", 6)]) (g := gTup K 2 (gCons (gName 5) (gCons (gName 6) gNil))) (tt := tYes) rfl sc_gathered.nd (pi_list (pe_callB (cr_sortedDT rfl) (by rfl) T.b_sorted (by decide +kernel) (pa_cons (pv 2) pa_nil))) (blkOk_by (own := [("a", 5), ("b", 6)]) (N := ["pins", "entries", "held", "entry", "pair", "a", "b", "many"]) (sc := defScope s_gathered) (by decide +kernel)) (fun _ _ _ _ _ => (pg_tup (by rfl) (pgs_cons (pg_name (i := 5) sc_gathered.nd rfl (.inl rfl)) (pgs_cons (pg_name (i := 6) sc_gathered.nd rfl (.inl rfl)) pgs_nil)))) (fun _ _ _ _ _ => pts_nil) (fun _ _ _ _ _ => (pe_tup (pa_cons (pv 5) (pa_cons (pv 6) (pa_cons (pe_dget hu (pv 2) (pe_tup (pa_cons (pv 5) (pa_cons (pv 6) pa_nil))) (fun _ _ => rfl)) pa_nil)))))) pa_nil)))))), ?_⟩
    intro d hd
    refine ⟨_, rfl, a, rfl, for_same (Hb := H) hB (fun i σ H' => ∃ kvs y3 y4 y5 y6 y7, σ = [some (.int n), some (.ref a), some (.ref d), y3, y4, y5, y6, y7] ∧ H' d = some (.dT kvs) ∧ DInv kvs (l.take i) ∧ kvs.length ≤ i ∧ Same H H') ⟨[], none, none, none, none, none, rfl, upd_same, DInv.nil, Nat.le_refl _, same_upd hd⟩ (fun i σ' H' p => by obtain ⟨_, _, _, _, _, _, _, _, _, _, s⟩ := p; exact s) (fun i x σ H' hxi p => ?_) (fun σ H' p => ?_)⟩
    · obtain ⟨kvs, y3, y4, y5, y6, y7, rfl, ed, dI, klen, sm⟩ := p
      obtain ⟨b, t, rfl, hti, hb⟩ := (hx.same sm).at_ hxi
      have hil : i < l.length := (List.getElem?_eq_some_iff.mp hti).1
      have hvt : Vld n t := hv t (List.mem_of_getElem? hti)
      refine ⟨_, rfl, _, rfl, n, b, t, rfl, hb, hvt, fun H1 s1 => ⟨true, rfl, ?_⟩⟩
      refine ⟨_, rfl, b, _, rfl, .inl (.inl (s1 _ _ hb)), rfl, _, _, rfl, _, _, rfl, _, _, rfl, rfl, ?_⟩
      refine ⟨_, rfl, _, rfl, _, _, rfl, _, rfl, _, rfl, _, _, rfl, by show 2 ≤ sizeLine; decide, fun p np => ?_⟩
      have ed1 : (upd H1 p (.tup [.int (lo t.1 t.2.1), .int (hi t.1 t.2.1)])) d = some (.dT kvs) := by
        rw [upd_ne (ne_of_none (s1 _ _ ed) np)]
        exact s1 _ _ ed
      have ep : (upd H1 p (.tup [.int (lo t.1 t.2.1), .int (hi t.1 t.2.1)])) p = some (.tup ((kk (ky t)).map kV)) := upd_same
      refine ⟨_, rfl, d, rfl, .inr ⟨kvs, .inl ed1⟩, _, rfl, _, DGet.t ed1 ep, ?_⟩
      rw [dI.get]
      refine ⟨_, rfl, _, _, rfl, rfl, _, rfl, _, rfl, d, _, rfl, DPut.t ed1 ep (small1000 (by omega)), ?_⟩
      have hd1 : H1 d ≠ none := fun z => by rw [s1 _ _ ed] at z; cases z
      refine ⟨_, _, _, _, _, _, rfl, upd_same, ?_, Nat.le_trans putK_len (by omega), fun c o e => ?_⟩
      · rw [List.take_add_one, hti]
        exact dI.put t
      · rw [upd_ne (ne_of_none e hd)]
        exact same_upd np _ _ (s1 _ _ (sm _ _ e))
    · obtain ⟨kvs, y3, y4, y5, y6, y7, rfl, ed, dI, klen, sm⟩ := p
      rw [hx.1, List.take_length] at dI
      refine ⟨_, rfl, d, kvs, rfl, .inl ed, fun kv hkv => by obtain ⟨p, hp⟩ := dI.frm kv hkv; exact ⟨p.1, p.2, hp⟩, fun bs ys p0 hk hsrt hstb np0 => ?_⟩
      obtain ⟨kEq, kAt⟩ := keys_of hk dI.frm
      have hall : ∀ y ∈ ys, ∃ b, y = .ref b ∧ H' b = some (.tup [.int (kOf H' y).1, .int (kOf H' y).2]) := fun y hy => by
        obtain ⟨b, hb, rfl⟩ := List.mem_map.mp (hstb.perm.mem_iff.mp hy)
        obtain ⟨p, hp⟩ := kAt b hb
        exact ⟨b, rfl, by rw [kOf_at hp]; exact hp⟩
      have hperm : (ys.map (kOf H')).Perm ((bs.map V.ref).map (kOf H')) := hstb.perm.map _
      have hnd : (ys.map (kOf H')).Nodup := by
        refine hperm.nodup_iff.mpr ?_
        have := dI.nd
        rw [← kEq] at this
        unfold List.Nodup at this ⊢
        exact (List.pairwise_map.mp this).imp fun h e => h (congrArg kk e)
      have hmem : ∀ p, p ∈ ys.map (kOf H') ↔ p ∈ l.map ky := fun p => by
        rw [hperm.mem_iff, ← dI.mem p, ← kEq]
        exact ⟨fun m => List.mem_map.mpr ⟨p, m, rfl⟩, fun m => by
          obtain ⟨p2, m2, e2⟩ := List.mem_map.mp m
          rw [← kk_inj e2]
          exact m2⟩
      have hlex : (ys.map (kOf H')).Pairwise Lex := sorted_lex hnd (SrtO.srtd_map (lt := SrtO.lexB) (f := kOf H') hsrt)
      have hN : IsNorm l ((ys.map (kOf H')).map fun p => (p.1, p.2, tot p l)) := by
        have e1 : (((ys.map (kOf H')).map fun p => ((p.1, p.2, tot p l) : Tr))).map pr = ys.map (kOf H') := by
          rw [List.map_map]
          exact List.map_id' _
        refine ⟨by rw [e1]; exact hlex, fun p => by rw [e1]; exact hmem p, fun e he => ?_⟩
        obtain ⟨p, _, rfl⟩ := List.mem_map.mp he
        rfl
      have hylen : ys.length ≤ 1000 := by
        have h1 := hstb.perm.length_eq
        have h2 := congrArg List.length kEq
        rw [List.length_map] at h1
        rw [List.length_map, List.length_map, List.length_map, List.length_map] at h2
        rw [hx.1] at klen
        omega
      generalize hr0 : ((ys.map (kOf H')).map fun p => ((p.1, p.2, tot p l) : Tr)) = r at hN
      have hrl : r.length = ys.length := by rw [← hr0, List.length_map, List.length_map]
      have s0 : Same H' (upd H' p0 (.lst ys)) := same_upd np0
      refine ⟨p0, rfl, ⟨_, .inl (.inl upd_same)⟩, fun D hD => ?_⟩
      refine lc_list (K := K) (a := p0) (xs := ys) (fun i H2 => Same (upd H' p0 (.lst ys)) H2 ∧ ∃ vs, H2 D = some (.lst vs) ∧ TrV H2 vs (r.take i)) ⟨same_upd hD, [], upd_same, TrV.nil⟩ (fun i H2 _ p => .inl (.inl (p.1 _ _ upd_same))) (fun i x H2 hxi p => ?_) (fun H2 p => ?_)
      · obtain ⟨s2, vs, eD, tV⟩ := p
        obtain ⟨b, rfl, hb⟩ := hall x (List.mem_of_getElem? hxi)
        have hil : i < ys.length := (List.getElem?_eq_some_iff.mp hxi).1
        generalize hp : kOf H' (.ref b) = p at hb
        have hri : r[i]? = some (p.1, p.2, tot p l) := by
          rw [← hr0, List.getElem?_map, List.getElem?_map, hxi, ← hp]
          rfl
        have hpm : p ∈ l.map ky := (hmem p).mp (by rw [← hp]; exact List.mem_map.mpr ⟨_, List.mem_of_getElem? hxi, rfl⟩)
        have hval : valV kvs (kk p) = some (.int (tot p l)) := by
          rw [dI.val, if_pos hpm]
        have hb2 := s2 _ _ (s0 _ _ hb)
        have ed2 := s2 _ _ (s0 _ _ ed)
        refine ⟨b, _, rfl, .inl (.inl hb2), rfl, _, _, rfl, _, _, rfl, rfl, rfl, ?_⟩
        refine ⟨_, rfl, _, rfl, _, rfl, _, rfl, _, rfl, by show 2 ≤ sizeLine; decide, fun p1 np1 => ⟨d, .int (tot p l), rfl, ?_, ?_⟩⟩
        · have g := DGet.t (k := kk p) (b := p1) (H := upd H2 p1 (.tup [.int p.1, .int p.2])) (a := d) (kvs := kvs) (by rw [upd_ne (ne_of_none ed2 np1)]; exact ed2) upd_same
          rw [hval] at g
          exact g
        · refine ⟨by show 3 ≤ sizeLine; decide, fun p2 np2 => ?_⟩
          have s3 : Same H2 (upd (upd H2 p1 (.tup [.int p.1, .int p.2])) p2 (.tup [.int p.1, .int p.2, .int (tot p l)])) := (same_upd np1).trans (same_upd np2)
          refine ⟨vs, s3 _ _ eD, ?_, same_put (H1 := H2) hD (s2.trans s3), _, upd_same, ?_⟩
          · rw [tV.1, List.length_take]
            exact Nat.lt_of_le_of_lt (Nat.min_le_right _ _) (small1000 (by omega))
          · rw [List.take_add_one, hri]
            have nD : p2 ≠ D := fun z => by
              rw [z] at np2
              have := (same_upd (o := .tup [.int p.1, .int p.2]) np1) _ _ eD
              rw [this] at np2
              cases np2
            refine (tV.sameT (sameT_put eD s3)).snoc ?_
            rw [upd_ne nD, upd_same]
      · obtain ⟨s2, vs, eD, tV⟩ := p
        rw [← hrl, List.take_length] at tV
        refine ⟨D, vs, rfl, .inl ⟨.inl (.inl eD), fun c nc => ?_⟩⟩
        have sA : Same H (upd H2 c (.tup vs)) := ((sm.trans s0).trans s2).trans (same_upd nc)
        exact q _ c r sA (((sm.trans s0).trans s2).free nc) ⟨vs, upd_same, tV.same (same_upd nc)⟩ hN
end
end Own

namespace Own
open PySem PySem.Spec PyProof.Rows L2
/-! ### a lot as an object -/
theorem kpc : ¬ (("cords" : Str) = "pins") := by decide +kernel
theorem kpc2 : ¬ (("pins" : Str) = "cords") := by decide +kernel
def flds (n : Int) (c : Addr) : List (Str × V) := putF "cords" (.ref c) (putF "pins" (.int n) [])
theorem flds_pins (n : Int) (c : Addr) : (flds n c).lookup ("pins" : Str) = some (.int n) := by
  unfold flds
  rw [lookup_putF, if_neg kpc2, lookup_putF, if_pos rfl]
theorem flds_cords (n : Int) (c : Addr) : (flds n c).lookup ("cords" : Str) = some (.ref c) := by
  unfold flds
  rw [lookup_putF, if_pos rfl]
theorem flds_no (n : Int) (c : Addr) {m : Str} (h1 : ¬ m = "pins") (h2 : ¬ m = "cords") : (flds n c).lookup m = none := by
  unfold flds
  rw [lookup_putF, if_neg h2, lookup_putF, if_neg h1]
  all_goals rfl
/-- a lot stands at p -/
def LotAt (C : Addr) (H : Hp) (p : Addr) (n : Int) (cs : List Tr) : Prop := ∃ dx c, H p = some (.ins C dx (flds n c)) ∧ Trip H c cs
theorem LotAt.same {C : Addr} {H H' : Hp} {p : Addr} {n : Int} {cs : List Tr} (s : Same H H') (h : LotAt C H p n cs) : LotAt C H' p n cs := by
  obtain ⟨dx, c, e, t⟩ := h
  exact ⟨dx, c, s _ _ e, t.same s⟩
structure LotC (K : PySem.W.Frag) (mg : Str → Option Value) (C : Addr) : Prop where
  cl : Cls K C
  nP : NoAttr K C "pins"
  nC : NoAttr K C "cords"
  g : mg "Lot" = some (.ref C)
/-- a method of the text -/
structure Mt (K : PySem.W.Frag) (C : Addr) (m qual : Str) (st : Stmt) (ps : List Str) (f : Addr) (fd : FuncData) : Prop where
  F : Fun K m qual st f fd
  m : Meth K C m f
  b : Binds K fd ps []
abbrev FI (K : PySem.W.Frag) (z : Addr) (f : Addr) (fd : FuncData) : Prop := FunD K "__init__" "Lot.__init__" (defArgs s_Lot_init) (defBody s_Lot_init) (defScope s_Lot_init) [.ref z] [] f fd
section
variable {P : Program} {w : World} {K : PySem.W.Frag} {mg : Str → Option Value} {base : Heap} {C : Addr}
def spInit (K : PySem.W.Frag) (C : Addr) : Sp := fun vs H Q _ => ∃ (p dx : Addr) (n : Int) (a : Addr) (xs : List V) (l : List Tr), vs = [.ref p, .int n, .ref a] ∧ H p = some (.ins C dx []) ∧ 0 ≤ n ∧ SqB K H a xs ∧ TrV H xs l ∧ (∀ t ∈ l, Vld n t) ∧ l.length ≤ 1000 ∧
  ∀ H' c r, (∀ b o, H b = some o → b ≠ p → H' b = some o) → H' p = some (.ins C dx (flds n c)) → Trip H' c r → IsNorm l r → Q .non H'
theorem SqB.keep {K : PySem.W.Frag} {H H' : Hp} {a p : Addr} {xs : List V} {dx : Addr} {fs : List (Str × V)} (e : H p = some (.ins C dx fs)) (s : ∀ b o, H b = some o → b ≠ p → H' b = some o) (h : SqB K H a xs) : SqB K H' a xs := by
  have go : ∀ {o : HO}, H a = some o → (∀ D d f, o ≠ .ins D d f) → H' a = some o := fun {o} h n => s _ _ h fun z => by
    rw [z, e] at h
    exact n _ _ _ (Option.some.inj h).symm
  rcases h with ((h | ⟨o, h⟩) | h) | ((h | ⟨o, h⟩) | h)
  · exact .inl (.inl (.inl (go h fun _ _ _ z => by cases z)))
  · exact .inl (.inl (.inr ⟨o, go h fun _ _ _ z => by cases z⟩))
  · exact .inl (.inr h)
  · exact .inr (.inl (.inl (go h fun _ _ _ z => by cases z)))
  · exact .inr (.inl (.inr ⟨o, go h fun _ _ _ z => by cases z⟩))
  · exact .inr (.inr h)
theorem ok_init {z f : Addr} {fd : FuncData} (F : FI K z f fd) (T : Bi mg) (L : LotC K mg C) {f_k : Addr} {d_k : FuncData} (D_k : Df K mg "check_pins" s_check_pins ["pins"] f_k d_k) (G_k : FnOk P w K mg base CX0 2 f_k d_k ["pins"] spCkPins)
    {f_g : Addr} {d_g : FuncData} (D_g : Df K mg "gathered" s_gathered ["pins", "entries"] f_g d_g) (G_g : FnOk P w K mg base CX0 4 f_g d_g ["pins", "entries"] (spGathered K)) :
    FnOk P w K mg base CX0 5 f fd ["self", "pins", "cords"] (spInit K C) := by
  refine F.ok sc_Lot_init (fun vs H Q E h => ?_) (fun cdv A outer s H vs Q E hr h => ?_)
  · obtain ⟨p, dx, n, a, xs, l, rfl, _⟩ := h
    rfl
  · obtain ⟨p, dx, n, a, xs, l, rfl, ep, hn, hB, hx, hv, hl, q⟩ := h
    refine ⟨_, pss_cons (ps_expr (pe_call G_k (hr.mono (by decide)) (by rfl) D_k.g D_k.F.kp D_k.b .nil pass0 (pa_cons (pv 1) pa_nil)))
      (pss_cons (ps_fld (pv 0) (pv 1) rfl) (pss_one (ps_fld (pv 0) (pe_call G_g hr (by rfl) D_g.g D_g.F.kp D_g.b .nil pass0 (pa_cons (pv 1) (pa_cons (pv 2) pa_nil))) rfl))), ?_⟩
    refine ⟨_, rfl, n, rfl, hn, ?_⟩
    refine ⟨_, rfl, _, rfl, p, C, dx, [], rfl, ep, L.cl, L.nP, by show 0 < 1000; decide, ?_⟩
    have k1 : ∀ b o, H b = some o → b ≠ p → (upd H p (.ins C dx (putF "pins" (.int n) []))) b = some o := fun b o e nb => by
      rw [upd_ne nb]
      exact e
    have hx1 : TrV (upd H p (.ins C dx (putF "pins" (.int n) []))) xs l := hx.sameT fun b o e => k1 b _ e fun z => by
      rw [z, ep] at e
      cases e
    refine ⟨_, rfl, _, rfl, n, a, xs, l, rfl, hB.keep ep k1, hx1, hv, hl, fun H1 c r s1 nc tc hN => ?_⟩
    refine ⟨_, rfl, p, C, dx, _, rfl, s1 _ _ upd_same, L.cl, L.nC, by show 1 < 1000; decide, ?_⟩
    have s2 : ∀ b o, H1 b = some o → b ≠ p → (upd H1 p (.ins C dx (putF "cords" (.ref c) (putF "pins" (.int n) [])))) b = some o := fun b o e nb => by
      rw [upd_ne nb]
      exact e
    refine q _ c r (fun b o e nb => s2 b o (s1 b o (k1 b o e nb)) nb) upd_same ?_ hN
    obtain ⟨vs, e, t⟩ := tc
    have eH : H1 p = some (.ins C dx (putF "pins" (.int n) [])) := s1 _ _ upd_same
    refine ⟨vs, s2 _ _ e fun z => ?_, t.sameT fun b o h => s2 _ _ h fun z => ?_⟩
    · rw [z, eH] at e
      cases e
    · rw [z, eH] at h
      cases h
/-- Lot(n, entries) -/
theorem rd_make {n : Int} {a : Addr} {xs : List V} {l : List Tr} {H : Hp} {Q : VK} (hn : 0 ≤ n) (hB : SqB K H a xs) (hx : TrV H xs l) (hv : ∀ t ∈ l, Vld n t) (hl : l.length ≤ 1000) (q : ∀ H' x cs, Same H H' → LotAt C H' x n cs → IsNorm l cs → Q (.ref x) H') :
    ∀ x dx, H x = none → H dx = none → dx ≠ x → spInit K C (.ref x :: ([.int n, .ref a] ++ [])) (upd (upd H dx (.own x)) x (.ins C dx [])) (fun v H2 => v = .non ∧ Q (.ref x) H2) E0 := fun x dx nx nd ne => by
  have s1 : Same H (upd H dx (.own x)) := same_upd nd
  have nx1 : (upd H dx (.own x)) x = none := by
    rw [upd_ne ne.symm]
    exact nx
  have s2 : Same H (upd (upd H dx (.own x)) x (.ins C dx [])) := s1.trans (same_upd nx1)
  refine ⟨x, dx, n, a, xs, l, rfl, upd_same, hn, hB.same s2, hx.same s2, hv, hl, fun H' c r k e t hN => ⟨rfl, q H' x r (fun b o h => ?_) ⟨dx, c, e, t⟩ hN⟩⟩
  exact k b o (s2 b o h) (ne_of_none h nx)
/-! ### renamed pins -/
def gl (n : Int) (g : Int → Int) : List V := (List.range n.toNat).map fun j : Nat => V.int (g (j : Int))
theorem gl_at {n x : Int} (g : Int → Int) (h0 : 0 ≤ x) (h1 : x < n) : atI (gl n g) x = some (.int (g x)) := by
  have e : x = ((x.toNat : Nat) : Int) := by omega
  have hx : (gl n g)[x.toNat]? = some (.int (g x)) := by
    unfold gl
    rw [List.getElem?_map, List.getElem?_range (by omega)]
    show some (V.int (g ((x.toNat : Nat) : Int))) = _
    rw [← e]
  exact at_of e hx
def Inj (n : Int) (g : Int → Int) : Prop := ∀ x y, 0 ≤ x → x < n → 0 ≤ y → y < n → g x = g y → x = y
end
end Own

namespace Own
open PySem PySem.Spec PyProof.Rows L2
theorem rep_gl (v : V) (k : Nat) : (List.replicate k [v]).flatten = List.replicate k v := by
  induction k with
  | zero => rfl
  | succ k ih =>
    rw [List.replicate_succ, List.flatten_cons, ih]
    rfl
theorem gl_const (n v : Int) : List.replicate n.toNat (V.int v) = gl n fun _ => v := by
  unfold gl
  rw [List.map_const', List.length_range]
theorem gl_len (n : Int) (g : Int → Int) : (gl n g).length = n.toNat := by
  unfold gl
  rw [List.length_map, List.length_range]
theorem gl_congr {n : Int} {g h : Int → Int} (e : ∀ x, 0 ≤ x → x < n → g x = h x) : gl n g = gl n h := by
  unfold gl
  refine List.map_congr_left fun j hj => ?_
  have := List.mem_range.mp hj
  rw [e (j : Int) (by omega) (by omega)]
theorem gl_ix {n x : Int} (g : Int → Int) (h0 : 0 ≤ x) (h1 : x < n) : ixN (gl n g).length x = some x.toNat := by
  unfold ixN
  rw [gl_len, if_pos h0, if_pos (by omega)]
theorem gl_set {n x : Int} (g : Int → Int) (v : Int) (h0 : 0 ≤ x) (h1 : x < n) : (gl n g).set x.toNat (.int v) = gl n fun y => if y = x then v else g y := by
  unfold gl
  apply List.ext_getElem
  · rw [List.length_set, List.length_map, List.length_map]
  · intro j hj hj2
    rw [List.length_map, List.length_range] at hj2
    rw [List.getElem_set, List.getElem_map, List.getElem_map, List.getElem_range]
    by_cases e : x.toNat = j
    · rw [if_pos e]
      show V.int v = V.int (if ((j : Nat) : Int) = x then v else g j)
      rw [if_pos (by omega)]
    · rw [if_neg e]
      show V.int (g j) = V.int (if ((j : Nat) : Int) = x then v else g j)
      rw [if_neg (by omega)]
def endsOf (cs : List Tr) (x : Int) : Int := bs (fun q => decide (q.1 = x ∨ q.2 = x)) cs
theorem endsOf_snoc (cs : List Tr) (t : Tr) (x : Int) : endsOf (cs ++ [t]) x = endsOf cs x + (if t.1 = x ∨ t.2.1 = x then t.2.2 else 0) := by
  unfold endsOf
  rw [bs_append]
  show _ + ((if decide (t.1 = x ∨ t.2.1 = x) = true then t.2.2 else 0) + 0) = _
  by_cases h : t.1 = x ∨ t.2.1 = x
  · rw [if_pos (decide_eq_true h), if_pos h]
    omega
  · rw [if_neg (by rw [decide_eq_false h]; decide), if_neg h]
    omega
def totOf (cs : List Tr) : Int := (cs.map fun t => t.2.2).sum
theorem fmod_in (x : Int) {n : Int} (h : 0 < n) : 0 ≤ x.fmod n ∧ x.fmod n < n := by
  rw [Int.fmod_eq_emod_of_nonneg _ (Int.le_of_lt h)]
  exact ⟨Int.emod_nonneg _ (by omega), Int.emod_lt_of_pos _ h⟩
def sh (n s x : Int) : Int := (x + s).fmod n
def mi (n x : Int) : Int := n - 1 - x
theorem sh_in {n s x : Int} (h : 0 < n) : 0 ≤ sh n s x ∧ sh n s x < n := fmod_in _ h
theorem sub_mod {n a b : Int} (h : a % n = b % n) : (a - b) % n = 0 := by
  rw [Int.sub_emod, h, Int.sub_self, Int.zero_emod]
theorem sh_inj (n s : Int) : Inj n (sh n s) := fun x y x0 x1 y0 y1 e => by
  have n0 : 0 < n := by omega
  unfold sh at e
  rw [Int.fmod_eq_emod_of_nonneg _ (by omega), Int.fmod_eq_emod_of_nonneg _ (by omega)] at e
  have h1 := sub_mod e
  have h2 := sub_mod e.symm
  rw [show x + s - (y + s) = x - y by omega] at h1
  rw [show y + s - (x + s) = y - x by omega] at h2
  by_cases h : y ≤ x
  · rw [Int.emod_eq_of_lt (by omega) (by omega)] at h1
    omega
  · rw [Int.emod_eq_of_lt (by omega) (by omega)] at h2
    omega
theorem mi_inj (n : Int) : Inj n (mi n) := fun x y _ _ _ _ e => by
  unfold mi at e
  omega
theorem mi_in {n x : Int} (h0 : 0 ≤ x) (h1 : x < n) : 0 ≤ mi n x ∧ mi n x < n := by
  unfold mi
  omega
section
variable {P : Program} {w : World} {K : PySem.W.Frag} {mg : Str → Option Value} {base : Heap} {C : Addr}
/-! ### the ends at each pin -/
def spEap : Sp := fun vs H Q _ => ∃ (n : Int) (c : Addr) (cs : List Tr), vs = [.int n, .ref c] ∧ 0 ≤ n ∧ n ≤ 1000 ∧ Trip H c cs ∧ (∀ t ∈ cs, Vld n t) ∧ ∀ H' p, Same H H' → H p = none → H' p = some (.lst (gl n (endsOf cs))) → Q (.ref p) H'
theorem ok_eap {f : Addr} {fd : FuncData} (F : Fun K "ends_at_pins" "ends_at_pins" s_ends_at_pins f fd) (T : Bi mg) : FnOk P w K mg base CX0 1 f fd ["pins", "cords"] spEap := by
  refine F.ok sc_ends_at_pins (fun vs H Q E h => ?_) (fun cdv A outer s H vs Q E hr h => ?_)
  · obtain ⟨n, c, cs, rfl, _⟩ := h
    rfl
  · obtain ⟨n, c, cs, rfl, n0, n1, hc, hv, q⟩ := h
    refine ⟨_, (pss_cons (ps_set (i := 2) sc_ends_at_pins.nd rfl (.inl rfl) (pe_op op_rep (pe_lst (pa_cons pe_int pa_nil)) (pv 0)))
        (pss_cons (ps_for PassesOwn.never rfl (pi_tup (pv 1)) (pg_tup (by rfl) (pgs_cons (pg_name (i := 3) sc_ends_at_pins.nd rfl (.inl rfl)) (pgs_cons (pg_name (i := 4) sc_ends_at_pins.nd rfl (.inl rfl)) (pgs_cons (pg_name (i := 5) sc_ends_at_pins.nd rfl (.inl rfl)) pgs_nil))))
        (pss_cons (ps_asg (pe_op op_add (pe_ix (r := rIxL K) ix_list (pv 2) (pv 3) (fun _ _ => rfl)) (pv 5)) (pg_sub (pv 2) (pv 3) set_list))
        (pss_one (ps_asg (pe_op op_add (pe_ix (r := rIxL K) ix_list (pv 2) (pv 4) (fun _ _ => rfl)) (pv 5)) (pg_sub (pv 2) (pv 4) set_list)))))
        (pss_one (ps_ret (pv 2))))), ?_⟩
    obtain ⟨vs, ec, tc⟩ := id hc
    refine ⟨by show 1 ≤ sizeLine; decide, fun l hl => ⟨_, rfl, l, n, _, rfl, rfl, upd_same, by omega, by omega, ?_, fun p np => ?_⟩⟩
    · show 1 * n.toNat ≤ sizeLine
      rw [Nat.one_mul]
      exact Nat.le_of_lt (small1000 (by omega))
    have np0 : H p = none := (same_upd (o := .lst [.int 0]) hl).free np
    have sL : Same H (upd (upd H l (.lst [.int 0])) p (.lst (List.replicate n.toNat [V.int 0]).flatten)) := (same_upd hl).trans (same_upd np)
    refine ⟨_, rfl, c, rfl, ⟨vs, .inl (.inl (sL _ _ ec))⟩, for_tup (xs := vs) (fun i σ H' => (∃ y3 y4 y5, σ = [some (.int n), some (.ref c), some (.ref p), y3, y4, y5]) ∧ Same H H' ∧ H' p = some (.lst (gl n (endsOf (cs.take i))))) ⟨⟨_, _, _, rfl⟩, sL, ?_⟩ (fun i σ H' _ p => .inl (.inl (p.2.1 _ _ ec))) (fun i x σ H' hxi p => ?_) (fun σ H' p => ?_)⟩
    · rw [upd_same, rep_gl, gl_const]
      rfl
    · obtain ⟨⟨y3, y4, y5, rfl⟩, sm, ep⟩ := p
      obtain ⟨u, t, rfl, hti, hu⟩ := (tc.same sm).at_ hxi
      obtain ⟨v0, v1, v2, v3, v4, v5⟩ := hv t (List.mem_of_getElem? hti)
      refine ⟨u, _, rfl, .inl (.inl hu), rfl, _, _, rfl, _, _, rfl, _, _, rfl, rfl, ?_⟩
      refine ⟨_, rfl, _, rfl, p, _, _, _, rfl, rfl, .inl (.inl ep), gl_at _ v0 v1, _, rfl, _, _, rfl, rfl, _, rfl, _, rfl, p, _, _, _, rfl, rfl, ep, gl_ix _ v0 v1, ?_⟩
      rw [gl_set _ _ v0 v1]
      refine ⟨_, rfl, _, rfl, p, _, _, _, rfl, rfl, .inl (.inl upd_same), gl_at _ v2 v3, _, rfl, _, _, rfl, rfl, _, rfl, _, rfl, p, _, _, _, rfl, rfl, upd_same, gl_ix _ v2 v3, ?_⟩
      rw [gl_set _ _ v2 v3, upd_upd]
      refine ⟨⟨_, _, _, rfl⟩, same_put (H1 := H) np0 sm, ?_⟩
      rw [upd_same, List.take_add_one, hti]
      congr 2
      refine gl_congr fun x _ _ => ?_
      show _ = endsOf (cs.take i ++ [t]) x
      rw [endsOf_snoc]
      by_cases e1 : x = t.2.1
      · subst e1
        rw [if_pos rfl, if_neg (fun z => v4 z.symm), if_pos (.inr rfl)]
      · by_cases e2 : x = t.1
        · subst e2
          rw [if_neg e1, if_pos rfl, if_pos (.inl rfl)]
        · rw [if_neg e1, if_neg e2, if_neg fun z => by rcases z with z | z <;> omega]
          omega
    · obtain ⟨⟨y3, y4, y5, rfl⟩, sm, ep⟩ := p
      rw [tc.1, List.take_length] at ep
      exact ⟨_, rfl, q H' p sm np0 ep⟩
def spEnds (C : Addr) : Sp := fun vs H Q _ => ∃ (p : Addr) (x n : Int) (cs : List Tr), vs = [.ref p, .int x] ∧ LotAt C H p n cs ∧ 0 ≤ x ∧ x < n ∧ n ≤ 1000 ∧ (∀ t ∈ cs, Vld n t) ∧ ∀ H', Same H H' → Q (.int (endsOf cs x)) H'
theorem ok_ends {f : Addr} {fd : FuncData} (F : Fun K "ends" "Lot.ends" s_Lot_ends f fd) (T : Bi mg) (L : LotC K mg C) {f_k : Addr} {d_k : FuncData} (D_k : Df K mg "check_pin" s_check_pin ["pins", "pin"] f_k d_k) (G_k : FnOk P w K mg base CX0 3 f_k d_k ["pins", "pin"] spCkPin)
    {f_p : Addr} {d_p : FuncData} (D_p : Df K mg "ends_at_pins" s_ends_at_pins ["pins", "cords"] f_p d_p) (G_p : FnOk P w K mg base CX0 1 f_p d_p ["pins", "cords"] spEap) : FnOk P w K mg base CX0 4 f fd ["self", "pin"] (spEnds C) := by
  refine F.ok sc_Lot_ends (fun vs H Q E h => ?_) (fun cdv A outer s H vs Q E hr h => ?_)
  · obtain ⟨p, x, n, cs, rfl, _⟩ := h
    rfl
  · obtain ⟨p, x, n, cs, rfl, hL, x0, x1, n1, hv, q⟩ := h
    refine ⟨_, (pss_cons (ps_expr (pe_call G_k hr (by rfl) D_k.g D_k.F.kp D_k.b .nil pass0 (pa_cons (pe_fld (pv 0) rfl) (pa_cons (pv 1) pa_nil))))
        (pss_one (ps_ret (pe_ix (r := rIxL K) ix_list (pe_call G_p (hr.mono (by decide)) (by rfl) D_p.g D_p.F.kp D_p.b .nil pass0 (pa_cons (pe_fld (pv 0) rfl) (pa_cons (pe_fld (pv 0) rfl) pa_nil))) (pv 1) (fun _ _ => rfl))))), ?_⟩
    obtain ⟨dx, c, e, t⟩ := hL
    refine ⟨_, rfl, p, C, dx, _, _, rfl, e, L.cl, L.nP, flds_pins _ _, _, rfl, n, x, rfl, x0, x1, ?_⟩
    refine ⟨_, rfl, p, C, dx, _, _, rfl, e, L.cl, L.nP, flds_pins _ _, _, rfl, p, C, dx, _, _, rfl, e, L.cl, L.nC, flds_cords _ _, n, c, cs, rfl, by omega, n1, t, hv, fun H1 u s1 nu eu => ?_⟩
    exact ⟨_, rfl, u, _, x, _, rfl, rfl, .inl (.inl eu), gl_at _ x0 x1, q H1 s1⟩
def spTotal (C : Addr) : Sp := fun vs H Q _ => ∃ (p : Addr) (n : Int) (cs : List Tr), vs = [.ref p] ∧ LotAt C H p n cs ∧ cs.length ≤ 1000 ∧ ∀ H', Same H H' → Q (.int (totOf cs)) H'
theorem ok_total {f : Addr} {fd : FuncData} (F : Fun K "total" "Lot.total" s_Lot_total f fd) (T : Bi mg) (L : LotC K mg C) : FnOk P w K mg base CX0 1 f fd ["self"] (spTotal C) := by
  refine F.ok sc_Lot_total (fun vs H Q E h => ?_) (fun cdv A outer s H vs Q E hr h => ?_)
  · obtain ⟨p, n, cs, rfl, _⟩ := h
    rfl
  · obtain ⟨p, n, cs, rfl, hL, hl, q⟩ := h
    refine ⟨_, (pss_one (ps_ret (pe_callB (cr_sum rfl) (by rfl) T.b_sum (by decide +kernel) (pa_cons (pe_lc (own := [("entry", 1)]) (g := gName 1) (tt := tYes) rfl sc_Lot_total.nd (pi_tup (pe_fld (pv 0) rfl)) (blkOk_by (own := [("entry", 1)]) (N := ["self", "entry"]) (sc := defScope s_Lot_total) (by decide +kernel)) (fun _ _ _ _ _ => (pg_name (i := 1) sc_Lot_total.nd rfl (.inl rfl))) (fun _ _ _ _ _ => pts_nil) (fun _ _ _ _ _ => (pe_ix (r := rIxT K) ix_tup (pv 1) pe_int (fun _ _ => rfl)))) pa_nil)))), ?_⟩
    obtain ⟨dx, c, e, vs, ec, tc⟩ := hL
    refine ⟨_, rfl, p, C, dx, _, _, rfl, e, L.cl, L.nC, flds_cords _ _, c, rfl, ⟨vs, .inl (.inl ec)⟩, fun D hD => ?_⟩
    refine lc_tup (K := K) (a := c) (xs := vs) (fun i H2 => H2 = upd H D (.lst (((cs.map fun t => t.2.2).take i).map V.int))) rfl (fun i H2 _ p => by subst p; exact .inl (.inl (same_upd hD _ _ ec))) (fun i x H2 hxi p => ?_) (fun H2 p => ?_)
    · subst p
      obtain ⟨u, t, rfl, hti, hu⟩ := tc.at_ hxi
      refine ⟨rfl, ?_⟩
      refine ⟨_, rfl, u, _, 2, _, rfl, rfl, .inl (.inl (same_upd hD _ _ hu)), atI_nat (j := 2) rfl, _, upd_same, ?_, ?_⟩
      · rw [List.length_map, List.length_take, List.length_map]
        exact Nat.lt_of_le_of_lt (Nat.min_le_right _ _) (small1000 hl)
      · rw [upd_upd, List.take_add_one, List.getElem?_map, hti, List.map_append]
        rfl
    · subst p
      rw [show vs.length = (cs.map fun t => t.2.2).length by rw [List.length_map]; exact tc.1, List.take_length]
      exact ⟨D, _, rfl, .inl (.inl upd_same), q _ (same_upd hD)⟩
def spLen (C : Addr) : Sp := fun vs H Q _ => ∃ (p : Addr) (n : Int) (cs : List Tr), vs = [.ref p] ∧ LotAt C H p n cs ∧ Q (.int (cs.length : Int)) H
theorem ok_len {f : Addr} {fd : FuncData} (F : Fun K "__len__" "Lot.__len__" s_Lot_len f fd) (T : Bi mg) (L : LotC K mg C) : FnOk P w K mg base CX0 1 f fd ["self"] (spLen C) := by
  refine F.ok sc_Lot_len (fun vs H Q E h => ?_) (fun cdv A outer s H vs Q E hr h => ?_)
  · obtain ⟨p, n, cs, rfl, _⟩ := h
    rfl
  · obtain ⟨p, n, cs, rfl, hL, q⟩ := h
    refine ⟨_, (pss_one (ps_ret (pe_callB call_len_seq (by rfl) T.b_len PySem.boot_len (pa_cons (pe_fld (pv 0) rfl) pa_nil)))), ?_⟩
    obtain ⟨dx, c, e, vs, ec, tc⟩ := hL
    refine ⟨_, rfl, p, C, dx, _, _, rfl, e, L.cl, L.nC, flds_cords _ _, c, vs, rfl, .inr (.inl (.inl ec)), ?_⟩
    rw [tc.1]
    exact q
/-! ### turned and mirrored -/
abbrev GI (P : Program) (w : World) (K : PySem.W.Frag) (mg : Str → Option Value) (base : Heap) (C f : Addr) (d : FuncData) : Prop := FnOk P w K mg base CX0 5 f d ["self", "pins", "cords"] (spInit K C)
end
end Own

namespace Own
open PySem PySem.Spec PyProof.Rows L2
section
variable {P : Program} {w : World} {K : PySem.W.Frag} {mg : Str → Option Value} {base : Heap} {C : Addr}
/-! ### the law's helpers: kinds, cells, digits -/
theorem ok_lwhole {f : Addr} {fd : FuncData} (F : Fun K "_law_whole" "_law_whole" s__law_whole f fd) (T : Bi mg) : FnOk P w K mg base CX0 1 f fd ["_law_value"] spWhole := by
  refine F.ok sc__law_whole (fun vs H Q E h => ?_) (fun cdv A outer s H vs Q E hr h => ?_)
  · obtain ⟨i, rfl, _⟩ := h
    rfl
  · obtain ⟨i, rfl, q⟩ := h
    refine ⟨_, (pss_one (ps_ret (pe_and (pe_callB call_isi (by rfl) T.b_isinstance (by decide +kernel) (pa_cons (pv 0) (pa_cons (pe_bltn (v := .ty "int") (by rfl) T.b_int (by decide +kernel) rfl) pa_nil))) (pe_one (pe_not (pe_callB call_isi (by rfl) T.b_isinstance (by decide +kernel) (pa_cons (pv 0) (pa_cons (pe_bltn (v := .ty "bool") (by rfl) T.b_bool (by decide +kernel) rfl) pa_nil)))))))), ?_⟩
    refine ⟨_, rfl, _, _, _, _, true, rfl, .ty "int", .base (.int i), kit_ty (by decide +kernel), true, rfl, ?_⟩
    exact ⟨_, rfl, _, _, _, _, false, rfl, .ty "bool", .base (.int i), kit_ty (by decide +kernel), false, rfl, q⟩
def spCell (K : PySem.W.Frag) : Sp := fun vs H Q _ => ∃ (l : Addr) (ns : List Int) (j : Nat), vs = [.ref l, .int (j : Int)] ∧ SqL K H l (ns.map V.int) ∧ j ≤ 100000 ∧ ns.length ≤ 1000 ∧ ∀ c : Int, Q (.int c) H
theorem ok_cell {f : Addr} {fd : FuncData} (F : Fun K "_law_cell" "_law_cell" s__law_cell f fd) (T : Bi mg) : FnOk P w K mg base CX0 1 f fd ["_law_script", "_law_k"] (spCell K) := by
  refine F.ok sc__law_cell (fun vs H Q E h => ?_) (fun cdv A outer s H vs Q E hr h => ?_)
  · obtain ⟨l, ns, j, rfl, _⟩ := h
    rfl
  · obtain ⟨l, ns, j, rfl, hs, hj, hn, q⟩ := h
    refine ⟨_, (pss_cons (ps_if (pt_cmpR op_lt (pv 1) (pe_callB call_len_seq (by rfl) T.b_len PySem.boot_len (pa_cons (pv 0) pa_nil)) (nomark _)) (pss_one (ps_ret (pe_ix (r := rIxL K) ix_list (pv 0) (pv 1) (fun _ _ => rfl)))) pss_nil)
        (pss_cons (ps_set (i := 2) sc__law_cell.nd rfl (.inl rfl) pe_int)
        (pss_cons (ps_for PassesOwn.never rfl (pi_list (pv 0)) (pg_name (i := 3) sc__law_cell.nd rfl (.inl rfl))
        (pss_one (ps_set (i := 2) sc__law_cell.nd rfl (.inl rfl) (pe_op op_mod (pe_callTy call_int1 (by rfl) T.b_int (by decide +kernel) (pa_cons (pe_op op_add (pe_op op_mul (pv 2) pe_int) (pe_op op_mod (pe_callTy call_int1 (by rfl) T.b_int (by decide +kernel) (pa_cons (pv 3) pa_nil)) pe_int)) pa_nil)) pe_int))))
        (pss_one (ps_ret (pe_op op_mod (pe_callTy call_int1 (by rfl) T.b_int (by decide +kernel) (pa_cons (pe_op op_mul (pe_op op_mul (pe_op op_add (pv 2) pe_int) (pe_op op_add (pv 1) pe_int)) pe_int) pa_nil)) pe_int)))))), ?_⟩
    refine ⟨_, rfl, _, rfl, l, _, rfl, .inl hs, _, _, rfl, rfl, _, rfl, ite2 (fun e => ?_) (fun e => ?_)⟩
    · have e1 : (j : Int) < ((ns.map V.int).length : Int) := of_decide_eq_true e
      rw [List.length_map] at e1
      have hj2 : j < ns.length := by omega
      have g : (ns.map V.int)[j]? = some (.int ns[j]) := by
        rw [List.getElem?_map, List.getElem?_eq_getElem hj2]
        rfl
      exact ⟨_, rfl, _, rfl, _, _, _, _, rfl, rfl, hs, atI_nat g, q _⟩
    · refine ⟨_, rfl, l, rfl, ⟨_, hs⟩, for_list (xs := ns.map V.int) (fun i σ H' => (∃ (z : Int) (y : Option V), 0 ≤ z ∧ z < 1000003 ∧ σ = [some (.ref l), some (.int (j : Int)), some (.int z), y]) ∧ H' = H) ⟨⟨17, none, by decide, by decide, rfl⟩, rfl⟩ (fun i σ H' _ p => by rw [p.2]; exact hs) (fun i x σ H' hx p => ?_) (fun σ H' p => ?_)⟩
      · obtain ⟨⟨z, y, z0, z1, rfl⟩, rfl⟩ := p
        obtain ⟨c, rfl⟩ : ∃ c, x = .int c := by
          rw [List.getElem?_map] at hx
          cases e2 : ns[i]? with
          | none => rw [e2] at hx; cases hx
          | some c =>
            rw [e2] at hx
            exact ⟨c, (Option.some.inj hx).symm⟩
        refine ⟨_, rfl, _, _, rfl, rfl, .inl ⟨by omega, by omega⟩, _, rfl, .inl ⟨_, rfl, _, _, rfl, rfl, by show (0 : Int) < 1000003; decide, _, _, rfl, rfl, .inl ⟨_, rfl, _, _, rfl, rfl, by show (0 : Int) < 1000003; decide, ?_⟩⟩⟩
        exact ⟨⟨_, _, Int.emod_nonneg _ (by decide), Int.emod_lt_of_pos _ (by decide), rfl⟩, rfl⟩
      · obtain ⟨⟨z, y, z0, z1, rfl⟩, rfl⟩ := p
        have hp : (z + 7) * ((j : Int) + 3) < 2 ^ 64 ∧ -(2 ^ 64) < (z + 7) * ((j : Int) + 3) := by
          have a1 : 0 ≤ z + 7 := by omega
          have a2 : z + 7 ≤ 1000010 := by omega
          have b1 : 0 ≤ (j : Int) + 3 := by omega
          have b2 : (j : Int) + 3 ≤ 100003 := by omega
          have c1 : (z + 7) * ((j : Int) + 3) ≤ 1000010 * 100003 := Int.mul_le_mul a2 b2 b1 (by decide)
          have c2 : 0 ≤ (z + 7) * ((j : Int) + 3) := Int.mul_nonneg a1 b1
          omega
        exact ⟨_, rfl, _, _, rfl, rfl, _, rfl, _, _, rfl, rfl, _, _, rfl, rfl, .inl ⟨by omega, by omega⟩, _, _, rfl, rfl, .inl ⟨hp.2, hp.1⟩, .inl ⟨_, rfl, _, _, rfl, rfl, by show (0 : Int) < 2147483647; decide, q _⟩⟩
/-- each digit lies below its size -/
def Digs (ds szs : List Int) : Prop := ds.length = szs.length ∧ ∀ (i : Nat) (d s : Int), ds[i]? = some d → szs[i]? = some s → 0 ≤ d ∧ d < s
theorem Digs.snoc {ds szs : List Int} {i : Nat} {d s : Int} (h : Digs ds (szs.take i)) (e : szs[i]? = some s) (h0 : 0 ≤ d) (h1 : d < s) : Digs (ds ++ [d]) (szs.take (i + 1)) := by
  have hi : i < szs.length := (List.getElem?_eq_some_iff.mp e).1
  have hl : ds.length = i := by
    rw [h.1, List.length_take]
    omega
  rw [List.take_add_one, e]
  refine ⟨by rw [List.length_append, List.length_append, h.1]; rfl, fun j x y hx hy => ?_⟩
  by_cases hj : j < i
  · rw [List.getElem?_append_left (by omega)] at hx
    rw [List.getElem?_append_left (by rw [List.length_take]; omega)] at hy
    exact h.2 j x y hx hy
  · rw [List.getElem?_append_right (by omega)] at hx
    rw [List.getElem?_append_right (by rw [List.length_take]; omega), List.length_take] at hy
    have hk : j - ds.length = 0 := by
      cases hk : j - ds.length with
      | zero => rfl
      | succ k =>
        rw [hk] at hx
        simp at hx
    rw [hk] at hx
    rw [show j - min i szs.length = 0 by omega] at hy
    obtain rfl : d = x := Option.some.inj hx
    obtain rfl : s = y := Option.some.inj hy
    exact ⟨h0, h1⟩
def spDigs (K : PySem.W.Frag) : Sp := fun vs H Q _ => ∃ (c : Int) (b : Addr) (szs : List Int), vs = [.int c, .ref b] ∧ SqL K H b (szs.map V.int) ∧ szs.length ≤ 1000 ∧ (∀ s ∈ szs, 0 < s ∧ s < 1073741824) ∧ ∀ H' p ds, Same H H' → H p = none → H' p = some (.lst (ds.map V.int)) → Digs ds szs → Q (.ref p) H'
theorem int_at {ns : List Int} {i : Nat} {x : V} (h : (ns.map V.int)[i]? = some x) : ∃ c, x = .int c ∧ ns[i]? = some c := by
  rw [List.getElem?_map] at h
  cases e : ns[i]? with
  | none => rw [e] at h; cases h
  | some c =>
    rw [e] at h
    exact ⟨c, (Option.some.inj h).symm, rfl⟩
theorem ok_digits {f : Addr} {fd : FuncData} (F : Fun K "_law_digits" "_law_digits" s__law_digits f fd) (T : Bi mg) : FnOk P w K mg base CX0 1 f fd ["_law_cell_here", "_law_sizes"] (spDigs K) := by
  refine F.ok sc__law_digits (fun vs H Q E h => ?_) (fun cdv A outer s H vs Q E hr h => ?_)
  · obtain ⟨c, b, szs, rfl, _⟩ := h
    rfl
  · obtain ⟨c, b, szs, rfl, hb, hl, hsz, q⟩ := h
    refine ⟨_, (pss_cons (ps_set (i := 2) sc__law_digits.nd rfl (.inl rfl) (pe_lst pa_nil))
        (pss_cons (ps_set (i := 3) sc__law_digits.nd rfl (.inl rfl) (pe_callTy call_int1 (by rfl) T.b_int (by decide +kernel) (pa_cons (pv 0) pa_nil)))
        (pss_cons (ps_if (pt_cmpR op_ge (pv 3) (pe_op op_pow pe_int pe_int) (nomark _)) (pss_cons (ps_set (i := 3) sc__law_digits.nd rfl (.inl rfl) (pe_op op_sub (pv 3) (pe_op op_pow pe_int pe_int)))
        (pss_cons (ps_for PassesOwn.never rfl (pi_list (pv 1)) (pg_name (i := 6) sc__law_digits.nd rfl (.inl rfl))
        (pss_cons (ps_expr (pe_bm PySem.F.plainAttrs_list PySem.F.slot_list_append PySem.F.type_list_append mt_append (pv 2) (pa_cons (pe_op op_modN (pe_callTy call_int1 (by rfl) T.b_int (by decide +kernel) (pa_cons (pv 3) pa_nil)) (pv 6)) pa_nil)))
        (pss_one (ps_set (i := 3) sc__law_digits.nd rfl (.inl rfl) (pe_op op_fdivN (pe_callTy call_int1 (by rfl) T.b_int (by decide +kernel) (pa_cons (pv 3) pa_nil)) (pv 6))))))
        (pss_one (ps_ret (pv 2))))) pss_nil)
        (pss_cons (ps_set (i := 4) sc__law_digits.nd rfl (.inl rfl) (pe_op op_mod (pe_callTy call_int1 (by rfl) T.b_int (by decide +kernel) (pa_cons (pv 3) pa_nil)) pe_int))
        (pss_cons (ps_for PassesOwn.never rfl (pi_range1 (by rfl) T.b_range (pa_cons (pe_callB call_len_seq (by rfl) T.b_len PySem.boot_len (pa_cons (pv 1) pa_nil)) pa_nil)) (pg_name (i := 5) sc__law_digits.nd rfl (.inl rfl))
        (pss_cons (ps_set (i := 4) sc__law_digits.nd rfl (.inl rfl) (pe_op op_mod (pe_callTy call_int1 (by rfl) T.b_int (by decide +kernel) (pa_cons (pe_op op_add (pe_op op_add (pe_op op_mul (pv 4) pe_int) (pe_op op_mul pe_int (pv 5))) pe_int) pa_nil)) pe_int))
        (pss_cons (ps_set (i := 7) sc__law_digits.nd rfl (.inl rfl) (pe_op op_mod (pe_callTy call_int1 (by rfl) T.b_int (by decide +kernel) (pa_cons (pe_op op_mul (pv 4) (pe_op op_add (pe_op op_fdiv (pv 4) pe_int) pe_int)) pa_nil)) pe_int))
        (pss_one (ps_expr (pe_bm PySem.F.plainAttrs_list PySem.F.slot_list_append PySem.F.type_list_append mt_append (pv 2) (pa_cons (pe_op op_modN (pe_op op_fdiv (pv 7) pe_int) (pe_ix (r := rIxL K) ix_list (pv 1) (pv 5) (fun _ _ => rfl))) pa_nil)))))))
        (pss_one (ps_ret (pv 2)))))))), ?_⟩
    refine ⟨Nat.zero_le _, fun p np => ?_⟩
    have sp : Same H (upd H p (.lst [])) := same_upd np
    refine ⟨_, rfl, .inl ⟨_, rfl, ?_⟩⟩
    refine ⟨_, rfl, _, _, rfl, rfl, ⟨by decide, by decide, by decide⟩, _, _, rfl, rfl, _, rfl, ite2 (fun e => ?_) (fun e => ?_)⟩
    · refine ⟨_, rfl, _, _, rfl, rfl, ⟨by decide, by decide, by decide⟩, _, _, rfl, rfl, ?_⟩
      refine ⟨_, rfl, b, rfl, ⟨_, sp.seq hb⟩, for_list (xs := szs.map V.int) (fun i σ H' => (∃ (z : Int) (ds : List Int) (y4 y5 y6 y7 : Option V), σ = [some (.int c), some (.ref b), some (.ref p), some (.int z), y4, y5, y6, y7] ∧ H' = upd H p (.lst (ds.map V.int)) ∧ Digs ds (szs.take i))) ⟨_, [], _, _, _, _, rfl, rfl, rfl, fun j d s h => by simp at h⟩ (fun i σ H' _ p => by obtain ⟨_, _, _, _, _, _, _, rfl, _⟩ := p; exact (same_upd np).seq hb) (fun i x σ H' hx pv => ?_) (fun σ H' pv => ?_)⟩
      · obtain ⟨z, ds, y4, y5, y6, y7, rfl, rfl, dg⟩ := pv
        obtain ⟨sz, rfl, hsi⟩ := int_at hx
        have hs := hsz sz (List.mem_of_getElem? hsi)
        have hi : i < szs.length := (List.getElem?_eq_some_iff.mp hsi).1
        refine ⟨_, rfl, .inl ⟨rfl, _, .inl (.inl upd_same)⟩, _, rfl, .inl ⟨_, rfl, _, rfl, _, _, rfl, rfl, by omega, p, _, _, rfl, rfl, upd_same, ?_, ?_⟩⟩
        · rw [List.length_map, dg.1, List.length_take]
          exact Nat.lt_of_le_of_lt (Nat.min_le_right _ _) (small1000 hl)
        refine ⟨_, rfl, .inl ⟨_, rfl, _, rfl, _, _, rfl, rfl, ⟨by omega, by omega⟩, ?_⟩⟩
        have hm := fmod_in z hs.1
        refine ⟨_, ds ++ [z.fmod sz], _, _, _, _, rfl, ?_, dg.snoc hsi hm.1 hm.2⟩
        rw [upd_upd, List.map_append]
        rfl
      · obtain ⟨z, ds, y4, y5, y6, y7, rfl, rfl, dg⟩ := pv
        rw [List.length_map, List.take_length] at dg
        exact ⟨_, rfl, q _ p ds (same_upd np) np upd_same dg⟩
    · refine ⟨_, rfl, .inl ⟨_, rfl, _, _, rfl, rfl, by show (0 : Int) < 2147483629; decide, ?_⟩⟩
      refine ⟨_, rfl, b, _, rfl, .inl (sp.seq hb), _, rfl, by omega, by rw [List.length_map]; omega, ?_⟩
      rw [show ((szs.map V.int).length : Int).toNat = szs.length by rw [List.length_map]; omega]
      refine for_range (lo := 0) (n := szs.length) (fun i σ H' => (∃ (z : Int) (ds : List Int) (y3 y4 y6 y7 : Option V), 0 ≤ z ∧ z < 2147483647 ∧ σ = [some (.int c), some (.ref b), some (.ref p), y3, some (.int z), y4, y6, y7] ∧ H' = upd H p (.lst (ds.map V.int)) ∧ Digs ds (szs.take i))) ⟨_, [], _, _, _, _, Int.emod_nonneg _ (by decide), Int.lt_of_lt_of_le (Int.emod_lt_of_pos _ (by decide)) (by decide), rfl, rfl, rfl, fun j d s h => by simp at h⟩ (fun i σ H' hi pv => ?_) (fun σ H' pv => ?_)
      · obtain ⟨z, ds, y3, y4, y6, y7, z0, z1, rfl, rfl, dg⟩ := pv
        have hsi : szs[i]? = some szs[i] := List.getElem?_eq_getElem hi
        have hs := hsz szs[i] (List.mem_of_getElem? hsi)
        generalize szs[i] = sz at hsi hs
        refine ⟨_, rfl, _, _, rfl, rfl, .inl ⟨by omega, by omega⟩, _, rfl, _, _, rfl, rfl, .inl ⟨by decide, by decide⟩, _, _, rfl, rfl, _, _, rfl, rfl, .inl ⟨_, rfl, _, _, rfl, rfl, by show (0 : Int) < 2147483647; decide, ?_⟩⟩
        generalize hz : (z * 48271 + 974711 * (0 + (i : Int)) + 12345) % 2147483647 = z2
        have z20 : 0 ≤ z2 := by rw [← hz]; exact Int.emod_nonneg _ (by decide)
        have z21 : z2 < 2147483647 := by rw [← hz]; exact Int.emod_lt_of_pos _ (by decide)
        refine ⟨_, rfl, _, rfl, _, _, rfl, rfl, ⟨by decide, by decide⟩, _, _, rfl, rfl, _, _, rfl, rfl, .inl ⟨?_, ?_⟩, .inl ⟨_, rfl, _, _, rfl, rfl, by show (0 : Int) < 2147483629; decide, ?_⟩⟩
        · show -(2 ^ 64) < (z * 48271 + 974711 * (0 + (i : Int)) + 12345) % 2147483647
          rw [hz]
          omega
        · show (z * 48271 + 974711 * (0 + (i : Int)) + 12345) % 2147483647 < 2 ^ 64
          rw [hz]
          omega
        refine ⟨_, rfl, .inl ⟨rfl, _, .inl (.inl upd_same)⟩, _, rfl, _, _, rfl, rfl, ⟨by decide, by decide⟩, _, rfl, _, rfl, b, _, _, _, rfl, rfl, (same_upd np).seq hb, at_of (j := i) (by omega) (by rw [List.getElem?_map, hsi]; rfl), _, _, rfl, rfl, by omega, p, _, _, rfl, rfl, upd_same, ?_, ?_⟩
        · rw [List.length_map, dg.1, List.length_take]
          exact Nat.lt_of_le_of_lt (Nat.min_le_right _ _) (small1000 hl)
        have hm := fun x : Int => fmod_in x hs.1
        refine ⟨_, ds ++ [((((z * 48271 + 974711 * (0 + (i : Int)) + 12345) % 2147483647) * (((z * 48271 + 974711 * (0 + (i : Int)) + 12345) % 2147483647) / 65537 + 3)) % 2147483629 / 19).fmod sz], _, _, _, _, ?_, ?_, rfl, ?_, dg.snoc hsi (hm _).1 (hm _).2⟩
        · exact Int.emod_nonneg _ (by decide)
        · exact Int.emod_lt_of_pos _ (by decide)
        · rw [upd_upd, List.map_append]
          rfl
      · obtain ⟨z, ds, y3, y4, y6, y7, z0, z1, rfl, rfl, dg⟩ := pv
        rw [List.take_length] at dg
        exact ⟨_, rfl, q _ p ds (same_upd np) np upd_same dg⟩
end
end Own

namespace Own
open PySem PySem.Spec PyProof.Rows L2
/-- an item of a list or of a tuple -/
def rIxB (K : PySem.W.Frag) : R2 := fun x y H Q => ∃ p xs i v, x = .ref p ∧ y = .int i ∧ SqB K H p xs ∧ atI xs i = some v ∧ Q v H
theorem ix_seqB {X : Cx} : IxR X (rIxB X.K) := by
  intro value slice pins s σ H x y v u Q I rx ry h hs
  obtain ⟨p, xs, i, z, rfl, rfl, hB, ha, q⟩ := h
  rcases hB with hB | hB
  · exact ix_list value slice pins s σ H _ _ v u Q I rx ry ⟨p, xs, i, z, rfl, rfl, hB, ha, q⟩ hs
  · exact ix_tup value slice pins s σ H _ _ v u Q I rx ry ⟨p, xs, i, z, rfl, rfl, hB, ha, q⟩ hs
/-- the same data, nested at most so deep: ints, truth values, None, tuples and lists -/
def EqV : Nat → Hp → V → V → Prop
  | 0, _, x, y => (∃ i : Int, x = .int i ∧ y = .int i) ∨ (∃ b : Bool, x = .bl b ∧ y = .bl b) ∨ (x = .non ∧ y = .non) ∨ ∃ z : Str, x = .str z ∧ y = .str z
  | d + 1, H, x, y => EqV d H x y ∨ ∃ (a b : Addr) (vs us : List V), x = .ref a ∧ y = .ref b ∧ ((H a = some (.tup vs) ∧ H b = some (.tup us)) ∨ (H a = some (.lst vs) ∧ H b = some (.lst us))) ∧ vs.length = us.length ∧ us.length ≤ 1000 ∧ ∀ (i : Nat) (x y : V), vs[i]? = some x → us[i]? = some y → EqV d H x y
theorem EqV.up {d : Nat} {H : Hp} {x y : V} (h : EqV d H x y) : EqV (d + 1) H x y := .inl h
theorem EqV.le {d e : Nat} {H : Hp} {x y : V} (h : EqV d H x y) (l : d ≤ e) : EqV e H x y := by
  induction l with
  | refl => exact h
  | step _ ih => exact .inl ih
theorem EqV.int {d : Nat} {H : Hp} (i : Int) : EqV d H (.int i) (.int i) := EqV.le (d := 0) (.inl ⟨i, rfl, rfl⟩) (Nat.zero_le _)
theorem EqV.bl {d : Nat} {H : Hp} (b : Bool) : EqV d H (.bl b) (.bl b) := EqV.le (d := 0) (.inr (.inl ⟨b, rfl, rfl⟩)) (Nat.zero_le _)
theorem EqV.non {d : Nat} {H : Hp} : EqV d H .non .non := EqV.le (d := 0) (.inr (.inr (.inl ⟨rfl, rfl⟩))) (Nat.zero_le _)
theorem EqV.str {d : Nat} {H : Hp} (z : Str) : EqV d H (.str z) (.str z) := EqV.le (d := 0) (.inr (.inr (.inr ⟨z, rfl, rfl⟩))) (Nat.zero_le _)
theorem EqV.cases' {d : Nat} {H : Hp} {x y : V} (h : EqV d H x y) : EqV 0 H x y ∨ ∃ (e : Nat) (a b : Addr) (vs us : List V), e + 1 ≤ d ∧ x = .ref a ∧ y = .ref b ∧ ((H a = some (.tup vs) ∧ H b = some (.tup us)) ∨ (H a = some (.lst vs) ∧ H b = some (.lst us))) ∧ vs.length = us.length ∧ us.length ≤ 1000 ∧ ∀ (i : Nat) (x y : V), vs[i]? = some x → us[i]? = some y → EqV e H x y := by
  induction d with
  | zero => exact .inl h
  | succ d ih =>
    rcases h with h | ⟨a, b, vs, us, h⟩
    · rcases ih h with h | ⟨e, a, b, vs, us, he, h⟩
      · exact .inl h
      · exact .inr ⟨e, a, b, vs, us, Nat.le_succ_of_le he, h⟩
    · exact .inr ⟨d, a, b, vs, us, Nat.le_refl _, h⟩
/-- tuples of ints -/
theorem EqV.ints {H : Hp} {a b : Addr} {ns : List Int} (ha : H a = some (.tup (ns.map V.int))) (hb : H b = some (.tup (ns.map V.int))) (hl : ns.length ≤ 1000) : EqV 1 H (.ref a) (.ref b) := by
  refine .inr ⟨a, b, _, _, rfl, rfl, .inl ⟨ha, hb⟩, rfl, by rw [List.length_map]; exact hl, fun i x y hx hy => ?_⟩
  rw [hx] at hy
  obtain rfl : x = y := Option.some.inj hy
  rw [List.getElem?_map] at hx
  cases e : ns[i]? with
  | none => rw [e] at hx; cases hx
  | some n =>
    rw [e] at hx
    cases hx
    exact EqV.int n
theorem EqV.tr {H : Hp} {a b : Addr} {t : Tr} (ha : H a = some (.tup (tv t))) (hb : H b = some (.tup (tv t))) : EqV 1 H (.ref a) (.ref b) := EqV.ints (ns := [t.1, t.2.1, t.2.2]) ha hb (by show 3 ≤ 1000; decide)
theorem EqV.trip {H : Hp} {a b : Addr} {l : List Tr} (ha : Trip H a l) (hb : Trip H b l) (hl : l.length ≤ 1000) : EqV 2 H (.ref a) (.ref b) := by
  obtain ⟨vs, e1, t1⟩ := ha
  obtain ⟨us, e2, t2⟩ := hb
  refine .inr ⟨a, b, vs, us, rfl, rfl, .inl ⟨e1, e2⟩, by rw [t1.1, t2.1], by rw [t2.1]; exact hl, fun i x y hx hy => ?_⟩
  obtain ⟨p, t, rfl, h1, h2⟩ := t1.at_ hx
  obtain ⟨q, u, rfl, h3, h4⟩ := t2.at_ hy
  rw [h1] at h3
  obtain rfl : t = u := Option.some.inj h3
  exact EqV.tr h2 h4
section
variable {P : Program} {w : World} {K : PySem.W.Frag} {mg : Str → Option Value} {base : Heap} {C : Addr}
def spSame (d : Nat) : Sp := fun vs H Q _ => ∃ x y : V, vs = [x, y] ∧ EqV d H x y ∧ Q (.bl true) H
def spNo : Sp := fun _ _ _ _ => False
theorem fn_no {k : Nat} {f : Addr} {fd : FuncData} {ps : List Str} : FnOk P w K mg base CX0 k f fd ps spNo := ⟨fun _ _ _ _ h => h.elim, fun _ _ _ _ _ _ _ _ _ _ _ _ _ h => h.elim⟩
/-- its body, with any promise for the call within -/
theorem same_body {f : Addr} {fd : FuncData} {k : Nat} {sp : Sp} {d : Nat} (D_s : Df K mg "_law_same" s__law_same ["_law_value", "_law_due"] f fd) (T : Bi mg) {f_w : Addr} {d_w : FuncData} (D_w : Df K mg "_law_whole" s__law_whole ["_law_value"] f_w d_w) (G_w : FnOk P w K mg base CX0 1 f_w d_w ["_law_value"] spWhole)
    (G_s : FnOk P w K mg base CX0 (k + 1) f fd ["_law_value", "_law_due"] sp) (hsp : ∀ e x y H Q, e + 1 ≤ d → EqV e H x y → Q (.bl true) H → sp [x, y] H Q E0) : FnOk P w K mg base CX0 (k + 2) f fd ["_law_value", "_law_due"] (spSame d) := by
  refine D_s.F.ok sc__law_same (fun vs H Q E h => ?_) (fun cdv A outer s H vs Q E hr h => ?_)
  · obtain ⟨x, y, rfl, _⟩ := h
    rfl
  · obtain ⟨x, y, rfl, hxy, q⟩ := h
    refine ⟨_, (pss_cons (ps_if (pt_cmpR op_isN (pv 1) pe_non (nomark _)) (pss_one (ps_ret (pe_cmpR op_isN (pv 0) pe_non (nomark _)))) pss_nil)
        (pss_cons (ps_if (pt_val (pe_callB call_isi (by rfl) T.b_isinstance (by decide +kernel) (pa_cons (pv 1) (pa_cons (pe_bltn (v := .ty "bool") (by rfl) T.b_bool (by decide +kernel) rfl) pa_nil)))) (pss_one (ps_ret (pe_and (pe_callB call_isi (by rfl) T.b_isinstance (by decide +kernel) (pa_cons (pv 0) (pa_cons (pe_bltn (v := .ty "bool") (by rfl) T.b_bool (by decide +kernel) rfl) pa_nil))) (pe_one (pe_cmpR op_eq (pv 0) (pv 1) (nomark _)))))) pss_nil)
        (pss_cons (ps_if (pt_val (pe_callB call_isi (by rfl) T.b_isinstance (by decide +kernel) (pa_cons (pv 1) (pa_cons (pe_bltn (v := .ty "int") (by rfl) T.b_int (by decide +kernel) rfl) pa_nil)))) (pss_one (ps_ret (pe_and (pe_call G_w (hr.mono (by omega)) (by rfl) D_w.g D_w.F.kp D_w.b .nil pass0 (pa_cons (pv 0) pa_nil)) (pe_one (pe_cmpR op_eq (pv 0) (pv 1) (nomark _)))))) pss_nil)
        (pss_cons (ps_if (pt_val (pe_callB call_isi (by rfl) T.b_isinstance (by decide +kernel) (pa_cons (pv 1) (pa_cons (pe_bltn (v := .ty "str") (by rfl) T.b_str (by decide +kernel) rfl) pa_nil)))) (pss_one (ps_ret (pe_and (pe_callB call_isi (by rfl) T.b_isinstance (by decide +kernel) (pa_cons (pv 0) (pa_cons (pe_bltn (v := .ty "str") (by rfl) T.b_str (by decide +kernel) rfl) pa_nil))) (pe_one (pe_cmpR op_eq (pv 0) (pv 1) (nomark _)))))) pss_nil)
        (pss_cons (ps_if (PW.pt (pw_and (pt_val (pe_callB call_isi (by rfl) T.b_isinstance (by decide +kernel) (pa_cons (pv 1) (pa_cons (pe_bltn (v := .ty "list") (by rfl) T.b_list (by decide +kernel) rfl) pa_nil)))) (pw_and1 (pt_not (pt_val (pe_callB call_isi (by rfl) T.b_isinstance (by decide +kernel) (pa_cons (pv 0) (pa_cons (pe_bltn (v := .ty "list") (by rfl) T.b_list (by decide +kernel) rfl) pa_nil)))))))) (pss_one (ps_ret pe_bl)) pss_nil)
        (pss_cons (ps_if (PW.pt (pw_and (pt_val (pe_callB call_isi (by rfl) T.b_isinstance (by decide +kernel) (pa_cons (pv 1) (pa_cons (pe_bltn (v := .ty "tuple") (by rfl) T.b_tuple (by decide +kernel) rfl) pa_nil)))) (pw_and1 (pt_not (pt_val (pe_callB call_isi (by rfl) T.b_isinstance (by decide +kernel) (pa_cons (pv 0) (pa_cons (pe_bltn (v := .ty "tuple") (by rfl) T.b_tuple (by decide +kernel) rfl) pa_nil)))))))) (pss_one (ps_ret pe_bl)) pss_nil)
        (pss_cons (ps_if (pt_cmpR op_ne (pe_callB call_len_seq (by rfl) T.b_len PySem.boot_len (pa_cons (pv 0) pa_nil)) (pe_callB call_len_seq (by rfl) T.b_len PySem.boot_len (pa_cons (pv 1) pa_nil)) (nomark _)) (pss_one (ps_ret pe_bl)) pss_nil)
        (pss_cons (ps_for PassesOwn.never rfl (pi_range1 (by rfl) T.b_range (pa_cons (pe_callB call_len_seq (by rfl) T.b_len PySem.boot_len (pa_cons (pv 1) pa_nil)) pa_nil)) (pg_name (i := 2) sc__law_same.nd rfl (.inl rfl))
        (pss_one (ps_if (pt_not (pt_val (pe_call G_s hr (by rfl) D_s.g D_s.F.kp D_s.b .nil pass0 (pa_cons (pe_ix (r := rIxB K) ix_seqB (pv 0) (pv 2) (fun _ _ => rfl)) (pa_cons (pe_ix (r := rIxB K) ix_seqB (pv 1) (pv 2) (fun _ _ => rfl)) pa_nil))))) (pss_one (ps_ret pe_bl)) pss_nil)))
        (pss_one (ps_ret pe_bl)))))))))), ?_⟩
    rcases hxy.cases' with (⟨i, rfl, rfl⟩ | ⟨b, rfl, rfl⟩ | ⟨rfl, rfl⟩ | ⟨z, rfl, rfl⟩) | ⟨e, a, b, vs, us, hle, rfl, rfl, hab, hlen, hl, hel⟩
    · refine ⟨_, rfl, rfl, _, rfl, ?_⟩
      refine ⟨_, rfl, _, _, _, _, false, rfl, .ty "bool", .base (.int i), kit_ty (by decide +kernel), false, rfl, ?_⟩
      refine ⟨_, rfl, _, _, _, _, true, rfl, .ty "int", .base (.int i), kit_ty (by decide +kernel), true, rfl, ?_⟩
      refine ⟨_, rfl, i, rfl, true, rfl, ?_⟩
      refine ⟨_, rfl, _, rfl, rfl, ?_⟩
      rw [decide_eq_true rfl]
      exact q
    · refine ⟨_, rfl, rfl, _, rfl, ?_⟩
      refine ⟨_, rfl, _, _, _, _, true, rfl, .ty "bool", .base (.bl b), kit_ty (by decide +kernel), true, rfl, ?_⟩
      refine ⟨_, rfl, _, _, _, _, true, rfl, .ty "bool", .base (.bl b), kit_ty (by decide +kernel), true, rfl, ?_⟩
      refine ⟨_, rfl, _, rfl, rfl, ?_⟩
      rw [decide_eq_true rfl]
      exact q
    · refine ⟨_, rfl, rfl, _, rfl, ?_⟩
      exact ⟨_, rfl, rfl, q⟩
    · refine ⟨_, rfl, rfl, _, rfl, ?_⟩
      refine ⟨_, rfl, _, _, _, _, false, rfl, .ty "bool", .base (.str z), kit_ty (by decide +kernel), false, rfl, ?_⟩
      refine ⟨_, rfl, _, _, _, _, false, rfl, .ty "int", .base (.str z), kit_ty (by decide +kernel), false, rfl, ?_⟩
      refine ⟨_, rfl, _, _, _, _, true, rfl, .ty "str", .base (.str z), kit_ty (by decide +kernel), true, rfl, ?_⟩
      refine ⟨_, rfl, _, _, _, _, true, rfl, .ty "str", .base (.str z), kit_ty (by decide +kernel), true, rfl, ?_⟩
      refine ⟨_, rfl, _, rfl, rfl, ?_⟩
      rw [decide_eq_true rfl]
      exact q
    · rcases hab with ⟨ha, hb⟩ | ⟨ha, hb⟩
      · have tA : TyX K H (.ref a) (.type "tuple") := .base (.tup ha)
        have tB : TyX K H (.ref b) (.type "tuple") := .base (.tup hb)
        have qA : SqB K H a vs := .inr (.inl (.inl ha))
        have qB : SqB K H b us := .inr (.inl (.inl hb))
        refine ⟨_, rfl, rfl, _, rfl, ?_⟩
        refine ⟨_, rfl, _, _, _, _, false, rfl, .ty "bool", tB, kit_ty (by decide +kernel), false, rfl, ?_⟩
        refine ⟨_, rfl, _, _, _, _, false, rfl, .ty "int", tB, kit_ty (by decide +kernel), false, rfl, ?_⟩
        refine ⟨_, rfl, _, _, _, _, false, rfl, .ty "str", tB, kit_ty (by decide +kernel), false, rfl, ?_⟩
        refine ⟨_, rfl, _, _, _, _, false, rfl, .ty "list", tB, kit_ty (by decide +kernel), false, rfl, ?_⟩
        refine ⟨_, rfl, _, _, _, _, true, rfl, .ty "tuple", tB, kit_ty (by decide +kernel), true, rfl, ?_⟩
        refine ⟨_, rfl, _, _, _, _, true, rfl, .ty "tuple", tA, kit_ty (by decide +kernel), true, rfl, ?_⟩
        refine ⟨_, rfl, a, _, rfl, qA, _, rfl, b, _, rfl, qB, rfl, _, rfl, ?_⟩
        rw [hlen]
        refine iteNS rfl ?_
        refine ⟨_, rfl, b, _, rfl, qB, _, rfl, by omega, by omega, ?_⟩
        rw [show ((us.length : Int)).toNat = us.length by omega]
        refine for_range (lo := 0) (n := us.length) (fun i σ H' => (∃ y2, σ = [some (.ref a), some (.ref b), y2]) ∧ H' = H) ⟨⟨_, rfl⟩, rfl⟩ (fun i σ H' hi p => ?_) (fun σ H' p => ?_)
        · obtain ⟨⟨y2, rfl⟩, rfl⟩ := p
          have hv : vs[i]? = some vs[i] := List.getElem?_eq_getElem (by omega)
          have hu : us[i]? = some us[i] := List.getElem?_eq_getElem hi
          refine ⟨_, rfl, _, rfl, a, _, _, _, rfl, rfl, qA, at_of (j := i) (by omega) hv, _, rfl, _, rfl, b, _, _, _, rfl, rfl, qB, at_of (j := i) (by omega) hu, ?_⟩
          exact hsp e _ _ _ _ hle (hel i _ _ hv hu) ⟨true, rfl, ⟨_, rfl⟩, rfl⟩
        · obtain ⟨_, rfl⟩ := p
          exact q
      · have tA : TyX K H (.ref a) (.type "list") := .base (.lst ha)
        have tB : TyX K H (.ref b) (.type "list") := .base (.lst hb)
        have qA : SqB K H a vs := .inl (.inl (.inl ha))
        have qB : SqB K H b us := .inl (.inl (.inl hb))
        refine ⟨_, rfl, rfl, _, rfl, ?_⟩
        refine ⟨_, rfl, _, _, _, _, false, rfl, .ty "bool", tB, kit_ty (by decide +kernel), false, rfl, ?_⟩
        refine ⟨_, rfl, _, _, _, _, false, rfl, .ty "int", tB, kit_ty (by decide +kernel), false, rfl, ?_⟩
        refine ⟨_, rfl, _, _, _, _, false, rfl, .ty "str", tB, kit_ty (by decide +kernel), false, rfl, ?_⟩
        refine ⟨_, rfl, _, _, _, _, true, rfl, .ty "list", tB, kit_ty (by decide +kernel), true, rfl, ?_⟩
        refine ⟨_, rfl, _, _, _, _, true, rfl, .ty "list", tA, kit_ty (by decide +kernel), true, rfl, ?_⟩
        refine ⟨_, rfl, _, _, _, _, false, rfl, .ty "tuple", tB, kit_ty (by decide +kernel), false, rfl, ?_⟩
        refine ⟨_, rfl, a, _, rfl, qA, _, rfl, b, _, rfl, qB, rfl, _, rfl, ?_⟩
        rw [hlen]
        refine iteNS rfl ?_
        refine ⟨_, rfl, b, _, rfl, qB, _, rfl, by omega, by omega, ?_⟩
        rw [show ((us.length : Int)).toNat = us.length by omega]
        refine for_range (lo := 0) (n := us.length) (fun i σ H' => (∃ y2, σ = [some (.ref a), some (.ref b), y2]) ∧ H' = H) ⟨⟨_, rfl⟩, rfl⟩ (fun i σ H' hi p => ?_) (fun σ H' p => ?_)
        · obtain ⟨⟨y2, rfl⟩, rfl⟩ := p
          have hv : vs[i]? = some vs[i] := List.getElem?_eq_getElem (by omega)
          have hu : us[i]? = some us[i] := List.getElem?_eq_getElem hi
          refine ⟨_, rfl, _, rfl, a, _, _, _, rfl, rfl, qA, at_of (j := i) (by omega) hv, _, rfl, _, rfl, b, _, _, _, rfl, rfl, qB, at_of (j := i) (by omega) hu, ?_⟩
          exact hsp e _ _ _ _ hle (hel i _ _ hv hu) ⟨true, rfl, ⟨_, rfl⟩, rfl⟩
        · obtain ⟨_, rfl⟩ := p
          exact q
theorem ok_same {f : Addr} {fd : FuncData} (D_s : Df K mg "_law_same" s__law_same ["_law_value", "_law_due"] f fd) (T : Bi mg) {f_w : Addr} {d_w : FuncData} (D_w : Df K mg "_law_whole" s__law_whole ["_law_value"] f_w d_w) (G_w : FnOk P w K mg base CX0 1 f_w d_w ["_law_value"] spWhole) :
    ∀ d : Nat, FnOk P w K mg base CX0 (d + 2) f fd ["_law_value", "_law_due"] (spSame d)
  | 0 => same_body (k := 0) D_s T D_w G_w (sp := spNo) fn_no fun e x y H Q h => absurd h (by omega)
  | d + 1 => same_body (k := d + 1) D_s T D_w G_w (ok_same D_s T D_w G_w d) fun e x y H Q h h1 q => ⟨x, y, rfl, h1.le (by omega), q⟩
/-! ### drawn pins -/
def spPins (K : PySem.W.Frag) : Sp := fun vs H Q _ => ∃ c : Int, vs = [.int c] ∧ ∀ H' n, Same H H' → 0 ≤ n → n ≤ 40 → Q (.int n) H'
theorem ok_pins {f : Addr} {fd : FuncData} (F : Fun K "_law_pins" "_law_pins" s__law_pins f fd) (T : Bi mg) {f_d : Addr} {d_d : FuncData} (D_d : Df K mg "_law_digits" s__law_digits ["_law_cell_here", "_law_sizes"] f_d d_d) (G_d : FnOk P w K mg base CX0 1 f_d d_d ["_law_cell_here", "_law_sizes"] (spDigs K)) : FnOk P w K mg base CX0 2 f fd ["_law_cell_here"] (spPins K) := by
  refine F.ok sc__law_pins (fun vs H Q E h => ?_) (fun cdv A outer s H vs Q E hr h => ?_)
  · obtain ⟨c, rfl, _⟩ := h
    rfl
  · obtain ⟨c, rfl, q⟩ := h
    refine ⟨_, (pss_cons (ps_set (i := 1) sc__law_pins.nd rfl (.inl rfl) (pe_call G_d hr (by rfl) D_d.g D_d.F.kp D_d.b .nil pass0 (pa_cons (pv 0) (pa_cons (pe_lst (pa_cons pe_int (pa_cons pe_int (pa_cons pe_int pa_nil)))) pa_nil))))
        (pss_cons (ps_if (pt_cmpR op_lt (pe_ix (r := rIxL K) ix_list (pv 1) pe_int (fun _ _ => rfl)) pe_int (nomark _)) (pss_one (ps_ret (pe_op op_add pe_int (pe_op op_mod (pe_callTy call_int1 (by rfl) T.b_int (by decide +kernel) (pa_cons (pe_ix (r := rIxL K) ix_list (pv 1) pe_int (fun _ _ => rfl)) pa_nil)) pe_int)))) pss_nil)
        (pss_cons (ps_if (pt_cmpR op_eq (pe_ix (r := rIxL K) ix_list (pv 1) pe_int (fun _ _ => rfl)) pe_int (nomark _)) (pss_one (ps_ret (pe_op op_mod (pe_callTy call_int1 (by rfl) T.b_int (by decide +kernel) (pa_cons (pe_ix (r := rIxL K) ix_list (pv 1) pe_int (fun _ _ => rfl)) pa_nil)) pe_int))) pss_nil)
        (pss_one (ps_ret (pe_ix (r := rIxL K) ix_list (pv 1) pe_int (fun _ _ => rfl))))))), ?_⟩
    refine ⟨_, rfl, by show 3 ≤ sizeLine; decide, fun b nb => ⟨c, b, [8, 30, 41], rfl, .inl (.inl upd_same), by decide, by decide, fun H1 p ds s1 np ep dg => ?_⟩⟩
    have sm : Same H H1 := (same_upd nb).trans s1
    obtain ⟨x0, x1, x2, rfl⟩ : ∃ x0 x1 x2, ds = [x0, x1, x2] := by
      have hl := dg.1
      match ds, hl with
      | [x0, x1, x2], _ => exact ⟨x0, x1, x2, rfl⟩
    have b0 := dg.2 0 x0 8 rfl rfl
    have b1 := dg.2 1 x1 30 rfl rfl
    have b2 := dg.2 2 x2 41 rfl rfl
    have hS : SqL K H1 p [.int x0, .int x1, .int x2] := .inl (.inl ep)
    have a0 : atI [V.int x0, .int x1, .int x2] 0 = some (.int x0) := atI_nat (j := 0) rfl
    have a1 : atI [V.int x0, .int x1, .int x2] 1 = some (.int x1) := atI_nat (j := 1) rfl
    have a2 : atI [V.int x0, .int x1, .int x2] 2 = some (.int x2) := atI_nat (j := 2) rfl
    have m5 := Int.emod_nonneg x1 (show (5 : Int) ≠ 0 by decide)
    have m5' := Int.emod_lt_of_pos x1 (show (0 : Int) < 5 by decide)
    have m2 := Int.emod_nonneg x1 (show (2 : Int) ≠ 0 by decide)
    have m2' := Int.emod_lt_of_pos x1 (show (0 : Int) < 2 by decide)
    refine ⟨_, rfl, p, _, 0, _, rfl, rfl, hS, a0, x0, 6, rfl, rfl, _, rfl, ite2 (fun e => ?_) (fun e => ?_)⟩
    · refine ⟨_, rfl, p, _, 1, _, rfl, rfl, hS, a1, .inl ⟨_, rfl, _, _, rfl, rfl, by show (0 : Int) < 5; decide, _, _, rfl, rfl, q H1 _ sm (by omega) (by omega)⟩⟩
    · refine ⟨_, rfl, p, _, 0, _, rfl, rfl, hS, a0, rfl, _, rfl, ite2 (fun e2 => ?_) (fun e2 => ?_)⟩
      · exact ⟨_, rfl, p, _, 1, _, rfl, rfl, hS, a1, .inl ⟨_, rfl, _, _, rfl, rfl, by show (0 : Int) < 2; decide, q H1 _ sm (by omega) (by omega)⟩⟩
      · exact ⟨_, rfl, p, _, 2, _, rfl, rfl, hS, a2, q H1 _ sm (by omega) (by omega)⟩
end
end Own

namespace Own
open PySem PySem.Spec PyProof.Rows L2
/-- a list of pairs, each a tuple -/
def PairsV (H : Hp) (bs : List Addr) (ps : List (Int × Int)) : Prop := bs.length = ps.length ∧ ∀ (i : Nat) (b : Addr) (p : Int × Int), bs[i]? = some b → ps[i]? = some p → H b = some (.tup [.int p.1, .int p.2])
theorem PairsV.sameT {H H' : Hp} {bs : List Addr} {ps : List (Int × Int)} (s : SameT H H') (h : PairsV H bs ps) : PairsV H' bs ps := ⟨h.1, fun i b p e1 e2 => s _ _ (h.2 i b p e1 e2)⟩
theorem PairsV.snoc {H : Hp} {bs : List Addr} {ps : List (Int × Int)} {b : Addr} {p : Int × Int} (h : PairsV H bs ps) (e : H b = some (.tup [.int p.1, .int p.2])) : PairsV H (bs ++ [b]) (ps ++ [p]) := by
  refine ⟨by rw [List.length_append, List.length_append, h.1]; rfl, fun i c q h1 h2 => ?_⟩
  by_cases hi : i < bs.length
  · rw [List.getElem?_append_left hi] at h1
    rw [List.getElem?_append_left (by rw [← h.1]; exact hi)] at h2
    exact h.2 i c q h1 h2
  · rw [List.getElem?_append_right (by omega)] at h1
    rw [List.getElem?_append_right (by rw [← h.1]; omega), ← h.1] at h2
    have hk : i - bs.length = 0 := by
      cases hk : i - bs.length with
      | zero => rfl
      | succ k =>
        rw [hk] at h1
        simp at h1
    rw [hk] at h1 h2
    obtain rfl : b = c := Option.some.inj h1
    obtain rfl : p = q := Option.some.inj h2
    exact e
theorem PairsV.at_ {H : Hp} {bs : List Addr} {ps : List (Int × Int)} (h : PairsV H bs ps) {b : Addr} (m : b ∈ bs) : ∃ p ∈ ps, H b = some (.tup [.int p.1, .int p.2]) := by
  obtain ⟨i, hi, e⟩ := List.mem_iff_getElem.mp m
  have hp : i < ps.length := by
    rw [← h.1]
    exact hi
  exact ⟨ps[i], List.getElem_mem hp, h.2 i b ps[i] (by rw [List.getElem?_eq_getElem hi, e]) (List.getElem?_eq_getElem hp)⟩
/-- as data -/
def pd (p : Int × Int) : PyData := .tuple [.int p.1, .int p.2]
theorem PairsV.dp {K : PySem.W.Frag} {H : Hp} : ∀ {bs : List Addr} {ps : List (Int × Int)}, PairsV H bs ps → DpAll K H (bs.map V.ref) (ps.map pd)
  | [], [], _ => .nil
  | [], _ :: _, h => by have := h.1; simp at this
  | _ :: _, [], h => by have := h.1; simp at this
  | b :: bs, p :: ps, h => .cons (.tup (.inl (.inl (h.2 0 b p rfl rfl))) (.cons (.int _) (.cons (.int _) .nil))) (PairsV.dp ⟨by have := h.1; simpa using this, fun i c q h1 h2 => h.2 (i + 1) c q h1 h2⟩)
theorem pd_eqv (p q : Int × Int) : PyData.eqv (pd p) (pd q) = decide (p = q) := by
  unfold pd
  simp only [PyData.eqv, PyData.eqvAll, Bool.and_true]
  by_cases h : p = q
  · subst h
    simp
  · rw [decide_eq_false h]
    by_cases h1 : p.1 = q.1
    · have h2 : ¬ p.2 = q.2 := fun z => h (Prod.ext h1 z)
      simp [h1, h2]
    · simp [h1]
theorem any_pd (p : Int × Int) (ps : List (Int × Int)) : ((ps.map pd).any fun z => PyData.eqv z (pd p)) = decide (p ∈ ps) := by
  rw [List.any_map]
  induction ps with
  | nil => rfl
  | cons q r ih =>
    rw [List.any_cons, ih]
    show (PyData.eqv (pd q) (pd p) || decide (p ∈ r)) = _
    rw [pd_eqv]
    by_cases h : q = p
    · subst h
      simp
    · have h2 : ¬ p = q := fun z => h z.symm
      simp [h, h2]
theorem shaped_pd (p : Int × Int) : SeqAt.shaped (pd p) = true := by
  unfold SeqAt.shaped pd
  simp [PyData.canLay0, PyData.canLayAll0, PyData.depth, PyData.depthAll]
theorem lay_pds : ∀ ps : List (Int × Int), PyData.canLayAll0 (ps.map pd) = true ∧ PyData.depthAll (ps.map pd) ≤ 1
  | [] => ⟨rfl, Nat.zero_le _⟩
  | p :: r => by
    obtain ⟨h1, h2⟩ := lay_pds r
    refine ⟨?_, ?_⟩
    · show (PyData.canLay0 (pd p) && PyData.canLayAll0 (r.map pd)) = true
      rw [h1]
      rfl
    · show max (PyData.depth (pd p)) (PyData.depthAll (r.map pd)) ≤ 1
      have : PyData.depth (pd p) = 1 := rfl
      omega
theorem shaped_pds (ps : List (Int × Int)) : SeqAt.shaped (.list (ps.map pd)) = true := by
  obtain ⟨h1, h2⟩ := lay_pds ps
  unfold SeqAt.shaped
  have e1 : PyData.canLay0 (.list (ps.map pd)) = true := h1
  have e2 : PyData.depth (.list (ps.map pd)) ≤ 64 := by
    show PyData.depthAll (ps.map pd) + 1 ≤ 64
    omega
  rw [e1, decide_eq_true e2]
  rfl
section
variable {P : Program} {w : World} {K : PySem.W.Frag} {mg : Str → Option Value} {base : Heap} {C : Addr}
def pos (l : List Tr) : List Tr := l.filter fun t => decide (0 < t.2.2)
theorem pos_snoc (l : List Tr) (t : Tr) : pos (l ++ [t]) = if 0 < t.2.2 then pos l ++ [t] else pos l := by
  unfold pos
  rw [List.filter_append]
  by_cases h : 0 < t.2.2
  · rw [if_pos h, List.filter_cons, if_pos (decide_eq_true h)]
    rfl
  · rw [if_neg h, List.filter_cons, if_neg (by rw [decide_eq_false h]; decide)]
    exact List.append_nil _
theorem pos_all {l : List Tr} (h : ∀ t ∈ l, 1 ≤ t.2.2) : pos l = l := List.filter_eq_self.mpr fun t ht => decide_eq_true (by have := h t ht; omega)
/-- as IsNorm, entries without cords left out -/
structure GN (l r : List Tr) : Prop where
  srt : (r.map pr).Pairwise Lex
  mem : ∀ p, p ∈ r.map pr ↔ p ∈ (pos l).map ky
  cnt : ∀ e ∈ r, e.2.2 = tot (pr e) l
theorem GN.norm {l r : List Tr} (h : GN l r) (v : ∀ t ∈ l, 1 ≤ t.2.2) : IsNorm l r := ⟨h.srt, fun p => by rw [h.mem, pos_all v], h.cnt⟩
def spNorm (K : PySem.W.Frag) : Sp := fun vs H Q _ => ∃ (a : Addr) (xs : List V) (l : List Tr), vs = [.ref a] ∧ SqB K H a xs ∧ TrV H xs l ∧ l.length ≤ 1000 ∧ ∀ H' c r, Same H H' → Trip H' c r → GN l r → Q (.ref c) H'
theorem ok_norm {f : Addr} {fd : FuncData} (F : Fun K "_law_norm" "_law_norm" s__law_norm f fd) (T : Bi mg) : FnOk P w K mg base CX0 1 f fd ["_law_triples"] (spNorm K) := by
  refine F.ok sc__law_norm (fun vs H Q E h => ?_) (fun cdv A outer s H vs Q E hr h => ?_)
  · obtain ⟨a, xs, l, rfl, _⟩ := h
    rfl
  · obtain ⟨a, xs, l, rfl, hB, hx, hl, q⟩ := h
    have hu65 : (A.deeper (envOfC "_law_norm" (defScope s__law_norm) s.heap.objs.size f cdv)).units + 65 < cLine := by
      have := hr.un
      omega
    refine ⟨_, (pss_cons (ps_set (i := 1) sc__law_norm.nd rfl (.inl rfl) (pe_lst pa_nil))
        (pss_cons (ps_for PassesOwn.never rfl (pi_seq (pv 0)) (pg_name (i := 2) sc__law_norm.nd rfl (.inl rfl))
        (pss_cons (ps_set (i := 5) sc__law_norm.nd rfl (.inl rfl) (pe_callB (call_min2 rfl) (by rfl) T.b_min (by decide +kernel) (pa_cons (pe_ix (r := rIxT K) ix_tup (pv 2) pe_int (fun _ _ => rfl)) (pa_cons (pe_ix (r := rIxT K) ix_tup (pv 2) pe_int (fun _ _ => rfl)) pa_nil))))
        (pss_cons (ps_set (i := 6) sc__law_norm.nd rfl (.inl rfl) (pe_callB (call_max2 rfl) (by rfl) T.b_max (by decide +kernel) (pa_cons (pe_ix (r := rIxT K) ix_tup (pv 2) pe_int (fun _ _ => rfl)) (pa_cons (pe_ix (r := rIxT K) ix_tup (pv 2) pe_int (fun _ _ => rfl)) pa_nil))))
        (pss_one (ps_if (PW.pt (pw_and (pt_cmpR op_gt (pe_ix (r := rIxT K) ix_tup (pv 2) pe_int (fun _ _ => rfl)) pe_int (nomark _)) (pw_and1 (pt_cmpR (op_notInD hu65) (pe_tup (pa_cons (pv 5) (pa_cons (pv 6) pa_nil))) (pv 1) (by rfl))))) (pss_one (ps_expr (pe_bm PySem.F.plainAttrs_list PySem.F.slot_list_append PySem.F.type_list_append mt_append (pv 1) (pa_cons (pe_tup (pa_cons (pv 5) (pa_cons (pv 6) pa_nil))) pa_nil)))) pss_nil)))))
        (pss_cons (ps_set (i := 3) sc__law_norm.nd rfl (.inl rfl) (pe_lst pa_nil))
        (pss_cons (ps_for PassesOwn.never rfl (pi_list (pe_callB cr_sortedPO (by rfl) T.b_sorted (by decide +kernel) (pa_cons (pv 1) pa_nil))) (pg_name (i := 4) sc__law_norm.nd rfl (.inl rfl))
        (pss_cons (ps_set (i := 7) sc__law_norm.nd rfl (.inl rfl) pe_int)
        (pss_cons (ps_for PassesOwn.never rfl (pi_seq (pv 0)) (pg_name (i := 2) sc__law_norm.nd rfl (.inl rfl))
        (pss_one (ps_if (PW.pt (pw_and (pt_cmpR op_eq (pe_callB (call_min2 rfl) (by rfl) T.b_min (by decide +kernel) (pa_cons (pe_ix (r := rIxT K) ix_tup (pv 2) pe_int (fun _ _ => rfl)) (pa_cons (pe_ix (r := rIxT K) ix_tup (pv 2) pe_int (fun _ _ => rfl)) pa_nil))) (pe_ix (r := rIxT K) ix_tup (pv 4) pe_int (fun _ _ => rfl)) (nomark _)) (pw_and1 (pt_cmpR op_eq (pe_callB (call_max2 rfl) (by rfl) T.b_max (by decide +kernel) (pa_cons (pe_ix (r := rIxT K) ix_tup (pv 2) pe_int (fun _ _ => rfl)) (pa_cons (pe_ix (r := rIxT K) ix_tup (pv 2) pe_int (fun _ _ => rfl)) pa_nil))) (pe_ix (r := rIxT K) ix_tup (pv 4) pe_int (fun _ _ => rfl)) (nomark _))))) (pss_one (ps_set (i := 7) sc__law_norm.nd rfl (.inl rfl) (pe_op op_add (pv 7) (pe_ix (r := rIxT K) ix_tup (pv 2) pe_int (fun _ _ => rfl))))) pss_nil)))
        (pss_one (ps_expr (pe_bm PySem.F.plainAttrs_list PySem.F.slot_list_append PySem.F.type_list_append mt_append (pv 3) (pa_cons (pe_tup (pa_cons (pe_ix (r := rIxT K) ix_tup (pv 4) pe_int (fun _ _ => rfl)) (pa_cons (pe_ix (r := rIxT K) ix_tup (pv 4) pe_int (fun _ _ => rfl)) (pa_cons (pv 7) pa_nil)))) pa_nil)))))))
        (pss_one (ps_ret (pe_callTy call_tuple_of (by rfl) T.b_tuple (by decide +kernel) (pa_cons (pv 3) pa_nil)))))))), ?_⟩
    refine ⟨Nat.zero_le _, fun p np => ?_⟩
    have sp : Same H (upd H p (.lst [])) := same_upd np
    refine ⟨_, rfl, a, rfl, for_same (Hb := H) hB (fun i σ H' => ∃ (bs : List Addr) (ps : List (Int × Int)) (y2 y5 y6 : Option V), σ = [some (.ref a), some (.ref p), y2, none, none, y5, y6, none] ∧ H' p = some (.lst (bs.map V.ref)) ∧ PairsV H' bs ps ∧ ps.Nodup ∧ (∀ x, x ∈ ps ↔ x ∈ (pos (l.take i)).map ky) ∧ Same H H' ∧ ps.length ≤ i) ⟨[], [], none, none, none, rfl, upd_same, ⟨rfl, fun i b q h => by simp at h⟩, List.nodup_nil, fun x => by simp [pos], sp, Nat.le_refl _⟩ (fun i σ' H' pv => by obtain ⟨_, _, _, _, _, _, _, _, _, _, s, _⟩ := pv; exact s) (fun i x σ H' hxi pv => ?_) (fun σ H' pv => ?_)⟩
    · obtain ⟨bs, ps, y2, y5, y6, rfl, ep, pV, hnd, hmem, sm, hlen⟩ := pv
      obtain ⟨b, t, rfl, hti, hb⟩ := (hx.same sm).at_ hxi
      have hil : i < l.length := (List.getElem?_eq_some_iff.mp hti).1
      have etk : l.take (i + 1) = l.take i ++ [t] := by rw [List.take_add_one, hti]; rfl
      have qb : SqT K H' b (tv t) := .inl (.inl hb)
      have i0 : atI (tv t) 0 = some (.int t.1) := atI_nat (j := 0) rfl
      have i1 : atI (tv t) 1 = some (.int t.2.1) := atI_nat (j := 1) rfl
      have i2 : atI (tv t) 2 = some (.int t.2.2) := atI_nat (j := 2) rfl
      refine ⟨_, rfl, b, _, 0, _, rfl, rfl, qb, i0, _, rfl, b, _, 1, _, rfl, rfl, qb, i1, _, _, rfl, ?_⟩
      refine ⟨_, rfl, b, _, 0, _, rfl, rfl, qb, i0, _, rfl, b, _, 1, _, rfl, rfl, qb, i1, _, _, rfl, ?_⟩
      refine ⟨_, rfl, b, _, 2, _, rfl, rfl, qb, i2, _, _, rfl, rfl, _, rfl, ?_⟩
      by_cases hv : 0 < t.2.2
      · rw [decide_eq_true hv]
        refine ⟨_, rfl, _, rfl, by show 2 ≤ sizeLine; decide, fun u nu => ?_⟩
        have su : Same H' (upd H' u (.tup [.int (lo t.1 t.2.1), .int (hi t.1 t.2.1)])) := same_upd nu
        have pV1 := pV.sameT fun b o h => su _ _ h
        have ep1 := su _ _ ep
        refine ⟨_, rfl, pd (ky t), ps.map pd, .tup (.inl (.inl upd_same)) (.cons (.int _) (.cons (.int _) .nil)), .lst (.inl (.inl ep1)) pV1.dp, shaped_pd _, shaped_pds _, _, rfl, ?_⟩
        rw [any_pd]
        by_cases hk : ky t ∈ ps
        · rw [decide_eq_true hk]
          refine ⟨bs, ps, _, _, _, rfl, ep1, pV1, hnd, fun x => ?_, sm.trans su, by omega⟩
          rw [etk, pos_snoc, if_pos hv, List.map_append, List.mem_append, ← hmem]
          constructor
          · exact .inl
          · rintro (h | h)
            · exact h
            · rw [List.mem_singleton.mp h]
              exact hk
        · rw [decide_eq_false hk]
          refine ⟨_, rfl, .inl ⟨rfl, _, .inl (.inl ep1)⟩, _, rfl, _, rfl, by show 2 ≤ sizeLine; decide, fun v nv => ?_⟩
          have sv := same_upd (o := .tup [.int (lo t.1 t.2.1), .int (hi t.1 t.2.1)]) nv
          have ep2 := sv _ _ ep1
          refine ⟨p, _, _, rfl, rfl, ep2, ?_, ?_⟩
          · rw [List.length_map, pV.1]
            exact small1000 (by omega)
          have nvp : v ≠ p := fun z => by
            rw [z] at nv
            exact nomatch (ep1.symm.trans nv)
          refine ⟨bs ++ [v], ps ++ [ky t], _, _, _, rfl, ?_, ?_, ?_, fun x => ?_, same_put (H1 := H) np ((sm.trans su).trans sv), ?_⟩
          · rw [upd_same, List.map_append]
            rfl
          · refine (pV1.sameT (sameT_put ep1 sv)).snoc ?_
            rw [upd_ne nvp, upd_same]
            rfl
          · exact List.nodup_append.mpr ⟨hnd, by simp, fun x hx2 y hy z => hk (by rw [List.mem_singleton.mp hy] at z; rw [← z]; exact hx2)⟩
          · rw [etk, pos_snoc, if_pos hv, List.map_append, List.mem_append, List.mem_append, ← hmem]
            exact Iff.rfl
          · rw [List.length_append]
            show ps.length + 1 ≤ i + 1
            omega
      · rw [decide_eq_false hv]
        refine ⟨bs, ps, _, _, _, rfl, ep, pV, hnd, fun x => ?_, sm, by omega⟩
        rw [etk, pos_snoc, if_neg hv]
        exact hmem x
    · obtain ⟨bs, ps, y2, y5, y6, rfl, ep, pV, hnd, hmem, sm, hlen⟩ := pv
      rw [hx.1] at hlen
      rw [hx.1, List.take_length] at hmem
      refine ⟨Nat.zero_le _, fun rw_ nrw => ?_⟩
      have s1 : Same H' (upd H' rw_ (.lst [])) := same_upd nrw
      have pV1 := pV.sameT fun b o h => s1 _ _ h
      refine ⟨_, rfl, p, _, kOf (upd H' rw_ (.lst [])), rfl, .inl (.inl (s1 _ _ ep)), fun x hx2 => ?_, fun ys p0 hsrt hstb np0 => ?_⟩
      · obtain ⟨b, hb, rfl⟩ := List.mem_map.mp hx2
        obtain ⟨pp, _, hp⟩ := pV1.at_ hb
        exact ⟨b, rfl, by rw [kOf_at hp]; exact hp⟩
      generalize hH1 : upd H' rw_ (.lst []) = H1 at s1 pV1 hsrt hstb np0
      have erw : H1 rw_ = some (.lst []) := by rw [← hH1]; exact upd_same
      have hks : (bs.map V.ref).map (kOf H1) = ps := by
        apply List.ext_getElem
        · rw [List.length_map, List.length_map]
          exact pV1.1
        · intro j h1 h2
          rw [List.getElem_map, List.getElem_map]
          rw [List.length_map, List.length_map] at h1
          exact kOf_at (pV1.2 j bs[j] ps[j] (List.getElem?_eq_getElem h1) (List.getElem?_eq_getElem h2))
      have hperm : (ys.map (kOf H1)).Perm ps := by
        have := hstb.perm.map (kOf H1)
        rw [hks] at this
        exact this
      have hall : ∀ y ∈ ys, ∃ b, y = .ref b ∧ H1 b = some (.tup [.int (kOf H1 y).1, .int (kOf H1 y).2]) := fun y hy => by
        obtain ⟨b, hb, rfl⟩ := List.mem_map.mp (hstb.perm.mem_iff.mp hy)
        obtain ⟨pp, _, hp⟩ := pV1.at_ hb
        exact ⟨b, rfl, by rw [kOf_at hp]; exact hp⟩
      have hlex : (ys.map (kOf H1)).Pairwise Lex := sorted_lex (hperm.nodup_iff.mpr hnd) (SrtO.srtd_map (lt := SrtO.lexB) (f := kOf H1) hsrt)
      have hN : GN l ((ys.map (kOf H1)).map fun p => (p.1, p.2, tot p l)) := by
        have e1 : (((ys.map (kOf H1)).map fun p => ((p.1, p.2, tot p l) : Tr))).map pr = ys.map (kOf H1) := by
          rw [List.map_map]
          exact List.map_id' _
        refine ⟨by rw [e1]; exact hlex, fun x => by rw [e1, hperm.mem_iff]; exact hmem x, fun e he => ?_⟩
        obtain ⟨x, _, rfl⟩ := List.mem_map.mp he
        rfl
      have hylen : ys.length ≤ 1000 := by
        have h1 := hperm.length_eq
        rw [List.length_map] at h1
        omega
      generalize hr0 : ((ys.map (kOf H1)).map fun p => ((p.1, p.2, tot p l) : Tr)) = r at hN
      have hrl : r.length = ys.length := by rw [← hr0, List.length_map, List.length_map]
      have s0 : Same H1 (upd H1 p0 (.lst ys)) := same_upd np0
      have n0rw : p0 ≠ rw_ := fun z => by
        rw [z, erw] at np0
        cases np0
      have nrwH : H rw_ = none := sm.free nrw
      refine ⟨p0, rfl, ⟨_, .inl (.inl upd_same)⟩, for_list (xs := ys) (fun j σ H2 => ∃ (vs : List V) (y2 y4 y5 y6 y7 : Option V), σ = [some (.ref a), some (.ref p), y2, some (.ref rw_), y4, y5, y6, y7] ∧ Same H H2 ∧ SameT H1 H2 ∧ H2 p0 = some (.lst ys) ∧ H2 rw_ = some (.lst vs) ∧ TrV H2 vs (r.take j)) ⟨[], _, _, _, _, _, rfl, ?_, fun b o h => s0 _ _ h, upd_same, s0 _ _ erw, TrV.nil⟩ (fun j σ H2 _ pv => by obtain ⟨_, _, _, _, _, _, _, _, _, e, _⟩ := pv; exact .inl (.inl e)) (fun j x σ H2 hxj pv => ?_) (fun σ H2 pv => ?_)⟩
      · exact (sm.trans s1).trans s0
      · obtain ⟨vs, y2, y4, y5, y6, y7, rfl, sH, sT, e0, eR, tV⟩ := pv
        obtain ⟨b, rfl, hb⟩ := hall x (List.mem_of_getElem? hxj)
        have hjl : j < ys.length := (List.getElem?_eq_some_iff.mp hxj).1
        generalize hp : kOf H1 (.ref b) = pq at hb
        have hb2 : SqT K H2 b [.int pq.1, .int pq.2] := .inl (.inl (sT _ _ hb))
        have j0 : atI [V.int pq.1, .int pq.2] 0 = some (.int pq.1) := atI_nat (j := 0) rfl
        have j1 : atI [V.int pq.1, .int pq.2] 1 = some (.int pq.2) := atI_nat (j := 1) rfl
        have hrj : r[j]? = some (pq.1, pq.2, tot pq l) := by
          rw [← hr0, List.getElem?_map, List.getElem?_map, hxj, ← hp]
          rfl
        refine ⟨_, rfl, a, rfl, for_same (Hb := H) hB (fun i σ H3 => (∃ y2, σ = [some (.ref a), some (.ref p), y2, some (.ref rw_), some (.ref b), y5, y6, some (.int (tot pq (l.take i)))]) ∧ H3 = H2) ⟨⟨y2, rfl⟩, rfl⟩ (fun i σ' H3 pv => by rw [pv.2]; exact sH) (fun i x σ H3 hxi pv => ?_) (fun σ H3 pv => ?_)⟩
        · obtain ⟨⟨y2, rfl⟩, rfl⟩ := pv
          obtain ⟨u, t, rfl, hti, hu⟩ := (hx.same sH).at_ hxi
          have qb : SqT K H3 u (tv t) := .inl (.inl hu)
          have i0 : atI (tv t) 0 = some (.int t.1) := atI_nat (j := 0) rfl
          have i1 : atI (tv t) 1 = some (.int t.2.1) := atI_nat (j := 1) rfl
          have i2 : atI (tv t) 2 = some (.int t.2.2) := atI_nat (j := 2) rfl
          have et : tot pq (l.take (i + 1)) = tot pq (l.take i) + (if ky t = pq then t.2.2 else 0) := by
            rw [List.take_add_one, hti]
            exact tot_snoc pq (l.take i) t
          refine ⟨_, rfl, u, _, 0, _, rfl, rfl, qb, i0, _, rfl, u, _, 1, _, rfl, rfl, qb, i1, _, _, rfl, ?_⟩
          refine ⟨_, rfl, b, _, 0, _, rfl, rfl, hb2, j0, rfl, _, rfl, ite2 (fun e1 => ?_) (fun e1 => ?_)⟩
          · have f1 : lo t.1 t.2.1 = pq.1 := V.int.inj (of_decide_eq_true e1)
            refine ⟨_, rfl, u, _, 0, _, rfl, rfl, qb, i0, _, rfl, u, _, 1, _, rfl, rfl, qb, i1, _, _, rfl, ?_⟩
            refine ⟨_, rfl, b, _, 1, _, rfl, rfl, hb2, j1, rfl, _, rfl, ite2 (fun e2 => ?_) (fun e2 => ?_)⟩
            · have f2 : hi t.1 t.2.1 = pq.2 := V.int.inj (of_decide_eq_true e2)
              refine ⟨_, rfl, _, rfl, u, _, 2, _, rfl, rfl, qb, i2, _, _, rfl, rfl, ⟨some (.ref u), ?_⟩, rfl⟩
              rw [et, if_pos (show ky t = pq from Prod.ext f1 f2)]
              rfl
            · have f2 : ¬ hi t.1 t.2.1 = pq.2 := fun z => e2 (decide_eq_true (congrArg V.int z))
              refine ⟨⟨some (.ref u), ?_⟩, rfl⟩
              rw [et, if_neg (fun z : ky t = pq => f2 (congrArg Prod.snd z)), Int.add_zero]
              rfl
          · have f1 : ¬ lo t.1 t.2.1 = pq.1 := fun z => e1 (decide_eq_true (congrArg V.int z))
            refine ⟨⟨some (.ref u), ?_⟩, rfl⟩
            rw [et, if_neg (fun z : ky t = pq => f1 (congrArg Prod.fst z)), Int.add_zero]
            rfl
        · obtain ⟨⟨y2, rfl⟩, rfl⟩ := pv
          rw [hx.1, List.take_length]
          refine ⟨_, rfl, .inl ⟨rfl, _, .inl (.inl eR)⟩, _, rfl, b, _, 0, _, rfl, rfl, hb2, j0, _, rfl, b, _, 1, _, rfl, rfl, hb2, j1, _, rfl, by show 3 ≤ sizeLine; decide, fun u nu => ?_⟩
          have su := same_upd (o := .tup [.int pq.1, .int pq.2, .int (tot pq l)]) nu
          refine ⟨rw_, _, _, rfl, rfl, su _ _ eR, ?_, ?_⟩
          · rw [tV.1, List.length_take]
            exact Nat.lt_of_le_of_lt (Nat.min_le_right _ _) (small1000 (by omega))
          have nur : u ≠ rw_ := fun z => by
            rw [z, eR] at nu
            cases nu
          refine ⟨_, _, _, _, _, _, rfl, same_put (H1 := H) nrwH (sH.trans su), fun c o h => ?_, ?_, upd_same, ?_⟩
          · exact sameT_put (H := H3) eR su _ _ (sT _ _ h)
          · rw [upd_ne n0rw]
            exact su _ _ e0
          · rw [List.take_add_one, hrj]
            refine (tV.sameT (sameT_put eR su)).snoc ?_
            rw [upd_ne nur, upd_same]
      · obtain ⟨vs, y2, y4, y5, y6, y7, rfl, sH, sT, e0, eR, tV⟩ := pv
        rw [← hrl, List.take_length] at tV
        refine ⟨_, rfl, rw_, _, rfl, .inl ⟨.inl (.inl eR), fun c nc => ?_⟩⟩
        exact q _ c r (sH.trans (same_upd nc)) ⟨vs, upd_same, tV.same (same_upd nc)⟩ hN
end
end Own

/-! An own error class whose __init__ begins with super().__init__(text) and then stores its fields. -/
namespace Own
open PySem PySem.Spec PyProof.Rows L2 NdefX
abbrev supS (p0 p1 p2 p3 p4 : Pos) (e : Expr) (es : List Expr) : Stmt := .Expr (.Call (.Attribute (.Call (.Name "super" p0) [] [] p1) "__init__" p2) (e :: es) [] p3) p4
abbrev supF (name qual : Str) (params : Arguments) (body : List Stmt) (scope : Scope) (cc cda : Addr) : NF := ⟨name, qual, params, body, scope, [("__class__", cc)], cda⟩
section
variable {CX : CXT} {P : Program} {w : World} {K : PySem.W.Frag} {mg : Str → Option Value} {base : Heap} {k : Nat} {f cc cda D : Addr}
/-- what is known of the class, of its cell and of the code -/
structure ErrK (P : Program) (K : PySem.W.Frag) (mg : Str → Option Value) (D cc cda : Addr) : Prop where
  oex : OexC K D
  cell : ∃ cl cld csl, K.lookup cc = some ⟨cl, cld, .cell (some (.ref D)), csl⟩
  code : ∃ ccl cdd vs ccs file tf, K.lookup cda = some ⟨ccl, cdd, .fields vs, ccs⟩ ∧ vs[2]? = some (.str file tf) ∧ ((P.main.file : Str) == file) = true
  sup : PySem.W.ks_superIn K D D "__init__" = some (some (.builtin "ValueError.__init__"))
  ve : PySem.W.subIn K (.ref D) (.type "ValueError") = some true
  self : PySem.W.mroIn K D (.ref D) = some true
  opq : PySem.W.nsIn K cStatics "thirdparty.any" = some none
  mgs : mg "super" = none
  top : (P.main.scope.names.lookup ("super" : Str)).isSome = false
theorem one_look {cc c : Addr} {y : Str} (hy : List.lookup y [(("__class__" : Str), cc)] = some c) : y = "__class__" ∧ c = cc := by
  simp only [List.lookup] at hy
  split at hy
  · rename_i q
    exact ⟨eq_of_beq q, (Option.some.inj hy).symm⟩
  · cases hy
theorem exo_self {H : Hp} {a D : Addr} (e : H a = some (exo a D none)) : upd H a (exo a D none) = H := by
  funext b
  by_cases hb : b = a
  · rw [hb, upd_same, e]
  · rw [upd_ne hb]
theorem fn_err {N ps : List Str} {sp : Sp} {name qual : Str} {params : Arguments} {scope : Scope} {rest : List Stmt} {p0 p1 p2 p3 p4 : Pos} {e : Expr} {es : List Expr} {ar : Arg} {dV kV doc pm ct oc : Value} {an od : Option Addr} {osl : Array (Option Value)} (T : ErrK P K mg D cc cda)
    (lk : K.lookup f = some ⟨oc, od, .func (PySem.W.fnX name qual params (supS p0 p1 p2 p3 p4 e es :: rest) scope [("__class__", cc)] dV kV doc pm an (.ref cda) ct), osl⟩) (hcd : PySem.W.codeIn K (.ref cda) qual = true)
    (S : NScope N ps ["__class__"] scope) (hp : (params.posonlyargs ++ params.args).head? = some ar) (hps : ps[0]? = some ar.arg) (hks : scope.names.lookup ("super" : Str) = some .globalImplicit)
    (len : ∀ vs H Q E, sp vs H Q E → vs.length = ps.length)
    (hbody : ∀ (A : Around) (outer : List Env) (s : Shared) (H : Hp) (vs : List V) (Q : VK) (E : XK), Room k (A.deeper (envF (supF name qual params (supS p0 p1 p2 p3 p4 e es :: rest) scope cc cda) f s.heap.objs.size)) → sp vs H Q E →
      ∃ (a : Addr) (ta : TA) (t : TS), vs[0]? = some (.ref a) ∧ H a = some (exo a D none) ∧
        PA (ncx CX P w K mg base N (supF name qual params (supS p0 p1 p2 p3 p4 e es :: rest) scope cc cda) f A outer s H E) (e :: es) ta ∧
        PSs (ncx CX P w K mg base N (supF name qual params (supS p0 p1 p2 p3 p4 e es :: rest) scope cc cda) f A outer s H E) rest t ∧
        ta (startF N vs [none]) H fun ws H1 => ws.length ≤ 1000 ∧ H1 a = some (exo a D none) ∧ t { nx := fun _ H' => Q .non H', rt := Q } (startF N vs [none]) H1)
    (he : ∀ env : Env, starEach (e :: es) env = (false, eval e env) :: starEach es env := by intro _; rfl) (hpl : ∀ env : Env, (backTo p3 (starEach es env)).any (·.1) = false := by intro _; rfl) {pl : Sem Bool}
    (hev : ∀ env : Env, eval (.Call (.Attribute (.Call (.Name "super" p0) [] [] p1) "__init__" p2) (e :: es) [] p3) env = (do
      let ov ← attributeBase (.Call (.Name "super" p0) [] [] p1) "__init__" env (eval (.Call (.Name "super" p0) [] [] p1) env)
      standAt p2.atName
      let (f, first) ← holding [ov] (getMethod ov "__init__" pl)
      callWith p3 f first (backTo p3 (starEach (e :: es) env)) []) := by intro _; rfl) :
    FnOk P w K mg base CX (k + 1) f (PySem.W.fnX name qual params (supS p0 p1 p2 p3 p4 e es :: rest) scope [("__class__", cc)] dV kV doc pm an (.ref cda) ct) ps sp := by
  refine ⟨len, fun A outer s H args us vs Q E hr e0 hb r hsp => ?_⟩
  have hl := len _ _ _ _ hsp
  have kpb : ∀ b o, base.get? b = some o → s.heap.get? b = some o := fun b o e => (e0.bs b o e).1
  have KX : K.In s.heap := e0.mod.kin.keeps kpb
  have lim : s.heap.NoLimit := e0.mod.nolimit.keeps kpb
  obtain ⟨cl, cld, csl, hcell⟩ := T.cell
  obtain ⟨ccl, cdd, cvs, ccs, file, tf, hcode, hvs, hfile⟩ := T.code
  have hcc : H cc = none := (e0.bs _ _ (e0.mod.kin _ _ hcell)).2
  refine PySem.ks_codeAny_call_defAt (binds := ps.zip us) hr.depth (KX _ _ lk) rfl lim (PySem.W.codeRec_of KX hcd) rfl hb S.nocell (fun ⟨n, _⟩ hy => S.par n (List.of_mem_zip hy).1) (fun h₁ hns kp => ?_) S.co S.gen S.kind
  show PySem.wpAt (model P w) (A.deeper (envF (supF name qual params (supS p0 p1 p2 p3 p4 e es :: rest) scope cc cda) f s.heap.objs.size)) (.func (supS p0 p1 p2 p3 p4 e es :: rest) (envF (supF name qual params (supS p0 p1 p2 p3 p4 e es :: rest) scope cc cda) f s.heap.objs.size)) (execs (supS p0 p1 p2 p3 p4 e es :: rest) (envF (supF name qual params (supS p0 p1 p2 p3 p4 e es :: rest) scope cc cda) f s.heap.objs.size)) _ _ _
  obtain ⟨a, ta, t, ea, eHa, ha, ht, hq⟩ := hbody A outer s H vs Q E (hr.deeper _) hsp
  have C : CellsAt [(("__class__" : Str), cc)] ["__class__"] [none] s.heap H := by
    refine ⟨rfl, fun y c hy => ?_, fun x y c h1 h2 => ?_, fun i y hi => ?_⟩
    · obtain ⟨rfl, rfl⟩ := one_look hy
      exact ⟨hcc, _, ⟨_, KX _ _ hcell, rfl⟩⟩
    · rw [(one_look h1).1, (one_look h2).1]
    · have : y = "__class__" ∧ i = 0 := by
        cases i with
        | zero => exact ⟨(Option.some.inj hi).symm, rfl⟩
        | succ i => simp at hi
      obtain ⟨rfl, rfl⟩ := this
      exact ⟨cc, by simp [List.lookup], fun v hv => by cases hv⟩
  have I := inv_startN (CX := CX) (E := E) (F := supF name qual params (supS p0 p1 p2 p3 p4 e es :: rest) scope cc cda) (f := f) (tk := s.toks + (ps.zip us).length) S hr.hd e0 hl r C hns kp
  have kc : (envF (supF name qual params (supS p0 p1 p2 p3 p4 e es :: rest) scope cc cda) f s.heap.objs.size).kindOf "__class__" = some .free := S.frk _ List.mem_cons_self
  obtain ⟨nm, qq, NN, bs, bm, sn, sub, ab, col, dd, k0, k1, k2, k3, k5, hC, hbm⟩ := T.oex.cls
  have hcl : PySem.W.clsIn K D = some { name := nm, bases := bs, mro := .ref D :: bm, ns := NN, qualname := qq, hasDict := true, slotNames := sn, subclasses := sub, abstract := ab, collection := col, hasDel := false } := by unfold PySem.W.clsIn; rw [hC] <;> rfl
  have K1 : K.In h₁ := KX.keeps kp
  obtain ⟨t1, hoa⟩ := exo_at I.hok eHa
  have hoa : h₁.get? a = some ({ cls := .ref D, dict := none, data := .fields #[.ref t1, .none, .none, .none, .bool false, .none] } : Obj) := hoa
  have IA : PySem.W.InstAt h₁ a { cls := .ref D, dict := none, data := .fields #[.ref t1, .none, .none, .none, .bool false, .none] } D none := ⟨hoa, rfl, rfl, trivial⟩
  have u0 : us[0]? = some (.ref a) := by
    obtain ⟨u, hu, ru⟩ := r.get ea
    rw [hu]
    exact congrArg some ru
  have ndP : ps.Nodup := by
    have q := S.nd.sublist (List.take_sublist (ps.length + (["__class__"] : List Str).length) N)
    rw [S.pre] at q
    exact (List.nodup_append.mp q).1
  have hself : (fun y => (ps.zip us).reverse.lookup y) ar.arg = some (.ref a) := zip_look ndP hps u0
  refine PySem.ks_wpAt_execs_cons (PySem.ks_wpAt_Expr_any (PySem.ks_wpAt_MethodCall (pl := pl) ?_ (hev _)) ?hi)
  case hi =>
    unfold interactive
    simp [S.kind]
  refine PySem.ks_wpAt_super_base hks kc (by decide) rfl (kp _ _ (KX _ _ lk)) rfl hp rfl (kp _ _ (KX _ _ hcode)) rfl hvs hfile T.top ?_
  obtain ⟨mb, b1, b2⟩ := I.mod.blt
  refine PySem.W.ks_loadName_global S.kind hks (Calls.loadGlobal_builtin (show Heap.Ns _ mainGlobals mg from I.mod.glob.keeps I.bk) T.mgs (show Heap.Ns _ builtinsNs mb from b1.keeps I.bk) ((b2 "super" (by decide)).trans PyProof.Rows.Boot.«super») ⟨rfl, ?_⟩)
  refine wpAny_loadName_free S.kind kc rfl ⟨_, kp _ _ (KX _ _ hcell), rfl⟩ ?_
  refine wpAny_loadName_local S.kind (S.par _ (List.mem_of_getElem? hps)) hns hself ?_
  refine PySem.ks_wpAny_isType_cls (K1 _ _ hC) rfl ⟨rfl, ?_⟩
  refine PySem.ks_wpAny_call_super (K1 _ _ hC) rfl hoa rfl (fun c z => nomatch z) (PySem.W.looks_mroIn K1 T.self) (fun h2 e2 kk2 => ?_)
  have K2 : K.In h2 := K1.keeps kk2
  have hm := T.sup
  unfold PySem.W.ks_superIn at hm
  rw [hcl] at hm
  have IA2 : PySem.W.InstAt h2 a { cls := .ref D, dict := none, data := .fields #[.ref t1, .none, .none, .none, .bool false, .none] } D none := ⟨kk2 _ _ hoa, rfl, rfl, trivial⟩
  refine PySem.W.kxs_getMethod PySem.W.kxs_ValueError e2 (PySem.W.looks_opaque K2 T.opq) (l₀ := .ref D :: bm) (fun A Q E s k q => wpAny_bind ((PySem.W.looks_clsIn K2 hcl) A _ E s k (wpAny_pure q))) rfl K2 hm (IA2.type.andThen (PySem.W.looks_subIn K2 T.ve)) (PySem.W.ks_ne K2 IA2 hcl) (by decide) ?_
  have nu : H h2.objs.size = none := (I.kept (h' := h2) (t' := s.toks + (ps.zip us).length) kk2).hok.fresh (Nat.le_refl _)
  have I2 : Inv (ncx CX P w K mg base N (supF name qual params (supS p0 p1 p2 p3 p4 e es :: rest) scope cc cda) f A outer s H E) [] (startF N vs [none]) H { heap := h2, gens := s.gens, drawn := s.drawn, toks := s.toks + (ps.zip us).length, os := s.os } := I.kept kk2
  have hmw : (h2.push (PySem.W.kxs_mw "ValueError.__init__" a)).get? h2.objs.size = some (PySem.W.kxs_mw "ValueError.__init__" a) := Heap.get?_push_at rfl rfl
  have I3 : Inv (ncx CX P w K mg base N (supF name qual params (supS p0 p1 p2 p3 p4 e es :: rest) scope cc cda) f A outer s H E) [] (startF N vs [none]) H { heap := h2.push (PySem.W.kxs_mw "ValueError.__init__" a), gens := s.gens, drawn := s.drawn, toks := s.toks + (ps.zip us).length + 1, os := s.os } := I2.kept fun _ _ z => Heap.get?_push_of_some _ z
  have F2 := I2.fpOk (Nat.le_refl _) nu
  have I4 := I3.pinned (fp := [h2.objs.size]) (fun b hb => by rw [List.mem_singleton.mp hb]; exact F2) (fun b hb => by rw [List.mem_singleton.mp hb]; exact ⟨_, hmw, fun v z => nomatch z⟩)
  show wpAny _ _ (callWith p3 (.ref h2.objs.size) [] (backTo p3 (starEach (e :: es) _)) []) _ _ _
  refine PySem.W.kxs_callWith (i := "ValueError.__init__") (x := a) (by rw [he]; show (false || (backTo p3 (starEach es _)).any (·.1)) = false; rw [hpl]; rfl) ?_
  have run := ha.run p3 _ _ (startF N vs [none]) H _ I4 hq
  rw [he] at run ⊢
  refine Calls.evalArgs_plain (thn run fun ws s5 ⟨zs, H5, I5, r5, lz, e5, q5⟩ => ?_)
  have hu5 : s5.heap.get? h2.objs.size = some (PySem.W.kxs_mw "ValueError.__init__" a) := (I5.pin (h2.objs.size, PySem.W.kxs_mw "ValueError.__init__" a) (List.mem_append_right _ (List.mem_append_right _ (mem_pinsAt List.mem_cons_self hmw)))).1
  refine ⟨hu5, ?_⟩
  obtain ⟨t5, ho5⟩ := exo_at I5.hok e5
  have K5 := I5.kIn
  have lw : ws.length ≤ sizeLine := by
    rw [← Paired.length r5]
    exact Nat.le_of_lt (small1000 lz)
  refine wpAny_call (codeAny_of_tree ?_)
  show wpAny _ _ (callAny (.ref h2.objs.size) ⟨ws, []⟩) _ _ _
  simp only [callAny]
  obtain ⟨hh, g5, d5, tk5, os5⟩ := s5
  refine wpAny_bind (wpAny_load hu5 ?_)
  simp only [PySem.W.kxs_mw, show (Value.type "method-wrapper" == Value.type "method" || Value.type "method-wrapper" == Value.type "builtin_function_or_method" || Value.type "method-wrapper" == Value.type "method-wrapper") = true by decide, if_true]
  refine PySem.W.KFB.if_so (by decide) ?_
  refine wpAny_bind (PySem.W.check_bound_init F.excBase_ValueError.toExcCallFacts (K5 _ _ hC) ho5 rfl ?_)
  refine wpAny_bind (wpAny_pure (wpAny_pure ?_))
  refine ⟨plainId_quiet F.excBase_ValueError.init.plain _, codeAny_builtin F.excBase_ValueError.initEntry ?_⟩
  refine PySem.W.exc_init_tree (cls := .ref D) (t0 := t5) (dv := none) (c2 := .none) (c3 := .none) (b4 := .bool false) ho5 lw (fun h6 k6 e6 _ => ?_)
  have J := I5.write (t' := tk5) (h' := h6) (x := a) (e := a) (o := exo a D none) (by rw [e5]; exact True.intro) (.inl rfl) k6 ⟨_, e6⟩ (exo_ok e6)
  rw [exo_self e5] at J
  have J := J.unpinned
  refine PySem.wpAt_of_wpAny ?_
  refine wpAny_mono (ht.run [] _ (startF N vs [none]) H5 _ J q5) (fun fl s' hs => ?_) fun e s' hs => hs
  have fin : ∀ {σ' : L2.St} {H' : Hp} {v : V} {u : Value}, Inv (ncx CX P w K mg base N (supF name qual params (supS p0 p1 p2 p3 p4 e es :: rest) scope cc cda) f A outer s H E) [] σ' H' s' → L2.RelV v u → Q v H' → CE outer P w H s Q u s' :=
    fun {σ' H' v u} J rv q => ⟨v, H', J.os, J.bare, J.base, J.hok, rv, q⟩
  cases fl with
  | ret u =>
    obtain ⟨v, σ', H', J, rv, q⟩ := hs
    exact fin J rv q
  | next =>
    obtain ⟨σ', H', J, q⟩ := hs
    exact fin (v := V.non) (u := Value.none) J rfl q
  | brk =>
    obtain ⟨_, _, _, q⟩ := hs
    exact False.elim q
  | cont =>
    obtain ⟨_, _, _, q⟩ := hs
    exact False.elim q
end
end Own

/-! The promise of an own error's __init__; raising it. -/
namespace Own
open PySem PySem.Spec PyProof.Rows L2 NdefX
/-- an int that is written in a text -/
def Shw (v : V) : Prop := ∃ i : Int, v = .int i ∧ i.natAbs.log2 < 1000
theorem log_lt {i : Int} {k : Nat} (hk : 0 < k) (h : i.natAbs < 2 ^ k) : i.natAbs.log2 < k := by
  by_cases h0 : i.natAbs = 0
  · rw [h0, Nat.log2_zero]
    exact hk
  · exact (Nat.log2_lt h0).mpr h
theorem Shw.of {i : Int} (h0 : -(2 ^ 64) < i) (h1 : i < 2 ^ 64) : Shw (.int i) := ⟨i, rfl, Nat.lt_of_lt_of_le (log_lt (k := 64) (by decide) (by omega)) (by decide)⟩
theorem txt_len {i : Int} (h : i.natAbs.log2 < 1000) : (Str.ofString (toString i)).length ≤ 1001 := by
  rw [PySem.ofString_length]
  exact int_text_length_le (by decide) h
/-- the error's own dict by its fields -/
def flE (nm : List Str) (ys : List V) : List (Str × V) := (nm.zip ys).reverse
def spErr (D : Addr) (nm : List Str) : Sp := fun vs H Q _ => ∃ (a : Addr) (ys : List V), vs = .ref a :: ys ∧ ys.length = nm.length ∧ (∀ y ∈ ys, Shw y) ∧ H a = some (exo a D none) ∧
  ∀ d H', H d = none → d ≠ a → (∀ b, H' b = if b = d then some (exd d (flE nm ys)) else if b = a then some (exo a D (some d)) else H b) → Q .non H'
/-- what the class must say besides, that its instances can be raised -/
structure ErrT (K : PySem.W.Frag) (mg : Str → Option Value) (x : Str) (D f : Addr) : Prop where
  g : mg x = some (.ref D)
  i : PySem.W.findIn K (.ref D) "__init__" = some (some (.ref f))
  t : PySem.W.typeIn K (.ref f) = some (.type "function")
section
variable {P : Program} {w : World} {K : PySem.W.Frag} {mg : Str → Option Value} {base : Heap} {X : Cx}
/-- the reading of X(..) that is raised -/
theorem rd_err {D : Addr} {nm : List Str} {ys : List V} {H : Hp} {Q : XK} (hl : ys.length = nm.length) (hz : nm.length ≤ 1000) (hs : ∀ y ∈ ys, Shw y) (q : ∀ d, H d = none → Q (.ref D) (some d) (upd H d (.xd (flE nm ys)))) :
    ys.length ≤ 1000 ∧ ∀ a, H a = none → spErr D nm (.ref a :: (ys ++ [])) (upd H a (exo a D none)) (fun v H2 => v = .non ∧ ∃ (d : Addr) (fs : List (Str × V)), H2 a = some (exo a D (some d)) ∧ H2 d = some (exd d fs) ∧ H d = none ∧ Q (.ref D) (some d) (upd (del H2 a) d (.xd fs))) (fun _ _ _ => False) := by
  refine ⟨by omega, fun a na => ⟨a, ys, by rw [List.append_nil], hl, hs, upd_same, fun d H' nd ne h => ⟨rfl, d, flE nm ys, ?_, ?_, ?_, ?_⟩⟩⟩
  · rw [h, if_neg ne.symm, if_pos rfl]
  · rw [h, if_pos rfl]
  · rw [upd_ne ne] at nd
    exact nd
  · have : upd (del H' a) d (.xd (flE nm ys)) = upd H d (.xd (flE nm ys)) := by
      funext b
      by_cases hb : b = d
      · rw [hb, upd_same, upd_same]
      · rw [upd_ne hb, upd_ne hb]
        by_cases ha : b = a
        · rw [ha, del_same, na]
        · rw [del_ne ha, h, if_neg hb, if_neg ha, upd_ne ha]
    rw [this]
    rw [upd_ne ne] at nd
    exact q d nd
/-- raise X(e, ..) -/
theorem ps_err {W : WX} {x : Str} {D f : Addr} {k : Nat} {fd : FuncData} {ps nm : List Str} {e : Expr} {es : List Expr} {ta : TA} {p pos pos' : Pos} (hc : X.calm = true) (tk : Takes X W) (T : OexC X.K D) (R : ErrT X.K X.mg x D f) (F1 : FnOk X.prog X.w X.K X.mg X.base CX0 k f fd ps (spErr D nm)) (hr : Room (k + 1) X.A)
    (hb : Binds X.K fd ps []) (hg : Gl X x) (ha : PA X (e :: es) ta) (hdb : (x == ("__debug__" : Str)) = false := by decide) (he : starEach (e :: es) X.env = (false, eval e X.env) :: starEach es X.env := by rfl) (hpl : (backTo pos (starEach es X.env)).any (·.1) = false := by rfl) :
    PS X (.Raise (some (.Call (.Name x p) (e :: es) [] pos)) none pos') (fun _ σ H => tMkO D (spErr D nm) [] ta σ H fun cls d H' => W cls d σ H') :=
  ps_raise hc tk (pmk_oex T R.i R.t F1 hr hb .nil pass0 hg R.g ha hdb he hpl)
end
/-- the text of an error's __init__ -/
abbrev inErr (st : Stmt) : Stmt := inClass st 0
section
variable {P : Program} {w : World} {K : PySem.W.Frag} {mg : Str → Option Value} {base : Heap} {D cc cda f : Addr}
theorem upd2 {H : Hp} {a d : Addr} {o u : HO} (b : Addr) (ne : d ≠ a) : (upd (upd H d o) a u) b = if b = d then some o else if b = a then some u else H b := by
  by_cases hb : b = d
  · rw [if_pos hb, hb, upd_ne ne, upd_same]
  · rw [if_neg hb]
    by_cases ha : b = a
    · rw [if_pos ha, ha, upd_same]
    · rw [if_neg ha, upd_ne ha, upd_ne hb]
end
end Own

/-! More rules: list.count of data, the operator in by an own class, isinstance of a caught error that has fields. -/
namespace Own
open PySem PySem.Spec PyProof.Rows L2
section
variable {X : Cx}
/-- xs.count(x), items that are plain data: some number -/
def rCntD (K : PySem.W.Frag) : V → List V → Hp → VK → Prop := fun x xs H Q => ∃ (a : Addr) (y : V) (d : PyData) (ds : List PyData), x = V.ref a ∧ xs = [y] ∧ Dp K H (V.ref a) (.list ds) ∧ Dp K H y d ∧ PyData.plainAll ds = true ∧ d.plain = true ∧ d.depth ≤ 60 ∧ ∀ n : Nat, Q (.int (n : Int)) H
theorem mt_lcountD (room : X.A.units + 65 < cLine) : MtR X "list.count" (rCntD X.K) := by
  intro pins s σ H whole args u us Q inv rw_ ra ask
  obtain ⟨a, y, d, ds, rfl, rfl, lis, one, pl, pd, few, q⟩ := ask
  cases rw_
  obtain ⟨w, rfl, rw1⟩ := vals1 ra
  obtain ⟨bs, rd⟩ := Dp.reads inv d y w one rw1
  cases lis with
  | lst seq all =>
    obtain ⟨its, vals, obj, _⟩ := inv.list seq
    obtain ⟨as, rds⟩ := Dp.readsAll inv ds _ its all vals
    refine PySem.SeqAt.count_list_data obj.isList rds rd pl pd (by omega) ?_
    exact ⟨.int (_ : Nat), H, inv.tok _, ⟨_, rfl⟩, q _⟩
/-- x in o, o of an own class with its own rule for it -/
def tOwnIn (C : Addr) (sp : Sp) (E : L2.St → XK) (ta tb : TE) : TE := fun σ H Q => ta σ H fun x H1 => tb σ H1 fun y H2 => ∃ a dx fs, y = .ref a ∧ H2 a = some (.ins C dx fs) ∧ sp [.ref a, x] H2 (fun v H3 => ∃ b, v = .bl b ∧ Q (.bl b) H3) (E σ)
theorem pe_ownIn {CX : CXT} {k : Nat} {C g : Addr} {fd : FuncData} {ps : List Str} {sp : Sp} {E : L2.St → XK} {a b : Expr} {ta tb : TE} {pos : Pos} (hs : PySem.W.findIn X.K (.ref C) "__contains__" = some (some (.ref g))) (hf : PySem.W.isFn X.K (.ref g) = true)
    (F : FnOk X.prog X.w X.K X.mg X.base CX k g fd ps sp) (hr : Room k X.A) (hb : Binds X.K fd ps []) (hx : ∀ σ, PassesAt CX X σ (E σ)) (ha : PE X a ta) (hb' : PE X b tb) (hm : behindInMarks .In b = false := by rfl) : PE X (.Compare a [.In] [b] pos) (tOwnIn C sp E ta tb) := by
  refine ⟨fun pins s σ H Q I h => ?_⟩
  refine wpAny_Compare1 (binT (R := fun x y H2 => ∃ a dx fs, y = .ref a ∧ H2 a = some (.ins C dx fs) ∧ sp [.ref a, x] H2 (fun v H3 => ∃ b, v = .bl b ∧ Q (.bl b) H3) (E σ)) ha hb' I h fun v u s2 x y H2 I2 rx ry q => ?_) hm
  obtain ⟨p, dx, fs, rfl, hp, q⟩ := q
  cases (show u = Value.ref p from ry)
  obtain ⟨mA, O, _, _, _, _⟩ := ins_get I2.hok hp
  obtain ⟨od, J, _⟩ := O.look
  obtain ⟨m, hF⟩ := I2.fr
  refine PySem.W.in_K hF I2.ok.mod.kin J hs hf ?_
  refine wpAny_mono (run_fnS (us := [.ref p, v]) (vs := [.ref p, x]) F hr hb (hx σ) I2 (.cons rfl (.cons rx .nil)) q) (fun w s' z => ?_) fun _ _ x => x
  obtain ⟨z', H', I', rz, b, rfl, qz⟩ := z
  cases rz
  exact wpAny_truthy_bool ⟨.bl b, H', I', rfl, qz⟩
end
end Own
namespace Own
open PySem PySem.Spec PyProof.Rows L2
/-- isinstance(e, c), e the caught error of the class D, its dict at d -/
def rIsD (K : PySem.W.Frag) (D a d : Addr) : List V → Hp → VK → Prop := fun xs H Q => ∃ (c : V) (cv : Value) (b : Bool) (fs : List (Str × V)), xs = [.ref a, c] ∧ H d = some (.xd fs) ∧ (∀ u, RelV c u → u = cv) ∧ PySem.W.kitOne K (.ref D) cv = some b ∧ Q (.bl b) H
theorem call_isD {X : Cx} {a D d : Addr} {oe : Obj} {pn : List (Addr × Obj)} (C : ExcC X.K D) (hz : Zc (.ref D) (some d) oe) (hf : ∃ vs, oe.data = .fields vs) : CallR (X.suite a ((a, oe) :: pn)) (.builtin "isinstance") (rIsD X.K D a d) := by
  intro pins s σ H xs us Q I r h
  obtain ⟨c, cv, b, fs, rfl, hd, hcv, e, q⟩ := h
  cases r with
  | cons rx rr =>
    cases rr with
    | cons rt rr =>
      cases rr
      cases rx
      have ec := hcv _ rt
      subst ec
      obtain ⟨hget, _⟩ := I.pin (a, oe) (List.mem_append.mpr (.inl List.mem_cons_self))
      obtain ⟨vs, hv⟩ := hf
      have hx : ObjOk X.prog X.w H s.heap d (.xd fs) := I.hok d _ hd
      obtain ⟨mA, hns, _⟩ := hx
      obtain ⟨od, ho, _⟩ := lookIn_ns hns
      have J : PySem.W.InstAt s.heap a oe D (some od) := ⟨hget, hz.1, by unfold PySem.W.notCls; rw [hv] <;> rfl, by rw [hz.2]; exact ho⟩
      exact PySem.W.kia_one (PySem.W.kitx_exc (ox := oe) (od := some od) (by obtain ⟨cd, hc, _⟩ := PySem.W.any_some C.hd; rw [hc]; rfl) C.hg C.hk C.hs C.ha C.hn C.ht C.hm) I.kIn J e (fun z => nomatch z) fun tk => ⟨.bl b, H, I.kept (t' := tk) fun _ _ z => z, rfl, q⟩
end Own

/-! Own errors raised where nothing is handled (their context is None), so that defs may be called where they are caught. -/
namespace Own
open PySem PySem.Spec PyProof.Rows L2 NdefX
section
variable {X : Cx} {pins : List (Addr × Obj)} {σ : L2.St} {H : Hp} {s : Shared} {Q : XK} {D f : Addr} {k : Nat} {fd : FuncData} {ps nm : List Str} {ys : List V} {us : List Value} {x : Str}
/-- the call of the class -/
theorem err_made (T : OexC X.K D) (R : ErrT X.K X.mg x D f) (F1 : FnOk X.prog X.w X.K X.mg X.base CX0 k f fd ps (spErr D nm)) (hr : Room (k + 1) X.A) (hb : Binds X.K fd ps []) (I : Inv X pins σ H s) (r : Vals ys us) (hl : ys.length = nm.length) (hz : nm.length ≤ 1000)
    (hs : ∀ y ∈ ys, Shw y) (q : ∀ d, H d = none → Q (.ref D) (some d) (upd H d (.xd (flE nm ys)))) : wpAny (model X.prog X.w) X.A (call (.ref D) us) (L2N.MkP X pins σ Q) X.xe s := by
  obtain ⟨nn, qq, N, bs, bm, sn, sub, ab, col, dd, k0, k1, k2, k3, k5, hC, hbm⟩ := T.cls
  obtain ⟨hp, g, dr, tk, os⟩ := s
  -- where the error comes to stand
  have far : hp.objs.size ≤ hp.objs.size + 1 := Nat.le_succ _
  have free : H (hp.objs.size + 1) = none := I.hok.fresh far
  obtain ⟨_, ask⟩ := rd_err (D := D) hl hz hs q
  have ask := ask _ free
  rw [List.append_nil] at ask
  have old : ∀ b o, hp.get? b = some o → ((hp.push (PySem.W.kdv_tup us)).push (PySem.HandSPX.excO D hp.objs.size)).get? b = some o := fun b o e => Heap.get?_push_of_some _ (Heap.get?_push_of_some _ e)
  have here : ((hp.push (PySem.W.kdv_tup us)).push (PySem.HandSPX.excO D hp.objs.size)).get? (hp.objs.size + 1) = some (PySem.HandSPX.excO D hp.objs.size) := by heap_get
  have J : Inv X pins σ (upd H (hp.objs.size + 1) (exo (hp.objs.size + 1) D none)) ⟨(hp.push (PySem.W.kdv_tup us)).push (PySem.HandSPX.excO D hp.objs.size), g, dr, tk, os⟩ := I.laid (t' := tk) (a := hp.objs.size + 1) (o := exo (hp.objs.size + 1) D none) old far (exo_ok here)
  have vals : Vals (V.ref (hp.objs.size + 1) :: ys) (Value.ref (hp.objs.size + 1) :: us) := .cons rfl r
  have len : (Value.ref (hp.objs.size + 1) :: us).length = ps.length := by
    rw [← vals.length]
    exact F1.len _ _ _ _ ask
  have few : us.length ≤ sizeLine := by
    rw [← Paired.length r, hl]
    exact Nat.le_trans hz (by decide)
  have bind := hb _ (Value.ref (hp.objs.size + 1) :: us) J.kIn (by rw [List.append_nil]; exact len)
  rw [List.append_nil] at bind
  have run := F1.run _ X.stack _ _ ⟨Value.ref (hp.objs.size + 1) :: us, []⟩ _ _ _ (fun _ _ _ => False) (hr.make D us []) (J.env0.make D us []) bind vals ask
  refine wpAny_call (PySem.HandSPX.call_own F.excBase_ValueError (fun Y => PySem.HandSPX.refsVE_contains Y bm hbm) (I.kIn _ _ hC) (PySem.W.looks_findIn I.kIn R.i) (fun self => PySem.W.bind_fn I.kIn self R.t) few (codeAny_mono run fun res s' back => ?_))
  cases res with
  | error er => exact back.elim
  | ok fl =>
    cases fl with
    | ret u =>
      obtain ⟨v, H2, os2, bare2, un2, hok2, rv, ev, d, fs, ea, ed, hd1, q2⟩ := back
      subst ev
      obtain ⟨h2, g2, d2, t2, os'⟩ := s'
      obtain ⟨t0, G, K1, kG, ge, hoe, na⟩ := mk_end0 (d2 := d2) (t2 := t2) I far old un2 hok2 os2 bare2 ea ed hd1
      exact ⟨rv, hp.objs.size + 1, _, _, ⟨G, g2, d2, t2, os'⟩, _, .ref D, some d, rfl, K1, kG, ge, hoe, ⟨rfl, rfl, fun vs e => by cases e; rfl⟩, rfl, rfl, na, rfl, bare2, raises_own T.exC T.tyC, q2⟩
    | next => exact back.elim
    | brk => exact back.elim
    | cont => exact back.elim
end
/-- raise X(e, ..): the fields are shown -/
def tErr (D : Addr) (nm : List Str) (ta : TA) : L2.St → Hp → XK → Prop := fun σ H Q => ta σ H fun ys H1 => ys.length = nm.length ∧ nm.length ≤ 1000 ∧ (∀ y ∈ ys, Shw y) ∧ ∀ d, H1 d = none → Q (.ref D) (some d) (upd H1 d (.xd (flE nm ys)))
section
variable {X : Cx} {W : WX} {x : Str} {D f : Addr} {k : Nat} {fd : FuncData} {ps nm : List Str} {e : Expr} {es : List Expr} {ta : TA} {p pos pos' : Pos}
theorem pmk_err (T : OexC X.K D) (R : ErrT X.K X.mg x D f) (F1 : FnOk X.prog X.w X.K X.mg X.base CX0 k f fd ps (spErr D nm)) (hr : Room (k + 1) X.A) (hb : Binds X.K fd ps []) (hg : Gl X x) (ha : PA X (e :: es) ta)
    (hdb : (x == ("__debug__" : Str)) = false := by decide)
    (he : starEach (e :: es) X.env = (false, eval e X.env) :: starEach es X.env := by rfl)
    (hpl : (backTo pos (starEach es X.env)).any (·.1) = false := by rfl) :
    L2N.PMk X (.Call (.Name x p) (e :: es) [] pos) (tErr D nm ta) := by
  intro pins s σ H Q I h
  refine wpAny_Call_Name_kw (ld_glob I hg R.g ?_ hdb)
  refine PySem.W.callWith_K (h₀ := X.base) I.ok.mod.kin T.kC (thn (ha.run pos pins s σ H _ I h) fun us s1 ⟨ys, H1, I1, r, hl, hz, hs, q⟩ => ⟨I1.kIn, ?_⟩) he hpl
  exact err_made T R F1 hr hb I1 r hl hz hs q
theorem ps_errN (hc : X.calm = true) (tk : L2N.Takes X W) (T : OexC X.K D) (R : ErrT X.K X.mg x D f) (F1 : FnOk X.prog X.w X.K X.mg X.base CX0 k f fd ps (spErr D nm)) (hr : Room (k + 1) X.A) (hb : Binds X.K fd ps []) (hg : Gl X x) (ha : PA X (e :: es) ta)
    (hdb : (x == ("__debug__" : Str)) = false := by decide)
    (he : starEach (e :: es) X.env = (false, eval e X.env) :: starEach es X.env := by rfl)
    (hpl : (backTo pos (starEach es X.env)).any (·.1) = false := by rfl) :
    PS X (.Raise (some (.Call (.Name x p) (e :: es) [] pos)) none pos') (fun _ σ H => tErr D nm ta σ H fun cls d H' => W cls d σ H') :=
  L2N.ps_raise hc tk (pmk_err T R F1 hr hb hg ha hdb he hpl)
/-- nothing is let out -/
theorem passN : Passes (L2N.CX X.prog X.w) X E0 := fun _ _ _ _ _ _ _ ⟨_, _, _, _, _, _, _, _, _, _, _, _, z⟩ => z.elim
theorem takesN : L2N.Takes X (fun _ _ _ _ => False) := fun _ _ ⟨_, _, _, _, _, _, _, _, _, _, _, _, _, _, _, _, z⟩ => z.elim
theorem pass0A {σ : L2.St} : PassesAt CX0 X σ E0 := fun pins H s e s' I h => pass0 pins σ H s e s' I h
end
section
variable {P : Program} {w : World} {K : PySem.W.Frag} {mg : Str → Option Value} {base : Heap}
/-- a def that may raise, by its body -/
theorem okN {x qual : Str} {st : Stmt} {f : Addr} {fd : FuncData} {N ps : List Str} {k : Nat} {sp : Sp} (F : Fun K x qual st f fd) (S : FnScope N ps (defScope st)) (len : ∀ vs H Q E, sp vs H Q E → vs.length = ps.length)
    (hbody : ∀ (cdv : Value) (A : Around) (outer : List Env) (s : Shared) (H : Hp) (vs : List V) (Q : VK) (E : XK), Room k (A.deeper (envOfC qual (defScope st) s.heap.objs.size f cdv)) → sp vs H Q E →
      ∃ t, PSs (cxOf (L2N.CX P w) P w K mg base N qual (defScope st) f cdv A outer s H E) (defBody st) t ∧ t { nx := fun _ H' => Q .non H', rt := Q } (start N vs) H) : FnOk P w K mg base (L2N.CX P w) (k + 1) f fd ps sp := by
  obtain ⟨_, _, _, _, _, _, cdv, _, _, rfl, lk, hcd⟩ := F.ex
  exact fn_of lk hcd S len (hbody cdv)
/-- a def called where an error is handled, by its body; it raises nothing -/
theorem okH {x qual : Str} {st : Stmt} {f : Addr} {fd : FuncData} {N ps : List Str} {k : Nat} {sp : Sp} (F : Fun K x qual st f fd) (S : FnScope N ps (defScope st)) (len : ∀ vs H Q E, sp vs H Q E → vs.length = ps.length)
    (hbody : ∀ (cdv : Value) (A : Around) (outer : List Env) (s : Shared) (H : Hp) (vs : List V) (Q : VK) (E : XK) (p : Addr × Obj), L2H.HotC (L2H.cxH CX0 P w K mg base N qual (defScope st) f cdv A outer s H E p).nox → L2H.RoomH k (A.deeper (envOfC qual (defScope st) s.heap.objs.size f cdv)) → sp vs H Q E →
      ∃ t, PSs (L2H.cxH CX0 P w K mg base N qual (defScope st) f cdv A outer s H E p).nox (defBody st) t ∧ t { nx := fun _ H' => Q .non H', rt := Q } (start N vs) H) : L2H.FnH P w K mg base CX0 (k + 1) f fd ps sp := by
  obtain ⟨_, _, _, _, _, _, cdv, _, _, rfl, lk, hcd⟩ := F.ex
  refine L2H.fn_ofH lk hcd S len fun A outer s H vs Q E p hot hr h => ?_
  obtain ⟨t, ht, q⟩ := hbody cdv A outer s H vs Q E p ⟨p, hot, List.mem_cons_self⟩ hr h
  exact ⟨t, ht.nox, q⟩
end
/-- isinstance(e, c), e the caught error -/
def rIsX (K : PySem.W.Frag) (D a : Addr) (cls : Value) (d : Option Addr) : List V → Hp → VK → Prop := fun xs H Q => cls = .ref D ∧ ∃ (dd : Addr) (c : V) (cv : Value) (b : Bool) (fs : List (Str × V)), d = some dd ∧ xs = [.ref a, c] ∧ H dd = some (.xd fs) ∧ (∀ u, RelV c u → u = cv) ∧ PySem.W.kitOne K (.ref D) cv = some b ∧ Q (.bl b) H
theorem call_isX {X : Cx} {a D : Addr} {oe : Obj} {cls : Value} {d : Option Addr} {pn : List (Addr × Obj)} (C : ExcC X.K D) (hz : Zc cls d oe) (hf : ∃ vs, oe.data = .fields vs) : CallR (X.suite a ((a, oe) :: pn)) (.builtin "isinstance") (rIsX X.K D a cls d) := by
  intro pins s σ H xs us Q I r h
  obtain ⟨ec, dd, c, cv, b, fs, ed, ex, hd, hcv, e, q⟩ := h
  subst ec ed
  exact call_isD C hz hf pins s σ H xs us Q I r ⟨c, cv, b, fs, ex, hd, hcv, e, q⟩
/-- the suite's context bears the handled error -/
theorem hotS {X : Cx} {a : Addr} {oe : Obj} {cls : Value} {d : Option Addr} {pn : List (Addr × Obj)} (hz : L2N.Zn cls d oe) (hf : ∃ vs, oe.data = .fields vs) : L2H.HotC (X.suite a ((a, oe) :: pn)) := by
  obtain ⟨vs, e⟩ := hf
  exact ⟨(a, oe), ⟨rfl, vs, e, hz.2.2 vs e⟩, List.mem_cons_self⟩
end Own

/-! What a value looks like in an error's text, whatever is under way: some text of bounded length. -/
namespace Own
open PySem PySem.Spec PyProof.Rows L2
section
variable {prog : Program} {w : World} {A : Around} {E : Value → Shared → Prop} {s : Shared} {a : Addr} {oa : Obj} {x : Value} {l : List Value} {na : Nat} {ts : List Str}
/-- repr of a list of plain things -/
theorem shown_list {Q : Value → Shared → Prop} (hTy : s.TypeIs (.ref a) "list") (ha : s.heap.get? a = some oa) (hda : oa.data = .seq (x :: l).toArray na) (hlen : ts.length = (x :: l).toArray.size)
    (hT : ∀ (i : Nat) (y : Value), (x :: l).toArray[i]? = some y → ∃ t, ts[i]? = some t ∧ ReprIs prog w y t) (hsz : (listText ts).length ≤ sizeLine)
    (hQ : ∀ h' m u tk, (∀ b o, s.heap.get? b = some o → h'.get? b = some o) → m.length ≤ (listText ts).length + 5 → Q (.str m u) { s with heap := h', toks := tk }) : wpAny (model prog w) A (call (.builtin "list.__repr__") [.ref a]) Q E s := by
  refine wpAny_call (codeAny_call_builtin F.slot_list_repr.plain F.entry_list_repr (F.slot_list_repr.check _ _ _ _ _ _ _ _ hTy (F.args_list_repr_1 _) ?_))
  show wpAny _ _ (Builtin.listReprAt 0 ⟨[.ref a], []⟩) _ _ s
  unfold Builtin.listReprAt
  refine wpAny_bind (wpAny_of_eq (a := ((Value.ref a : Value), ([] : List Value))) (by first | rfl | (simp only [slotArgs]; rfl)) ?_)
  refine wpAny_bind (wpAny_listItems ha hda ?_)
  rw [if_neg (by simp)]
  refine wpAny_bind (wpAny_stack_any fun st => ?_)
  generalize (st.tail.any fun x => match x with
    | (.builtin "list.__repr__.loop" ⟨v :: _, _⟩, _) => Builtin.List.listSameRef v (.ref a)
    | _ => false) = running
  show wpAny _ _ (if running = true then _ else _) _ _ _
  cases running with
  | true =>
    refine PySem.W.KFB.if_so rfl ?_
    refine wpAny_bind (wpAny_rule ?_)
    refine wpAny_bind (wpAny_mkStr (wpAny_pure ?_) (by decide +kernel))
    exact hQ s.heap _ _ _ (fun _ _ e => e) (Nat.le_trans (show ("[...]" : Str).length ≤ 5 by decide +kernel) (Nat.le_add_left _ _))
  | false =>
    refine PySem.W.KFB.if_not rfl ?_
    refine wpAny_bind (m := newList []) (wpAny_newObj_type ?_)
    refine wpAny_pure ⟨F.quiet_list_repr_loop _, ?_⟩
    refine codeAny_list_repr_start (P := s.heap.objs.size) (b := 0) (Nat.ne_of_lt (Heap.lt_size ha)) hlen hT (Heap.get?_push_of_some _ ha) hda (Heap.get?_push_size _ rfl) (fun h' u tk hk => ?_) (by omega)
    exact hQ h' _ u tk (fun b o e => hk b o (Nat.ne_of_lt (Heap.lt_size e)) (Heap.get?_push_of_some _ e)) (Nat.le_add_right _ _)
/-- .. as an object's text -/
theorem obj_list {Q : Value → Shared → Prop} (hu : A.units < cLine) (hTy : s.TypeIs (.ref a) "list") (ha : s.heap.get? a = some oa) (hda : oa.data = .seq (x :: l).toArray na) (hlen : ts.length = (x :: l).toArray.size)
    (hT : ∀ (i : Nat) (y : Value), (x :: l).toArray[i]? = some y → ∃ t, ts[i]? = some t ∧ ReprIs prog w y t) (hsz : (listText ts).length ≤ sizeLine)
    (hQ : ∀ h' m u tk, (∀ b o, s.heap.get? b = some o → h'.get? b = some o) → m.length ≤ (listText ts).length + 5 → Q (.str m u) { s with heap := h', toks := tk }) : wpAny (model prog w) A (pyReprObj (.ref a)) Q E s :=
  wpAny_pyReprObj_slot hu hTy F.slot_list_repr.toG (shown_list hTy ha hda hlen hT hsz fun h' m u tk k hm => ⟨m, u, rfl, hQ h' m u tk k hm⟩)
theorem obj_tuple {Q : Value → Shared → Prop} (hu : A.units < cLine) (ha : s.heap.get? a = some oa) (hc : oa.cls = .type "tuple") (hda : oa.data = .seq (x :: l).toArray na) (hT : ReprAll prog w (x :: l) ts) (hsz : (tupleText ts).length ≤ sizeLine)
    (hQ : ∀ m u tk, m.length ≤ (tupleText ts).length + 5 → Q (.str m u) { s with toks := tk }) : wpAny (model prog w) A (pyReprObj (.ref a)) Q E s :=
  wpAny_pyReprObj_slot hu ⟨oa, ha, hc⟩ F.slot_tuple_repr (fmt_tuple_repr ha hc hda hT hsz fun m u tk hm => ⟨m, u, rfl, hQ m u tk hm⟩)
end
/-- what can be written in an error's text -/
def ShoV (K : PySem.W.Frag) (H : Hp) (v : V) : Prop :=
  (∃ i : Int, v = .int i ∧ i.natAbs.log2 < 1000) ∨ (∃ b : Bool, v = .bl b) ∨ v = .non ∨ (∃ y : Str, v = .str y ∧ (reprText y).length ≤ 1000) ∨
  (∃ (p : Addr) (i : Int), v = .ref p ∧ (SqL K H p [.int i] ∨ SqT K H p [.int i]) ∧ i.natAbs.log2 < 1000)
section
variable {X : Cx}
/-- {x!r}: some text -/
def tFmtS (K : PySem.W.Frag) (te : TE) : TE := fun σ H Q => te σ H fun x H1 => ShoV K H1 x ∧ ∀ y : Str, y.length ≤ 2000 → Q (.str y) H1
theorem len_list1 (t : Str) : (listText [t]).length ≤ t.length + 2 := by
  show ((((("[" : Str) ++ (("" : String) : Str)) ++ t) ++ ("]" : Str)) : Str).length ≤ _
  rw [strLen_append, strLen_append, strLen_append]
  have h1 : ("[" : Str).length = 1 := by decide +kernel
  have h2 : ("]" : Str).length = 1 := by decide +kernel
  have h3 : ((("" : String) : Str)).length = 0 := by decide +kernel
  omega
theorem len_tuple1 (t : Str) : (tupleText [t]).length ≤ t.length + 3 := by
  show (((("(" : Str) ++ Str.join ", " [t]) ++ ((",)" : String) : Str)) : Str).length ≤ _
  rw [strLen_append, strLen_append]
  have h1 : ("(" : Str).length = 1 := by decide +kernel
  have h2 : ((",)" : String) : Str).length = 2 := by decide +kernel
  have h3 := join_length_add [t] (by simp)
  have h4 : piled [t] = t.length + 2 := by simp [piled]
  omega
theorem pe_fmtS {k : Nat} {e : Expr} {te : TE} {pos : Pos} (room : Room k X.A) (he : PE X e te) : PE X (.FormattedValue e 114 none pos) (tFmtS X.K te) := by
  refine ⟨fun pins s σ H Q inv ask => ?_⟩
  refine wpAny_FormattedValue_repr (thn (he.run pins s σ H _ inv ask) fun v s1 hv => ?_)
  obtain ⟨x, H1, I1, r1, sho, q⟩ := hv
  have room0 := room.units0
  have put : ∀ (m : Str) (t : Tok) (s2 : Shared), m.length ≤ 2000 → Inv X pins σ H1 s2 → wpAny (model X.prog X.w) X.A (formatField (.str m t) Str.empty) (EP X pins σ Q) X.xe s2 := fun m t s2 hm J =>
    wpAny_formatField_str ⟨.str m, H1, J, ⟨_, rfl⟩, q m hm⟩ ⟨.str m, H1, J.tok _, ⟨_, rfl⟩, q m hm⟩ (Nat.le_trans hm (by decide))
  rcases sho with ⟨i, rfl, hi⟩ | ⟨b, rfl⟩ | rfl | ⟨y, rfl, hy⟩ | ⟨p, i, rfl, hp, hi⟩
  · obtain ⟨t, rfl⟩ := r1
    exact pyReprObj_int (by omega) (put _ _ _ (Nat.le_trans (txt_len hi) (by decide)) (I1.tok _))
  · cases (show v = Value.bool b from r1)
    exact pyReprObj_bool (put _ _ _ (by cases b <;> decide +kernel) (I1.tok _))
  · cases (show v = Value.none from r1)
    exact pyReprObj_none (put _ _ _ (by decide +kernel) (I1.tok _))
  · obtain ⟨t, rfl⟩ := r1
    exact pyReprObj_str (put _ _ _ (by omega) (I1.tok _)) (Nat.le_trans hy (by decide))
  · cases (show v = Value.ref p from r1)
    have hl := txt_len hi
    rcases hp with hp | hp
    · obtain ⟨its, rv, obj, _⟩ := I1.list hp
      obtain ⟨u, rfl, t, rfl⟩ := vals1 rv
      obtain ⟨⟨oc, od, dt, sl⟩, ho, hc, n, hd⟩ := obj.isList
      have h2 := len_list1 (Str.ofString (toString i))
      refine obj_list (ts := [Str.ofString (toString i)]) room0 ⟨_, ho, hc⟩ ho hd rfl (fun j y hj => ?_) (Nat.le_trans (show _ ≤ 1100 by omega) (by decide)) fun h' m u tk kp hm => put m u _ (by omega) (I1.kept (t' := tk) kp)
      match j, hj with
      | 0, hj =>
        cases hj
        exact ⟨_, rfl, ReprIs.int t (by omega)⟩
    · obtain ⟨its, rv, ⟨o, ho, hc, n, hd⟩, _⟩ := I1.tuple hp
      obtain ⟨u, rfl, t, rfl⟩ := vals1 rv
      have h2 := len_tuple1 (Str.ofString (toString i))
      exact obj_tuple (ts := [Str.ofString (toString i)]) room0 ho hc hd (.cons (ReprIs.int t (by omega)) .nil) (Nat.le_trans (show _ ≤ 1100 by omega) (by decide)) fun m u tk hm => put m u _ (by omega) (I1.tok _)
end
end Own

/-! Own errors whose fields are values of many kinds. -/
namespace Own
open PySem PySem.Spec PyProof.Rows L2 NdefX
theorem ShoV.keep {K : PySem.W.Frag} {H H' : Hp} {v : V} (s : ∀ b o, H b = some o → H' b = some o) (h : ShoV K H v) : ShoV K H' v := by
  rcases h with h | h | h | h | ⟨p, i, rfl, h, hi⟩
  · exact .inl h
  · exact .inr (.inl h)
  · exact .inr (.inr (.inl h))
  · exact .inr (.inr (.inr (.inl h)))
  · refine .inr (.inr (.inr (.inr ⟨p, i, rfl, ?_, hi⟩)))
    rcases h with ((h | ⟨o, h⟩) | h) | ((h | ⟨o, h⟩) | h)
    · exact .inl (.inl (.inl (s _ _ h)))
    · exact .inl (.inl (.inr ⟨o, s _ _ h⟩))
    · exact .inl (.inr h)
    · exact .inr (.inl (.inl (s _ _ h)))
    · exact .inr (.inl (.inr ⟨o, s _ _ h⟩))
    · exact .inr (.inr h)
theorem ShoV.int {K : PySem.W.Frag} {H : Hp} {i : Int} (h0 : -(2 ^ 64) < i) (h1 : i < 2 ^ 64) : ShoV K H (.int i) := by
  obtain ⟨j, e, h⟩ := Shw.of h0 h1
  cases e
  exact .inl ⟨i, rfl, h⟩
theorem ShoV.bl {K : PySem.W.Frag} {H : Hp} (b : Bool) : ShoV K H (.bl b) := .inr (.inl ⟨b, rfl⟩)
theorem ShoV.non {K : PySem.W.Frag} {H : Hp} : ShoV K H .non := .inr (.inr (.inl rfl))
/-- the promise of its __init__ -/
def spErrV (K : PySem.W.Frag) (D : Addr) (nm : List Str) : Sp := fun vs H Q _ => ∃ (a : Addr) (ys : List V), vs = .ref a :: ys ∧ ys.length = nm.length ∧ (∀ y ∈ ys, ShoV K H y) ∧ H a = some (exo a D none) ∧
  ∀ d H', H d = none → d ≠ a → (∀ b, H' b = if b = d then some (exd d (flE nm ys)) else if b = a then some (exo a D (some d)) else H b) → Q .non H'
section
variable {X : Cx} {pins : List (Addr × Obj)} {σ : L2.St} {H : Hp} {s : Shared} {Q : XK} {D f : Addr} {k : Nat} {fd : FuncData} {ps nm : List Str} {ys : List V} {us : List Value} {x : Str}
/-- what is asked of the class when it is called -/
theorem ask_err {K : PySem.W.Frag} (hl : ys.length = nm.length) (hs : ∀ y ∈ ys, ShoV K H y) (q : ∀ d, H d = none → Q (.ref D) (some d) (upd H d (.xd (flE nm ys)))) {a : Addr} (na : H a = none) :
    spErrV K D nm (.ref a :: ys) (upd H a (exo a D none)) (fun v H2 => v = .non ∧ ∃ (d : Addr) (fs : List (Str × V)), H2 a = some (exo a D (some d)) ∧ H2 d = some (exd d fs) ∧ H d = none ∧ Q (.ref D) (some d) (upd (del H2 a) d (.xd fs))) (fun _ _ _ => False) := by
  refine ⟨a, ys, rfl, hl, fun y hy => (hs y hy).keep fun b o e => ?_, upd_same, fun d H' nd ne h => ⟨rfl, d, flE nm ys, ?_, ?_, ?_, ?_⟩⟩
  · by_cases hb : b = a
    · rw [hb, na] at e
      cases e
    · rw [upd_ne hb]
      exact e
  · rw [h, if_neg ne.symm, if_pos rfl]
  · rw [h, if_pos rfl]
  · rw [upd_ne ne] at nd
    exact nd
  · have : upd (del H' a) d (.xd (flE nm ys)) = upd H d (.xd (flE nm ys)) := by
      funext b
      by_cases hb : b = d
      · rw [hb, upd_same, upd_same]
      · rw [upd_ne hb, upd_ne hb]
        by_cases ha : b = a
        · rw [ha, del_same, na]
        · rw [del_ne ha, h, if_neg hb, if_neg ha, upd_ne ha]
    rw [this]
    rw [upd_ne ne] at nd
    exact q d nd
/-- the call of the class -/
theorem err_madeV (T : OexC X.K D) (R : ErrT X.K X.mg x D f) (F1 : FnOk X.prog X.w X.K X.mg X.base CX0 k f fd ps (spErrV X.K D nm)) (hr : Room (k + 1) X.A) (hb : Binds X.K fd ps []) (I : Inv X pins σ H s) (r : Vals ys us) (hl : ys.length = nm.length) (hz : nm.length ≤ 1000)
    (hs : ∀ y ∈ ys, ShoV X.K H y) (q : ∀ d, H d = none → Q (.ref D) (some d) (upd H d (.xd (flE nm ys)))) : wpAny (model X.prog X.w) X.A (call (.ref D) us) (L2N.MkP X pins σ Q) X.xe s := by
  obtain ⟨nn, qq, N, bs, bm, sn, sub, ab, col, dd, k0, k1, k2, k3, k5, hC, hbm⟩ := T.cls
  obtain ⟨hp, g, dr, tk, os⟩ := s
  have far : hp.objs.size ≤ hp.objs.size + 1 := Nat.le_succ _
  have free : H (hp.objs.size + 1) = none := I.hok.fresh far
  have ask := ask_err (D := D) hl hs q free
  have old : ∀ b o, hp.get? b = some o → ((hp.push (PySem.W.kdv_tup us)).push (PySem.HandSPX.excO D hp.objs.size)).get? b = some o := fun b o e => Heap.get?_push_of_some _ (Heap.get?_push_of_some _ e)
  have here : ((hp.push (PySem.W.kdv_tup us)).push (PySem.HandSPX.excO D hp.objs.size)).get? (hp.objs.size + 1) = some (PySem.HandSPX.excO D hp.objs.size) := by heap_get
  have J : Inv X pins σ (upd H (hp.objs.size + 1) (exo (hp.objs.size + 1) D none)) ⟨(hp.push (PySem.W.kdv_tup us)).push (PySem.HandSPX.excO D hp.objs.size), g, dr, tk, os⟩ := I.laid (t' := tk) (a := hp.objs.size + 1) (o := exo (hp.objs.size + 1) D none) old far (exo_ok here)
  have vals : Vals (V.ref (hp.objs.size + 1) :: ys) (Value.ref (hp.objs.size + 1) :: us) := .cons rfl r
  have len : (Value.ref (hp.objs.size + 1) :: us).length = ps.length := by
    rw [← vals.length]
    exact F1.len _ _ _ _ ask
  have few : us.length ≤ sizeLine := by
    rw [← Paired.length r, hl]
    exact Nat.le_trans hz (by decide)
  have bind := hb _ (Value.ref (hp.objs.size + 1) :: us) J.kIn (by rw [List.append_nil]; exact len)
  rw [List.append_nil] at bind
  have run := F1.run _ X.stack _ _ ⟨Value.ref (hp.objs.size + 1) :: us, []⟩ _ _ _ (fun _ _ _ => False) (hr.make D us []) (J.env0.make D us []) bind vals ask
  refine wpAny_call (PySem.HandSPX.call_own F.excBase_ValueError (fun Y => PySem.HandSPX.refsVE_contains Y bm hbm) (I.kIn _ _ hC) (PySem.W.looks_findIn I.kIn R.i) (fun self => PySem.W.bind_fn I.kIn self R.t) few (codeAny_mono run fun res s' back => ?_))
  cases res with
  | error er => exact back.elim
  | ok fl =>
    cases fl with
    | ret u =>
      obtain ⟨v, H2, os2, bare2, un2, hok2, rv, ev, d, fs, ea, ed, hd1, q2⟩ := back
      subst ev
      obtain ⟨h2, g2, d2, t2, os'⟩ := s'
      obtain ⟨t0, G, K1, kG, ge, hoe, na⟩ := mk_end0 (d2 := d2) (t2 := t2) I far old un2 hok2 os2 bare2 ea ed hd1
      exact ⟨rv, hp.objs.size + 1, _, _, ⟨G, g2, d2, t2, os'⟩, _, .ref D, some d, rfl, K1, kG, ge, hoe, ⟨rfl, rfl, fun vs e => by cases e; rfl⟩, rfl, rfl, na, rfl, bare2, raises_own T.exC T.tyC, q2⟩
    | next => exact back.elim
    | brk => exact back.elim
    | cont => exact back.elim
end
/-- raise X(e, ..) -/
def tErrV (K : PySem.W.Frag) (D : Addr) (nm : List Str) (ta : TA) : L2.St → Hp → XK → Prop := fun σ H Q => ta σ H fun ys H1 => ys.length = nm.length ∧ nm.length ≤ 1000 ∧ (∀ y ∈ ys, ShoV K H1 y) ∧ ∀ d, H1 d = none → Q (.ref D) (some d) (upd H1 d (.xd (flE nm ys)))
section
variable {X : Cx} {W : WX} {x : Str} {D f : Addr} {k : Nat} {fd : FuncData} {ps nm : List Str} {e : Expr} {es : List Expr} {ta : TA} {p pos pos' : Pos}
theorem ps_errV (hc : X.calm = true) (tk : L2N.Takes X W) (T : OexC X.K D) (R : ErrT X.K X.mg x D f) (F1 : FnOk X.prog X.w X.K X.mg X.base CX0 k f fd ps (spErrV X.K D nm)) (hr : Room (k + 1) X.A) (hb : Binds X.K fd ps []) (hg : Gl X x) (ha : PA X (e :: es) ta)
    (hdb : (x == ("__debug__" : Str)) = false := by decide)
    (he : starEach (e :: es) X.env = (false, eval e X.env) :: starEach es X.env := by rfl)
    (hpl : (backTo pos (starEach es X.env)).any (·.1) = false := by rfl) :
    PS X (.Raise (some (.Call (.Name x p) (e :: es) [] pos)) none pos') (fun _ σ H => tErrV X.K D nm ta σ H fun cls d H' => W cls d σ H') := by
  refine L2N.ps_raise hc tk fun pins s σ H Q I h => ?_
  refine wpAny_Call_Name_kw (ld_glob I hg R.g ?_ hdb)
  refine PySem.W.callWith_K (h₀ := X.base) I.ok.mod.kin T.kC (thn (ha.run pos pins s σ H _ I h) fun us s1 ⟨ys, H1, I1, r, hl, hz, hs, q⟩ => ⟨I1.kIn, ?_⟩) he hpl
  exact err_madeV T R F1 hr hb I1 r hl hz hs q
end
end Own

/-! What any plain value looks like in an error's text: lists, tuples and dicts within one another, whatever is under way. -/
namespace Own
open PySem PySem.Spec PyProof.Rows L2
def pil (Bs : List Nat) : Nat := (Bs.map fun b => b + 2).sum
theorem pil_cons (b : Nat) (Bs : List Nat) : pil (b :: Bs) = (b + 2) + pil Bs := by simp [pil]
theorem pil_drop {Bs : List Nat} {i b : Nat} (h : Bs[i]? = some b) : pil (Bs.drop i) = (b + 2) + pil (Bs.drop (i + 1)) := by
  obtain ⟨hi, e⟩ := List.getElem?_eq_some_iff.mp h
  rw [List.drop_eq_getElem_cons hi, pil_cons, e]
theorem listText_le (ts : List Str) : (listText ts).length ≤ piled ts + 2 := by
  have e : (listText ts).length = (textFrom 0 "[" ts).length + 1 := by
    show (textFrom 0 "[" ts ++ "]").length = _
    rw [strLen_append]
    rfl
  rw [e]
  cases ts with
  | nil => decide +kernel
  | cons t r =>
    show (textFrom 1 _ r).length + 1 ≤ _
    rw [textFrom_length_pos r 1 _ (by decide), strLen_append, strLen_append, piled_cons]
    have h1 : ("[" : Str).length = 1 := by decide +kernel
    have h2 : ((if 0 > 0 then ", " else "" : String) : Str).length = 0 := by decide +kernel
    omega
theorem tupleText_le (ts : List Str) : (tupleText ts).length ≤ piled ts + 3 := by
  unfold tupleText
  rw [strLen_append, strLen_append]
  have e1 : ((("(" : String) : Str)).length = 1 := rfl
  have e3 : (((if ts.length == 1 then ",)" else ")" : String) : Str)).length ≤ 2 := by split <;> decide +kernel
  rw [e1]
  by_cases h : ts = []
  · subst h
    have : (Str.join ", " []).length = 0 := by decide +kernel
    omega
  · have := join_length_add ts h
    omega
/-- some text, at most so long -/
def ReprS (prog : Program) (w : World) (h₀ : Heap) (d B : Nat) (x : Value) : Prop :=
  ∀ (base : Nat), base + B ≤ sizeLine → ∀ (A : Around) (E : Value → Shared → Prop) (s : Shared) (Q : Str → Shared → Prop), A.units + d < cLine → (∀ b o, h₀.get? b = some o → s.heap.get? b = some o) →
    (∀ t h' tk, t.length ≤ B → (∀ b o, s.heap.get? b = some o → h'.get? b = some o) → Q t { s with heap := h', toks := tk }) → wpAny (model prog w) A (pyReprUnder base x) Q E s
theorem ReprS.of_is {prog : Program} {w : World} {h₀ : Heap} {d B : Nat} {x : Value} {t : Str} (h : ReprIs prog w x t) (hB : t.length ≤ B) : ReprS prog w h₀ d B x :=
  fun base hb A E s Q _ _ hQ => h base (by omega) A E s Q fun tk => hQ t s.heap tk hB fun _ _ e => e
theorem ReprS.le {prog : Program} {w : World} {h₀ : Heap} {d d' B B' : Nat} {x : Value} (h : ReprS prog w h₀ d B x) (hd : d ≤ d') (hB : B ≤ B') : ReprS prog w h₀ d' B' x :=
  fun base hb A E s Q hu hk hQ => h base (by omega) A E s Q (by omega) hk fun t h' tk ht => hQ t h' tk (Nat.le_trans ht hB)
section
variable {prog : Program} {w : World} {A : Around} {R : Result → Shared → Prop}
theorem loopS {a P : Addr} (hne : a ≠ P) {items : Array Value} {Bs : List Nat} {h₀ : Heap} {d M : Nat} (hu : A.units + (d + 1) < cLine) (hPf : h₀.get? P = none) (hlen : Bs.length = items.size) (hsz : items.size ≤ sizeLine) (hM : M ≤ sizeLine)
    (hT : ∀ (i : Nat) (x : Value), items[i]? = some x → ∃ B, Bs[i]? = some B ∧ ReprS prog w h₀ d B x) :
    ∀ (k i : Nat) (s : Shared) (oa : Obj) (na : Nat) (acc : Array Value) (c : Nat) (done : List (Str × Tok)) (n : Nat), items.size - i = k → i ≤ items.size → (∀ b o, h₀.get? b = some o → s.heap.get? b = some o) →
    s.heap.get? a = some oa → oa.data = .seq items na →
    s.heap.get? P = some { cls := .type "list", dict := none, data := .seq acc c, slots := #[] } → acc.toList = strValues done → done.length = i → n + pil (Bs.drop i) + 1 ≤ sizeLine → piled (done.map (·.1)) + pil (Bs.drop i) + 2 ≤ M →
    (∀ t h' u tk, t.length ≤ M → (∀ b o, b ≠ P → s.heap.get? b = some o → h'.get? b = some o) → R (.ok (.ret (.str t u))) { s with heap := h', toks := tk }) →
    codeAny (model prog w) A (.builtin "list.__repr__.loop" ⟨[.ref a, rawInt i, .ref P, rawInt (n : Int)], []⟩) R s := by
  intro k
  induction k with
  | zero =>
    intro i s oa na acc c done n hk hi hk0 ha hda hP hacc hdone hn hp hR
    have hin : i = items.size := by omega
    refine codeAny_builtin F.entry_list_repr_loop ?_
    show wpAny _ _ (Builtin.«list.__repr__.loop» ⟨[.ref a, .int i 0, .ref P, .int (n : Int) 0], []⟩) _ _ s
    rw [repr_loop_tree]
    refine wpAny_bind (wpAny_listItems ha hda ?_)
    have hnone : items[(i : Int).toNat]? = none := by simp [hin]
    simp only [hnone]
    unfold reprEnd
    refine wpAny_bind (wpAny_listItems hP rfl ?_)
    rw [hacc, repr_fold]
    refine wpAny_bind (wpAny_pure ?_)
    have hl := listText_le (done.map (·.1))
    refine wpAny_bind (wpAny_mkStr (wpAny_pure ?_) (show (listText (done.map (·.1))).length ≤ sizeLine by omega))
    exact hR (listText (done.map (·.1))) s.heap _ _ (by omega) (fun _ _ _ e => e)
  | succ k ih =>
    intro i s oa na acc c done n hk hi hk0 ha hda hP hacc hdone hn hp hR
    have hlt : i < items.size := by omega
    obtain ⟨B, hB, hrep⟩ := hT i items[i] (by simp [hlt])
    have hp1 := pil_drop hB
    refine codeAny_builtin F.entry_list_repr_loop ?_
    show wpAny _ _ (Builtin.«list.__repr__.loop» ⟨[.ref a, .int i 0, .ref P, .int (n : Int) 0], []⟩) _ _ s
    rw [repr_loop_tree]
    refine wpAny_bind (wpAny_listItems ha hda ?_)
    have hsome : items[(i : Int).toNat]? = some items[i] := by simp [hlt]
    simp only [hsome]
    rw [Int.toNat_natCast]
    refine wpAny_bind (wpAny_holding (hrep (n + 1) (by omega) _ _ _ _ (by rw [units_under_list_loop]; omega) hk0 fun t h' tk ht hkp => ?_))
    refine wpAny_bind (wpAny_mkStr ?_ (show t.length ≤ sizeLine by omega))
    refine wpAny_bind ?_
    show wpAny _ _ (updateSeq P _) _ _ _
    have hasz : acc.size ≤ sizeLine := by
      have e1 : acc.toList.length = acc.size := by simp
      have e2 : (strValues done).length = done.length := by simp [strValues]
      rw [hacc] at e1
      omega
    refine wpAny_updateSeq (hkp _ _ hP) rfl (wpAny_pure ⟨F.quiet_list_repr_loop _, ?_⟩) hasz
    have e1 : ((i : Int) + 1) = ((i + 1 : Nat) : Int) := by omega
    rw [e1]
    have e3 : piled ((done ++ [(t, tk)]).map (·.1)) = piled (done.map (·.1)) + (t.length + 2) := by
      rw [List.map_append, piled_append]
      simp [piled]
    refine ih (i + 1) _ oa na (acc.push (.str t tk)) _ (done ++ [(t, tk)]) (n + (t.length + 2)) (by omega) hlt (fun b o e => (Heap.get?_update_other _ _ (fun h : P = b => by rw [← h, hPf] at e; cases e)).trans (hkp _ _ (hk0 _ _ e))) ((Heap.get?_update_other _ _ (fun h : P = a => hne h.symm)).trans (hkp _ _ ha)) hda (Heap.get?_update_self _ (hkp _ _ hP) rfl) (by simp [hacc, strValues]) (by rw [List.length_append, hdone]; rfl) (by omega) (by rw [e3]; omega) fun u' h'' u tk' hl hh => ?_
    exact hR u' h'' u tk' hl fun b o hb e => hh b o hb ((Heap.get?_update_other _ _ (fun h : P = b => hb h.symm)).trans (hkp _ _ e))
theorem list_atS {h₀ : Heap} {d M : Nat} {a : Addr} {oa : Obj} {x : Value} {l : List Value} {na : Nat} {Bs : List Nat} (ha : h₀.get? a = some oa) (hda : oa.data = .seq (x :: l).toArray na) (hlen : Bs.length = (x :: l).toArray.size) (hsz : (x :: l).toArray.size ≤ sizeLine)
    (hT : ∀ (i : Nat) (y : Value), (x :: l).toArray[i]? = some y → ∃ B, Bs[i]? = some B ∧ ReprS prog w h₀ d B y) {s : Shared} {base : Nat} (hu : A.units + (d + 1) < cLine) (hk0 : ∀ b o, h₀.get? b = some o → s.heap.get? b = some o) (hM : M ≤ sizeLine) (hp : pil Bs + 5 ≤ M) (hb : base + M ≤ sizeLine)
    (hR : ∀ t h' u tk, t.length ≤ M → (∀ b o, s.heap.get? b = some o → h'.get? b = some o) → R (.ok (.ret (.str t u))) { s with heap := h', toks := tk }) :
    wpAny (model prog w) A.in1 (Builtin.listReprAt base ⟨[.ref a], []⟩) (fun fin s' => match fin with | .done f => R (.ok f) s' | .again c' => c'.quiet = true ∧ codeAny (model prog w) A c' R s') (fun e s' => R (.error e) s') s := by
  have ha' := hk0 _ _ ha
  have hPf : h₀.get? s.heap.objs.size = none := by
    cases e : h₀.get? s.heap.objs.size with
    | none => rfl
    | some o => exact absurd (Heap.lt_size (hk0 _ _ e)) (Nat.lt_irrefl _)
  unfold Builtin.listReprAt
  refine wpAny_bind (wpAny_of_eq (a := ((Value.ref a : Value), ([] : List Value))) (by first | rfl | (simp only [slotArgs]; rfl)) ?_)
  refine wpAny_bind (wpAny_listItems ha' hda ?_)
  rw [if_neg (by simp)]
  refine wpAny_bind (wpAny_stack_any fun st => ?_)
  generalize (st.tail.any fun x => match x with
    | (.builtin "list.__repr__.loop" ⟨v :: _, _⟩, _) => Builtin.List.listSameRef v (.ref a)
    | _ => false) = running
  show wpAny _ _ (if running = true then _ else _) _ _ _
  cases running with
  | true =>
    refine PySem.W.KFB.if_so rfl ?_
    refine wpAny_bind (wpAny_rule ?_)
    refine wpAny_bind (wpAny_mkStr (wpAny_pure ?_) (by decide +kernel))
    exact hR _ s.heap _ _ (Nat.le_trans (show ("[...]" : Str).length ≤ 5 by decide +kernel) (by omega)) (fun _ _ e => e)
  | false =>
    refine PySem.W.KFB.if_not rfl ?_
    refine wpAny_bind (m := newList []) (wpAny_newObj_type ?_)
    refine wpAny_pure ⟨F.quiet_list_repr_loop _, ?_⟩
    refine loopS (P := s.heap.objs.size) (M := M) (Nat.ne_of_lt (Heap.lt_size ha')) hu hPf hlen hsz hM hT _ 0 _ oa na #[] _ [] base rfl (Nat.zero_le _) (fun b o e => Heap.get?_push_of_some _ (hk0 _ _ e)) (Heap.get?_push_of_some _ ha') hda (Heap.get?_push_size _ rfl) rfl rfl (by rw [List.drop_zero]; omega) (by rw [List.drop_zero]; show 0 + _ + 2 ≤ M; omega) fun t h' u tk ht hk => ?_
    exact hR t h' u tk ht fun b o e => hk b o (Nat.ne_of_lt (Heap.lt_size e)) (Heap.get?_push_of_some _ e)
end
end Own

namespace Own
open PySem PySem.Spec PyProof.Rows L2
inductive AllS (prog : Program) (w : World) (h₀ : Heap) (d : Nat) : List Value → List Nat → Prop
  | nil : AllS prog w h₀ d [] []
  | cons {x : Value} {B : Nat} {l : List Value} {Bs : List Nat} : ReprS prog w h₀ d B x → AllS prog w h₀ d l Bs → AllS prog w h₀ d (x :: l) (B :: Bs)
theorem AllS.len {prog : Program} {w : World} {h₀ : Heap} {d : Nat} : ∀ {l : List Value} {Bs : List Nat}, AllS prog w h₀ d l Bs → Bs.length = l.length
  | _, _, .nil => rfl
  | _, _, .cons _ h => by simp [h.len]
theorem AllS.at_ {prog : Program} {w : World} {h₀ : Heap} {d : Nat} : ∀ {l : List Value} {Bs : List Nat}, AllS prog w h₀ d l Bs → ∀ (i : Nat) (x : Value), l[i]? = some x → ∃ B, Bs[i]? = some B ∧ ReprS prog w h₀ d B x
  | _, _, .nil, _, _, e => by simp at e
  | _, _, .cons h _, 0, _, e => by
    simp at e
    subst e
    exact ⟨_, rfl, h⟩
  | _, _, .cons _ h, i + 1, x, e => by
    obtain ⟨B, e1, r⟩ := h.at_ i x (by simpa using e)
    exact ⟨B, by simpa using e1, r⟩
section
variable {prog : Program} {w : World} {A : Around} {E : Value → Shared → Prop}
theorem foldS {h₀ : Heap} {d : Nat} (hu : A.units + d < cLine) : ∀ (l : List Value) (Bs : List Nat) (acc : Array Str) (n : Nat) (s : Shared) (Q : (Array Str × Nat) → Shared → Prop), AllS prog w h₀ d l Bs → n + pil Bs + 1 ≤ sizeLine →
    (∀ b o, h₀.get? b = some o → s.heap.get? b = some o) → (∀ ts h' tk m, ts.length = l.length → piled ts ≤ pil Bs → (∀ b o, s.heap.get? b = some o → h'.get? b = some o) → Q ⟨acc ++ ts.toArray, m⟩ { s with heap := h', toks := tk }) →
    wpAny (model prog w) A (forIn l (⟨acc, n⟩ : (Array Str × Nat)) tupBody) Q E s := by
  intro l
  induction l with
  | nil =>
    intro Bs acc n s Q hT _ _ h
    cases hT
    have h0 := h [] s.heap s.toks n rfl (Nat.le_refl _) fun _ _ e => e
    simp only [List.forIn_nil]
    exact wpAny_pure (by simpa using h0)
  | cons x l ih =>
    intro Bs acc n s Q hT hn hk0 h
    cases hT with
    | cons hx hl =>
      rename_i B Bs'
      rw [pil_cons] at hn
      rw [List.forIn_cons]
      refine wpAny_bind (wpAny_bind (hx (n + 1) (by omega) _ _ _ _ hu hk0 fun t h' tk ht hkp => wpAny_pure ?_))
      refine ih Bs' (acc.push t) (n + (t.length + 2)) _ Q hl (by omega) (fun b o e => hkp _ _ (hk0 _ _ e)) fun ts h'' tk' m hlen hp hk2 => ?_
      have h1 := h (t :: ts) h'' tk' m (by simp [hlen]) (by rw [piled_cons, pil_cons]; omega) fun b o e => hk2 _ _ (hkp _ _ e)
      simpa using h1
theorem tup_atS {h₀ : Heap} {d M : Nat} {a : Addr} {o : Obj} {items : Array Value} {n : Nat} {Bs : List Nat} {s : Shared} {Qf : Fin → Shared → Prop} {base : Nat} (ha : h₀.get? a = some o) (hd : o.data = .seq items n) (hT : AllS prog w h₀ d items.toList Bs)
    (hu : A.units + d < cLine) (hk0 : ∀ b o, h₀.get? b = some o → s.heap.get? b = some o) (hM : M ≤ sizeLine) (hp : pil Bs + 5 ≤ M) (hb : base + M ≤ sizeLine)
    (hR : ∀ t h' u tk, t.length ≤ M → (∀ b o, s.heap.get? b = some o → h'.get? b = some o) → Qf (.done (.ret (.str t u))) { s with heap := h', toks := tk }) :
    wpAny (model prog w) A (Builtin.tupleReprAt base ⟨[.ref a], []⟩) Qf E s := by
  rw [tuple_repr_tree]
  refine wpAny_bind (fmt_underWay fun b => ?_)
  cases b with
  | true =>
    refine PySem.W.KFB.if_so rfl ?_
    refine wpAny_bind (wpAny_rule ?_)
    refine wpAny_bind (wpAny_mkStr (wpAny_pure ?_) (by decide +kernel))
    exact hR "(...)" s.heap _ _ (Nat.le_trans fmt_way (by omega)) fun _ _ e => e
  | false =>
    refine PySem.W.KFB.if_not rfl ?_
    unfold tupleReprRest Builtin.Tuple.tupleItemsOf
    refine wpAny_bind (wpAny_bind (wpAny_seqItems (hk0 _ _ ha) hd (wpAny_pure ?_)))
    rw [← Array.forIn_toList]
    refine wpAny_bind (foldS hu _ Bs _ _ _ _ hT (by omega) hk0 fun ts h' tk m hlen hpl hkp => ?_)
    have hl := tupleText_le ts
    have e : ts.length = items.size := by simpa using hlen
    have hl2 : (tupleText ts).length ≤ sizeLine := by omega
    refine wpAny_bind (wpAny_mkStr (wpAny_pure ?_) (by simpa [tupleText, e] using hl2))
    have h1 := hR (tupleText ts) h' tk (tk + 1) (by omega) hkp
    simpa [tupleText, e] using h1
end
section
variable {prog : Program} {w : World}
theorem ReprS.list {h₀ : Heap} {d M : Nat} {a : Addr} {oa : Obj} {l : List Value} {na : Nat} {Bs : List Nat} (ha : h₀.get? a = some oa) (hc : oa.cls = .type "list") (hda : oa.data = .seq l.toArray na) (hsz : l.length ≤ 1000)
    (hT : AllS prog w h₀ d l Bs) (hp : pil Bs + 5 ≤ M) : ReprS prog w h₀ (d + 1) M (.ref a) := by
  intro base hb A E s Q hu hk0 hQ
  cases l with
  | nil => exact wpAny_pyReprUnder_ref (by omega) (wpAny_pyReprObjUnder_list_empty ⟨oa, hk0 _ _ ha, hc⟩ (by omega) (hk0 _ _ ha) hda ⟨_, _, rfl, hQ _ s.heap _ (Nat.le_trans (show ("[]" : Str).length ≤ 5 by decide +kernel) (by omega)) fun _ _ e => e⟩)
  | cons x l =>
    refine wpAny_pyReprUnder_ref (by omega) (wpAny_pyReprObjUnder_twin (twin := "list.__repr__.under") ⟨oa, hk0 _ _ ha, hc⟩ F.slot_list_repr.toG rfl (by omega) ?_)
    refine call_twin_plain F.plain_list_repr_under F.entry_list_repr_under F.check_list_repr_under ⟨oa, hk0 _ _ ha, hc⟩ F.slot_list_repr.toG (F.args_list_repr_1 _) ?_
    refine list_atS (M := M) (R := callEnd _ E) ha hda (by simpa using hT.len) (Nat.le_trans (show (x :: l).toArray.size ≤ 1000 by simpa using hsz) (by decide)) (fun i y e => hT.at_ i y (by simpa using e)) hu hk0 (by omega) hp hb fun t h' u tk ht hk => ⟨⟨_, _, rfl⟩, _, _, rfl, hQ t h' tk ht hk⟩
theorem ReprS.tuple {h₀ : Heap} {d M : Nat} {a : Addr} {oa : Obj} {items : Array Value} {na : Nat} {Bs : List Nat} (ha : h₀.get? a = some oa) (hc : oa.cls = .type "tuple") (hda : oa.data = .seq items na)
    (hT : AllS prog w h₀ d items.toList Bs) (hp : pil Bs + 5 ≤ M) : ReprS prog w h₀ (d + 1) M (.ref a) := by
  intro base hb A E s Q hu hk0 hQ
  refine wpAny_pyReprUnder_ref (by omega) (wpAny_pyReprObjUnder_twin (twin := "tuple.__repr__.under") ⟨oa, hk0 _ _ ha, hc⟩ F.slot_tuple_repr rfl (by omega) ?_)
  refine call_twin_own (F.quiet_tuple_repr_under _) F.entry_tuple_repr_under F.check_tuple_repr_under ⟨oa, hk0 _ _ ha, hc⟩ F.slot_tuple_repr (F.args_tuple_repr_1 _) (wpOwn_of_wpAny ?_)
  refine tup_atS (A := A.under (.builtin "tuple.__repr__.under" ⟨[.ref a, rawInt base], []⟩)) (M := M) ha hda hT (by rw [units_under_tuple_repr_under]; omega) hk0 (by omega) hp hb fun t h' u tk ht hk => ⟨⟨_, _, rfl⟩, _, _, rfl, hQ t h' tk ht hk⟩
end
end Own

namespace Own
open PySem PySem.Spec PyProof.Rows L2
inductive EntS (prog : Program) (w : World) (h₀ : Heap) (d : Nat) : List DictEntry → List Nat → Prop
  | nil : EntS prog w h₀ d [] []
  | cons {e : DictEntry} {B C : Nat} {es : List DictEntry} {Bs : List Nat} : ReprS prog w h₀ d B e.key → ReprS prog w h₀ d C e.val → EntS prog w h₀ d es Bs → EntS prog w h₀ d (e :: es) ((B + C + 2) :: Bs)
theorem EntS.len {prog : Program} {w : World} {h₀ : Heap} {d : Nat} : ∀ {l : List DictEntry} {Bs : List Nat}, EntS prog w h₀ d l Bs → Bs.length = l.length
  | _, _, .nil => rfl
  | _, _, .cons _ _ h => by simp [h.len]
theorem EntS.at_ {prog : Program} {w : World} {h₀ : Heap} {d : Nat} : ∀ {l : List DictEntry} {Bs : List Nat}, EntS prog w h₀ d l Bs → ∀ (i : Nat) (e : DictEntry), l[i]? = some e → ∃ B C, Bs[i]? = some (B + C + 2) ∧ ReprS prog w h₀ d B e.key ∧ ReprS prog w h₀ d C e.val
  | _, _, .nil, _, _, e => by simp at e
  | _, _, .cons h k _, 0, _, e => by
    simp at e
    subst e
    exact ⟨_, _, rfl, h, k⟩
  | _, _, .cons _ _ h, i + 1, x, e => by
    obtain ⟨B, C, e1, r⟩ := h.at_ i x (by simpa using e)
    exact ⟨B, C, by simpa using e1, r⟩
theorem dictText_le (ts : List Str) : (dictText ts).length ≤ piled ts + 3 := by
  have e : (dictText ts).length = 1 + (Str.join ", " ts).length + 1 := by
    unfold dictText
    rw [strLen_append, strLen_append]
    rfl
  by_cases h : ts = []
  · subst h
    have : (Str.join ", " []).length = 0 := by decide +kernel
    omega
  · have := join_length_add ts h
    omega
section
variable {prog : Program} {w : World} {A : Around} {E : Value → Shared → Prop}
theorem dict_atS {h₀ : Heap} {d M : Nat} {a : Addr} {o : Obj} {es : Array DictEntry} {n : Nat} {Bs : List Nat} {s : Shared} {Qf : Fin → Shared → Prop} {base : Nat} (ha : h₀.get? a = some o) (hc : o.cls = .type "dict") (hd : o.data = .dict es n) (hsys : (a == sysModules) = false) (hE : EntS prog w h₀ d es.toList Bs)
    (hu : A.units + d < cLine) (hk0 : ∀ b o, h₀.get? b = some o → s.heap.get? b = some o) (hM : M ≤ sizeLine) (hp : pil Bs + 5 ≤ M) (hb : base + M ≤ sizeLine)
    (hR : ∀ t h' u tk, t.length ≤ M → (∀ b o, s.heap.get? b = some o → h'.get? b = some o) → Qf (.done (.ret (.str t u))) { s with heap := h', toks := tk }) :
    wpAny (model prog w) A (Builtin.dictReprAt base ⟨[.ref a], []⟩) Qf E s := by
  have hTy : s.TypeIs (.ref a) "dict" := ⟨o, hk0 _ _ ha, hc⟩
  have hlen : Bs.length = es.size := by simpa using hE.len
  unfold Builtin.dictReprAt
  refine wpAny_bind ?_
  unfold Builtin.Dict.dictSlotNone
  refine wpAny_bind (wpAny_notOrdered_dict hTy ?_)
  show wpAny _ _ (pure (Value.ref a)) _ _ s
  refine wpAny_pure ?_
  rw [dictReprRunning_eq]
  refine wpAny_bind (wpAny_bind (wpAny_stack_any fun st => wpAny_pure ?_))
  generalize st.tail.any (dictGuardF (.ref a)) = running
  cases running with
  | true =>
    refine PySem.W.KFB.if_so rfl ?_
    refine wpAny_bind (wpAny_rule ?_)
    refine wpAny_bind (wpAny_mkStr (wpAny_pure ?_) (by decide +kernel))
    exact hR _ s.heap _ _ (Nat.le_trans (show ("{...}" : Str).length ≤ 5 by decide +kernel) (by omega)) fun _ _ e => e
  | false =>
    refine PySem.W.KFB.if_not rfl ?_
    show wpAny _ _ (Builtin.Dict.addrOf (.ref a) >>= _) _ _ s
    refine wpAny_bind (wpAny_pure ?_)
    show wpAny _ _ (Builtin.Dict.showsAll a >>= _) _ _ s
    unfold Builtin.Dict.showsAll
    rw [if_neg (by rw [hsys]; exact Bool.false_ne_true)]
    refine wpAny_bind (wpAny_pure ?_)
    refine wpAny_bind (wpAny_dictEpoch (hk0 _ _ ha) hd ?_)
    refine wpAny_bind (wpAny_dictEntries (hk0 _ _ ha) hd ?_)
    refine wpAny_bind ?_
    rw [Std.Legacy.Range.forIn_eq_forIn_range']
    simp only [Std.Legacy.Range.size, Nat.sub_zero, Nat.add_sub_cancel, Nat.div_one]
    refine wpAny_forIn_list _
      (fun rest' r s' => ∃ i h' tk ts m, rest' = List.range' i (es.size - i) ∧ i ≤ es.size ∧ r = (⟨List.toArray ts, m⟩ : (Array Str × Nat)) ∧ m + pil (Bs.drop i) + 1 ≤ sizeLine ∧ piled ts + pil (Bs.drop i) + 3 ≤ M ∧ s' = { s with heap := h', toks := tk } ∧ ∀ b o, s.heap.get? b = some o → h'.get? b = some o)
      _ ?_ ?_ _ _ ⟨0, s.heap, s.toks, [], base, by simp, Nat.zero_le _, rfl, by rw [List.drop_zero]; omega, by rw [List.drop_zero]; show 0 + _ + 3 ≤ M; omega, rfl, fun _ _ e => e⟩
    · rintro x rest' _ s' ⟨i, h', tk, ts, m, hr, hi, rfl, hm, hpl, rfl, hkp⟩
      have hlt : i < es.size := by
        rcases Nat.lt_or_ge i es.size with h | h
        · exact h
        · rw [Nat.sub_eq_zero_of_le h] at hr; simp at hr
      obtain ⟨rfl, hrest⟩ : x = i ∧ rest' = List.range' (i + 1) (es.size - (i + 1)) := by
        have e : es.size - i = (es.size - (i + 1)) + 1 := by omega
        rw [e, List.range'_succ] at hr
        injection hr with h1 h2
        exact ⟨h1, h2⟩
      obtain ⟨Bk, Bv, hB, rk, rv⟩ := hE.at_ x es[x] (by simp [hlt])
      have hp1 := pil_drop hB
      refine wpAny_bind (wpAny_dictEntries (hkp _ _ (hk0 _ _ ha)) hd ?_)
      rw [Array.getElem?_eq_getElem hlt]
      refine wpAny_bind (wpAny_holding (wpAny_bind (rk (m + 1) (by omega) _ _ _ _ hu (fun b o e => hkp _ _ (hk0 _ _ e)) fun k h1 t1 hk1l hk1 =>
        wpAny_bind (rv (m + (k.length + 3)) (by omega) _ _ _ _ hu (fun b o e => hk1 _ _ (hkp _ _ (hk0 _ _ e))) fun v h2 t2 hv2l hk2 => wpAny_pure ?_))))
      refine wpAny_bind (wpAny_dictEpoch (hk2 _ _ (hk1 _ _ (hkp _ _ (hk0 _ _ ha)))) hd ?_)
      rw [if_neg (by simp)]
      have e1 : (List.toArray ts).push (k ++ ": " ++ v) = List.toArray (ts ++ [k ++ ": " ++ v]) := by simp
      have hkl : (k ++ ": " ++ v).length = k.length + 2 + v.length := by
        rw [strLen_append, strLen_append]; rfl
      refine wpAny_pure ⟨x + 1, h2, t2, ts ++ [k ++ ": " ++ v], m + (k.length + v.length + 4), hrest, hlt, ?_, by omega, ?_, rfl, fun b o e => hk2 _ _ (hk1 _ _ (hkp _ _ e))⟩
      · rw [e1]
      · have e2 : piled [k ++ ": " ++ v] = k.length + 2 + v.length + 2 := by simp [piled, hkl]
        rw [piled_append, e2]
        omega
    · rintro _ s' ⟨i, h', tk, ts, m, hr, hi, rfl, hm, hpl, rfl, hkp⟩
      have hl := dictText_le ts
      have hl2 : (dictText ts).length ≤ sizeLine := by omega
      refine wpAny_bind (wpAny_mkStr (wpAny_pure ?_) (by simpa [dictText] using hl2))
      have h1 := hR (dictText ts) h' tk (tk + 1) (by omega) hkp
      simpa [dictText] using h1
end
section
variable {prog : Program} {w : World}
theorem ReprS.dict {h₀ : Heap} {d M : Nat} {a : Addr} {oa : Obj} {es : Array DictEntry} {na : Nat} {Bs : List Nat} (ha : h₀.get? a = some oa) (hc : oa.cls = .type "dict") (hda : oa.data = .dict es na) (hsys : (a == sysModules) = false)
    (hT : EntS prog w h₀ d es.toList Bs) (hp : pil Bs + 5 ≤ M) : ReprS prog w h₀ (d + 1) M (.ref a) := by
  intro base hb A E s Q hu hk0 hQ
  refine wpAny_pyReprUnder_ref (by omega) (wpAny_pyReprObjUnder_twin (twin := "dict.__repr__.under") ⟨oa, hk0 _ _ ha, hc⟩ F.slot_dict_repr rfl (by omega) ?_)
  refine call_twin_own (F.quiet_dict_repr_under _) F.entry_dict_repr_under F.check_dict_repr_under ⟨oa, hk0 _ _ ha, hc⟩ F.slot_dict_repr (F.args_dict_repr_1 _) (wpOwn_of_wpAny ?_)
  refine dict_atS (A := A.under (.builtin "dict.__repr__.under" ⟨[.ref a, rawInt base], []⟩)) (M := M) ha hc hda hsys hT (by rw [units_under_dict_repr_under]; omega) hk0 (by omega) hp hb fun t h' u tk ht hk => ⟨⟨_, _, rfl⟩, _, _, rfl, hQ t h' tk ht hk⟩
variable {A : Around} {E : Value → Shared → Prop} {s : Shared}
/-- as an object's text -/
theorem objS_list {d M : Nat} {a : Addr} {oa : Obj} {l : List Value} {na : Nat} {Bs : List Nat} {Q : Value → Shared → Prop} (ha : s.heap.get? a = some oa) (hc : oa.cls = .type "list") (hda : oa.data = .seq l.toArray na) (hsz : l.length ≤ 1000)
    (hT : AllS prog w s.heap d l Bs) (hp : pil Bs + 5 ≤ M) (hM : M ≤ sizeLine) (hu : A.units + (d + 1) < cLine)
    (hQ : ∀ t h' u tk, t.length ≤ M → (∀ b o, s.heap.get? b = some o → h'.get? b = some o) → Q (.str t u) { s with heap := h', toks := tk }) : wpAny (model prog w) A (pyReprObj (.ref a)) Q E s := by
  cases l with
  | nil => exact wpAny_pyReprObj_list_empty ⟨oa, ha, hc⟩ (by omega) ha hda (hQ _ s.heap _ _ (Nat.le_trans (show ("[]" : Str).length ≤ 5 by decide +kernel) (by omega)) fun _ _ e => e)
  | cons x l =>
    refine wpAny_pyReprObj_slot (by omega) ⟨oa, ha, hc⟩ F.slot_list_repr.toG ?_
    refine wpAny_call (codeAny_call_builtin F.slot_list_repr.plain F.entry_list_repr (F.slot_list_repr.check _ _ _ _ _ _ _ _ ⟨oa, ha, hc⟩ (F.args_list_repr_1 _) ?_))
    exact list_atS (base := 0) (M := M) (R := callEnd _ E) ha hda (by simpa using hT.len) (Nat.le_trans (show (x :: l).toArray.size ≤ 1000 by simpa using hsz) (by decide)) (fun i y e => hT.at_ i y (by simpa using e)) hu (fun _ _ e => e) hM hp (by omega) fun t h' u tk ht hk => ⟨_, _, rfl, hQ t h' u tk ht hk⟩
theorem objS_tuple {d M : Nat} {a : Addr} {oa : Obj} {items : Array Value} {na : Nat} {Bs : List Nat} {Q : Value → Shared → Prop} (ha : s.heap.get? a = some oa) (hc : oa.cls = .type "tuple") (hda : oa.data = .seq items na)
    (hT : AllS prog w s.heap d items.toList Bs) (hp : pil Bs + 5 ≤ M) (hM : M ≤ sizeLine) (hu : A.units + (d + 1) < cLine)
    (hQ : ∀ t h' u tk, t.length ≤ M → (∀ b o, s.heap.get? b = some o → h'.get? b = some o) → Q (.str t u) { s with heap := h', toks := tk }) : wpAny (model prog w) A (pyReprObj (.ref a)) Q E s := by
  refine wpAny_pyReprObj_slot (by omega) ⟨oa, ha, hc⟩ F.slot_tuple_repr ?_
  refine wpAny_call (codeAny_call_builtin_own (Code.quiet_builtin _ (by decide +kernel)) F.entry_tuple_repr (F.slot_tuple_repr.check _ _ _ _ _ _ _ _ ⟨oa, ha, hc⟩ (F.args_tuple_repr_1 _) (wpOwn_of_wpAny ?_)))
  refine tup_atS (A := A.under (.builtin "tuple.__repr__" ⟨[.ref a], []⟩)) (base := 0) (M := M) ha hda hT (by rw [units_under_tuple_repr]; omega) (fun _ _ e => e) hM hp (by omega) fun t h' u tk ht hk => ⟨_, _, rfl, hQ t h' u tk ht hk⟩
theorem objS_dict {d M : Nat} {a : Addr} {oa : Obj} {es : Array DictEntry} {na : Nat} {Bs : List Nat} {Q : Value → Shared → Prop} (ha : s.heap.get? a = some oa) (hc : oa.cls = .type "dict") (hda : oa.data = .dict es na) (hsys : (a == sysModules) = false)
    (hT : EntS prog w s.heap d es.toList Bs) (hp : pil Bs + 5 ≤ M) (hM : M ≤ sizeLine) (hu : A.units + (d + 1) < cLine)
    (hQ : ∀ t h' u tk, t.length ≤ M → (∀ b o, s.heap.get? b = some o → h'.get? b = some o) → Q (.str t u) { s with heap := h', toks := tk }) : wpAny (model prog w) A (pyReprObj (.ref a)) Q E s := by
  refine wpAny_pyReprObj_slot (by omega) ⟨oa, ha, hc⟩ F.slot_dict_repr ?_
  refine wpAny_call (codeAny_call_builtin_own (Code.quiet_builtin _ (by decide +kernel)) F.entry_dict_repr (F.slot_dict_repr.check _ _ _ _ _ _ _ _ ⟨oa, ha, hc⟩ (F.args_dict_repr_1 _) (wpOwn_of_wpAny ?_)))
  refine dict_atS (A := A.under (.builtin "dict.__repr__" ⟨[.ref a], []⟩)) (base := 0) (M := M) ha hc hda hsys hT (by rw [units_under_dict_repr]; omega) (fun _ _ e => e) hM hp (by omega) fun t h' u tk ht hk => ⟨_, _, rfl, hQ t h' u tk ht hk⟩
end
end Own

namespace Own
open PySem PySem.Spec PyProof.Rows L2
/-- a number, a truth value, None, a text -/
def Leaf (v : V) : Prop := (∃ i : Int, v = .int i ∧ i.natAbs.log2 < 1000) ∨ (∃ b : Bool, v = .bl b) ∨ v = .non ∨ ∃ y : Str, v = .str y ∧ (reprText y).length ≤ 1000
/-- .. and lists, tuples and dicts of these -/
def ShoD (K : PySem.W.Frag) (H : Hp) : Nat → V → Prop
  | 0, v => Leaf v
  | n + 1, v => ShoD K H n v ∨ (∃ (p : Addr) (xs : List V), v = .ref p ∧ (SqL K H p xs ∨ SqT K H p xs) ∧ xs.length ≤ 8 ∧ ∀ x ∈ xs, ShoD K H n x) ∨
    ∃ (p : Addr) (kvs : List (Key × V)), v = .ref p ∧ H p = some (.dK kvs) ∧ kvs.length ≤ 8 ∧ ∀ kv ∈ kvs, Leaf (kV kv.1) ∧ Leaf kv.2
def bd : Nat → Nat
  | 0 => 1010
  | n + 1 => 10 * bd n + 20000
theorem bd_ge (n : Nat) : 1010 ≤ bd n := by
  induction n with
  | zero => exact Nat.le_refl _
  | succ n ih => show 1010 ≤ 10 * bd n + 20000; omega
theorem leafS {prog : Program} {w : World} {h₀ : Heap} {d : Nat} {v : V} {u : Value} (h : Leaf v) (r : RelV v u) : ReprS prog w h₀ d 1010 u := by
  rcases h with ⟨i, rfl, hi⟩ | ⟨b, rfl⟩ | rfl | ⟨y, rfl, hy⟩
  · obtain ⟨t, rfl⟩ := r
    exact ReprS.of_is (ReprIs.int t (by omega)) (Nat.le_trans (txt_len hi) (by decide))
  · cases (show u = Value.bool b from r)
    exact ReprS.of_is (ReprIs.bool b) (by cases b <;> decide +kernel)
  · cases (show u = Value.none from r)
    exact ReprS.of_is ReprIs.none (by decide +kernel)
  · obtain ⟨t, rfl⟩ := r
    exact ReprS.of_is (ReprIs.str y t (Nat.le_trans hy (by decide))) (by omega)
theorem allS {prog : Program} {w : World} {h₀ : Heap} {d B : Nat} : ∀ {xs : List V} {us : List Value}, Vals xs us → (∀ x ∈ xs, ∀ u, RelV x u → ReprS prog w h₀ d B u) → AllS prog w h₀ d us (List.replicate xs.length B)
  | _, _, .nil, _ => .nil
  | _, _, .cons r t, h => .cons (h _ List.mem_cons_self _ r) (allS t fun x hx => h x (List.mem_cons_of_mem _ hx))
theorem pil_rep (n B : Nat) : pil (List.replicate n B) = n * (B + 2) := by
  induction n with
  | zero => simp [pil]
  | succ n ih => rw [List.replicate_succ, pil_cons, ih, Nat.succ_mul]; omega
theorem entS {prog : Program} {w : World} {h₀ : Heap} {d : Nat} : ∀ {kvs : List (Key × V)} {vs : List (Key × Value)} {es : List DictEntry}, KV kvs vs → Pairs (mixKind prog w) es vs → (∀ kv ∈ kvs, Leaf (kV kv.1) ∧ Leaf kv.2) → EntS prog w h₀ d es (List.replicate kvs.length 2022)
  | _, _, _, .nil, .nil, _ => .nil
  | kv :: kvs, _, _, .cons r t, .cons k e p, h => by
    have hh := h _ List.mem_cons_self
    refine EntS.cons (B := 1010) (C := 1010) ?_ ?_ (entS t p fun x hx => h x (List.mem_cons_of_mem _ hx))
    · rcases keyIs_shape k with ⟨i, t', e1, e2⟩ | ⟨x, t', e1, e2⟩
      · rw [e2]
        refine leafS hh.1 ?_
        rw [r.1, e1]
        exact ⟨t', rfl⟩
      · rw [e2]
        refine leafS hh.1 ?_
        rw [r.1, e1]
        exact ⟨t', rfl⟩
    · rw [e]
      exact leafS hh.2 r.2
section
variable {X : Cx}
theorem shoS {pins : List (Addr × Obj)} {σ : L2.St} {H : Hp} {s : Shared} (I : Inv X pins σ H s) : ∀ (n : Nat) (v : V) (u : Value), ShoD X.K H n v → RelV v u → ReprS X.prog X.w s.heap n (bd n) u
  | 0, v, u, h, r => leafS h r
  | n + 1, v, u, h, r => by
    have ge := bd_ge n
    rcases h with h | ⟨p, xs, rfl, hp, hl, hx⟩ | ⟨p, kvs, rfl, hp, hl, hx⟩
    · exact (shoS I n v u h r).le (Nat.le_succ n) (by show bd n ≤ 10 * bd n + 20000; omega)
    · cases (show u = Value.ref p from r)
      have le : pil (List.replicate xs.length (bd n)) + 5 ≤ bd (n + 1) := by
        rw [pil_rep]
        show _ ≤ 10 * bd n + 20000
        have : xs.length * (bd n + 2) ≤ 8 * (bd n + 2) := Nat.mul_le_mul_right _ hl
        omega
      rcases hp with hp | hp
      · obtain ⟨its, rv, obj, _⟩ := I.list hp
        obtain ⟨⟨oc, od, dt, sl⟩, ho, hc, m, hd⟩ := obj.isList
        have hlen : its.length = xs.length := (Vals.length rv).symm
        exact ReprS.list ho hc hd (by omega) (allS rv fun x hxm u r => shoS I n x u (hx x hxm) r) le
      · obtain ⟨its, rv, ⟨o, ho, hc, m, hd⟩, _⟩ := I.tuple hp
        exact ReprS.tuple ho hc hd (by simpa using allS rv fun x hxm u r => shoS I n x u (hx x hxm) r) le
    · cases (show u = Value.ref p from r)
      obtain ⟨_, hS, vs, kv, o, es, ep, ho, ex, hd, _, pr, _⟩ := I.hok p _ hp
      refine ReprS.dict ho ex.1 hd hS (entS kv pr hx) ?_
      rw [pil_rep]
      show _ ≤ 10 * bd n + 20000
      have : kvs.length * (2022 + 2) ≤ 8 * (2022 + 2) := Nat.mul_le_mul_right _ hl
      omega
/-- {x!r}: some text -/
def tFmtD (K : PySem.W.Frag) (te : TE) : TE := fun σ H Q => te σ H fun x H1 => ShoD K H1 3 x ∧ ∀ y : Str, y.length ≤ 4000000 → Q (.str y) H1
set_option maxHeartbeats 600000 in
theorem pe_fmtD {k : Nat} {e : Expr} {te : TE} {pos : Pos} (room : Room k X.A) (he : PE X e te) : PE X (.FormattedValue e 114 none pos) (tFmtD X.K te) := by
  refine ⟨fun pins s σ H Q inv ask => ?_⟩
  refine wpAny_FormattedValue_repr (thn (he.run pins s σ H _ inv ask) fun v s1 hv => ?_)
  obtain ⟨x, H1, I1, r1, sho, q⟩ := hv
  have un := room.units
  have room0 := room.units0
  have put : ∀ (m : Str) (t : Tok) (s2 : Shared), m.length ≤ 4000000 → Inv X pins σ H1 s2 → wpAny (model X.prog X.w) X.A (formatField (.str m t) Str.empty) (EP X pins σ Q) X.xe s2 := fun m t s2 hm J =>
    wpAny_formatField_str ⟨.str m, H1, J, ⟨_, rfl⟩, q m hm⟩ ⟨.str m, H1, J.tok _, ⟨_, rfl⟩, q m hm⟩ (Nat.le_trans hm (by decide))
  have leaf : ∀ x, Leaf x → RelV x v → wpAny (model X.prog X.w) X.A (pyReprObj v) (fun m s2 => wpAny (model X.prog X.w) X.A (formatField m Str.empty) (EP X pins σ Q) X.xe s2) X.xe s1 := fun x h r1 => by
    rcases h with ⟨i, rfl, hi⟩ | ⟨b, rfl⟩ | rfl | ⟨y, rfl, hy⟩
    · obtain ⟨t, rfl⟩ := r1
      exact pyReprObj_int (by omega) (put _ _ _ (Nat.le_trans (txt_len hi) (by decide)) (I1.tok _))
    · cases (show v = Value.bool b from r1)
      exact pyReprObj_bool (put _ _ _ (by cases b <;> decide +kernel) (I1.tok _))
    · cases (show v = Value.none from r1)
      exact pyReprObj_none (put _ _ _ (by decide +kernel) (I1.tok _))
    · obtain ⟨t, rfl⟩ := r1
      exact pyReprObj_str (put _ _ _ (by omega) (I1.tok _)) (Nat.le_trans hy (by decide))
  have all : ∀ n, n ≤ 3 → ∀ x, ShoD X.K H1 n x → RelV x v → wpAny (model X.prog X.w) X.A (pyReprObj v) (fun m s2 => wpAny (model X.prog X.w) X.A (formatField m Str.empty) (EP X pins σ Q) X.xe s2) X.xe s1 := by
    intro n
    induction n with
    | zero => exact fun _ x h r => leaf x h r
    | succ n ih =>
      intro hn x h r1
      have ge := bd_ge n
      have up : bd (n + 1) ≤ 4000000 := by
        have b0 : bd 0 = 1010 := rfl
        have b1 : bd (0 + 1) = 10 * bd 0 + 20000 := rfl
        have b2 : bd (1 + 1) = 10 * bd (0 + 1) + 20000 := rfl
        have b3 : bd (2 + 1) = 10 * bd (1 + 1) + 20000 := rfl
        have : n = 0 ∨ n = 1 ∨ n = 2 := by omega
        rcases this with e | e | e <;> rw [e] <;> omega
      rcases h with h | ⟨p, xs, rfl, hp, hl, hx⟩ | ⟨p, kvs, rfl, hp, hl, hx⟩
      · exact ih (by omega) x h r1
      · cases (show v = Value.ref p from r1)
        have le : pil (List.replicate xs.length (bd n)) + 5 ≤ bd (n + 1) := by
          rw [pil_rep]
          show _ ≤ 10 * bd n + 20000
          have : xs.length * (bd n + 2) ≤ 8 * (bd n + 2) := Nat.mul_le_mul_right _ hl
          omega
        rcases hp with hp | hp
        · obtain ⟨its, rv, obj, _⟩ := I1.list hp
          obtain ⟨⟨oc, od, dt, sl⟩, ho, hc, m, hd⟩ := obj.isList
          have hlen : its.length = xs.length := (Vals.length rv).symm
          exact objS_list (M := bd (n + 1)) ho hc hd (by omega) (allS rv fun x hxm u r => shoS I1 n x u (hx x hxm) r) le (Nat.le_trans up (by decide)) (by omega) fun t h' u tk ht hk => put t u _ (by omega) (I1.kept (t' := tk) hk)
        · obtain ⟨its, rv, ⟨o, ho, hc, m, hd⟩, _⟩ := I1.tuple hp
          exact objS_tuple (M := bd (n + 1)) ho hc hd (by simpa using allS rv fun x hxm u r => shoS I1 n x u (hx x hxm) r) le (Nat.le_trans up (by decide)) (by omega) fun t h' u tk ht hk => put t u _ (by omega) (I1.kept (t' := tk) hk)
      · cases (show v = Value.ref p from r1)
        obtain ⟨_, hS, vs, kv, o, es, ep, ho, ex, hd, _, pr, _⟩ := I1.hok p _ hp
        have ent : EntS X.prog X.w s1.heap n es.toList (List.replicate kvs.length 2022) := entS kv pr hx
        have le : pil (List.replicate kvs.length 2022) + 5 ≤ bd (n + 1) := by
          rw [pil_rep]
          show _ ≤ 10 * bd n + 20000
          have : kvs.length * (2022 + 2) ≤ 8 * (2022 + 2) := Nat.mul_le_mul_right _ hl
          omega
        have hz : bd (n + 1) ≤ sizeLine := Nat.le_trans up (by decide)
        have hn4 : X.A.units + (n + 1) < cLine := by omega
        have ho' := ex.1
        clear hx pr kv hp
        generalize bd (n + 1) = M at le up hz
        exact objS_dict (M := M) ho ho' hd hS ent le hz hn4 fun t h' u tk ht hk => put t u _ (Nat.le_trans ht up) (I1.kept (t' := tk) hk)
  exact all 3 (Nat.le_refl _) x sho r1
end
end Own

/-! Own errors whose fields are values of many kinds. -/
namespace Own
open PySem PySem.Spec PyProof.Rows L2 NdefX
theorem sq_keep {K : PySem.W.Frag} {H H' : Hp} {p : Addr} {xs : List V} (s : ∀ b o, H b = some o → H' b = some o) (h : SqL K H p xs ∨ SqT K H p xs) : SqL K H' p xs ∨ SqT K H' p xs := by
  rcases h with ((h | ⟨o, h⟩) | h) | ((h | ⟨o, h⟩) | h)
  · exact .inl (.inl (.inl (s _ _ h)))
  · exact .inl (.inl (.inr ⟨o, s _ _ h⟩))
  · exact .inl (.inr h)
  · exact .inr (.inl (.inl (s _ _ h)))
  · exact .inr (.inl (.inr ⟨o, s _ _ h⟩))
  · exact .inr (.inr h)
theorem ShoD.keep {K : PySem.W.Frag} {H H' : Hp} (s : ∀ b o, H b = some o → H' b = some o) : ∀ {n : Nat} {v : V}, ShoD K H n v → ShoD K H' n v
  | 0, _, h => h
  | n + 1, _, .inl h => .inl (h.keep s)
  | n + 1, _, .inr (.inl ⟨p, xs, e, hp, hl, hx⟩) => .inr (.inl ⟨p, xs, e, sq_keep s hp, hl, fun x m => (hx x m).keep s⟩)
  | n + 1, _, .inr (.inr ⟨p, kvs, e, hp, hl, hx⟩) => .inr (.inr ⟨p, kvs, e, s _ _ hp, hl, hx⟩)
theorem ShoD.up {K : PySem.W.Frag} {H : Hp} {n : Nat} {v : V} (h : ShoD K H n v) : ShoD K H (n + 1) v := .inl h
theorem ShoD.leaf {K : PySem.W.Frag} {H : Hp} {v : V} (h : Leaf v) : ∀ n, ShoD K H n v
  | 0 => h
  | n + 1 => .inl (ShoD.leaf h n)
/-- the promise of its __init__ -/
def spErrD (K : PySem.W.Frag) (D : Addr) (nm : List Str) : Sp := fun vs H Q _ => ∃ (a : Addr) (ys : List V), vs = .ref a :: ys ∧ ys.length = nm.length ∧ (∀ y ∈ ys, ShoD K H 3 y) ∧ H a = some (exo a D none) ∧
  ∀ d H', H d = none → d ≠ a → (∀ b, H' b = if b = d then some (exd d (flE nm ys)) else if b = a then some (exo a D (some d)) else H b) → Q .non H'
section
variable {X : Cx} {pins : List (Addr × Obj)} {σ : L2.St} {H : Hp} {s : Shared} {Q : XK} {D f : Addr} {k : Nat} {fd : FuncData} {ps nm : List Str} {ys : List V} {us : List Value} {x : Str}
/-- what is asked of the class when it is called -/
theorem ask_errD {K : PySem.W.Frag} (hl : ys.length = nm.length) (hs : ∀ y ∈ ys, ShoD K H 3 y) (q : ∀ d, H d = none → Q (.ref D) (some d) (upd H d (.xd (flE nm ys)))) {a : Addr} (na : H a = none) :
    spErrD K D nm (.ref a :: ys) (upd H a (exo a D none)) (fun v H2 => v = .non ∧ ∃ (d : Addr) (fs : List (Str × V)), H2 a = some (exo a D (some d)) ∧ H2 d = some (exd d fs) ∧ H d = none ∧ Q (.ref D) (some d) (upd (del H2 a) d (.xd fs))) (fun _ _ _ => False) := by
  refine ⟨a, ys, rfl, hl, fun y hy => (hs y hy).keep fun b o e => ?_, upd_same, fun d H' nd ne h => ⟨rfl, d, flE nm ys, ?_, ?_, ?_, ?_⟩⟩
  · by_cases hb : b = a
    · rw [hb, na] at e
      cases e
    · rw [upd_ne hb]
      exact e
  · rw [h, if_neg ne.symm, if_pos rfl]
  · rw [h, if_pos rfl]
  · rw [upd_ne ne] at nd
    exact nd
  · have : upd (del H' a) d (.xd (flE nm ys)) = upd H d (.xd (flE nm ys)) := by
      funext b
      by_cases hb : b = d
      · rw [hb, upd_same, upd_same]
      · rw [upd_ne hb, upd_ne hb]
        by_cases ha : b = a
        · rw [ha, del_same, na]
        · rw [del_ne ha, h, if_neg hb, if_neg ha, upd_ne ha]
    rw [this]
    rw [upd_ne ne] at nd
    exact q d nd
/-- the call of the class -/
theorem err_madeD (T : OexC X.K D) (R : ErrT X.K X.mg x D f) (F1 : FnOk X.prog X.w X.K X.mg X.base CX0 k f fd ps (spErrD X.K D nm)) (hr : Room (k + 1) X.A) (hb : Binds X.K fd ps []) (I : Inv X pins σ H s) (r : Vals ys us) (hl : ys.length = nm.length) (hz : nm.length ≤ 1000)
    (hs : ∀ y ∈ ys, ShoD X.K H 3 y) (q : ∀ d, H d = none → Q (.ref D) (some d) (upd H d (.xd (flE nm ys)))) : wpAny (model X.prog X.w) X.A (call (.ref D) us) (L2N.MkP X pins σ Q) X.xe s := by
  obtain ⟨nn, qq, N, bs, bm, sn, sub, ab, col, dd, k0, k1, k2, k3, k5, hC, hbm⟩ := T.cls
  obtain ⟨hp, g, dr, tk, os⟩ := s
  have far : hp.objs.size ≤ hp.objs.size + 1 := Nat.le_succ _
  have free : H (hp.objs.size + 1) = none := I.hok.fresh far
  have ask := ask_errD (D := D) hl hs q free
  have old : ∀ b o, hp.get? b = some o → ((hp.push (PySem.W.kdv_tup us)).push (PySem.HandSPX.excO D hp.objs.size)).get? b = some o := fun b o e => Heap.get?_push_of_some _ (Heap.get?_push_of_some _ e)
  have here : ((hp.push (PySem.W.kdv_tup us)).push (PySem.HandSPX.excO D hp.objs.size)).get? (hp.objs.size + 1) = some (PySem.HandSPX.excO D hp.objs.size) := by heap_get
  have J : Inv X pins σ (upd H (hp.objs.size + 1) (exo (hp.objs.size + 1) D none)) ⟨(hp.push (PySem.W.kdv_tup us)).push (PySem.HandSPX.excO D hp.objs.size), g, dr, tk, os⟩ := I.laid (t' := tk) (a := hp.objs.size + 1) (o := exo (hp.objs.size + 1) D none) old far (exo_ok here)
  have vals : Vals (V.ref (hp.objs.size + 1) :: ys) (Value.ref (hp.objs.size + 1) :: us) := .cons rfl r
  have len : (Value.ref (hp.objs.size + 1) :: us).length = ps.length := by
    rw [← vals.length]
    exact F1.len _ _ _ _ ask
  have few : us.length ≤ sizeLine := by
    rw [← Paired.length r, hl]
    exact Nat.le_trans hz (by decide)
  have bind := hb _ (Value.ref (hp.objs.size + 1) :: us) J.kIn (by rw [List.append_nil]; exact len)
  rw [List.append_nil] at bind
  have run := F1.run _ X.stack _ _ ⟨Value.ref (hp.objs.size + 1) :: us, []⟩ _ _ _ (fun _ _ _ => False) (hr.make D us []) (J.env0.make D us []) bind vals ask
  refine wpAny_call (PySem.HandSPX.call_own F.excBase_ValueError (fun Y => PySem.HandSPX.refsVE_contains Y bm hbm) (I.kIn _ _ hC) (PySem.W.looks_findIn I.kIn R.i) (fun self => PySem.W.bind_fn I.kIn self R.t) few (codeAny_mono run fun res s' back => ?_))
  cases res with
  | error er => exact back.elim
  | ok fl =>
    cases fl with
    | ret u =>
      obtain ⟨v, H2, os2, bare2, un2, hok2, rv, ev, d, fs, ea, ed, hd1, q2⟩ := back
      subst ev
      obtain ⟨h2, g2, d2, t2, os'⟩ := s'
      obtain ⟨t0, G, K1, kG, ge, hoe, na⟩ := mk_end0 (d2 := d2) (t2 := t2) I far old un2 hok2 os2 bare2 ea ed hd1
      exact ⟨rv, hp.objs.size + 1, _, _, ⟨G, g2, d2, t2, os'⟩, _, .ref D, some d, rfl, K1, kG, ge, hoe, ⟨rfl, rfl, fun vs e => by cases e; rfl⟩, rfl, rfl, na, rfl, bare2, raises_own T.exC T.tyC, q2⟩
    | next => exact back.elim
    | brk => exact back.elim
    | cont => exact back.elim
end
/-- raise X(e, ..) -/
def tErrD (K : PySem.W.Frag) (D : Addr) (nm : List Str) (ta : TA) : L2.St → Hp → XK → Prop := fun σ H Q => ta σ H fun ys H1 => ys.length = nm.length ∧ nm.length ≤ 1000 ∧ (∀ y ∈ ys, ShoD K H1 3 y) ∧ ∀ d, H1 d = none → Q (.ref D) (some d) (upd H1 d (.xd (flE nm ys)))
section
variable {X : Cx} {W : WX} {x : Str} {D f : Addr} {k : Nat} {fd : FuncData} {ps nm : List Str} {e : Expr} {es : List Expr} {ta : TA} {p pos pos' : Pos}
theorem ps_errD (hc : X.calm = true) (tk : L2N.Takes X W) (T : OexC X.K D) (R : ErrT X.K X.mg x D f) (F1 : FnOk X.prog X.w X.K X.mg X.base CX0 k f fd ps (spErrD X.K D nm)) (hr : Room (k + 1) X.A) (hb : Binds X.K fd ps []) (hg : Gl X x) (ha : PA X (e :: es) ta)
    (hdb : (x == ("__debug__" : Str)) = false := by decide)
    (he : starEach (e :: es) X.env = (false, eval e X.env) :: starEach es X.env := by rfl)
    (hpl : (backTo pos (starEach es X.env)).any (·.1) = false := by rfl) :
    PS X (.Raise (some (.Call (.Name x p) (e :: es) [] pos)) none pos') (fun _ σ H => tErrD X.K D nm ta σ H fun cls d H' => W cls d σ H') := by
  refine L2N.ps_raise hc tk fun pins s σ H Q I h => ?_
  refine wpAny_Call_Name_kw (ld_glob I hg R.g ?_ hdb)
  refine PySem.W.callWith_K (h₀ := X.base) I.ok.mod.kin T.kC (thn (ha.run pos pins s σ H _ I h) fun us s1 ⟨ys, H1, I1, r, hl, hz, hs, q⟩ => ⟨I1.kIn, ?_⟩) he hpl
  exact err_madeD T R F1 hr hb I1 r hl hz hs q
end
end Own

namespace Own
open PySem PySem.Spec PyProof.Rows L2 NdefX
section
variable {P : Program} {w : World} {K : PySem.W.Frag} {mg : Str → Option Value} {base : Heap} {D cc cda f : Addr}
abbrev s_BadPins_init : Stmt := inClass (top 3) 0
theorem sn_BadPins : NScope ["self", "pins", "__class__"] ["self", "pins"] ["__class__"] (defScope s_BadPins_init) := nscope_by (by decide +kernel)
theorem ok_BadPins {oc kV dc pm ct : Value} {an od : Option Addr} {sl : Array (Option Value)} (T : ErrK P K mg D cc cda)
    (lk : K.lookup f = some ⟨oc, od, .func (PySem.W.fnX "__init__" "BadPins.__init__" (defArgs s_BadPins_init) (defBody s_BadPins_init) (defScope s_BadPins_init) [("__class__", cc)] .none kV dc pm an (.ref cda) ct), sl⟩) (hcd : PySem.W.codeIn K (.ref cda) "BadPins.__init__" = true)
    (n1 : PySem.W.findIn K (.ref D) "pins" = some none) :
    FnOk P w K mg base CX0 1 f (PySem.W.fnX "__init__" "BadPins.__init__" (defArgs s_BadPins_init) (defBody s_BadPins_init) (defScope s_BadPins_init) [("__class__", cc)] .none kV dc pm an (.ref cda) ct) ["self", "pins"] (spErrD K D ["pins"]) := by
  refine fn_err (N := ["self", "pins", "__class__"]) (ps := ["self", "pins"]) T lk hcd sn_BadPins rfl rfl rfl (fun vs H Q E h => ?_) (fun A outer s H vs Q E hr h => ?_)
  · obtain ⟨a, ys, rfl, hl, _⟩ := h
    show ys.length + 1 = _
    rw [hl]
    rfl
  · obtain ⟨a, ys, rfl, hl, hs, ha, q⟩ := h
    match ys, hl with
    | [y1], _ =>
      have h1 := hs y1 (by simp)
      refine ⟨a, _, _, rfl, ha, pa_cons (pe_joined (PJ.cons pe_str (PJ.cons (pe_fmtD hr (pv 1)) PJ.nil))) pa_nil, (pss_one (ps_ost (pv 0) (pv 1))), ?_⟩
      have e0 : (Str.empty).length = 0 := rfl
      have c1 : (Str.ofString "pins ").length ≤ 100 := by decide +kernel
      refine ⟨_, rfl, ?_, _, rfl, h1, fun z1 hz1 => ⟨_, rfl, ?_, ⟨by show 1 ≤ 1000; decide, ha, ?_⟩⟩⟩
      all_goals first | (simp only [strLen_append, sizeLine_eq, e0] at *; (first | omega | (show _ ≤ _; omega))) | skip
      refine ⟨_, rfl, _, rfl, a, D, rfl, T.oex, n1, .inl ⟨ha, fun dx nd ne => ?_⟩⟩
      refine q dx _ nd ne fun b => ?_
      by_cases hb : b = dx
      · subst hb
        rw [if_pos rfl]
        first | (rw [upd_ne ne, upd_same]; rfl) | (rw [upd_same]; rfl)
      · rw [if_neg hb]
        by_cases hb2 : b = a
        · subst hb2
          rw [if_pos rfl]
          first | (rw [upd_same]) | (rw [upd_ne hb, upd_same]) | (rw [upd_ne hb, upd_ne hb, upd_same])
        · rw [if_neg hb2]
          repeat (first | rw [upd_ne hb] | rw [upd_ne hb2])
abbrev s_BadCord_init : Stmt := inClass (top 6) 0
theorem sn_BadCord : NScope ["self", "entry", "__class__"] ["self", "entry"] ["__class__"] (defScope s_BadCord_init) := nscope_by (by decide +kernel)
theorem ok_BadCord {oc kV dc pm ct : Value} {an od : Option Addr} {sl : Array (Option Value)} (T : ErrK P K mg D cc cda)
    (lk : K.lookup f = some ⟨oc, od, .func (PySem.W.fnX "__init__" "BadCord.__init__" (defArgs s_BadCord_init) (defBody s_BadCord_init) (defScope s_BadCord_init) [("__class__", cc)] .none kV dc pm an (.ref cda) ct), sl⟩) (hcd : PySem.W.codeIn K (.ref cda) "BadCord.__init__" = true)
    (n1 : PySem.W.findIn K (.ref D) "entry" = some none) :
    FnOk P w K mg base CX0 1 f (PySem.W.fnX "__init__" "BadCord.__init__" (defArgs s_BadCord_init) (defBody s_BadCord_init) (defScope s_BadCord_init) [("__class__", cc)] .none kV dc pm an (.ref cda) ct) ["self", "entry"] (spErrD K D ["entry"]) := by
  refine fn_err (N := ["self", "entry", "__class__"]) (ps := ["self", "entry"]) T lk hcd sn_BadCord rfl rfl rfl (fun vs H Q E h => ?_) (fun A outer s H vs Q E hr h => ?_)
  · obtain ⟨a, ys, rfl, hl, _⟩ := h
    show ys.length + 1 = _
    rw [hl]
    rfl
  · obtain ⟨a, ys, rfl, hl, hs, ha, q⟩ := h
    match ys, hl with
    | [y1], _ =>
      have h1 := hs y1 (by simp)
      refine ⟨a, _, _, rfl, ha, pa_cons (pe_joined (PJ.cons pe_str (PJ.cons (pe_fmtD hr (pv 1)) PJ.nil))) pa_nil, (pss_one (ps_ost (pv 0) (pv 1))), ?_⟩
      have e0 : (Str.empty).length = 0 := rfl
      have c1 : (Str.ofString "entry ").length ≤ 100 := by decide +kernel
      refine ⟨_, rfl, ?_, _, rfl, h1, fun z1 hz1 => ⟨_, rfl, ?_, ⟨by show 1 ≤ 1000; decide, ha, ?_⟩⟩⟩
      all_goals first | (simp only [strLen_append, sizeLine_eq, e0] at *; (first | omega | (show _ ≤ _; omega))) | skip
      refine ⟨_, rfl, _, rfl, a, D, rfl, T.oex, n1, .inl ⟨ha, fun dx nd ne => ?_⟩⟩
      refine q dx _ nd ne fun b => ?_
      by_cases hb : b = dx
      · subst hb
        rw [if_pos rfl]
        first | (rw [upd_ne ne, upd_same]; rfl) | (rw [upd_same]; rfl)
      · rw [if_neg hb]
        by_cases hb2 : b = a
        · subst hb2
          rw [if_pos rfl]
          first | (rw [upd_same]) | (rw [upd_ne hb, upd_same]) | (rw [upd_ne hb, upd_ne hb, upd_same])
        · rw [if_neg hb2]
          repeat (first | rw [upd_ne hb] | rw [upd_ne hb2])
end
end Own

namespace Own
open PySem PySem.Spec PyProof.Rows L2
/-! ### what is no whole number, what is no sequence -/
def NotWh (K : PySem.W.Frag) (H : Hp) (v : V) : Prop := ∃ T, TyX K H v (.type T) ∧ T ∈ ["bool", "NoneType", "str", "list", "tuple", "dict"]
def NotSq (K : PySem.W.Frag) (H : Hp) (v : V) : Prop := ∃ T, TyX K H v (.type T) ∧ T ∈ ["int", "bool", "NoneType", "str", "dict"]
theorem tyx_same {K : PySem.W.Frag} {H H' : Hp} {v : V} {t : Value} (s : Same H H') (h : TyX K H v t) : TyX K H' v t := by
  cases h with
  | base b =>
    cases b with
    | non => exact .base .non
    | bl x => exact .base (.bl x)
    | int i => exact .base (.int i)
    | str x => exact .base (.str x)
    | flt x => exact .base (.flt x)
    | lst e => exact .base (.lst (s _ _ e))
    | frz e => exact .base (.frz (s _ _ e))
    | tup e => exact .base (.tup (s _ _ e))
    | dK e => exact .base (.dK (s _ _ e))
    | dT e => exact .base (.dT (s _ _ e))
    | ins e a b c d m => exact .base (.ins (s _ _ e) a b c d m)
  | byt b => exact .byt b
  | set e => exact .set (s _ _ e)
  | kList e c => exact .kList e c
  | kTuple e c => exact .kTuple e c
  | kDict e c => exact .kDict e c
  | fTuple e => exact .fTuple (s _ _ e)
  | fDict e => exact .fDict (s _ _ e)
theorem NotWh.same {K : PySem.W.Frag} {H H' : Hp} {v : V} (s : Same H H') (h : NotWh K H v) : NotWh K H' v := by
  obtain ⟨T, t, m⟩ := h
  exact ⟨T, tyx_same s t, m⟩
theorem NotSq.same {K : PySem.W.Frag} {H H' : Hp} {v : V} (s : Same H H') (h : NotSq K H v) : NotSq K H' v := by
  obtain ⟨T, t, m⟩ := h
  exact ⟨T, tyx_same s t, m⟩
theorem NotWh.bl {K : PySem.W.Frag} {H : Hp} (b : Bool) : NotWh K H (.bl b) := ⟨"bool", .base (.bl b), by decide⟩
theorem NotWh.non {K : PySem.W.Frag} {H : Hp} : NotWh K H .non := ⟨"NoneType", .base .non, by decide⟩
theorem NotWh.str {K : PySem.W.Frag} {H : Hp} (z : Str) : NotWh K H (.str z) := ⟨"str", .base (.str z), by decide⟩
theorem NotWh.lst {K : PySem.W.Frag} {H : Hp} {p : Addr} {xs : List V} (e : H p = some (.lst xs)) : NotWh K H (.ref p) := ⟨"list", .base (.lst e), by decide⟩
theorem NotWh.tup {K : PySem.W.Frag} {H : Hp} {p : Addr} {xs : List V} (e : H p = some (.tup xs)) : NotWh K H (.ref p) := ⟨"tuple", .base (.tup e), by decide⟩
theorem NotWh.dK {K : PySem.W.Frag} {H : Hp} {p : Addr} {kvs : List (Key × V)} (e : H p = some (.dK kvs)) : NotWh K H (.ref p) := ⟨"dict", .base (.dK e), by decide⟩
theorem NotSq.int {K : PySem.W.Frag} {H : Hp} (i : Int) : NotSq K H (.int i) := ⟨"int", .base (.int i), by decide⟩
theorem NotSq.bl {K : PySem.W.Frag} {H : Hp} (b : Bool) : NotSq K H (.bl b) := ⟨"bool", .base (.bl b), by decide⟩
theorem NotSq.non {K : PySem.W.Frag} {H : Hp} : NotSq K H .non := ⟨"NoneType", .base .non, by decide⟩
theorem NotSq.str {K : PySem.W.Frag} {H : Hp} (z : Str) : NotSq K H (.str z) := ⟨"str", .base (.str z), by decide⟩
theorem NotSq.dK {K : PySem.W.Frag} {H : Hp} {p : Addr} {kvs : List (Key × V)} (e : H p = some (.dK kvs)) : NotSq K H (.ref p) := ⟨"dict", .base (.dK e), by decide⟩
/-- no number of 0, 1, .., n - 1 -/
def NotIn (K : PySem.W.Frag) (H : Hp) (n : Int) (v : V) : Prop := (∃ i : Int, v = .int i ∧ (i < 0 ∨ n ≤ i)) ∨ NotWh K H v
theorem NotIn.same {K : PySem.W.Frag} {H H' : Hp} {n : Int} {v : V} (s : Same H H') (h : NotIn K H n v) : NotIn K H' n v := h.elim .inl fun x => .inr (x.same s)
/-- a list or a tuple of one's own -/
def SqH (H : Hp) (a : Addr) (xs : List V) : Prop := H a = some (.lst xs) ∨ H a = some (.tup xs)
theorem SqH.same {H H' : Hp} {a : Addr} {xs : List V} (s : Same H H') (h : SqH H a xs) : SqH H' a xs := h.elim (fun e => .inl (s _ _ e)) fun e => .inr (s _ _ e)
theorem SqH.b {K : PySem.W.Frag} {H : Hp} {a : Addr} {xs : List V} (h : SqH H a xs) : SqB K H a xs := h.elim (fun e => .inl (.inl (.inl e))) fun e => .inr (.inl (.inl e))
/-- an error's class with its __init__ -/
structure ErrU (K : PySem.W.Frag) (mg : Str → Option Value) (x : Str) (D f : Addr) (d : FuncData) (ps : List Str) : Prop where
  T : OexC K D
  R : ErrT K mg x D f
  b : Binds K d ps []
abbrev GE (P : Program) (w : World) (K : PySem.W.Frag) (mg : Str → Option Value) (base : Heap) (D f : Addr) (d : FuncData) (nm : List Str) : Prop := FnOk P w K mg base CX0 1 f d ("self" :: nm) (spErrD K D nm)
/-- the error is let out, its fields are these -/
def Out (D : Addr) (nm : List Str) (ys : List V) (H : Hp) (E : XK) : Prop := ∀ d, H d = none → E (.ref D) (some d) (upd H d (.xd (flE nm ys)))
section
variable {X : Cx} {pos : Pos}
/-- (a, b, ..) = a list or a tuple of that length -/
def gB (K : PySem.W.Frag) (n : Nat) (t : TGs) : TG := fun v σ H Q => ∃ a xs, v = .ref a ∧ SqB K H a xs ∧ xs.length = n ∧ t xs σ H Q
theorem pg_B {es : List Expr} {k : Nat} {t : TGs} {n : Nat} (hc : X.calm = true) (h : PGs X es t)
    (hn : (assignEach es X.env).length = n := by rfl) (hst : (assignEach es X.env).findIdx? (·.1) = none := by rfl) : PG X (.Tuple es k pos) (gB X.K n t) := by
  refine ⟨fun pins s σ H v u Q I r hw => ?_⟩
  obtain ⟨a, xs, e, hB, hl, q⟩ := hw
  rcases hB with hB | hB
  · exact (pg_unl hc h hn hst).run pins s σ H v u Q I r ⟨a, xs, e, hB, hl, q⟩
  · exact (pg_tup hc h hn hst).run pins s σ H v u Q I r ⟨a, xs, e, hB, hl, q⟩
end
section
variable {P : Program} {w : World} {K : PySem.W.Frag} {mg : Str → Option Value} {base : Heap} {C D f_u : Addr} {d_u : FuncData}
def spWholeY (K : PySem.W.Frag) : Sp := fun vs H Q _ => ∃ v : V, vs = [v] ∧ ((∃ i : Int, v = .int i ∧ Q (.bl true) H) ∨ (NotWh K H v ∧ Q (.bl false) H))
theorem ok_wholeY {f : Addr} {fd : FuncData} (F : Fun K "is_whole" "is_whole" s_is_whole f fd) (T : Bi mg) : FnOk P w K mg base CX0 1 f fd ["value"] (spWholeY K) := by
  refine F.ok sc_is_whole (fun vs H Q E h => ?_) (fun cdv A outer s H vs Q E hr h => ?_)
  · obtain ⟨v, rfl, _⟩ := h
    rfl
  · obtain ⟨v, rfl, h⟩ := h
    refine ⟨_, (pss_one (ps_ret (pe_and (pe_callB call_isi (by rfl) T.b_isinstance (by decide +kernel) (pa_cons (pv 0) (pa_cons (pe_bltn (v := .ty "int") (by rfl) T.b_int (by decide +kernel) rfl) pa_nil))) (pe_one (pe_not (pe_callB call_isi (by rfl) T.b_isinstance (by decide +kernel) (pa_cons (pv 0) (pa_cons (pe_bltn (v := .ty "bool") (by rfl) T.b_bool (by decide +kernel) rfl) pa_nil)))))))), ?_⟩
    rcases h with ⟨i, rfl, q⟩ | ⟨⟨T, ty, m⟩, q⟩
    · refine ⟨_, rfl, _, _, _, _, true, rfl, .ty "int", .base (.int i), kit_ty (by decide +kernel), true, rfl, ?_⟩
      exact ⟨_, rfl, _, _, _, _, false, rfl, .ty "bool", .base (.int i), kit_ty (by decide +kernel), false, rfl, q⟩
    · simp only [List.mem_cons, List.not_mem_nil, or_false] at m
      rcases m with rfl | rfl | rfl | rfl | rfl | rfl
      · refine ⟨_, rfl, _, _, _, _, true, rfl, .ty "int", ty, kit_ty (by decide +kernel), true, rfl, ?_⟩
        exact ⟨_, rfl, _, _, _, _, true, rfl, .ty "bool", ty, kit_ty (by decide +kernel), true, rfl, q⟩
      · refine ⟨_, rfl, _, _, _, _, false, rfl, .ty "int", ty, kit_ty (by decide +kernel), false, rfl, ?_⟩
        exact q
      · refine ⟨_, rfl, _, _, _, _, false, rfl, .ty "int", ty, kit_ty (by decide +kernel), false, rfl, ?_⟩
        exact q
      · refine ⟨_, rfl, _, _, _, _, false, rfl, .ty "int", ty, kit_ty (by decide +kernel), false, rfl, ?_⟩
        exact q
      · refine ⟨_, rfl, _, _, _, _, false, rfl, .ty "int", ty, kit_ty (by decide +kernel), false, rfl, ?_⟩
        exact q
      · refine ⟨_, rfl, _, _, _, _, false, rfl, .ty "int", ty, kit_ty (by decide +kernel), false, rfl, ?_⟩
        exact q
def spSeqY (K : PySem.W.Frag) : Sp := fun vs H Q _ => ∃ v : V, vs = [v] ∧ ((∃ (a : Addr) (xs : List V), v = .ref a ∧ SqH H a xs ∧ ∀ H', Same H H' → Q (.bl true) H') ∨ (NotSq K H v ∧ ∀ H', Same H H' → Q (.bl false) H'))
theorem ok_seqY {f : Addr} {fd : FuncData} (F : Fun K "is_sequence" "is_sequence" s_is_sequence f fd) (T : Bi mg) : FnOk P w K mg base CX0 1 f fd ["value"] (spSeqY K) := by
  refine F.ok sc_is_sequence (fun vs H Q E h => ?_) (fun cdv A outer s H vs Q E hr h => ?_)
  · obtain ⟨v, rfl, _⟩ := h
    rfl
  · obtain ⟨v, rfl, h⟩ := h
    refine ⟨_, (pss_one (ps_ret (pe_callB call_isiT (by rfl) T.b_isinstance (by decide +kernel) (pa_cons (pv 0) (pa_cons (pe_tup (pa_cons (pe_bltn (v := .ty "list") (by rfl) T.b_list (by decide +kernel) rfl) (pa_cons (pe_bltn (v := .ty "tuple") (by rfl) T.b_tuple (by decide +kernel) rfl) pa_nil))) pa_nil))))), ?_⟩
    refine ⟨_, rfl, by show 2 ≤ sizeLine; decide, fun p np => ?_⟩
    have s1 : Same H (upd H p (.tup [.ty "list", .ty "tuple"])) := same_upd np
    rcases h with ⟨a, xs, rfl, hs | hs, q⟩ | ⟨⟨T, ty, m⟩, q⟩
    · exact ⟨_, p, _, _, _, true, rfl, upd_same, .cons (.ty "list") (.cons (.ty "tuple") .nil), .base (.lst (s1 _ _ hs)), kitAny_cons (b := true) (kit_ty (by decide +kernel)) (fun z => by cases z) (fun _ => rfl), q _ s1⟩
    · exact ⟨_, p, _, _, _, true, rfl, upd_same, .cons (.ty "list") (.cons (.ty "tuple") .nil), .base (.tup (s1 _ _ hs)), kitAny_cons (b := false) (kit_ty (by decide +kernel)) (fun _ => kitAny_cons (b := true) (kit_ty (by decide +kernel)) (fun z => by cases z) (fun _ => rfl)) (fun z => by cases z), q _ s1⟩
    · simp only [List.mem_cons, List.not_mem_nil, or_false] at m
      rcases m with rfl | rfl | rfl | rfl | rfl
      · exact ⟨_, p, _, _, _, false, rfl, upd_same, .cons (.ty "list") (.cons (.ty "tuple") .nil), tyx_same s1 ty, kitAny_cons (b := false) (kit_ty (by decide +kernel)) (fun _ => kitAny_cons (b := false) (kit_ty (by decide +kernel)) (fun _ => rfl) (fun z => by cases z)) (fun z => by cases z), q _ s1⟩
      · exact ⟨_, p, _, _, _, false, rfl, upd_same, .cons (.ty "list") (.cons (.ty "tuple") .nil), tyx_same s1 ty, kitAny_cons (b := false) (kit_ty (by decide +kernel)) (fun _ => kitAny_cons (b := false) (kit_ty (by decide +kernel)) (fun _ => rfl) (fun z => by cases z)) (fun z => by cases z), q _ s1⟩
      · exact ⟨_, p, _, _, _, false, rfl, upd_same, .cons (.ty "list") (.cons (.ty "tuple") .nil), tyx_same s1 ty, kitAny_cons (b := false) (kit_ty (by decide +kernel)) (fun _ => kitAny_cons (b := false) (kit_ty (by decide +kernel)) (fun _ => rfl) (fun z => by cases z)) (fun z => by cases z), q _ s1⟩
      · exact ⟨_, p, _, _, _, false, rfl, upd_same, .cons (.ty "list") (.cons (.ty "tuple") .nil), tyx_same s1 ty, kitAny_cons (b := false) (kit_ty (by decide +kernel)) (fun _ => kitAny_cons (b := false) (kit_ty (by decide +kernel)) (fun _ => rfl) (fun z => by cases z)) (fun z => by cases z), q _ s1⟩
      · exact ⟨_, p, _, _, _, false, rfl, upd_same, .cons (.ty "list") (.cons (.ty "tuple") .nil), tyx_same s1 ty, kitAny_cons (b := false) (kit_ty (by decide +kernel)) (fun _ => kitAny_cons (b := false) (kit_ty (by decide +kernel)) (fun _ => rfl) (fun z => by cases z)) (fun z => by cases z), q _ s1⟩
def spBelowY (K : PySem.W.Frag) : Sp := fun vs H Q _ => ∃ (v : V) (n : Int), vs = [v, .int n] ∧ ((∃ i : Int, v = .int i ∧ 0 ≤ i ∧ i < n ∧ Q (.bl true) H) ∨ (NotIn K H n v ∧ Q (.bl false) H))
theorem ok_belowY {f : Addr} {fd : FuncData} (F : Fun K "is_below" "is_below" s_is_below f fd) {f_w : Addr} {d_w : FuncData} (D_w : Df K mg "is_whole" s_is_whole ["value"] f_w d_w) (G_w : FnOk P w K mg base CX0 1 f_w d_w ["value"] (spWholeY K))  : FnOk P w K mg base CX0 2 f fd ["value", "bound"] (spBelowY K) := by
  refine F.ok sc_is_below (fun vs H Q E h => ?_) (fun cdv A outer s H vs Q E hr h => ?_)
  · obtain ⟨v, n, rfl, _⟩ := h
    rfl
  · obtain ⟨v, n, rfl, h⟩ := h
    refine ⟨_, (pss_one (ps_ret (pe_and (pe_call G_w (hr.mono (by decide)) (by rfl) D_w.g D_w.F.kp D_w.b .nil pass0 (pa_cons (pv 0) pa_nil)) (pe_one (pe_chain op_le op_lt pe_int (pv 0) (pv 1)))))), ?_⟩
    rcases h with ⟨i, rfl, h0, h1, q⟩ | ⟨⟨i, rfl, hi⟩ | hw, q⟩
    · refine ⟨_, rfl, _, rfl, .inl ⟨i, rfl, true, rfl, ?_⟩⟩
      refine ⟨_, rfl, _, _, rfl, rfl, _, rfl, ?_⟩
      rw [decide_eq_true h0]
      refine ⟨_, rfl, _, _, rfl, rfl, ?_⟩
      show Q (.bl (decide (i < n))) H
      rw [decide_eq_true h1]
      exact q
    · refine ⟨_, rfl, _, rfl, .inl ⟨i, rfl, true, rfl, ?_⟩⟩
      refine ⟨_, rfl, _, _, rfl, rfl, _, rfl, ?_⟩
      by_cases h0 : 0 ≤ i
      · rw [decide_eq_true h0]
        refine ⟨_, rfl, _, _, rfl, rfl, ?_⟩
        show Q (.bl (decide (i < n))) H
        rw [decide_eq_false (show ¬ i < n by omega)]
        exact q
      · rw [decide_eq_false h0]
        exact q
    · exact ⟨_, rfl, _, rfl, .inr ⟨hw, false, rfl, q⟩⟩
def spCkPinsY (K : PySem.W.Frag) (D : Addr) : Sp := fun vs H Q E => ∃ v : V, vs = [v] ∧ ((∃ i : Int, v = .int i ∧ 0 ≤ i ∧ Q .non H) ∨ (((∃ i : Int, v = .int i ∧ i < 0) ∨ NotWh K H v) ∧ ShoD K H 3 v ∧ Out D ["pins"] [v] H E))
theorem ok_ckpinsY {f : Addr} {fd : FuncData} (F : Fun K "check_pins" "check_pins" s_check_pins f fd) {f_w : Addr} {d_w : FuncData} (D_w : Df K mg "is_whole" s_is_whole ["value"] f_w d_w) (G_w : FnOk P w K mg base CX0 1 f_w d_w ["value"] (spWholeY K)) (U : ErrU K mg "BadPins" D f_u d_u ["self", "pins"]) (G_u : GE P w K mg base D f_u d_u ["pins"]) : FnOk P w K mg base (L2N.CX P w) 4 f fd ["pins"] (spCkPinsY K D) := by
  refine okN F sc_check_pins (fun vs H Q E h => ?_) (fun cdv A outer s H vs Q E hr h => ?_)
  · obtain ⟨v, rfl, _⟩ := h
    rfl
  · obtain ⟨v, rfl, h⟩ := h
    refine ⟨_, (pss_one (ps_if (PW.pt (pw_or (pt_not (pt_val (pe_call G_w (hr.mono (by decide)) (by rfl) D_w.g D_w.F.kp D_w.b .nil pass0 (pa_cons (pv 0) pa_nil)))) (pw_or1 (pt_cmpR op_lt (pv 0) pe_int (nomark _))))) (pss_one (ps_errD rfl (L2N.takes_of rfl rfl rfl rfl) U.T U.R G_u (hr.mono (by decide)) U.b (by rfl) (pa_cons (pv 0) pa_nil))) pss_nil)), ?_⟩
    have bad : ShoD K H 3 v → Out D ["pins"] [v] H E → tErrD K D ["pins"] (tCons (tVar 0) tNil) (start ["pins"] [v]) H (fun cls d H' => E cls d H') := fun hs q => by
      refine ⟨_, rfl, rfl, by decide, fun y hy => ?_, fun d nd => q d nd⟩
      rw [List.mem_singleton.mp hy]
      exact hs
    rcases h with ⟨i, rfl, h0, q⟩ | ⟨⟨i, rfl, hi⟩ | hw, hs, q⟩
    · refine ⟨_, rfl, _, rfl, .inl ⟨i, rfl, true, rfl, ?_⟩⟩
      refine ⟨_, rfl, _, _, rfl, rfl, _, rfl, ?_⟩
      rw [decide_eq_false (show ¬ i < 0 by omega)]
      exact q
    · refine ⟨_, rfl, _, rfl, .inl ⟨i, rfl, true, rfl, ?_⟩⟩
      refine ⟨_, rfl, _, _, rfl, rfl, _, rfl, ?_⟩
      rw [decide_eq_true hi]
      exact bad hs q
    · exact ⟨_, rfl, _, rfl, .inr ⟨hw, false, rfl, bad hs q⟩⟩
/-- what is no entry of a lot on a rim of n pins -/
def BadE (K : PySem.W.Frag) (H : Hp) (n : Int) (v : V) : Prop := NotSq K H v ∨ ∃ (b : Addr) (xs : List V), v = .ref b ∧ SqH H b xs ∧ (xs.length ≠ 3 ∨ ∃ x y z, xs = [x, y, z] ∧ (NotIn K H n x ∨ ∃ i : Int, x = .int i ∧ 0 ≤ i ∧ i < n ∧ (NotIn K H n y ∨ ∃ j : Int, y = .int j ∧ 0 ≤ j ∧ j < n ∧ (i = j ∨ (i ≠ j ∧ ((∃ k : Int, z = .int k ∧ k < 1) ∨ NotWh K H z))))))
theorem BadE.same {K : PySem.W.Frag} {H H' : Hp} {n : Int} {v : V} (s : Same H H') (h : BadE K H n v) : BadE K H' n v := by
  rcases h with h | ⟨b, xs, e, hs, h⟩
  · exact .inl (h.same s)
  · refine .inr ⟨b, xs, e, hs.same s, ?_⟩
    rcases h with h | ⟨x, y, z, e, h⟩
    · exact .inl h
    · refine .inr ⟨x, y, z, e, ?_⟩
      rcases h with h | ⟨i, e1, h0, h1, h⟩
      · exact .inl (h.same s)
      · refine .inr ⟨i, e1, h0, h1, ?_⟩
        rcases h with h | ⟨j, e2, h2, h3, h⟩
        · exact .inl (h.same s)
        · refine .inr ⟨j, e2, h2, h3, ?_⟩
          rcases h with h | ⟨h4, h | h⟩
          · exact .inl h
          · exact .inr ⟨h4, .inl h⟩
          · exact .inr ⟨h4, .inr (h.same s)⟩
def spEntryY (K : PySem.W.Frag) : Sp := fun vs H Q _ => ∃ (n : Int) (v : V), vs = [.int n, v] ∧ ((∃ (b : Addr) (t : Tr), v = .ref b ∧ SqH H b (tv t) ∧ Vld n t ∧ ∀ H', Same H H' → Q (.bl true) H') ∨ (BadE K H n v ∧ ∀ H', Same H H' → Q (.bl false) H'))
theorem ok_entryY {f : Addr} {fd : FuncData} (F : Fun K "is_entry" "is_entry" s_is_entry f fd) (T : Bi mg) {f_w : Addr} {d_w : FuncData} (D_w : Df K mg "is_whole" s_is_whole ["value"] f_w d_w) (G_w : FnOk P w K mg base CX0 1 f_w d_w ["value"] (spWholeY K)) {f_b : Addr} {d_b : FuncData} (D_b : Df K mg "is_below" s_is_below ["value", "bound"] f_b d_b) (G_b : FnOk P w K mg base CX0 2 f_b d_b ["value", "bound"] (spBelowY K)) {f_q : Addr} {d_q : FuncData} (D_q : Df K mg "is_sequence" s_is_sequence ["value"] f_q d_q) (G_q : FnOk P w K mg base CX0 1 f_q d_q ["value"] (spSeqY K)) : FnOk P w K mg base CX0 3 f fd ["pins", "entry"] (spEntryY K) := by
  refine F.ok sc_is_entry (fun vs H Q E h => ?_) (fun cdv A outer s H vs Q E hr h => ?_)
  · obtain ⟨n, v, rfl, _⟩ := h
    rfl
  · obtain ⟨n, v, rfl, h⟩ := h
    refine ⟨_, (pss_cons (ps_if (PW.pt (pw_or (pt_not (pt_val (pe_call G_q (hr.mono (by decide)) (by rfl) D_q.g D_q.F.kp D_q.b .nil pass0 (pa_cons (pv 1) pa_nil)))) (pw_or1 (pt_cmpR op_ne (pe_callB call_len_seq (by rfl) T.b_len PySem.boot_len (pa_cons (pv 1) pa_nil)) pe_int (nomark _))))) (pss_one (ps_ret pe_bl)) pss_nil)
        (pss_cons (ps_asg (pv 1) (pg_B rfl (pgs_cons (pg_name (i := 2) sc_is_entry.nd rfl (.inl rfl)) (pgs_cons (pg_name (i := 3) sc_is_entry.nd rfl (.inl rfl)) (pgs_cons (pg_name (i := 4) sc_is_entry.nd rfl (.inl rfl)) pgs_nil)))))
        (pss_one (ps_ret (pe_and (pe_call G_b hr (by rfl) D_b.g D_b.F.kp D_b.b .nil pass0 (pa_cons (pv 2) (pa_cons (pv 0) pa_nil))) (pe_and (pe_call G_b hr (by rfl) D_b.g D_b.F.kp D_b.b .nil pass0 (pa_cons (pv 3) (pa_cons (pv 0) pa_nil))) (pe_and (pe_cmpR op_ne (pv 2) (pv 3) (nomark _)) (pe_and (pe_call G_w (hr.mono (by decide)) (by rfl) D_w.g D_w.F.kp D_w.b .nil pass0 (pa_cons (pv 4) pa_nil)) (pe_one (pe_cmpR op_ge (pv 4) pe_int (nomark _))))))))))), ?_⟩
    rcases h with ⟨b, t, rfl, hb, ⟨v0, v1, v2, v3, v4, v5⟩, q⟩ | ⟨h, q⟩
    · refine ⟨_, rfl, _, rfl, .inl ⟨b, _, rfl, hb, fun H1 sm => ⟨true, rfl, ?_⟩⟩⟩
      have hT : SqB K H1 b (tv t) := (hb.same sm).b
      refine ⟨_, rfl, b, _, rfl, hT, rfl, _, rfl, iteNS rfl ?_⟩
      refine ⟨_, rfl, b, _, rfl, hT, rfl, _, _, rfl, _, _, rfl, _, _, rfl, rfl, ?_⟩
      refine ⟨_, rfl, _, rfl, _, n, rfl, .inl ⟨t.1, rfl, v0, v1, true, rfl, ?_⟩⟩
      refine ⟨_, rfl, _, rfl, _, n, rfl, .inl ⟨t.2.1, rfl, v2, v3, true, rfl, ?_⟩⟩
      refine ⟨_, rfl, _, rfl, rfl, _, rfl, ?_⟩
      rw [decide_eq_false (fun z => v4 (V.int.inj z))]
      refine ⟨_, rfl, _, rfl, .inl ⟨t.2.2, rfl, true, rfl, ?_⟩⟩
      refine ⟨_, rfl, t.2.2, 1, rfl, rfl, ?_⟩
      show Q (.bl (decide (1 ≤ t.2.2))) H1
      rw [decide_eq_true v5]
      exact q H1 sm
    · rcases h with h | ⟨b, xs, rfl, hs, h⟩
      · exact ⟨_, rfl, _, rfl, .inr ⟨h, fun H1 sm => ⟨false, rfl, q H1 sm⟩⟩⟩
      · refine ⟨_, rfl, _, rfl, .inl ⟨b, xs, rfl, hs, fun H1 sm => ⟨true, rfl, ?_⟩⟩⟩
        have hT : SqB K H1 b xs := (hs.same sm).b
        refine ⟨_, rfl, b, _, rfl, hT, rfl, _, rfl, ?_⟩
        rcases h with h | ⟨x, y, z, rfl, h⟩
        · have e : decide (V.int (xs.length : Int) = V.int 3) = false := decide_eq_false fun z => h (by injection z with z; omega)
          rw [e]
          exact q H1 sm
        · refine iteNS rfl ?_
          refine ⟨_, rfl, b, _, rfl, hT, rfl, _, _, rfl, _, _, rfl, _, _, rfl, rfl, ?_⟩
          rcases h with h | ⟨i, rfl, i0, i1, h⟩
          · exact ⟨_, rfl, _, rfl, _, n, rfl, .inr ⟨h.same sm, false, rfl, q H1 sm⟩⟩
          · refine ⟨_, rfl, _, rfl, _, n, rfl, .inl ⟨i, rfl, i0, i1, true, rfl, ?_⟩⟩
            rcases h with h | ⟨j, rfl, j0, j1, h⟩
            · exact ⟨_, rfl, _, rfl, _, n, rfl, .inr ⟨h.same sm, false, rfl, q H1 sm⟩⟩
            · refine ⟨_, rfl, _, rfl, _, n, rfl, .inl ⟨j, rfl, j0, j1, true, rfl, ?_⟩⟩
              refine ⟨_, rfl, _, rfl, rfl, _, rfl, ?_⟩
              rcases h with rfl | ⟨ne, h⟩
              · rw [decide_eq_true rfl]
                exact q H1 sm
              · rw [decide_eq_false (fun z => ne (V.int.inj z))]
                rcases h with ⟨k, rfl, hk⟩ | h
                · refine ⟨_, rfl, _, rfl, .inl ⟨k, rfl, true, rfl, ?_⟩⟩
                  refine ⟨_, rfl, k, 1, rfl, rfl, ?_⟩
                  show Q (.bl (decide (1 ≤ k))) H1
                  rw [decide_eq_false (show ¬ 1 ≤ k by omega)]
                  exact q H1 sm
                · exact ⟨_, rfl, _, rfl, .inr ⟨h.same sm, false, rfl, q H1 sm⟩⟩
end
end Own

namespace Own
open PySem PySem.Spec PyProof.Rows L2
/-- entries, each a list or a tuple -/
def EnB (H : Hp) (vs : List V) (l : List Tr) : Prop := vs.length = l.length ∧ ∀ (i : Nat) (t : Tr), l[i]? = some t → ∃ b, vs[i]? = some (.ref b) ∧ SqH H b (tv t)
theorem EnB.same {H H' : Hp} {vs : List V} {l : List Tr} (s : Same H H') (h : EnB H vs l) : EnB H' vs l := ⟨h.1, fun i t e => by
  obtain ⟨b, e1, e2⟩ := h.2 i t e
  exact ⟨b, e1, e2.same s⟩⟩
theorem EnB.at_ {H : Hp} {vs : List V} {l : List Tr} (h : EnB H vs l) {i : Nat} {x : V} (e : vs[i]? = some x) : ∃ b t, x = .ref b ∧ l[i]? = some t ∧ SqH H b (tv t) := by
  have hi : i < l.length := by
    rw [← h.1]
    exact (List.getElem?_eq_some_iff.mp e).1
  obtain ⟨b, e1, e2⟩ := h.2 i l[i] (List.getElem?_eq_getElem hi)
  rw [e] at e1
  cases e1
  exact ⟨b, l[i], rfl, List.getElem?_eq_getElem hi, e2⟩
theorem TrV.en {H : Hp} {vs : List V} {l : List Tr} (h : TrV H vs l) : EnB H vs l := ⟨h.1, fun i t e => by
  obtain ⟨b, e1, e2⟩ := h.2 i t e
  exact ⟨b, e1, .inr e2⟩⟩
section
variable {P : Program} {w : World} {K : PySem.W.Frag} {mg : Str → Option Value} {base : Heap} {C D f_u : Addr} {d_u : FuncData}
/-- the entries of a list: all are good, or the first bad one stands behind good ones -/
def spGathY (K : PySem.W.Frag) (D : Addr) : Sp := fun vs H Q E => ∃ (n : Int) (a : Addr) (xs : List V) (l : List Tr), vs = [.int n, .ref a] ∧ SqB K H a xs ∧ EnB H (xs.take l.length) l ∧ (∀ t ∈ l, Vld n t) ∧ xs.length ≤ 1000 ∧
  ((l.length = xs.length ∧ ∀ H' c r, Same H H' → H c = none → Trip H' c r → IsNorm l r → Q (.ref c) H') ∨
    ∃ v, xs[l.length]? = some v ∧ BadE K H n v ∧ ShoD K H 3 v ∧ ∀ H', Same H H' → Out D ["entry"] [v] H' E)
theorem ok_gathY {f : Addr} {fd : FuncData} (F : Fun K "gathered" "gathered" s_gathered f fd) (T : Bi mg) {f_e : Addr} {d_e : FuncData} (D_e : Df K mg "is_entry" s_is_entry ["pins", "entry"] f_e d_e) (G_e : FnOk P w K mg base CX0 3 f_e d_e ["pins", "entry"] (spEntryY K)) (U : ErrU K mg "BadCord" D f_u d_u ["self", "entry"]) (G_u : GE P w K mg base D f_u d_u ["entry"]) :
    FnOk P w K mg base (L2N.CX P w) 5 f fd ["pins", "entries"] (spGathY K D) := by
  refine okN F sc_gathered (fun vs H Q E h => ?_) (fun cdv A outer s H vs Q E hr h => ?_)
  · obtain ⟨n, a, xs, l, rfl, _⟩ := h
    rfl
  · obtain ⟨n, a, xs, l, rfl, hB, hx, hv, hl, h⟩ := h
    have lx : l.length ≤ xs.length := by
      have := hx.1
      rw [List.length_take] at this
      omega
    have hu := hu_of hr
    refine ⟨_, (pss_cons (ps_set (i := 2) sc_gathered.nd rfl (.inr rfl) pe_dnewT)
        (pss_cons (ps_for PassesOwn.leaving rfl (pi_seq (pv 1)) (pg_name (i := 3) sc_gathered.nd rfl (.inl rfl))
        (pss_cons (ps_if (pt_not (pt_val (pe_call G_e (hr.mono (by decide)) (by rfl) D_e.g D_e.F.kp D_e.b .nil pass0 (pa_cons (pv 0) (pa_cons (pv 3) pa_nil))))) (pss_one (ps_errD rfl (L2N.takes_of rfl rfl rfl rfl) U.T U.R G_u (hr.mono (by decide)) U.b (by rfl) (pa_cons (pv 3) pa_nil))) pss_nil)
        (pss_cons (ps_asg (pv 3) (pg_B rfl (pgs_cons (pg_name (i := 5) sc_gathered.nd rfl (.inl rfl)) (pgs_cons (pg_name (i := 6) sc_gathered.nd rfl (.inl rfl)) (pgs_cons (pg_name (i := 7) sc_gathered.nd rfl (.inl rfl)) pgs_nil)))))
        (pss_cons (ps_set (i := 4) sc_gathered.nd rfl (.inl rfl) (pe_tup (pa_cons (pe_callB (call_min2 rfl) (by rfl) T.b_min (by decide +kernel) (pa_cons (pv 5) (pa_cons (pv 6) pa_nil))) (pa_cons (pe_callB (call_max2 rfl) (by rfl) T.b_max (by decide +kernel) (pa_cons (pv 5) (pa_cons (pv 6) pa_nil))) pa_nil))))
        (pss_one (ps_dput hu (pv 2) (pv 4) (pe_op op_add (pe_dget2 hu (pv 2) (pv 4) pe_int ⟨rfl, rfl, rfl, rfl⟩) (pv 7)) rfl))))))
        (pss_one (ps_ret (pe_callTy call_tuple_of (by rfl) T.b_tuple (by decide +kernel) (pa_cons (pe_lc (own := [("a", 5), ("b", 6)]) (g := gTup K 2 (gCons (gName 5) (gCons (gName 6) gNil))) (tt := tYes) rfl sc_gathered.nd (pi_list (pe_callB (cr_sortedDT rfl) (by rfl) T.b_sorted (by decide +kernel) (pa_cons (pv 2) pa_nil))) (blkOk_by (own := [("a", 5), ("b", 6)]) (N := ["pins", "entries", "held", "entry", "pair", "a", "b", "many"]) (sc := defScope s_gathered) (by decide +kernel)) (fun _ _ _ _ _ => (pg_tup (by rfl) (pgs_cons (pg_name (i := 5) sc_gathered.nd rfl (.inl rfl)) (pgs_cons (pg_name (i := 6) sc_gathered.nd rfl (.inl rfl)) pgs_nil)))) (fun _ _ _ _ _ => pts_nil) (fun _ _ _ _ _ => (pe_tup (pa_cons (pv 5) (pa_cons (pv 6) (pa_cons (pe_dget hu (pv 2) (pe_tup (pa_cons (pv 5) (pa_cons (pv 6) pa_nil))) (fun _ _ => rfl)) pa_nil)))))) pa_nil)))))), ?_⟩
    intro d hd
    refine ⟨_, rfl, a, rfl, for_same (Hb := H) hB (fun i σ H' => ∃ kvs y3 y4 y5 y6 y7, σ = [some (.int n), some (.ref a), some (.ref d), y3, y4, y5, y6, y7] ∧ H' d = some (.dT kvs) ∧ DInv kvs (l.take i) ∧ kvs.length ≤ i ∧ Same H H' ∧ i ≤ l.length) ⟨[], none, none, none, none, none, rfl, upd_same, DInv.nil, Nat.le_refl _, same_upd hd, Nat.zero_le _⟩ (fun i σ' H' p => by obtain ⟨_, _, _, _, _, _, _, _, _, _, s, _⟩ := p; exact s) (fun i x σ H' hxi p => ?_) (fun σ H' p => ?_)⟩
    · obtain ⟨kvs, y3, y4, y5, y6, y7, rfl, ed, dI, klen, sm, il⟩ := p
      rcases Nat.lt_or_eq_of_le il with hil | hil
      rotate_left
      · rcases h with ⟨hlen, q⟩ | ⟨v, hv_, bad, sho, q⟩
        · have := (List.getElem?_eq_some_iff.mp hxi).1
          omega
        · rw [← hil, hxi] at hv_
          cases hv_
          refine ⟨_, rfl, _, rfl, n, x, rfl, .inr ⟨bad.same sm, fun H1 s1 => ⟨false, rfl, ?_⟩⟩⟩
          exact ⟨_, rfl, rfl, by decide, fun y hy => by rw [List.mem_singleton.mp hy]; exact sho.keep (sm.trans s1), fun d nd => q H1 (sm.trans s1) d nd⟩
      obtain ⟨b, t, rfl, hti, hb⟩ := (hx.same sm).at_ (i := i) (x := x) (by rw [List.getElem?_take, if_pos hil]; exact hxi)
      have hvt : Vld n t := hv t (List.mem_of_getElem? hti)
      refine ⟨_, rfl, _, rfl, n, _, rfl, .inl ⟨b, t, rfl, hb, hvt, fun H1 s1 => ⟨true, rfl, ?_⟩⟩⟩
      refine ⟨_, rfl, b, _, rfl, (hb.same s1).b, rfl, _, _, rfl, _, _, rfl, _, _, rfl, rfl, ?_⟩
      refine ⟨_, rfl, _, rfl, _, _, rfl, _, rfl, _, rfl, _, _, rfl, by show 2 ≤ sizeLine; decide, fun p np => ?_⟩
      have ed1 : (upd H1 p (.tup [.int (lo t.1 t.2.1), .int (hi t.1 t.2.1)])) d = some (.dT kvs) := by
        rw [upd_ne (ne_of_none (s1 _ _ ed) np)]
        exact s1 _ _ ed
      have ep : (upd H1 p (.tup [.int (lo t.1 t.2.1), .int (hi t.1 t.2.1)])) p = some (.tup ((kk (ky t)).map kV)) := upd_same
      refine ⟨_, rfl, d, rfl, .inr ⟨kvs, .inl ed1⟩, _, rfl, _, DGet.t ed1 ep, ?_⟩
      rw [dI.get]
      refine ⟨_, rfl, _, _, rfl, rfl, _, rfl, _, rfl, d, _, rfl, DPut.t ed1 ep (small1000 (by omega)), ?_⟩
      have hd1 : H1 d ≠ none := fun z => by rw [s1 _ _ ed] at z; cases z
      refine ⟨_, _, _, _, _, _, rfl, upd_same, ?_, Nat.le_trans putK_len (by omega), fun c o e => ?_, hil⟩
      · rw [List.take_add_one, hti]
        exact dI.put t
      · rw [upd_ne (ne_of_none e hd)]
        exact same_upd np _ _ (s1 _ _ (sm _ _ e))
    · obtain ⟨kvs, y3, y4, y5, y6, y7, rfl, ed, dI, klen, sm, il⟩ := p
      obtain ⟨hlen, q⟩ : l.length = xs.length ∧ ∀ H' c r, Same H H' → H c = none → Trip H' c r → IsNorm l r → Q (.ref c) H' := by
        rcases h with h | ⟨v, hv_, _⟩
        · exact h
        · have := (List.getElem?_eq_some_iff.mp hv_).1
          omega
      rw [← hlen, List.take_length] at dI
      refine ⟨_, rfl, d, kvs, rfl, .inl ed, fun kv hkv => by obtain ⟨p, hp⟩ := dI.frm kv hkv; exact ⟨p.1, p.2, hp⟩, fun bs ys p0 hk hsrt hstb np0 => ?_⟩
      obtain ⟨kEq, kAt⟩ := keys_of hk dI.frm
      have hall : ∀ y ∈ ys, ∃ b, y = .ref b ∧ H' b = some (.tup [.int (kOf H' y).1, .int (kOf H' y).2]) := fun y hy => by
        obtain ⟨b, hb, rfl⟩ := List.mem_map.mp (hstb.perm.mem_iff.mp hy)
        obtain ⟨p, hp⟩ := kAt b hb
        exact ⟨b, rfl, by rw [kOf_at hp]; exact hp⟩
      have hperm : (ys.map (kOf H')).Perm ((bs.map V.ref).map (kOf H')) := hstb.perm.map _
      have hnd : (ys.map (kOf H')).Nodup := by
        refine hperm.nodup_iff.mpr ?_
        have := dI.nd
        rw [← kEq] at this
        unfold List.Nodup at this ⊢
        exact (List.pairwise_map.mp this).imp fun h e => h (congrArg kk e)
      have hmem : ∀ p, p ∈ ys.map (kOf H') ↔ p ∈ l.map ky := fun p => by
        rw [hperm.mem_iff, ← dI.mem p, ← kEq]
        exact ⟨fun m => List.mem_map.mpr ⟨p, m, rfl⟩, fun m => by
          obtain ⟨p2, m2, e2⟩ := List.mem_map.mp m
          rw [← kk_inj e2]
          exact m2⟩
      have hlex : (ys.map (kOf H')).Pairwise Lex := sorted_lex hnd (SrtO.srtd_map (lt := SrtO.lexB) (f := kOf H') hsrt)
      have hN : IsNorm l ((ys.map (kOf H')).map fun p => (p.1, p.2, tot p l)) := by
        have e1 : (((ys.map (kOf H')).map fun p => ((p.1, p.2, tot p l) : Tr))).map pr = ys.map (kOf H') := by
          rw [List.map_map]
          exact List.map_id' _
        refine ⟨by rw [e1]; exact hlex, fun p => by rw [e1]; exact hmem p, fun e he => ?_⟩
        obtain ⟨p, _, rfl⟩ := List.mem_map.mp he
        rfl
      have hylen : ys.length ≤ 1000 := by
        have h1 := hstb.perm.length_eq
        have h2 := congrArg List.length kEq
        rw [List.length_map] at h1
        rw [List.length_map, List.length_map, List.length_map, List.length_map] at h2
        omega
      generalize hr0 : ((ys.map (kOf H')).map fun p => ((p.1, p.2, tot p l) : Tr)) = r at hN
      have hrl : r.length = ys.length := by rw [← hr0, List.length_map, List.length_map]
      have s0 : Same H' (upd H' p0 (.lst ys)) := same_upd np0
      refine ⟨p0, rfl, ⟨_, .inl (.inl upd_same)⟩, fun D hD => ?_⟩
      refine lc_list (K := K) (a := p0) (xs := ys) (fun i H2 => Same (upd H' p0 (.lst ys)) H2 ∧ ∃ vs, H2 D = some (.lst vs) ∧ TrV H2 vs (r.take i)) ⟨same_upd hD, [], upd_same, TrV.nil⟩ (fun i H2 _ p => .inl (.inl (p.1 _ _ upd_same))) (fun i x H2 hxi p => ?_) (fun H2 p => ?_)
      · obtain ⟨s2, vs, eD, tV⟩ := p
        obtain ⟨b, rfl, hb⟩ := hall x (List.mem_of_getElem? hxi)
        have hil : i < ys.length := (List.getElem?_eq_some_iff.mp hxi).1
        generalize hp : kOf H' (.ref b) = p at hb
        have hri : r[i]? = some (p.1, p.2, tot p l) := by
          rw [← hr0, List.getElem?_map, List.getElem?_map, hxi, ← hp]
          rfl
        have hpm : p ∈ l.map ky := (hmem p).mp (by rw [← hp]; exact List.mem_map.mpr ⟨_, List.mem_of_getElem? hxi, rfl⟩)
        have hval : valV kvs (kk p) = some (.int (tot p l)) := by
          rw [dI.val, if_pos hpm]
        have hb2 := s2 _ _ (s0 _ _ hb)
        have ed2 := s2 _ _ (s0 _ _ ed)
        refine ⟨b, _, rfl, .inl (.inl hb2), rfl, _, _, rfl, _, _, rfl, rfl, rfl, ?_⟩
        refine ⟨_, rfl, _, rfl, _, rfl, _, rfl, _, rfl, by show 2 ≤ sizeLine; decide, fun p1 np1 => ⟨d, .int (tot p l), rfl, ?_, ?_⟩⟩
        · have g := DGet.t (k := kk p) (b := p1) (H := upd H2 p1 (.tup [.int p.1, .int p.2])) (a := d) (kvs := kvs) (by rw [upd_ne (ne_of_none ed2 np1)]; exact ed2) upd_same
          rw [hval] at g
          exact g
        · refine ⟨by show 3 ≤ sizeLine; decide, fun p2 np2 => ?_⟩
          have s3 : Same H2 (upd (upd H2 p1 (.tup [.int p.1, .int p.2])) p2 (.tup [.int p.1, .int p.2, .int (tot p l)])) := (same_upd np1).trans (same_upd np2)
          refine ⟨vs, s3 _ _ eD, ?_, same_put (H1 := H2) hD (s2.trans s3), _, upd_same, ?_⟩
          · rw [tV.1, List.length_take]
            exact Nat.lt_of_le_of_lt (Nat.min_le_right _ _) (small1000 (by omega))
          · rw [List.take_add_one, hri]
            have nD : p2 ≠ D := fun z => by
              rw [z] at np2
              have := (same_upd (o := .tup [.int p.1, .int p.2]) np1) _ _ eD
              rw [this] at np2
              cases np2
            refine (tV.sameT (sameT_put eD s3)).snoc ?_
            rw [upd_ne nD, upd_same]
      · obtain ⟨s2, vs, eD, tV⟩ := p
        rw [← hrl, List.take_length] at tV
        refine ⟨D, vs, rfl, .inl ⟨.inl (.inl eD), fun c nc => ?_⟩⟩
        have sA : Same H (upd H2 c (.tup vs)) := ((sm.trans s0).trans s2).trans (same_upd nc)
        exact q _ c r sA (((sm.trans s0).trans s2).free nc) ⟨vs, upd_same, tV.same (same_upd nc)⟩ hN
end
end Own

namespace Own
open PySem PySem.Spec PyProof.Rows L2
section
variable {P : Program} {w : World} {K : PySem.W.Frag} {mg : Str → Option Value} {base : Heap} {C D1 D2 : Addr}
/-- what is asked of the values that a lot is made of; q: all is well, u: the number of pins is bad, v: this entry is the first bad one -/
structure MkA (K : PySem.W.Frag) (H : Hp) (v : V) (a : Addr) (q : Int → List Tr → Prop) (u : Prop) (e : V → Prop) : Prop where
  ex : ∃ xs : List V, SqB K H a xs ∧ xs.length ≤ 1000 ∧
    ((∃ (n : Int) (l : List Tr), v = .int n ∧ 0 ≤ n ∧ EnB H (xs.take l.length) l ∧ (∀ t ∈ l, Vld n t) ∧ ((l.length = xs.length ∧ q n l) ∨ ∃ y, xs[l.length]? = some y ∧ BadE K H n y ∧ ShoD K H 3 y ∧ e y)) ∨
     (((∃ i : Int, v = .int i ∧ i < 0) ∨ NotWh K H v) ∧ ShoD K H 3 v ∧ u))
def spInitY (K : PySem.W.Frag) (C D1 D2 : Addr) : Sp := fun vs H Q E => ∃ (p dx : Addr) (v : V) (a : Addr) (H0 : Hp), vs = [.ref p, v, .ref a] ∧ H p = some (.ins C dx []) ∧ H0 p = none ∧ Same H0 H ∧
  MkA K H0 v a (fun n l => ∀ H' c r, Same H0 H' → H' p = some (.ins C dx (flds n c)) → Trip H' c r → IsNorm l r → Q .non H') (Out D1 ["pins"] [v] H E) (fun y => ∀ H', Same H0 H' → Out D2 ["entry"] [y] H' E)
abbrev GIY (P : Program) (w : World) (K : PySem.W.Frag) (mg : Str → Option Value) (base : Heap) (C D1 D2 f : Addr) (d : FuncData) : Prop := FnOk P w K mg base (L2N.CX P w) 6 f d ["self", "pins", "cords"] (spInitY K C D1 D2)
theorem ok_initY {z f : Addr} {fd : FuncData} (F : FI K z f fd) (L : LotC K mg C) {f_k : Addr} {d_k : FuncData} (D_k : Df K mg "check_pins" s_check_pins ["pins"] f_k d_k) (G_k : FnOk P w K mg base (L2N.CX P w) 4 f_k d_k ["pins"] (spCkPinsY K D1))
    {f_g : Addr} {d_g : FuncData} (D_g : Df K mg "gathered" s_gathered ["pins", "entries"] f_g d_g) (G_g : FnOk P w K mg base (L2N.CX P w) 5 f_g d_g ["pins", "entries"] (spGathY K D2)) : GIY P w K mg base C D1 D2 f fd := by
  refine F.ok sc_Lot_init (fun vs H Q E h => ?_) (fun cdv A outer s H vs Q E hr h => ?_)
  · obtain ⟨p, dx, v, a, H0, rfl, _⟩ := h
    rfl
  · obtain ⟨p, dx, v, a, H0, rfl, ep, np, s0, ⟨xs, hB, lx, h⟩⟩ := h
    refine ⟨_, pss_cons (ps_expr (pe_call G_k (hr.mono (by decide)) (by rfl) D_k.g D_k.F.kp D_k.b .nil (L2N.passes_call (L2N.takes_of rfl rfl rfl rfl) (fun _ _ _ _ h => h)) (pa_cons (pv 1) pa_nil)))
      (pss_cons (ps_fld (pv 0) (pv 1) rfl) (pss_one (ps_fld (pv 0) (pe_call G_g hr (by rfl) D_g.g D_g.F.kp D_g.b .nil (L2N.passes_call (L2N.takes_of rfl rfl rfl rfl) (fun _ _ _ _ h => h)) (pa_cons (pv 1) (pa_cons (pv 2) pa_nil))) rfl))), ?_⟩
    rcases h with ⟨n, l, rfl, hn, hx, hv, h⟩ | ⟨bad, sho, u⟩
    rotate_left
    · refine ⟨_, rfl, v, rfl, .inr ⟨?_, sho.keep s0, u⟩⟩
      rcases bad with h | h
      · exact .inl h
      · exact .inr (h.same s0)
    refine ⟨_, rfl, _, rfl, .inl ⟨n, rfl, hn, ?_⟩⟩
    refine ⟨_, rfl, _, rfl, p, C, dx, [], rfl, ep, L.cl, L.nP, by show 0 < 1000; decide, ?_⟩
    have k1 : Same H0 (upd H p (.ins C dx (putF "pins" (.int n) []))) := same_put (H1 := H) np s0
    refine ⟨_, rfl, _, rfl, n, a, xs, l, rfl, hB.same k1, hx.same k1, hv, lx, ?_⟩
    rcases h with ⟨le, q⟩ | ⟨y, hy, bad, sho, q⟩
    · refine .inl ⟨le, fun H1 c r s1 nc tc hN => ?_⟩
      have eH : H1 p = some (.ins C dx (putF "pins" (.int n) [])) := s1 _ _ upd_same
      refine ⟨_, rfl, p, C, dx, _, rfl, eH, L.cl, L.nC, by show 1 < 1000; decide, ?_⟩
      have s2 : ∀ b o, H1 b = some o → b ≠ p → (upd H1 p (.ins C dx (putF "cords" (.ref c) (putF "pins" (.int n) [])))) b = some o := fun b o e nb => by
        rw [upd_ne nb]
        exact e
      refine q _ c r (same_put (H1 := H) np (k1.trans s1)) upd_same ?_ hN
      obtain ⟨vs, e, t⟩ := tc
      refine ⟨vs, s2 _ _ e fun z => ?_, t.sameT fun b o h => s2 _ _ h fun z => ?_⟩
      · rw [z, eH] at e
        cases e
      · rw [z, eH] at h
        cases h
    · exact .inr ⟨y, hy, bad.same k1, sho.keep k1, fun H' s' => q H' (k1.trans s')⟩
/-- Lot(v, entries) -/
theorem rd_makeY {v : V} {a : Addr} {H : Hp} {R : VK} {E : XK}
    (h : MkA K H v a (fun n l => ∀ H' x cs, Same H H' → LotAt C H' x n cs → IsNorm l cs → R (.ref x) H') (∀ H', Same H H' → Out D1 ["pins"] [v] H' E) (fun y => ∀ H', Same H H' → Out D2 ["entry"] [y] H' E)) :
    ∀ x dx, H x = none → H dx = none → dx ≠ x → spInitY K C D1 D2 (.ref x :: ([v, .ref a] ++ [])) (upd (upd H dx (.own x)) x (.ins C dx [])) (fun v H2 => v = .non ∧ R (.ref x) H2) E := fun x dx nx nd ne => by
  have s1 : Same H (upd H dx (.own x)) := same_upd nd
  have nx1 : (upd H dx (.own x)) x = none := by
    rw [upd_ne ne.symm]
    exact nx
  have s2 : Same H (upd (upd H dx (.own x)) x (.ins C dx [])) := s1.trans (same_upd nx1)
  obtain ⟨xs, hB, lx, h⟩ := h.ex
  refine ⟨x, dx, v, a, H, rfl, upd_same, nx, s2, ⟨xs, hB, lx, ?_⟩⟩
  rcases h with ⟨n, l, rfl, hn, hx, hv, h⟩ | ⟨bad, sho, u⟩
  · refine .inl ⟨n, l, rfl, hn, hx, hv, ?_⟩
    rcases h with ⟨le, q⟩ | ⟨y, hy, bad, sho, q⟩
    · exact .inl ⟨le, fun H' c r s' e t hN => ⟨rfl, q H' x r s' ⟨dx, c, e, t⟩ hN⟩⟩
    · exact .inr ⟨y, hy, bad, sho, q⟩
  · exact .inr ⟨bad, sho, u _ s2⟩
theorem rd_makeG {n : Int} {a : Addr} {xs : List V} {l : List Tr} {H : Hp} {R : VK} {E : XK} (hn : 0 ≤ n) (hB : SqB K H a xs) (hx : EnB H xs l) (hv : ∀ t ∈ l, Vld n t) (hl : l.length ≤ 1000) (q : ∀ H' x cs, Same H H' → LotAt C H' x n cs → IsNorm l cs → R (.ref x) H') :
    ∀ x dx, H x = none → H dx = none → dx ≠ x → spInitY K C D1 D2 (.ref x :: ([.int n, .ref a] ++ [])) (upd (upd H dx (.own x)) x (.ins C dx [])) (fun v H2 => v = .non ∧ R (.ref x) H2) E :=
  rd_makeY ⟨xs, hB, by rw [hx.1]; exact hl, .inl ⟨n, l, rfl, hn, by rw [← hx.1, List.take_length]; exact hx, hv, .inl ⟨hx.1.symm, q⟩⟩⟩
end
end Own

namespace Own
open PySem PySem.Spec PyProof.Rows L2 TL
/-! ### words that are numbers -/
/-- the signs behind a minus -/
def bodyL (w : List Nat) : List Nat := if w.head? = some 45 then w.tail else w
def dgL (d : List Nat) : Bool := decide (d ≠ []) && d.all fun c => decide (48 ≤ c) && decide (c ≤ 57)
def isNum (w : List Nat) : Bool := dgL (bodyL w) && (decide (w = [48]) || !decide ((bodyL w).head? = some 48))
theorem dgL_all {d : List Nat} (h : dgL d = true) : d ≠ [] ∧ NumText.AllDigits d := by
  unfold dgL at h
  rw [Bool.and_eq_true, decide_eq_true_eq] at h
  refine ⟨h.1, fun c hc => ?_⟩
  have := List.all_eq_true.mp h.2 c hc
  rw [Bool.and_eq_true, decide_eq_true_eq, decide_eq_true_eq] at this
  exact this
theorem dgL_of {d : List Nat} (h : d ≠ []) (a : NumText.AllDigits d) : dgL d = true := by
  unfold dgL
  rw [Bool.and_eq_true, decide_eq_true_eq]
  refine ⟨h, List.all_eq_true.mpr fun c hc => ?_⟩
  rw [Bool.and_eq_true, decide_eq_true_eq, decide_eq_true_eq]
  exact a c hc
theorem body_neg {w : List Nat} (h : w.head? = some 45) : w = 45 :: bodyL w := by
  unfold bodyL
  rw [if_pos h]
  cases w with
  | nil => cases h
  | cons c r =>
    obtain rfl : c = 45 := Option.some.inj h
    rfl
theorem body_pos {w : List Nat} (h : ¬ w.head? = some 45) : bodyL w = w := by
  unfold bodyL
  rw [if_neg h]
def numV (w : Str) : Int := (PySem.intText? w).getD 0
theorem num_read {w : Str} (h : isNum (tl w) = true) (hl : w.length ≤ 4300) : PySem.intText? w = some (numV w) := by
  unfold isNum at h
  rw [Bool.and_eq_true] at h
  obtain ⟨h1, h2⟩ := dgL_all h.1
  have : ∃ n, PySem.intText? w = some n := by
    by_cases hn : (tl w).head? = some 45
    · exact ⟨_, intText_neg (body_neg hn) h2 h1 hl⟩
    · rw [body_pos hn] at h1 h2
      exact ⟨_, intText_digits h2 h1 hl⟩
  obtain ⟨n, e⟩ := this
  unfold numV
  rw [e]
  rfl
/-! ### the texts of numbers -/
theorem numL_head (n : Nat) : (numL n).head? = some 48 → n = 0 := by
  induction n using Nat.strongRecOn with
  | _ n ih =>
    intro h
    by_cases hn : n < 10
    · rw [numL_lt hn] at h
      have : 48 + n = 48 := Option.some.inj h
      omega
    · rw [numL_step (by omega)] at h
      have := ih (n / 10) (by omega) (by
        cases e : numL (n / 10) with
        | nil => exact absurd e (numL_ne _)
        | cons c r => rw [e] at h; exact h)
      omega
theorem tl_neg (m : Nat) : tl (Str.ofString (toString (Int.negSucc m))) = 45 :: numL (m + 1) := by
  have e : toString (Int.negSucc m) = "-" ++ toString (((m + 1 : Nat)) : Int) := rfl
  have h := tl_num (m + 1)
  rw [tl_ofString] at h ⊢
  rw [e, String.toList_append, List.map_append, h]
  rfl
/-- the signs of a whole number -/
def intL : Int → List Nat
  | .ofNat n => numL n
  | .negSucc m => 45 :: numL (m + 1)
theorem tl_int (i : Int) : tl (Str.ofString (toString i)) = intL i := by
  cases i with
  | ofNat n => exact tl_num n
  | negSucc m => exact tl_neg m
theorem head_num (n : Nat) : ¬ (numL n).head? = some 45 := fun h => by
  cases e : numL n with
  | nil => exact numL_ne _ e
  | cons c r =>
    rw [e] at h
    obtain rfl : c = 45 := Option.some.inj h
    have := numL_digits n 45 (by rw [e]; exact List.mem_cons_self)
    omega
theorem isNum_int (i : Int) : isNum (intL i) = true := by
  cases i with
  | ofNat n =>
    unfold isNum intL
    simp only [body_pos (head_num n)]
    rw [Bool.and_eq_true]
    refine ⟨dgL_of (numL_ne n) (numL_digits n), ?_⟩
    rw [Bool.or_eq_true]
    by_cases h : (numL n).head? = some 48
    · left
      rw [numL_head n h]
      decide
    · right
      rw [decide_eq_false h]
      rfl
  | negSucc m =>
    have hb : bodyL (45 :: numL (m + 1)) = numL (m + 1) := by
      unfold bodyL
      rw [if_pos (show (45 :: numL (m + 1)).head? = some 45 from rfl)]
      rfl
    unfold isNum intL
    simp only [hb]
    rw [Bool.and_eq_true]
    refine ⟨dgL_of (numL_ne _) (numL_digits _), ?_⟩
    rw [Bool.or_eq_true]
    right
    rw [decide_eq_false (fun h => by have := numL_head _ h; omega)]
    rfl
theorem numV_int {i : Int} (hl : (intL i).length ≤ 4300) : numV (Str.ofString (toString i)) = i := by
  have hz : (Str.ofString (toString i)).length = (intL i).length := by rw [len_tl, tl_int]
  unfold numV
  cases i with
  | ofNat n =>
    have e := int_num (n := n) hl
    show (PySem.intText? (Str.ofString (toString ((n : Nat) : Int)))).getD 0 = _
    rw [e]
    rfl
  | negSucc m =>
    have e := intText_neg (x := Str.ofString (toString (Int.negSucc m))) (cs := numL (m + 1)) (tl_neg m) (numL_digits _) (numL_ne _) (by rw [hz]; exact hl)
    rw [e, numL_val]
    rfl
/-- signs that a number has not -/
theorem intL_free {i : Int} {c : Nat} (h : c < 45 ∨ 57 < c) : c ∉ intL i := fun hm => by
  cases i with
  | ofNat n => exact numL_free (by omega) hm
  | negSucc m =>
    rcases List.mem_cons.mp hm with e | e
    · omega
    · exact numL_free (by omega) e
end Own

namespace Own
open PySem PySem.Spec PyProof.Rows L2 TL
theorem starts_one (x y : Str) (c : Nat) (hy : tl y = [c]) : Txt.startswith x y = decide ((tl x).head? = some c) := by
  have h1 : (Txt.startswith x y = true) ↔ StrLaws.At x y x.length 0 := by
    unfold Txt.startswith StrLaws.At
    rw [Bool.and_eq_true, decide_eq_true_eq]
  have h2 := at_iff (x := x) (y := y) (by rw [hy]; simp) 0
  rw [hy, List.drop_zero] at h2
  have h3 : pre [c] (tl x) = true ↔ (tl x).head? = some c := by
    unfold pre
    cases tl x with
    | nil => simp
    | cons d r => simp
  rw [Bool.eq_iff_iff, decide_eq_true_eq]
  exact h1.trans (h2.trans h3)
theorem tl_cut1 (x : Str) : tl (cutS x (some 1) none) = (tl x).tail := by
  show ((tl x).drop (HT.sIx x.length 0 (some 1))).take (HT.sIx x.length x.length none - HT.sIx x.length 0 (some 1)) = _
  rw [show HT.sIx x.length 0 (some 1) = min 1 x.length from HT.sIx_nat _ _ 1, HT.sIx_none, len_tl]
  cases tl x with
  | nil => rfl
  | cons c r =>
    have e : min 1 (c :: r).length = 1 := by simp
    rw [e]
    simp
theorem digs_ok (z : Str) : (Txt.isascii z && Txt.isdigit z) = dgL (tl z) := by
  unfold Txt.isascii Txt.isdigit dgL
  rw [Bool.eq_iff_iff]
  simp only [Bool.and_eq_true, decide_eq_true_eq, Array.all_eq_true_iff_forall_mem, List.all_eq_true]
  have hm : ∀ c, c ∈ z.cps ↔ c ∈ tl z := fun c => by simp [tl]
  have hin : ∀ c, c < 128 → (Unicode.isDigit c = true ↔ (48 ≤ c ∧ c ≤ 57)) := by
    intro c hc
    have all : ∀ c, c < 128 → (Unicode.isDigit c = (decide (48 ≤ c) && decide (c ≤ 57))) := by decide +kernel
    rw [all c hc, Bool.and_eq_true, decide_eq_true_eq, decide_eq_true_eq]
  constructor
  · rintro ⟨a, b, d⟩
    refine ⟨fun e => ?_, fun c hc => ?_⟩
    · rw [len_tl, e] at b
      exact absurd b (by simp)
    · exact (hin c (a c ((hm c).mpr hc))).mp (d c ((hm c).mpr hc))
  · rintro ⟨a, b⟩
    have lo : ∀ c ∈ z.cps, 48 ≤ c ∧ c ≤ 57 := fun c hc => b c ((hm c).mp hc)
    refine ⟨fun c hc => ?_, ?_, fun c hc => ?_⟩
    · have := lo c hc
      omega
    · rw [len_tl]
      exact List.length_pos_iff.mpr a
    · have := lo c hc
      exact (hin c (by omega)).mpr this
theorem str_eq {x y : Str} : decide (V.str x = V.str y) = decide (tl x = tl y) := by
  rw [Bool.eq_iff_iff, decide_eq_true_eq, decide_eq_true_eq]
  exact ⟨fun e => by rw [V.str.inj e], fun e => by rw [ext_tl e]⟩
section
variable {P : Program} {w : World} {K : PySem.W.Frag} {mg : Str → Option Value} {base : Heap}
def spNum : Sp := fun vs H Q _ => ∃ x : Str, vs = [.str x] ∧ x.length ≤ 100000 ∧ Q (.bl (isNum (tl x))) H
theorem ok_number {f : Addr} {fd : FuncData} (F : Fun K "is_number" "is_number" s_is_number f fd) (T : Bi mg) : FnOk P w K mg base CX0 1 f fd ["word"] spNum := by
  refine F.ok sc_is_number (fun vs H Q E h => ?_) (fun cdv A outer s H vs Q E hr h => ?_)
  · obtain ⟨x, rfl, _⟩ := h
    rfl
  · obtain ⟨x, rfl, hx, q⟩ := h
    refine ⟨_, (pss_cons (ps_set (i := 1) sc_is_number.nd rfl (.inl rfl) (pe_ifExp (pt_val (pe_m1 PySem.F.slot_str_startswith PySem.F.type_str_startswith mt_startswith (pv 0) pe_str)) (pe_slice sl_str (pv 0) (po_some pe_int) po_none) (pv 0)))
        (pss_cons (ps_if (PW.pt (pw_or (pt_not (pt_val (pe_m0 PySem.F.slot_str_isascii PySem.F.type_str_isascii mt_isascii (pv 1)))) (pw_or1 (pt_not (pt_val (pe_m0 PySem.F.slot_str_isdigit PySem.F.type_str_isdigit mt_isdigit (pv 1))))))) (pss_one (ps_ret pe_bl)) pss_nil)
        (pss_one (ps_ret (pe_or (pe_cmpR op_eq (pv 0) pe_str (nomark _)) (pe_one (pe_not (pe_m1 PySem.F.slot_str_startswith PySem.F.type_str_startswith mt_startswith (pv 1) pe_str)))))))), ?_⟩
    have main : ∀ z : Str, tl z = bodyL (tl x) → (tSeq (tIfS (tOr (tNot (tB (tM0 (fun x xs H Q => ∃ a, x = V.str a ∧ xs = [] ∧ True ∧ Q (V.bl (Txt.isascii a)) H) (tVar 1)))) (tNot (tB (tM0 (fun x xs H Q => ∃ a, x = V.str a ∧ xs = [] ∧ True ∧ Q (V.bl (Txt.isdigit a)) H) (tVar 1)))))
        (tRet (tC (V.bl false))) tNext) (tRet (tOrV (tOp rEq (tVar 0) (tC (V.str "0"))) (tNotV (tM1 (fun x xs H Q => ∃ a b, x = V.str a ∧ xs = [V.str b] ∧ Q (V.bl (Txt.startswith a b)) H) (tVar 1) (tC (V.str "0")))))))
        { nx := fun x H' => Q V.non H', rt := Q } [some (.str x), some (.str z)] H := fun z hz => by
      have hd := digs_ok z
      rw [hz] at hd
      unfold isNum at q
      rw [← hd] at q
      refine ⟨_, rfl, ⟨_, rfl⟩, z, rfl, rfl, trivial, _, rfl, ?_⟩
      cases ha : Txt.isascii z with
      | false =>
        rw [ha] at q
        exact q
      | true =>
        rw [ha] at q
        refine ⟨_, rfl, ⟨_, rfl⟩, z, rfl, rfl, trivial, _, rfl, ?_⟩
        cases hb : Txt.isdigit z with
        | false =>
          rw [hb] at q
          exact q
        | true =>
          rw [hb] at q
          refine ⟨_, rfl, rfl, _, rfl, ?_⟩
          rw [str_eq, show tl ("0" : Str) = [48] from rfl]
          rw [Bool.true_and, Bool.true_and] at q
          cases hc : decide (tl x = [48]) with
          | true =>
            rw [hc, Bool.true_or] at q
            exact q
          | false =>
            rw [hc, Bool.false_or] at q
            refine ⟨_, rfl, ⟨_, rfl⟩, z, _, rfl, rfl, _, rfl, ?_⟩
            rw [starts_one z "0" 48 rfl, hz]
            exact q
    refine ⟨_, rfl, ⟨_, rfl⟩, x, _, rfl, rfl, _, rfl, ?_⟩
    rw [starts_one x "-" 45 rfl]
    refine ite2 (fun e => ?_) (fun e => ?_)
    · have e := of_decide_eq_true e
      refine ⟨_, rfl, _, rfl, x, rfl, Nat.le_trans hx (by decide), main _ ?_⟩
      rw [tl_cut1]
      unfold bodyL
      rw [if_pos e]
    · have e : ¬ (tl x).head? = some 45 := fun z => e (decide_eq_true z)
      exact ⟨_, rfl, main _ (body_pos e).symm⟩
end
end Own

namespace Own
open PySem PySem.Spec PyProof.Rows L2 NdefX
section
variable {P : Program} {w : World} {K : PySem.W.Frag} {mg : Str → Option Value} {base : Heap} {D cc cda f : Addr}
abbrev s_NoteError_init : Stmt := inClass (top 9) 0
theorem sn_NoteError : NScope ["self", "line", "__class__"] ["self", "line"] ["__class__"] (defScope s_NoteError_init) := nscope_by (by decide +kernel)
theorem ok_NoteError {oc kV dc pm ct : Value} {an od : Option Addr} {sl : Array (Option Value)} (T : ErrK P K mg D cc cda)
    (lk : K.lookup f = some ⟨oc, od, .func (PySem.W.fnX "__init__" "NoteError.__init__" (defArgs s_NoteError_init) (defBody s_NoteError_init) (defScope s_NoteError_init) [("__class__", cc)] .none kV dc pm an (.ref cda) ct), sl⟩) (hcd : PySem.W.codeIn K (.ref cda) "NoteError.__init__" = true)
    (n1 : PySem.W.findIn K (.ref D) "line" = some none) :
    FnOk P w K mg base CX0 1 f (PySem.W.fnX "__init__" "NoteError.__init__" (defArgs s_NoteError_init) (defBody s_NoteError_init) (defScope s_NoteError_init) [("__class__", cc)] .none kV dc pm an (.ref cda) ct) ["self", "line"] (spErr D ["line"]) := by
  refine fn_err (N := ["self", "line", "__class__"]) (ps := ["self", "line"]) T lk hcd sn_NoteError rfl rfl rfl (fun vs H Q E h => ?_) (fun A outer s H vs Q E hr h => ?_)
  · obtain ⟨a, ys, rfl, hl, _⟩ := h
    show ys.length + 1 = _
    rw [hl]
    rfl
  · obtain ⟨a, ys, rfl, hl, hs, ha, q⟩ := h
    match ys, hl with
    | [y1], _ =>
      obtain ⟨i1, rfl, h1⟩ := hs y1 (by simp)
      have l1 := txt_len h1
      refine ⟨a, _, _, rfl, ha, pa_cons (pe_joined (PJ.cons pe_str (PJ.cons (pe_fmtR (pv 1)) PJ.nil))) pa_nil, (pss_one (ps_ost (pv 0) (pv 1))), ?_⟩
      have e0 : (Str.empty).length = 0 := rfl
      have c1 : (Str.ofString "line ").length ≤ 100 := by decide +kernel
      refine ⟨_, rfl, ?_, _, rfl, .inr ⟨i1, rfl, by omega, _, rfl, ?_, ⟨by show 1 ≤ 1000; decide, ha, ?_⟩⟩⟩
      all_goals first | (simp only [strLen_append, sizeLine_eq, e0] at *; (first | omega | (show _ ≤ _; omega))) | skip
      refine ⟨_, rfl, _, rfl, a, D, rfl, T.oex, n1, .inl ⟨ha, fun dx nd ne => ?_⟩⟩
      refine q dx _ nd ne fun b => ?_
      by_cases hb : b = dx
      · subst hb
        rw [if_pos rfl]
        first | (rw [upd_ne ne, upd_same]; rfl) | (rw [upd_same]; rfl)
      · rw [if_neg hb]
        by_cases hb2 : b = a
        · subst hb2
          rw [if_pos rfl]
          first | (rw [upd_same]) | (rw [upd_ne hb, upd_same]) | (rw [upd_ne hb, upd_ne hb, upd_same])
        · rw [if_neg hb2]
          repeat (first | rw [upd_ne hb] | rw [upd_ne hb2])
end
end Own

namespace Own
open PySem PySem.Spec PyProof.Rows L2 TL
section
variable {P : Program} {w : World} {K : PySem.W.Frag} {mg : Str → Option Value} {base : Heap} {D : Addr}
theorem str_at {ws : List Str} {i : Nat} {v : V} (h : (ws.map V.str)[i]? = some v) : ∃ x, v = .str x ∧ ws[i]? = some x := by
  rw [List.getElem?_map] at h
  cases e : ws[i]? with
  | none => rw [e] at h; cases h
  | some c =>
    rw [e] at h
    exact ⟨c, (Option.some.inj h).symm, rfl⟩
/-- what must be known of NoteError -/
structure NErC (K : PySem.W.Frag) (mg : Str → Option Value) (D f_e : Addr) (d_e : FuncData) : Prop where
  T : OexC K D
  R : ErrT K mg "NoteError" D f_e
  b : Binds K d_e ["self", "line"] []
abbrev GEN (P : Program) (w : World) (K : PySem.W.Frag) (mg : Str → Option Value) (base : Heap) (D f_e : Addr) (d_e : FuncData) : Prop := FnOk P w K mg base CX0 1 f_e d_e ["self", "line"] (spErr D ["line"])
/-- the error of line p -/
def NEx (D : Addr) (p : Int) (H : Hp) (E : XK) : Prop := ∀ H' d, Same H H' → H' d = none → E (.ref D) (some d) (upd H' d (.xd (flE ["line"] [.int p])))
theorem NEx.same {p : Int} {H H' : Hp} {E : XK} (h : NEx D p H E) (s : Same H H') : NEx D p H' E := fun H2 d s2 n => h H2 d (s.trans s2) n
theorem nex_err {p : Int} {H : Hp} {E : XK} (h : NEx D p H E) (h0 : -100000 ≤ p) (h1 : p ≤ 100000) : ([V.int p].length = ["line"].length ∧ ["line"].length ≤ 1000 ∧ (∀ y ∈ [V.int p], Shw y) ∧ ∀ d, H d = none → E (.ref D) (some d) (upd H d (.xd (flE ["line"] [V.int p])))) := by
  refine ⟨rfl, by decide, fun y hy => ?_, fun d nd => h H d (Same.refl H) nd⟩
  rw [List.mem_singleton.mp hy]
  exact Shw.of (by omega) (by omega)
def spNums (K : PySem.W.Frag) (D : Addr) : Sp := fun vs H Q E => ∃ (a : Addr) (ws : List Str) (p : Int), vs = [.ref a, .int p] ∧ SqL K H a (ws.map V.str) ∧ ws.length ≤ 1000 ∧ (∀ x ∈ ws, x.length ≤ 600) ∧ 0 ≤ p ∧ p ≤ 1000 ∧
  ((∀ x ∈ ws, isNum (tl x) = true) → ∀ H' b, Same H H' → H' b = some (.tup ((ws.map numV).map V.int)) → Q (.ref b) H') ∧ ((∃ x ∈ ws, isNum (tl x) = false) → NEx D (p + 1) H E)
theorem ok_nums {f f_e : Addr} {fd d_e : FuncData} (F : Fun K "numbers_of" "numbers_of" s_numbers_of f fd) (T : Bi mg) (U : NErC K mg D f_e d_e) (G_e : GEN P w K mg base D f_e d_e) {f_n : Addr} {d_n : FuncData} (D_n : Df K mg "is_number" s_is_number ["word"] f_n d_n) (G_n : FnOk P w K mg base CX0 1 f_n d_n ["word"] spNum) :
    FnOk P w K mg base (L2N.CX P w) 3 f fd ["words", "place"] (spNums K D) := by
  refine okN F sc_numbers_of (fun vs H Q E h => ?_) (fun cdv A outer s H vs Q E hr h => ?_)
  · obtain ⟨a, ws, p, rfl, _⟩ := h
    rfl
  · obtain ⟨a, ws, p, rfl, hs, hl, hw, p0, p1, q, e⟩ := h
    refine ⟨_, (pss_cons (ps_for PassesOwn.leaving rfl (pi_list (pv 0)) (pg_name (i := 2) sc_numbers_of.nd rfl (.inl rfl))
        (pss_one (ps_if (pt_not (pt_val (pe_call G_n (hr.mono (by decide)) (by rfl) D_n.g D_n.F.kp D_n.b .nil pass0 (pa_cons (pv 2) pa_nil)))) (pss_one (ps_errN rfl (L2N.takes_of rfl rfl rfl rfl) U.T U.R G_e (hr.mono (by decide)) U.b (by rfl) (pa_cons (pe_op op_add (pv 1) pe_int) pa_nil))) pss_nil)))
        (pss_one (ps_ret (pe_callTy call_tuple_of (by rfl) T.b_tuple (by decide +kernel) (pa_cons (pe_lc (own := [("word", 2)]) (g := gName 2) (tt := tYes) rfl sc_numbers_of.nd (pi_list (pv 0)) (blkOk_by (own := [("word", 2)]) (N := ["words", "place", "word"]) (sc := defScope s_numbers_of) (by decide +kernel)) (fun _ _ _ _ _ => (pg_name (i := 2) sc_numbers_of.nd rfl (.inl rfl))) (fun _ _ _ _ _ => pts_nil) (fun _ _ _ _ _ => (pe_callTy call_int_str (by rfl) T.b_int (by decide +kernel) (pa_cons (pv 2) pa_nil)))) pa_nil))))), ?_⟩
    refine ⟨_, rfl, a, rfl, ⟨_, hs⟩, for_list (xs := ws.map V.str) (fun i σ H' => ((∃ y, σ = [some (.ref a), some (.int p), y]) ∧ H' = H) ∧ ∀ x ∈ ws.take i, isNum (tl x) = true) ⟨⟨⟨none, rfl⟩, rfl⟩, fun x hx => nomatch hx⟩ (fun i σ H' _ p => by rw [p.1.2]; exact hs) (fun i v σ H' hx pv => ?_) fun σ H' pv => ?_⟩
    · obtain ⟨⟨⟨y, rfl⟩, rfl⟩, done⟩ := pv
      obtain ⟨x, rfl, hw1⟩ := str_at hx
      have hm := List.mem_of_getElem? hw1
      refine ⟨_, rfl, x, rfl, Nat.le_trans (hw x hm) (by decide), _, rfl, ?_⟩
      cases hn : isNum (tl x) with
      | true =>
        refine ⟨⟨_, rfl⟩, rfl⟩ |> fun z => ⟨z, fun y hy => ?_⟩
        rw [List.take_add_one, hw1] at hy
        rcases List.mem_append.mp hy with hy | hy
        · exact done y hy
        · rw [List.mem_singleton.mp hy]
          exact hn
      | false =>
        exact ⟨_, rfl, _, _, rfl, rfl, nex_err (e ⟨x, hm, hn⟩) (by omega) (by omega)⟩
    · obtain ⟨⟨⟨y, rfl⟩, rfl⟩, done⟩ := pv
      rw [List.length_map, List.take_length] at done
      refine ⟨_, rfl, a, rfl, ⟨_, hs⟩, fun M nM => lc_list (K := K) (a := a) (xs := ws.map V.str) (fun i Hi => Hi = upd H' M (.lst (((ws.take i).map numV).map V.int))) rfl (fun i Hi _ e => ?_) (fun i v Hi hx pv => ?_) fun Hi pv => ?_⟩
      · rw [e]
        exact (same_upd nM).seq hs
      · subst pv
        obtain ⟨x, rfl, hw1⟩ := str_at hx
        have hm := List.mem_of_getElem? hw1
        have hz := hw x hm
        refine ⟨rfl, ?_⟩
        refine ⟨_, rfl, x, numV x, rfl, num_read (done x hm) (by omega), by omega, _, upd_same, ?_, ?_⟩
        · rw [List.length_map, List.length_map, List.length_take]
          exact Nat.lt_of_le_of_lt (Nat.min_le_right _ _) (small1000 hl)
        · rw [upd_upd, List.take_add_one, hw1]
          simp
      · subst pv
        rw [List.length_map, List.take_length]
        refine ⟨M, _, rfl, .inl ⟨.inl (.inl upd_same), fun l nl => ?_⟩⟩
        exact q done _ l ((same_upd nM).trans (same_upd nl)) upd_same
/-- the words of a line -/
def wdsOf (x : Str) : List Str := Txt.split x " "
def spWords (K : PySem.W.Frag) (D : Addr) : Sp := fun vs H Q E => ∃ (a : Addr) (ls : List Str) (p : Nat), vs = [.ref a, .int (p : Int)] ∧ SqL K H a (ls.map V.str) ∧ p ≤ 1000 ∧ (∀ x, ls[p]? = some x → x.length ≤ 1000 ∧ ∀ H' b, Same H H' → H' b = some (.lst ((wdsOf x).map V.str)) → Q (.ref b) H') ∧ (ls.length ≤ p → NEx D ((p : Int) + 1) H E)
theorem ok_words {f f_e : Addr} {fd d_e : FuncData} (F : Fun K "words_at" "words_at" s_words_at f fd) (T : Bi mg) (U : NErC K mg D f_e d_e) (G_e : GEN P w K mg base D f_e d_e) : FnOk P w K mg base (L2N.CX P w) 3 f fd ["lines", "place"] (spWords K D) := by
  refine okN F sc_words_at (fun vs H Q E h => ?_) (fun cdv A outer s H vs Q E hr h => ?_)
  · obtain ⟨a, ls, p, rfl, _⟩ := h
    rfl
  · obtain ⟨a, ls, p, rfl, hs, hp, q, e⟩ := h
    refine ⟨_, (pss_cons (ps_if (pt_cmpR op_ge (pv 1) (pe_callB call_len_seq (by rfl) T.b_len PySem.boot_len (pa_cons (pv 0) pa_nil)) (nomark _)) (pss_one (ps_errN rfl (L2N.takes_of rfl rfl rfl rfl) U.T U.R G_e (hr.mono (by decide)) U.b (by rfl) (pa_cons (pe_op op_add (pv 1) pe_int) pa_nil))) pss_nil)
        (pss_one (ps_ret (pe_split (pe_ix (r := rIxL K) ix_list (pv 0) (pv 1) (fun _ _ => rfl)) pe_str)))), ?_⟩
    refine ⟨_, rfl, _, rfl, a, _, rfl, .inl hs, _, _, rfl, rfl, _, rfl, ite2 (fun c => ?_) (fun c => ?_)⟩
    · have c1 : ((ls.map V.str).length : Int) ≤ (p : Int) := of_decide_eq_true c
      rw [List.length_map] at c1
      exact ⟨_, rfl, _, _, rfl, rfl, nex_err (e (by omega)) (by omega) (by omega)⟩
    · have c1 : ¬ ((ls.map V.str).length : Int) ≤ (p : Int) := fun z => c (decide_eq_true z)
      rw [List.length_map] at c1
      have hx : ls[p]? = some ls[p] := List.getElem?_eq_getElem (by omega)
      obtain ⟨hz, q⟩ := q _ hx
      generalize ls[p] = x at hx hz q
      refine ⟨_, rfl, _, rfl, a, _, _, _, rfl, rfl, hs, at_of (j := p) rfl (by rw [List.getElem?_map, hx]; rfl), ⟨_, rfl⟩, x, _, rfl, rfl, rfl, Nat.le_trans (Nat.add_le_add_right hz 2) (by decide), fun b nb => q _ b (same_upd nb) upd_same⟩
end
end Own

namespace Own
open PySem PySem.Spec PyProof.Rows L2 TL
theorem spl_ne (S : List Nat) : ∀ (l : List Nat) (k : Nat) (acc : List Nat), spl S k acc l ≠ []
  | [], k, acc => by rw [spl_nil]; simp
  | c :: r, 0, acc => by
    unfold spl
    split
    · simp
    · exact spl_ne S r 0 _
  | c :: r, k + 1, acc => by
    unfold spl
    exact spl_ne S r k acc
theorem spl_len (S : List Nat) : ∀ (l : List Nat) (k : Nat) (acc : List Nat), (spl S k acc l).length ≤ l.length + 1
  | [], k, acc => by rw [spl_nil]; simp
  | c :: r, 0, acc => by
    unfold spl
    split
    · have := spl_len S r (S.length - 1) []
      simp only [List.length_cons]
      omega
    · have := spl_len S r 0 (acc ++ [c])
      simp only [List.length_cons]
      omega
  | c :: r, k + 1, acc => by
    unfold spl
    have := spl_len S r k acc
    simp only [List.length_cons]
    omega
theorem spl_part (S : List Nat) : ∀ (l : List Nat) (k : Nat) (acc : List Nat), ∀ p ∈ spl S k acc l, p.length ≤ acc.length + l.length
  | [], k, acc => by
    rw [spl_nil]
    intro p hp
    rw [List.mem_singleton.mp hp]
    simp
  | c :: r, 0, acc => by
    unfold spl
    intro p hp
    split at hp
    · rcases List.mem_cons.mp hp with e | e
      · rw [e]
        omega
      · have := spl_part S r (S.length - 1) [] p e
        simp only [List.length_cons, List.length_nil] at *
        omega
    · have := spl_part S r 0 (acc ++ [c]) p hp
      simp only [List.length_cons, List.length_append, List.length_nil] at *
      omega
  | c :: r, k + 1, acc => by
    unfold spl
    intro p hp
    have := spl_part S r k acc p hp
    simp only [List.length_cons]
    omega
theorem split_tl (x y : Str) (c : Nat) (hy : tl y = [c]) (hc : c < 256) : (Txt.split x y).map tl = spl [c] 0 [] (tl x) := by
  have hk : y.cps.all (· < 256) = true := by
    rw [← Array.all_toList]
    show (tl y).all _ = true
    rw [hy]
    simp [hc]
  rw [split_spl x y (by rw [hy]; simp) (kind_ok hk), hy]
theorem split_facts (x y : Str) (c : Nat) (hy : tl y = [c]) (hc : c < 256) : Txt.split x y ≠ [] ∧ (Txt.split x y).length ≤ x.length + 1 ∧ ∀ p ∈ Txt.split x y, p.length ≤ x.length := by
  have e := split_tl x y c hy hc
  refine ⟨fun z => ?_, ?_, fun p hp => ?_⟩
  · rw [z] at e
    exact spl_ne _ _ _ _ e.symm
  · have := congrArg List.length e
    rw [List.length_map] at this
    rw [this, len_tl]
    exact spl_len _ _ _ _
  · have := spl_part [c] (tl x) 0 [] (tl p) (by rw [← e]; exact List.mem_map.mpr ⟨p, hp, rfl⟩)
    rw [len_tl, len_tl]
    simpa using this
theorem wds_facts (x : Str) : wdsOf x ≠ [] ∧ (wdsOf x).length ≤ x.length + 1 ∧ ∀ p ∈ wdsOf x, p.length ≤ x.length := split_facts x " " 32 rfl (by decide)
theorem cut_tail (ws : List Str) : cutV (ws.map V.str) (some 1) none = ws.tail.map V.str := by
  unfold cutV
  rw [show HT.sIx (ws.map V.str).length 0 (some 1) = min 1 (ws.map V.str).length from HT.sIx_nat _ _ 1, HT.sIx_none]
  cases ws with
  | nil => rfl
  | cons c r =>
    have e : min 1 ((c :: r).map V.str).length = 1 := by simp
    rw [e]
    show List.take ((r.map V.str).length + 1 - 1) (r.map V.str) = r.map V.str
    rw [Nat.add_sub_cancel, List.take_length]
/-- how many numbers stand behind each word -/
def CntAt (H : Hp) (c : Addr) (cnt : Str → Option Nat) : Prop := ∃ kvs : List (Key × V), H c = some (.dK kvs) ∧ ∀ x : Str, valV kvs (Sum.inr x) = (cnt x).map fun k => V.int (k : Nat)
theorem CntAt.same {H H' : Hp} {c : Addr} {cnt : Str → Option Nat} (s : Same H H') (h : CntAt H c cnt) : CntAt H' c cnt := let ⟨k, e, f⟩ := h; ⟨k, s _ _ e, f⟩
theorem CntAt.get {H : Hp} {c : Addr} {cnt : Str → Option Nat} (h : CntAt H c cnt) (x : Str) : DGet H c (.str x) ((cnt x).map fun k => V.int (k : Nat)) := by
  obtain ⟨k, e, f⟩ := h
  rw [← f x]
  exact DGet.k (k := Sum.inr x) e
/-- the word and the numbers of a line -/
def rdL (cnt : Str → Option Nat) (x : Str) : Option (Str × List Int) :=
  match wdsOf x with
  | [] => none
  | y :: r => match cnt y with
    | none => none
    | some k => if (r.all fun z => isNum (tl z)) = true ∧ r.length = k then some (y, r.map numV) else none
section
variable {P : Program} {w : World} {K : PySem.W.Frag} {mg : Str → Option Value} {base : Heap} {D : Addr}
def LineR (D : Addr) (o : Option (Str × List Int)) (p : Nat) (H : Hp) (Q : VK) (E : XK) : Prop := match o with
  | some d => ∀ H' b, Same H H' → H' b = some (.tup (.str d.1 :: d.2.map V.int)) → Q (.ref b) H'
  | none => NEx D ((p : Int) + 1) H E
def spLine (K : PySem.W.Frag) (D : Addr) : Sp := fun vs H Q E => ∃ (a c : Addr) (ls : List Str) (p : Nat) (cnt : Str → Option Nat), vs = [.ref a, .int (p : Int), .ref c] ∧ SqL K H a (ls.map V.str) ∧ CntAt H c cnt ∧ p ≤ 900 ∧ (∀ x, ls[p]? = some x → x.length ≤ 500 ∧ LineR D (rdL cnt x) p H Q E) ∧ (ls.length ≤ p → NEx D ((p : Int) + 1) H E)
theorem ok_line {f f_e : Addr} {fd d_e : FuncData} (F : Fun K "read_line" "read_line" s_read_line f fd) (T : Bi mg) (U : NErC K mg D f_e d_e) (G_e : GEN P w K mg base D f_e d_e)
    {f_w : Addr} {d_w : FuncData} (D_w : Df K mg "words_at" s_words_at ["lines", "place"] f_w d_w) (G_w : FnOk P w K mg base (L2N.CX P w) 3 f_w d_w ["lines", "place"] (spWords K D))
    {f_n : Addr} {d_n : FuncData} (D_n : Df K mg "numbers_of" s_numbers_of ["words", "place"] f_n d_n) (G_n : FnOk P w K mg base (L2N.CX P w) 3 f_n d_n ["words", "place"] (spNums K D)) :
    FnOk P w K mg base (L2N.CX P w) 4 f fd ["lines", "place", "counts"] (spLine K D) := by
  refine okN F sc_read_line (fun vs H Q E h => ?_) (fun cdv A outer s H vs Q E hr h => ?_)
  · obtain ⟨a, c, ls, p, cnt, rfl, _⟩ := h
    rfl
  · obtain ⟨a, c, ls, p, cnt, rfl, hs, hc, hp, q, e⟩ := h
    refine ⟨_, (pss_cons (ps_set (i := 3) sc_read_line.nd rfl (.inl rfl) (pe_call G_w (hr.mono (by decide)) (by rfl) D_w.g D_w.F.kp D_w.b .nil (L2N.passes_call (L2N.takes_of rfl rfl rfl rfl) (fun _ _ _ _ h => h)) (pa_cons (pv 0) (pa_cons (pv 1) pa_nil))))
        (pss_cons (ps_if (pt_cmp (pc_dnotin (hu_of hr) (pe_ix (r := rIxL K) ix_list (pv 3) pe_int (fun _ _ => rfl)) (pv 2))) (pss_one (ps_errN rfl (L2N.takes_of rfl rfl rfl rfl) U.T U.R G_e (hr.mono (by decide)) U.b (by rfl) (pa_cons (pe_op op_add (pv 1) pe_int) pa_nil))) pss_nil)
        (pss_cons (ps_set (i := 4) sc_read_line.nd rfl (.inl rfl) (pe_call G_n (hr.mono (by decide)) (by rfl) D_n.g D_n.F.kp D_n.b .nil (L2N.passes_call (L2N.takes_of rfl rfl rfl rfl) (fun _ _ _ _ h => h)) (pa_cons (pe_slice sl_list (pv 3) (po_some pe_int) po_none) (pa_cons (pv 1) pa_nil))))
        (pss_cons (ps_set (i := 5) sc_read_line.nd rfl (.inl rfl) (pe_dget (hu_of hr) (pv 2) (pe_ix (r := rIxL K) ix_list (pv 3) pe_int (fun _ _ => rfl)) (fun _ _ => rfl)))
        (pss_cons (ps_if (PW.pt (pw_and (pt_cmpR op_notN (pv 5) pe_non (nomark _)) (pw_and1 (pt_cmpR op_ne (pe_callB call_len_seq (by rfl) T.b_len PySem.boot_len (pa_cons (pv 4) pa_nil)) (pv 5) (nomark _))))) (pss_one (ps_errN rfl (L2N.takes_of rfl rfl rfl rfl) U.T U.R G_e (hr.mono (by decide)) U.b (by rfl) (pa_cons (pe_op op_add (pv 1) pe_int) pa_nil))) pss_nil)
        (pss_one (ps_ret (pe_op op_catT (pe_tup (pa_cons (pe_ix (r := rIxL K) ix_list (pv 3) pe_int (fun _ _ => rfl)) pa_nil)) (pv 4))))))))), ?_⟩
    refine ⟨_, rfl, _, rfl, a, ls, p, rfl, hs, by omega, fun x hx => ?_, fun z => e z⟩
    obtain ⟨hz, q⟩ := q x hx
    refine ⟨by omega, fun H1 b s1 hb => ?_⟩
    obtain ⟨w0, wl, wp⟩ := wds_facts x
    unfold rdL at q
    cases hwd : wdsOf x with
    | nil => exact absurd hwd w0
    | cons y r =>
      rw [hwd] at hb wl wp q
      dsimp only at q
      have hB : SqL K H1 b ((y :: r).map V.str) := .inl (.inl hb)
      have hc1 := hc.same s1
      refine ⟨_, rfl, _, _, _, _, rfl, rfl, hB, at_of (j := 0) rfl rfl, _, rfl, c, _, rfl, hc1.get y, ?_⟩
      cases hcy : cnt y with
      | none =>
        rw [hcy] at q
        exact ⟨_, rfl, _, rfl, _, _, rfl, rfl, nex_err (NEx.same q s1) (by omega) (by omega)⟩
      | some k =>
        rw [hcy] at q
        dsimp only at q
        refine ⟨_, rfl, ?_⟩
        refine ⟨_, rfl, _, rfl, b, _, rfl, hB, fun t nt => ?_⟩
        rw [cut_tail]
        have s2 : Same H (upd H1 t (.lst (r.map V.str))) := s1.trans (same_upd nt)
        have hlr : r.length ≤ 500 := by simp only [List.length_cons] at wl; omega
        refine ⟨_, rfl, t, r, (p : Int), rfl, .inl (.inl upd_same), by omega, fun z hz2 => ?_, by omega, by omega, fun hall H3 n s3 hn => ?_, fun ⟨z, hzm, hzn⟩ => ?_⟩
        · have := wp z (List.mem_cons_of_mem _ hz2)
          omega
        · have s13 : Same H1 H3 := (same_upd nt).trans s3
          have hall2 : (r.all fun z => isNum (tl z)) = true := List.all_eq_true.mpr hall
          have hB3 : SqL K H3 b ((y :: r).map V.str) := .inl (.inl (s13 _ _ hb))
          have hn2 : SqT K H3 n ((r.map numV).map V.int) := .inl (.inl hn)
          have g3 := (hc.same (s1.trans s13)).get y
          rw [hcy] at g3
          refine ⟨_, rfl, _, rfl, _, _, _, _, rfl, rfl, hB3, at_of (j := 0) rfl rfl, c, _, rfl, g3, ?_⟩
          refine ⟨_, rfl, rfl, _, rfl, ?_⟩
          rw [show (!decide (V.int ((k : Nat) : Int) = V.non)) = true by rw [decide_eq_false (fun z => V.noConfusion z)]; rfl]
          refine ⟨_, rfl, n, _, rfl, .inr hn2, _, rfl, rfl, _, rfl, ?_⟩
          rw [List.length_map, List.length_map]
          by_cases hk : r.length = k
          · rw [if_pos ⟨hall2, hk⟩] at q
            rw [show (!decide (V.int ((r.length : Nat) : Int) = V.int ((k : Nat) : Int))) = false by rw [hk, decide_eq_true rfl]; rfl]
            refine ⟨_, rfl, _, _, _, _, rfl, rfl, hB3, at_of (j := 0) rfl rfl, by show 1 ≤ sizeLine; decide, fun m nm => ?_⟩
            have s4 : Same H3 (upd H3 m (.tup [.str y])) := same_upd nm
            have s5 := (s1.trans s13).trans s4
            refine ⟨_, rfl, m, n, [.str y], (r.map numV).map V.int, rfl, rfl, .inl (.inl upd_same), .inl (.inl (s4 _ _ hn)), by simp, ?_, fun e0 => ?_, fun e0 o no => ?_⟩
            · rw [List.length_map, List.length_map]
              show 1 + r.length ≤ sizeLine
              exact Nat.le_trans (by omega) (by decide : 600 ≤ sizeLine)
            · refine q _ m s5 ?_
              rw [show (y, r.map numV).2.map V.int = [] from e0]
              exact upd_same
            · exact q _ o (s5.trans (same_upd no)) upd_same
          · rw [if_neg (fun z => hk z.2)] at q
            rw [show (!decide (V.int ((r.length : Nat) : Int) = V.int ((k : Nat) : Int))) = true by rw [decide_eq_false (fun z => hk (Int.ofNat_inj.mp (V.int.inj z)))]; rfl]
            exact ⟨_, rfl, _, _, rfl, rfl, nex_err (NEx.same q (s1.trans s13)) (by omega) (by omega)⟩
        · rw [if_neg (fun w => by have := List.all_eq_true.mp w.1 z hzm; rw [hzn] at this; cases this)] at q
          exact NEx.same q s2
end
end Own

namespace Own
open PySem PySem.Spec PyProof.Rows L2 TL
/-! ### lines of words and numbers -/
abbrev Wd := Sum Str Int
abbrev Ln := List Wd
/-- str of a text or of a whole number -/
def rStrX : List V → Hp → VK → Prop := fun xs H Q => (∃ a, xs = [.str a] ∧ Q (.str a) H) ∨ ∃ i : Int, xs = [.int i] ∧ i.natAbs.log2 < 1920 ∧ Q (.str (Str.ofString (toString i))) H
theorem call_strX {X : Cx} : CallR X (.type "str") rStrX := by
  intro pins s σ H xs us Q I r h
  rcases h with ⟨a, rfl, q⟩ | ⟨i, rfl, hi, q⟩
  · exact SkE.call_str_str pins s σ H _ us Q I r ⟨a, rfl, q⟩
  · exact call_str_int pins s σ H _ us Q I r ⟨i, rfl, hi, q⟩
theorem pi_seqK {X : Cx} {K : PySem.W.Frag} {tg l : Expr} {tl : TE} (hK : X.K = K) (hl : PE X l tl) : PI X tg l (iSeq K tl) := by
  subst hK
  exact pi_seq hl
def rJoin (K : PySem.W.Frag) : V → List V → Hp → VK → Prop := fun x xs H Q => ∃ a p, ∃ ys : List Str, x = .str a ∧ xs = [.ref p] ∧ (SqL K H p (ys.map V.str) ∨ SqT K H p (ys.map V.str)) ∧ (ys.map (·.length)).sum + ys.length * a.length ≤ 16777216 ∧ Q (.str (Txt.join a ys)) H
theorem pe_asJ {X : Cx} {K : PySem.W.Frag} {e : Expr} {to te : TE} (hK : X.K = K) (h : PE X e (tM1 (rJoin X.K) to te)) : PE X e (tM1 (rJoin K) to te) := by
  subst hK
  exact h
abbrev scW : Scope := { kind := .function, names := [(".0", .local), ("words", .local)], isGenerator := false, isCoroutine := false }
/-- the text of a number -/
def nt (i : Int) : Str := Str.ofString (toString i)
def wV : Wd → V
  | .inl z => .str z
  | .inr i => .int i
def wS : Wd → Str
  | .inl z => z
  | .inr i => nt i
abbrev lnV (d : Ln) : List V := d.map wV
def lnS (d : Ln) : List Str := d.map wS
/-- the text of a line, of lines -/
def lineT (d : Ln) : Str := Txt.join " " (lnS d)
def noteT (ds : List Ln) : Str := Txt.join "\n" (ds.map lineT)
def SmW : Wd → Prop
  | .inl z => z.length ≤ 65
  | .inr i => i.natAbs < 2 ^ 64
/-- a line that is short enough to be written -/
def Sml (d : Ln) : Prop := d.length ≤ 4 ∧ ∀ x ∈ d, SmW x
theorem nt_len {i : Int} (h : i.natAbs < 2 ^ 64) : (nt i).length ≤ 65 := by
  unfold nt
  rw [PySem.ofString_length]
  exact int_text_length_le (by decide) (log_lt (by decide) h)
theorem sum_le : ∀ {l : List Nat} {k : Nat}, (∀ x ∈ l, x ≤ k) → l.sum ≤ l.length * k
  | [], k, _ => by simp
  | a :: l, k, h => by
    have h1 := h a List.mem_cons_self
    have h2 := sum_le (l := l) (k := k) fun x hx => h x (List.mem_cons_of_mem _ hx)
    rw [List.sum_cons, List.length_cons, Nat.succ_mul]
    omega
theorem wds_len {d : Ln} (h : Sml d) : ∀ x ∈ lnS d, x.length ≤ 65 := fun x hx => by
  obtain ⟨a, ha, rfl⟩ := List.mem_map.mp hx
  have := h.2 a ha
  cases a with
  | inl z => exact this
  | inr i => exact nt_len this
theorem join_len (y : Str) : ∀ ps : List Str, (Txt.join y ps).length ≤ (ps.map (·.length)).sum + ps.length * y.length := fun ps => by
  rw [join_eq, len_tl, tl_join]
  have key : ∀ l : List Str, (joinL (tl y) (l.map tl)).length ≤ (l.map (·.length)).sum + l.length * y.length := by
    intro l
    induction l with
    | nil => simp [joinL]
    | cons p r ih =>
      cases r with
      | nil =>
        show (tl p).length ≤ _
        rw [← len_tl]
        simp
      | cons q r =>
        show (tl p ++ (tl y ++ joinL (tl y) (tl q :: r.map tl))).length ≤ _
        have ih : (joinL (tl y) (tl q :: r.map tl)).length ≤ _ := ih
        rw [List.length_append, List.length_append, ← len_tl, ← len_tl, List.map_cons, List.sum_cons, List.length_cons, Nat.succ_mul]
        omega
  exact key ps
theorem line_len {d : Ln} (h : Sml d) : (lineT d).length ≤ 270 := by
  have h1 := join_len " " (lnS d)
  have h2 : ((lnS d).map (·.length)).sum ≤ (lnS d).length * 65 := by
    have := sum_le (l := (lnS d).map (·.length)) (k := 65) fun x hx => by
      obtain ⟨z, hz, rfl⟩ := List.mem_map.mp hx
      exact wds_len h z hz
    rw [List.length_map] at this
    exact this
  have h3 : (lnS d).length ≤ 4 := by
    unfold lnS
    rw [List.length_map]
    exact h.1
  have h4 : (" " : Str).length = 1 := rfl
  rw [h4] at h1
  unfold lineT
  omega
/-- lines that stand in lists or tuples -/
def LnH (H : Hp) (vs : List V) (ds : List Ln) : Prop := vs.length = ds.length ∧ ∀ (i : Nat) (d : Ln), ds[i]? = some d → ∃ b, vs[i]? = some (.ref b) ∧ SqH H b (lnV d)
theorem LnH.same {H H' : Hp} {vs : List V} {ds : List Ln} (s : Same H H') (h : LnH H vs ds) : LnH H' vs ds := ⟨h.1, fun i d e => let ⟨b, x, y⟩ := h.2 i d e; ⟨b, x, y.same s⟩⟩
theorem LnH.at_ {H : Hp} {vs : List V} {ds : List Ln} (h : LnH H vs ds) {i : Nat} {x : V} (e : vs[i]? = some x) : ∃ b d, x = .ref b ∧ ds[i]? = some d ∧ SqH H b (lnV d) := by
  have hi : i < ds.length := by
    rw [← h.1]
    exact (List.getElem?_eq_some_iff.mp e).1
  obtain ⟨b, e1, e2⟩ := h.2 i ds[i] (List.getElem?_eq_getElem hi)
  rw [e] at e1
  exact ⟨b, ds[i], Option.some.inj e1, List.getElem?_eq_getElem hi, e2⟩
/-- the line of an entry -/
def lnE (t : Tr) : Ln := [.inr t.1, .inr t.2.1, .inr t.2.2]
theorem lnE_v (t : Tr) : lnV (lnE t) = tv t := rfl
theorem LnH.trips {H : Hp} {vs : List V} {l : List Tr} (h : TrV H vs l) : LnH H vs (l.map lnE) := by
  refine ⟨by rw [List.length_map]; exact h.1, fun i d e => ?_⟩
  rw [List.getElem?_map] at e
  cases e2 : l[i]? with
  | none => rw [e2] at e; cases e
  | some t =>
    rw [e2] at e
    obtain rfl : lnE t = d := Option.some.inj e
    obtain ⟨b, x, y⟩ := h.2 i t e2
    exact ⟨b, x, .inr y⟩
theorem LnH.cons {H : Hp} {vs : List V} {ds : List Ln} {b : Addr} {d : Ln} (e : SqH H b (lnV d)) (h : LnH H vs ds) : LnH H (.ref b :: vs) (d :: ds) := by
  refine ⟨by rw [List.length_cons, List.length_cons, h.1], fun i u hu => ?_⟩
  cases i with
  | zero =>
    obtain rfl : d = u := Option.some.inj hu
    exact ⟨b, rfl, e⟩
  | succ i => exact h.2 i u hu
section
variable {P : Program} {w : World} {K : PySem.W.Frag} {mg : Str → Option Value} {base : Heap} {C : Addr}
def spWrit (K : PySem.W.Frag) : Sp := fun vs H Q _ => ∃ (a : Addr) (xs : List V) (ds : List Ln), vs = [.ref a] ∧ SqL K H a xs ∧ LnH H xs ds ∧ (∀ d ∈ ds, Sml d) ∧ ds.length ≤ 1000 ∧ ∀ H', Same H H' → Q (.str (noteT ds)) H'
set_option maxHeartbeats 1000000 in
theorem ok_written {f : Addr} {fd : FuncData} (F : Fun K "written" "written" s_written f fd) (T : Bi mg) : FnOk P w K mg base CX0 1 f fd ["lines"] (spWrit K) := by
  refine F.ok sc_written (fun vs H Q E h => ?_) (fun cdv A outer s H vs Q E hr h => ?_)
  · obtain ⟨a, xs, ds, rfl, _⟩ := h
    rfl
  · obtain ⟨a, xs, ds, rfl, hs, hd, hm, hl, q⟩ := h
    refine ⟨_, (pss_one (ps_ret (pe_join pe_str (pe_lc (own := [("words", 1)]) (g := gName 1) (tt := tYes) rfl sc_written.nd (pi_list (pv 0)) (blkOk_by (own := [("words", 1)]) (N := ["lines", "words", "word"]) (sc := defScope s_written) (by decide +kernel)) (fun _ _ _ _ _ => pg_name (i := 1) sc_written.nd rfl (Or.inl rfl)) (fun _ _ _ _ _ => pts_nil) (fun _ _ _ _ _ => (pe_asJ rfl (pe_join pe_str (show PE _ _ (tLc (iSeq K (tVar 1)) (gName 2) tYes (tCB rStrX (tCons (tVar 2) tNil)) [2]) from pe_lc (own := [("word", 2)]) (g := gName 2) (tt := tYes) rfl sc_written.nd (pi_seqK rfl (pv 1)) (blkOk_by (own := [("word", 2)]) (N := ["lines", "words", "word"]) (sc := scW) (by decide +kernel)) (fun _ _ _ _ _ => pg_name (i := 2) sc_written.nd rfl (Or.inl rfl)) (fun _ _ _ _ _ => pts_nil) (fun _ _ _ _ _ => pe_callTy call_strX (by rfl) T.b_str (by decide +kernel) (pa_cons (pv 2) pa_nil)))))))))), ?_⟩
    have lx : xs.length ≤ 1000 := by rw [hd.1]; exact hl
    -- the words of a line
    have inner : ∀ (b : Addr) (d : Ln) (Hi : Hp) (σ : L2.St) (R : VK), SqH Hi b (lnV d) → Sml d → (∃ y2, σ = [some (.ref a), some (.ref b), y2]) → (∀ D2, Hi D2 = none → R (.str (lineT d)) (upd Hi D2 (.lst ((lnS d).map V.str)))) →
        (tM1 (rJoin K) (tC (V.str " ")) (tLc (iSeq K (tVar 1)) (gName 2) tYes (tCB rStrX (tCons (tVar 2) tNil)) [2])) σ Hi R := fun b d Hi σ R hb sm hσ r => by
      obtain ⟨y2, rfl⟩ := hσ
      have lw : (lnS d).length = (lnV d).length := by unfold lnS lnV; rw [List.length_map, List.length_map]
      have lw3 : (lnS d).length ≤ 4 := by
        unfold lnS
        rw [List.length_map]
        exact sm.1
      have step : ∀ (D2 : Addr) (j : Nat) (x : V) (Hj : Hp), (lnV d)[j]? = some x → Hj = upd Hi D2 (.lst (((lnS d).take j).map V.str)) → rStrX [x] Hj fun y H4 => ∃ acc, H4 D2 = some (.lst acc) ∧ acc.length < sizeLine ∧ upd H4 D2 (.lst (acc ++ [y])) = upd Hi D2 (.lst (((lnS d).take (j + 1)).map V.str)) := fun D2 j x Hj hx e => by
        subst e
        have go : ∀ z : Str, (lnS d)[j]? = some z → ∃ acc, (upd Hi D2 (.lst (((lnS d).take j).map V.str))) D2 = some (.lst acc) ∧ acc.length < sizeLine ∧ upd (upd Hi D2 (.lst (((lnS d).take j).map V.str))) D2 (.lst (acc ++ [.str z])) = upd Hi D2 (.lst (((lnS d).take (j + 1)).map V.str)) := fun z hz => by
          refine ⟨_, upd_same, ?_, ?_⟩
          · rw [List.length_map, List.length_take]
            exact Nat.lt_of_le_of_lt (Nat.min_le_right _ _) (small1000 (by omega))
          · rw [upd_upd, List.take_add_one, hz]
            simp
        unfold lnV at hx
        rw [List.getElem?_map] at hx
        cases e : d[j]? with
        | none => rw [e] at hx; cases hx
        | some a =>
          rw [e] at hx
          obtain rfl : wV a = x := Option.some.inj hx
          have sm2 := sm.2 a (List.mem_of_getElem? e)
          have hz : (lnS d)[j]? = some (wS a) := by
            unfold lnS
            rw [List.getElem?_map, e]
            rfl
          cases a with
          | inl z => exact .inl ⟨z, rfl, go z hz⟩
          | inr c => exact .inr ⟨c, rfl, Nat.lt_of_lt_of_le (log_lt (k := 64) (by decide) sm2) (by decide), go (nt c) hz⟩
      have fin : ∀ (D2 : Addr), Hi D2 = none → ∀ Hj, Hj = upd Hi D2 (.lst (((lnS d).take (lnV d).length).map V.str)) → rJoin K (.str " ") [.ref D2] Hj R := fun D2 n2 Hj e => by
        subst e
        rw [← lw, List.take_length]
        refine ⟨" ", D2, lnS d, rfl, rfl, .inl (.inl (.inl upd_same)), ?_, r D2 n2⟩
        have h2 : ((lnS d).map (·.length)).sum ≤ (lnS d).length * 65 := by
          have := sum_le (l := (lnS d).map (·.length)) (k := 65) fun x hx => by
            obtain ⟨z, hz, rfl⟩ := List.mem_map.mp hx
            exact wds_len sm z hz
          rw [List.length_map] at this
          exact this
        have h4 : (" " : Str).length = 1 := rfl
        rw [h4]
        omega
      rcases hb with e | e
      · refine ⟨⟨_, rfl⟩, _, rfl, b, rfl, .inl ⟨⟨_, .inl (.inl e)⟩, fun D2 n2 => lc_list (K := K) (a := b) (xs := lnV d) (fun j Hj => Hj = upd Hi D2 (.lst (((lnS d).take j).map V.str))) rfl (fun j Hj _ ej => ?_) (fun j x Hj hx ej => ?_) fun Hj ej => fin D2 n2 Hj ej⟩⟩
        · rw [ej]
          exact .inl (.inl ((same_upd n2) _ _ e))
        · exact ⟨rfl, _, rfl, step D2 j x Hj hx ej⟩
      · refine ⟨⟨_, rfl⟩, _, rfl, b, rfl, .inr ⟨⟨_, .inl (.inl e)⟩, fun D2 n2 => lc_tup (K := K) (a := b) (xs := lnV d) (fun j Hj => Hj = upd Hi D2 (.lst (((lnS d).take j).map V.str))) rfl (fun j Hj _ ej => ?_) (fun j x Hj hx ej => ?_) fun Hj ej => fin D2 n2 Hj ej⟩⟩
        · rw [ej]
          exact .inl (.inl ((same_upd n2) _ _ e))
        · exact ⟨rfl, _, rfl, step D2 j x Hj hx ej⟩
    refine ⟨⟨_, rfl⟩, _, rfl, a, rfl, ⟨_, hs⟩, fun D nD => lc_list (K := K) (a := a) (xs := xs) (fun i Hi => ∃ Hc, Same H Hc ∧ Hc D = none ∧ Hi = upd Hc D (.lst (((ds.take i).map lineT).map V.str))) ⟨H, Same.refl _, nD, rfl⟩ (fun i Hi _ pv => ?_) (fun i x Hi hx pv => ?_) fun Hi pv => ?_⟩
    · obtain ⟨Hc, sc, nDc, rfl⟩ := pv
      exact (sc.trans (same_upd nDc)).seq hs
    · obtain ⟨Hc, sc, nDc, rfl⟩ := pv
      obtain ⟨b, d, rfl, hdi, hb⟩ := hd.at_ hx
      have sD : Same Hc (upd Hc D (.lst (((ds.take i).map lineT).map V.str))) := same_upd nDc
      refine ⟨rfl, ?_⟩
      refine inner b d _ _ _ ((hb.same sc).same sD) (hm d (List.mem_of_getElem? hdi)) ⟨_, rfl⟩ fun D2 n2 => ?_
      have n2D : D2 ≠ D := fun z => by rw [z, upd_same] at n2; cases n2
      have n2c : Hc D2 = none := by rw [upd_ne n2D] at n2; exact n2
      refine ⟨_, by rw [upd_ne n2D.symm]; exact upd_same, ?_, upd Hc D2 (.lst ((lnS d).map V.str)), sc.trans (same_upd n2c), by rw [upd_ne n2D.symm]; exact nDc, ?_⟩
      · rw [List.length_map, List.length_map, List.length_take]
        exact Nat.lt_of_le_of_lt (Nat.min_le_right _ _) (small1000 hl)
      · rw [List.take_add_one, hdi]
        funext c
        by_cases h1 : c = D
        · rw [h1, upd_same, upd_same]
          simp
        · rw [upd_ne h1, upd_ne h1]
          by_cases h2 : c = D2
          · rw [h2, upd_same, upd_same]
          · rw [upd_ne h2, upd_ne h2, upd_ne h1]
    · obtain ⟨Hc, sc, nDc, rfl⟩ := pv
      rw [hd.1, List.take_length]
      refine ⟨_, D, ds.map lineT, rfl, rfl, .inl (.inl (.inl upd_same)), ?_, q _ (sc.trans (same_upd nDc))⟩
      have h2 : ((ds.map lineT).map (·.length)).sum ≤ (ds.map lineT).length * 270 := by
        have := sum_le (l := (ds.map lineT).map (·.length)) (k := 270) fun x hx => by
          obtain ⟨z, hz, rfl⟩ := List.mem_map.mp hx
          obtain ⟨d, hd2, rfl⟩ := List.mem_map.mp hz
          exact line_len (hm d hd2)
        rw [List.length_map] at this
        exact this
      have h4 : ("\n" : Str).length = 1 := rfl
      rw [h4]
      rw [List.length_map] at h2 ⊢
      omega
end
end Own

namespace Own
open PySem PySem.Spec PyProof.Rows L2 TL
/-- the heap without M -/
def hole (H : Hp) (M : Addr) : Hp := fun c => if c = M then none else H c
theorem hole_at {H : Hp} {M : Addr} : hole H M M = none := if_pos rfl
theorem hole_ne {H : Hp} {M c : Addr} (h : c ≠ M) : hole H M c = H c := if_neg h
theorem upd_hole {H : Hp} {M : Addr} {o : HO} : upd (hole H M) M o = upd H M o := by
  funext c
  by_cases h : c = M
  · rw [h, upd_same, upd_same]
  · rw [upd_ne h, upd_ne h, hole_ne h]
theorem same_hole {H H' : Hp} {M : Addr} (n : H M = none) (s : Same H H') : Same H (hole H' M) := fun b o e => by
  rw [hole_ne fun z => by rw [z, n] at e; cases e]
  exact s b o e
theorem unhole {H H' : Hp} {L : Addr} (s : Same H (hole H' L)) : Same H H' := fun b o e => by
  have h := s b o e
  by_cases n : b = L
  · rw [n, hole_at] at h; cases h
  · rw [hole_ne n] at h; exact h
theorem hole_mono {H H' : Hp} {L : Addr} (s : Same H H') : Same (hole H L) (hole H' L) := fun b o e => by
  by_cases n : b = L
  · rw [n, hole_at] at e; cases e
  · rw [hole_ne n] at e ⊢; exact s b o e
theorem hole_upd {H : Hp} {L : Addr} {o : HO} : hole (upd H L o) L = hole H L := by
  funext c
  by_cases h : c = L
  · rw [h, hole_at, hole_at]
  · rw [hole_ne h, hole_ne h, upd_ne h]
theorem upd_self {H : Hp} {M : Addr} {o : HO} (h : H M = some o) : upd H M o = H := by
  funext c
  by_cases e : c = M
  · rw [e, upd_same, h]
  · rw [upd_ne e]
/-! ### the value of a number's word -/
theorem digs_lt : ∀ {cs : List Nat}, NumText.AllDigits cs → ∀ acc : Nat, cs.foldl (fun acc c => acc * 10 + (c - 48)) acc < (acc + 1) * 10 ^ cs.length
  | [], _, acc => by simp
  | c :: r, h, acc => by
    have hc := h c List.mem_cons_self
    have ih := digs_lt (cs := r) (fun d hd => h d (List.mem_cons_of_mem _ hd)) (acc * 10 + (c - 48))
    show r.foldl _ (acc * 10 + (c - 48)) < (acc + 1) * 10 ^ (r.length + 1)
    rw [Nat.pow_succ, Nat.mul_comm (10 ^ r.length) 10, ← Nat.mul_assoc]
    refine Nat.lt_of_lt_of_le ih (Nat.mul_le_mul_right _ ?_)
    omega
theorem numV_eq {w : Str} (h : isNum (tl w) = true) (hl : w.length ≤ 4300) : numV w = if (tl w).head? = some 45 then -((NumText.digitsVal (bodyL (tl w)) : Nat) : Int) else ((NumText.digitsVal (bodyL (tl w)) : Nat) : Int) := by
  unfold isNum at h
  rw [Bool.and_eq_true] at h
  obtain ⟨h1, h2⟩ := dgL_all h.1
  unfold numV
  by_cases hn : (tl w).head? = some 45
  · rw [if_pos hn, intText_neg (body_neg hn) h2 h1 hl]
    rfl
  · rw [if_neg hn]
    have e : bodyL (tl w) = tl w := body_pos hn
    rw [e] at h1 h2 ⊢
    have e2 : tl w = w.cps.toList := rfl
    rw [e2] at h1 h2 ⊢
    rw [intText_digits h2 h1 hl]
    rfl
theorem numV_lt {w : Str} (h : isNum (tl w) = true) (hl : w.length ≤ 4300) : (numV w).natAbs < 10 ^ w.length := by
  rw [numV_eq h hl]
  unfold isNum at h
  rw [Bool.and_eq_true] at h
  obtain ⟨h1, h2⟩ := dgL_all h.1
  have b := digs_lt h2 0
  have hb : (bodyL (tl w)).length ≤ w.length := by
    rw [len_tl]
    unfold bodyL
    split
    · rw [List.length_tail]
      omega
    · exact Nat.le_refl _
  have b2 : NumText.digitsVal (bodyL (tl w)) < 10 ^ w.length := by
    refine Nat.lt_of_lt_of_le ?_ (Nat.pow_le_pow_right (by decide) hb)
    show _ < _
    have : (0 + 1) * 10 ^ (bodyL (tl w)).length = 10 ^ (bodyL (tl w)).length := by omega
    rw [this] at b
    exact b
  split <;> omega
def SmI (i : Int) : Prop := i.natAbs < 2 ^ 900
theorem SmI.leaf {i : Int} (h : SmI i) : Leaf (.int i) := .inl ⟨i, rfl, Nat.lt_of_lt_of_le (log_lt (k := 900) (by decide) h) (by decide)⟩
theorem numV_sm {w : Str} (h : isNum (tl w) = true) (hl : w.length ≤ 250) : SmI (numV w) := by
  have h1 := numV_lt h (by omega)
  unfold SmI
  refine Nat.lt_of_lt_of_le h1 (Nat.le_trans (Nat.pow_le_pow_right (by decide) hl) (by decide +kernel))

def linesOf (x : Str) : List Str := Txt.split x "\n"
theorem lines_facts (x : Str) : linesOf x ≠ [] ∧ (linesOf x).length ≤ x.length + 1 ∧ ∀ p ∈ linesOf x, p.length ≤ x.length := split_facts x "\n" 10 rfl (by decide)

/-! ### the lines of a lot's note -/
def c0 : Str → Option Nat := fun y => if y = "lot" then some 1 else none
/-- the number of the first line -/
def hdV (ls : List Str) : Option Int := (ls[0]?).bind fun l => (rdL c0 l).map fun d => d.2.headD 0
/-- the three numbers of a line -/
def rd3 (l : Str) : Option Tr := match wdsOf l with
  | [a, b, c] => if (isNum (tl a) && (isNum (tl b) && isNum (tl c))) = true then some (numV a, numV b, numV c) else none
  | _ => none
def entV (ls : List Str) (i : Nat) : Option Tr := (ls[i + 1]?).bind rd3
def okV (ls : List Str) (p : Nat) : Bool := match p with
  | 0 => (hdV ls).isSome
  | i + 1 => (entV ls i).isSome
/-- all lines have the form -/
def AllL (ls : List Str) : Prop := ∀ p, p < ls.length → okV ls p = true
/-- line p is the first that has not -/
def BadL (ls : List Str) (p : Nat) : Prop := p < ls.length ∧ okV ls p = false ∧ ∀ q, q < p → okV ls q = true
def pinsOf (ls : List Str) : Int := (hdV ls).getD 0
def esOf (ls : List Str) (n : Nat) : List Tr := (List.range n).map fun i => (entV ls i).getD (0, 0, 0)
def entsOf (ls : List Str) : List Tr := esOf ls (ls.length - 1)
theorem esOf_succ (ls : List Str) (n : Nat) : esOf ls (n + 1) = esOf ls n ++ [(entV ls n).getD (0, 0, 0)] := by
  unfold esOf
  rw [List.range_succ, List.map_append]
  rfl
theorem esOf_len (ls : List Str) (n : Nat) : (esOf ls n).length = n := by
  unfold esOf
  rw [List.length_map, List.length_range]
theorem esOf_at {ls : List Str} {n i : Nat} (h : i < n) : (esOf ls n)[i]? = some ((entV ls i).getD (0, 0, 0)) := by
  unfold esOf
  rw [List.getElem?_map, List.getElem?_range h]
  rfl
/-- entry k is the first that is none on a rim of n pins -/
def BadC (n : Int) (es : List Tr) (k : Nat) : Prop := (∃ t, es[k]? = some t ∧ ¬ Vld n t) ∧ ∀ i t, i < k → es[i]? = some t → Vld n t
theorem first_bad (n : Int) (es : List Tr) : (∀ t ∈ es, Vld n t) ∨ ∃ k, BadC n es k := by
  have h : ∀ m, m ≤ es.length → (∀ i t, i < m → es[i]? = some t → Vld n t) ∨ ∃ k, BadC n es k := by
    intro m
    induction m with
    | zero => exact fun _ => .inl fun i t h => absurd h (Nat.not_lt_zero i)
    | succ m ih =>
      intro hm
      rcases ih (by omega) with h | h
      · have hx : es[m]? = some es[m] := List.getElem?_eq_getElem (by omega)
        by_cases hv : Vld n es[m]
        · refine .inl fun i t hi ht => ?_
          by_cases e : i = m
          · rw [e, hx] at ht
            cases ht
            exact hv
          · exact h i t (by omega) ht
        · exact .inr ⟨m, ⟨_, hx, hv⟩, h⟩
      · exact .inr h
  rcases h es.length (Nat.le_refl _) with h | h
  · refine .inl fun t ht => ?_
    obtain ⟨i, hi⟩ := List.mem_iff_getElem?.mp ht
    exact h i t (List.getElem?_eq_some_iff.mp hi).1 hi
  · exact .inr h
def SmT (t : Tr) : Prop := SmI t.1 ∧ SmI t.2.1 ∧ SmI t.2.2
theorem rd3_form {l : Str} {t : Tr} (h : rd3 l = some t) (hl : l.length ≤ 250) : ∃ a b c, wdsOf l = [a, b, c] ∧ isNum (tl a) = true ∧ isNum (tl b) = true ∧ isNum (tl c) = true ∧ t = (numV a, numV b, numV c) ∧ SmT t := by
  unfold rd3 at h
  split at h
  · rename_i a b c e
    split at h
    · rename_i hc
      rw [Bool.and_eq_true, Bool.and_eq_true] at hc
      cases h
      have hw := (wds_facts l).2.2
      rw [e] at hw
      have h1 := hw a (by simp)
      have h2 := hw b (by simp)
      have h3 := hw c (by simp)
      exact ⟨a, b, c, e, hc.1, hc.2.1, hc.2.2, rfl, numV_sm hc.1 (by omega), numV_sm hc.2.1 (by omega), numV_sm hc.2.2 (by omega)⟩
    · cases h
  · cases h
theorem ents_sm {ls : List Str} {n : Nat} (h : ∀ i, i < n → (entV ls i).isSome = true) (hl : ∀ l ∈ ls, l.length ≤ 250) : ∀ t ∈ esOf ls n, SmT t := fun t ht => by
  unfold esOf at ht
  obtain ⟨i, hi, rfl⟩ := List.mem_map.mp ht
  have hi := List.mem_range.mp hi
  have hs := h i hi
  cases e : entV ls i with
  | none => rw [e] at hs; cases hs
  | some t =>
    unfold entV at e
    cases e2 : ls[i + 1]? with
    | none => rw [e2] at e; cases e
    | some l =>
      rw [e2] at e
      obtain ⟨_, _, _, _, _, _, _, _, hsm⟩ := rd3_form e (hl l (List.mem_of_getElem? e2))
      exact hsm
theorem head_form {l : Str} {d : Str × List Int} (h : rdL c0 l = some d) (hl : l.length ≤ 250) : ∃ n, d = (("lot" : Str), [n]) ∧ SmI n := by
  unfold rdL at h
  split at h
  · cases h
  · rename_i y r e
    split at h
    · cases h
    · rename_i k hk
      split at h
      · rename_i c
        cases h
        unfold c0 at hk
        split at hk
        · rename_i hy
          obtain rfl := Option.some.inj hk
          have hw := (wds_facts l).2.2
          rw [e] at hw
          match r, c with
          | [z], c =>
            have hz := hw z (by simp)
            have hnz : isNum (tl z) = true := by
              have := c.1
              rw [List.all_cons, List.all_nil, Bool.and_true] at this
              exact this
            exact ⟨numV z, by rw [hy]; rfl, numV_sm hnz (by omega)⟩
          | [], c => exact absurd c.2 (by simp)
          | _ :: _ :: _, c => exact absurd c.2 (by simp)
        · cases hk
      · cases h
theorem bad_ent {K : PySem.W.Frag} {H : Hp} {n : Int} {b : Addr} {t : Tr} (h : SqH H b (tv t)) (bad : ¬ Vld n t) : BadE K H n (.ref b) := by
  refine .inr ⟨b, tv t, rfl, h, .inr ⟨.int t.1, .int t.2.1, .int t.2.2, rfl, ?_⟩⟩
  by_cases h1 : 0 ≤ t.1 ∧ t.1 < n
  · refine .inr ⟨t.1, rfl, h1.1, h1.2, ?_⟩
    by_cases h2 : 0 ≤ t.2.1 ∧ t.2.1 < n
    · refine .inr ⟨t.2.1, rfl, h2.1, h2.2, ?_⟩
      by_cases h3 : t.1 = t.2.1
      · exact .inl h3
      · refine .inr ⟨h3, .inl ⟨t.2.2, rfl, ?_⟩⟩
        unfold Vld at bad
        omega
    · exact .inl (.inl ⟨t.2.1, rfl, by omega⟩)
  · exact .inl (.inl ⟨t.1, rfl, by omega⟩)
theorem sho_ent {K : PySem.W.Frag} {H : Hp} {b : Addr} {t : Tr} (h : SqH H b (tv t)) (s : SmT t) : ShoD K H 3 (.ref b) := by
  refine .inl (.inl (.inr (.inl ⟨b, tv t, rfl, ?_, by show 3 ≤ 8; decide, fun x hx => ?_⟩)))
  · exact h.elim (fun e => .inl (.inl (.inl e))) fun e => .inr (.inl (.inl e))
  · rcases List.mem_cons.mp hx with e | e
    · rw [e]; exact s.1.leaf
    · rcases List.mem_cons.mp e with e | e
      · rw [e]; exact s.2.1.leaf
      · rw [List.mem_singleton.mp e]; exact s.2.2.leaf
theorem cnt_c0 {H : Hp} {c : Addr} (h : H c = some (.dK [(Sum.inr "lot", V.int 1)])) : CntAt H c c0 := ⟨_, h, fun x => by
  unfold valV c0
  rw [List.find?_cons]
  show Option.map _ (match decide ((Sum.inr "lot" : Key) = Sum.inr x) with | true => _ | false => _) = _
  rw [key_rr]
  by_cases e : x = "lot"
  · rw [if_pos e, decide_eq_true e.symm]
    rfl
  · rw [if_neg e, decide_eq_false fun z => e z.symm]
    rfl⟩
section
variable {P : Program} {w : World} {K : PySem.W.Frag} {mg : Str → Option Value} {base : Heap} {C D D1 D2 : Addr}
/-- read_numbers of a line -/
def spRdN (K : PySem.W.Frag) (D : Addr) : Sp := fun vs H Q E => ∃ (a : Addr) (ls : List Str) (p : Nat) (x : Str), vs = [.ref a, .int (p : Int), .int 3] ∧ SqL K H a (ls.map V.str) ∧ p ≤ 900 ∧ ls[p]? = some x ∧ x.length ≤ 500 ∧
  (∀ t, rd3 x = some t → ∀ H' b, Same H H' → H' b = some (.tup (tv t)) → Q (.ref b) H') ∧ (rd3 x = none → NEx D ((p : Int) + 1) H E)
theorem ok_rdn {f f_e : Addr} {fd d_e : FuncData} (F : Fun K "read_numbers" "read_numbers" s_read_numbers f fd) (T : Bi mg) (U : NErC K mg D f_e d_e) (G_e : GEN P w K mg base D f_e d_e)
    {f_w : Addr} {d_w : FuncData} (D_w : Df K mg "words_at" s_words_at ["lines", "place"] f_w d_w) (G_w : FnOk P w K mg base (L2N.CX P w) 3 f_w d_w ["lines", "place"] (spWords K D))
    {f_n : Addr} {d_n : FuncData} (D_n : Df K mg "numbers_of" s_numbers_of ["words", "place"] f_n d_n) (G_n : FnOk P w K mg base (L2N.CX P w) 3 f_n d_n ["words", "place"] (spNums K D)) :
    FnOk P w K mg base (L2N.CX P w) 4 f fd ["lines", "place", "due"] (spRdN K D) := by
  refine okN F sc_read_numbers (fun vs H Q E h => ?_) (fun cdv A outer s H vs Q E hr h => ?_)
  · obtain ⟨a, ls, p, x, rfl, _⟩ := h
    rfl
  · obtain ⟨a, ls, p, x, rfl, hs, hp, hx, hz, q, e⟩ := h
    refine ⟨_, (pss_cons (ps_set (i := 3) sc_read_numbers.nd rfl (.inl rfl) (pe_call G_n (hr.mono (by decide)) (by rfl) D_n.g D_n.F.kp D_n.b .nil (L2N.passes_call (L2N.takes_of rfl rfl rfl rfl) (fun _ _ _ _ h => h)) (pa_cons (pe_call G_w (hr.mono (by decide)) (by rfl) D_w.g D_w.F.kp D_w.b .nil (L2N.passes_call (L2N.takes_of rfl rfl rfl rfl) (fun _ _ _ _ h => h)) (pa_cons (pv 0) (pa_cons (pv 1) pa_nil))) (pa_cons (pv 1) pa_nil))))
        (pss_cons (ps_if (pt_cmpR op_ne (pe_callB call_len_seq (by rfl) T.b_len PySem.boot_len (pa_cons (pv 3) pa_nil)) (pv 2) (nomark _)) (pss_one (ps_errN rfl (L2N.takes_of rfl rfl rfl rfl) U.T U.R G_e (hr.mono (by decide)) U.b (by rfl) (pa_cons (pe_op op_add (pv 1) pe_int) pa_nil))) pss_nil)
        (pss_one (ps_ret (pv 3))))), ?_⟩
    obtain ⟨w0, wl, wp⟩ := wds_facts x
    refine ⟨_, rfl, _, rfl, a, ls, p, rfl, hs, by omega, fun x' hx' => ?_, fun z => absurd (List.getElem?_eq_some_iff.mp hx).1 (by omega)⟩
    rw [hx] at hx'
    cases hx'
    refine ⟨by omega, fun H1 b s1 hb => ?_⟩
    refine ⟨_, rfl, b, wdsOf x, (p : Int), rfl, .inl (.inl hb), by omega, fun y hy => by have := wp y hy; omega, by omega, by omega, fun al H2 c s2 hc => ?_, fun bad => ?_⟩
    · refine ⟨_, rfl, c, _, rfl, .inr (.inl (.inl hc)), _, rfl, rfl, _, rfl, ?_⟩
      rw [List.length_map, List.length_map]
      by_cases h3 : (wdsOf x).length = 3
      · obtain ⟨y1, y2, y3, hw⟩ : ∃ y1 y2 y3, wdsOf x = [y1, y2, y3] := by
          match wdsOf x, h3 with
          | [y1, y2, y3], _ => exact ⟨y1, y2, y3, rfl⟩
        have hr3 : rd3 x = some (numV y1, numV y2, numV y3) := by
          unfold rd3
          rw [hw] at al ⊢
          show (if (isNum (tl y1) && (isNum (tl y2) && isNum (tl y3))) = true then _ else _) = _
          rw [al y1 (by simp), al y2 (by simp), al y3 (by simp)]
          rfl
        rw [show (!decide (V.int ((wdsOf x).length : Nat) = V.int 3)) = false by rw [h3]; rfl]
        refine ⟨_, rfl, q _ hr3 H2 c (s1.trans s2) ?_⟩
        rw [hc, hw]
        rfl
      · have hr3 : rd3 x = none := by
          unfold rd3
          split
          · rename_i y1 y2 y3 hw
            rw [hw] at h3
            exact absurd rfl h3
          · rfl
        rw [show (!decide (V.int ((wdsOf x).length : Nat) = V.int 3)) = true by rw [decide_eq_false fun z => h3 (by have := V.int.inj z; omega)]; rfl]
        exact ⟨_, rfl, _, _, rfl, rfl, nex_err ((e hr3).same (s1.trans s2)) (by omega) (by omega)⟩
    · obtain ⟨y, hy, hny⟩ := bad
      have hr3 : rd3 x = none := by
        unfold rd3
        split
        · rename_i y1 y2 y3 hw
          rw [hw] at hy
          rw [if_neg]
          intro hc
          rw [Bool.and_eq_true, Bool.and_eq_true] at hc
          simp only [List.mem_cons, List.not_mem_nil, or_false] at hy
          rcases hy with e | e | e <;> rw [e] at hny
          · rw [hc.1] at hny; cases hny
          · rw [hc.2.1] at hny; cases hny
          · rw [hc.2.2] at hny; cases hny
        · rfl
      exact (e hr3).same s1

/-- the error is let out, whatever was laid before -/
def OutS (D : Addr) (nm : List Str) (ys : List V) (H : Hp) (E : XK) : Prop := ∀ H', Same H H' → Out D nm ys H' E
theorem OutS.same {D : Addr} {nm : List Str} {ys : List V} {H H' : Hp} {E : XK} (s : Same H H') (h : OutS D nm ys H E) : OutS D nm ys H' E := fun H2 s2 => h H2 (s.trans s2)
/-- what becomes of a text that is read -/
structure Parsed (C D D1 D2 : Addr) (x : Str) (H : Hp) (Q : VK) (E : XK) : Prop where
  note : ∀ p, BadL (linesOf x) p → NEx D ((p : Int) + 1) H E
  neg : AllL (linesOf x) → pinsOf (linesOf x) < 0 → OutS D1 ["pins"] [.int (pinsOf (linesOf x))] H E
  all : AllL (linesOf x) → 0 ≤ pinsOf (linesOf x) → (∀ t ∈ entsOf (linesOf x), Vld (pinsOf (linesOf x)) t) → ∀ H' p r, Same H H' → LotAt C H' p (pinsOf (linesOf x)) r → IsNorm (entsOf (linesOf x)) r → Q (.ref p) H'
  bad : AllL (linesOf x) → 0 ≤ pinsOf (linesOf x) → ∀ k t, BadC (pinsOf (linesOf x)) (entsOf (linesOf x)) k → (entsOf (linesOf x))[k]? = some t → ∀ H' b, Same H H' → H' b = some (.tup (tv t)) → OutS D2 ["entry"] [.ref b] H' E
def Fit (x : Str) : Prop := x.length ≤ 100000 ∧ (linesOf x).length ≤ 800 ∧ ∀ l ∈ linesOf x, l.length ≤ 250
def spParse (C D D1 D2 : Addr) : Sp := fun vs H Q E => ∃ x : Str, vs = [.str x] ∧ Fit x ∧ Parsed C D D1 D2 x H Q E
set_option maxHeartbeats 1000000 in
theorem ok_parse {f : Addr} {fd : FuncData} (F : Fun K "parse_lot" "parse_lot" s_parse_lot f fd) (T : Bi mg) (L : LotC K mg C)
    {f_l : Addr} {d_l : FuncData} (D_l : Df K mg "read_line" s_read_line ["lines", "place", "counts"] f_l d_l) (G_l : FnOk P w K mg base (L2N.CX P w) 4 f_l d_l ["lines", "place", "counts"] (spLine K D))
    {f_r : Addr} {d_r : FuncData} (D_r : Df K mg "read_numbers" s_read_numbers ["lines", "place", "due"] f_r d_r) (G_r : FnOk P w K mg base (L2N.CX P w) 4 f_r d_r ["lines", "place", "due"] (spRdN K D))
    {f_i : Addr} {d_i : FuncData} (M : Mk K C f_i) (G_i : GIY P w K mg base C D1 D2 f_i d_i) (b_i : Binds K d_i ["self", "pins", "cords"] []) : FnOk P w K mg base (L2N.CX P w) 8 f fd ["text"] (spParse C D D1 D2) := by
  refine okN F sc_parse_lot (fun vs H Q E h => ?_) (fun cdv A outer s H vs Q E hr h => ?_)
  · obtain ⟨x, rfl, _⟩ := h
    rfl
  · obtain ⟨x, rfl, ⟨hx, hn, hl⟩, q⟩ := h
    refine ⟨_, (pss_cons (ps_set (i := 1) sc_parse_lot.nd rfl (.inr rfl) (pe_split (pv 0) pe_str))
        (pss_cons (ps_asg (pe_call G_l (hr.mono (by decide)) (by rfl) D_l.g D_l.F.kp D_l.b .nil (L2N.passes_call (L2N.takes_of rfl rfl rfl rfl) (fun _ _ _ _ h => h)) (pa_cons (pv 1) (pa_cons pe_int (pa_cons (pe_disp (pps_cons pe_str pe_int pps_nil) (by rfl) (by rfl) (fun z => by cases z) (by decide)) pa_nil)))) (pg_tup (by rfl) (pgs_cons (pg_name (i := 2) sc_parse_lot.nd rfl (.inl rfl)) (pgs_cons (pg_name (i := 3) sc_parse_lot.nd rfl (.inl rfl)) pgs_nil))))
        (pss_one (ps_ret (pe_make M G_i (hr.mono (by decide)) (by rfl) L.g b_i .nil (L2N.passes_call (L2N.takes_of rfl rfl rfl rfl) (fun _ _ _ _ h => h)) (pa_cons (pv 3) (pa_cons (pe_lcX (E := E) (own := [("place", 4)]) (g := gName 4) (tt := tYes) rfl rfl (L2N.takes_of rfl rfl rfl rfl) rfl sc_parse_lot.nd (pi_range2 (by rfl) T.b_range (pa_cons pe_int (pa_cons (pe_callB call_len_seq (by rfl) T.b_len PySem.boot_len (pa_cons (pv 1) pa_nil)) pa_nil))) (blkOk_by (own := [("place", 4)]) (N := ["text", "lines", "_", "pins", "place"]) (sc := defScope s_parse_lot) (by decide +kernel)) (fun _ _ _ _ _ _ => pg_name (i := 4) sc_parse_lot.nd rfl (Or.inl rfl)) (fun _ _ _ _ _ _ => pts_nil) (fun _ _ _ _ _ _ px => (pe_callS G_r (hr.mono (by decide)) (by rfl) D_r.g D_r.F.kp D_r.b px (pa_cons (pv 1) (pa_cons (pv 4) (pa_cons pe_int pa_nil)))))) pa_nil))))))), ?_⟩
    obtain ⟨ne, lx, lp⟩ := lines_facts x
    have hls : (Txt.split x "\n") = linesOf x := rfl
    obtain ⟨qn, qneg, qall, qbad⟩ := q
    unfold entsOf at qall qbad
    refine ⟨_, rfl, ⟨_, rfl⟩, x, _, rfl, rfl, rfl, Nat.le_trans (Nat.add_le_add_right hx 2) (by decide), fun a na => ?_⟩
    rw [hls]
    generalize linesOf x = ls at *
    have s1 : Same H (upd H a (.lst (ls.map V.str))) := same_upd na
    have hpos : 0 < ls.length := List.length_pos_iff.mpr ne
    refine ⟨_, rfl, fun c nc => ?_⟩
    refine ⟨upd_same, [(Sum.inr "lot", .int 1)], rfl, by show 1 ≤ 15; decide, ?_⟩
    rw [upd_upd]
    have s2 : Same (upd H a (.lst (ls.map V.str))) (upd (upd H a (.lst (ls.map V.str))) c (.dK (mergeK [] [(Sum.inr "lot", V.int 1)]))) := same_upd nc
    have hc2 : (upd (upd H a (.lst (ls.map V.str))) c (.dK (mergeK [] [(Sum.inr "lot", V.int 1)]))) c = some (.dK [(Sum.inr "lot", V.int 1)]) := upd_same
    have ha2 := s2 _ _ (upd_same (H := H) (a := a) (o := .lst (ls.map V.str)))
    have s12 := s1.trans s2
    generalize (upd (upd H a (.lst (ls.map V.str))) c (.dK (mergeK [] [(Sum.inr "lot", V.int 1)]))) = H2 at *
    refine ⟨a, c, ls, 0, c0, rfl, .inl (.inl ha2), cnt_c0 hc2, by omega, fun l hl0 => ⟨Nat.le_trans (hl l (List.mem_of_getElem? hl0)) (by decide), ?_⟩, fun z => absurd z (by omega)⟩
    have lv0 : hdV ls = (rdL c0 l).map fun d => d.2.headD 0 := by
      unfold hdV
      rw [hl0]
      rfl
    cases h0 : rdL c0 l with
    | none => exact NEx.same (qn 0 ⟨hpos, by show (hdV ls).isSome = false; rw [lv0, h0]; rfl, fun q hq => absurd hq (Nat.not_lt_zero q)⟩) s12
    | some d0 =>
      intro H3 b0 s3 hb0
      obtain ⟨n, e0, smt⟩ := head_form h0 (hl l (List.mem_of_getElem? hl0))
      have tp : pinsOf ls = n := by
        unfold pinsOf
        rw [lv0, h0, e0]
        rfl
      have ok0 : (hdV ls).isSome = true := by rw [lv0, h0]; rfl
      rw [tp] at qneg qall qbad
      rw [e0] at hb0
      have s03 := s12.trans s3
      have ha3 := s3 _ _ ha2
      refine ⟨b0, _, rfl, .inl (.inl hb0), rfl, _, _, rfl, _, _, rfl, rfl, ?_⟩
      have hlen : ((ls.map V.str).length : Int) = (ls.length : Int) := by rw [List.length_map]
      refine ⟨_, rfl, _, rfl, a, _, rfl, .inl (.inl (.inl ha3)), 1, _, rfl, ⟨by omega, by omega, by omega, by rw [hlen]; omega⟩, fun M nM => ?_⟩
      rw [show (((ls.map V.str).length : Int) - 1).toNat = ls.length - 1 by rw [hlen]; omega]
      refine lc_range (lo := 1) (n := ls.length - 1) (fun i Hi => (∃ Hc vs, Same H3 Hc ∧ Hc M = none ∧ Hi = upd Hc M (.lst vs) ∧ TrV Hc vs (esOf ls i)) ∧ ∀ q, q < i → (entV ls q).isSome = true) ⟨⟨H3, [], Same.refl _, nM, rfl, .nil⟩, fun q hq => absurd hq (Nat.not_lt_zero q)⟩ (fun i Hi hi pv => ?_) fun Hi pv => ?_
      · obtain ⟨⟨Hc, vs, sc, nMc, rfl, tc⟩, good⟩ := pv
        have sM : Same Hc (upd Hc M (.lst vs)) := same_upd nMc
        have s5 := sc.trans sM
        obtain ⟨l', hl'⟩ : ∃ l', ls[i + 1]? = some l' := ⟨_, List.getElem?_eq_getElem (by omega)⟩
        refine ⟨rfl, ?_⟩
        have lv : entV ls i = rd3 l' := by
          unfold entV
          rw [hl']
          rfl
        refine ⟨_, rfl, _, rfl, a, ls, i + 1, l', by show [V.ref a, V.int (1 + (i : Int)), V.int 3] = _; rw [show (1 + (i : Int)) = ((i + 1 : Nat) : Int) by omega], .inl (.inl (s5 _ _ ha3)), by omega, hl', Nat.le_trans (hl l' (List.mem_of_getElem? hl')) (by decide), fun t ht H5 b s6 hb => ?_, fun h1 => ?_⟩
        · have eM : H5 M = some (.lst vs) := s6 _ _ upd_same
          have nbM : b ≠ M := fun z => by rw [z, eM] at hb; cases hb
          have lvs : vs.length < sizeLine := by
            rw [tc.1, esOf_len]
            exact small1000 (by omega)
          refine ⟨vs, eM, lvs, ⟨hole H5 M, vs ++ [.ref b], (same_hole nM (s5.trans s6)), hole_at, upd_hole.symm, ?_⟩, fun q hq => ?_⟩
          · rw [esOf_succ, lv, ht]
            exact (tc.same (same_hole nMc (sM.trans s6))).snoc (by rw [hole_ne nbM]; exact hb)
          · by_cases hq2 : q = i
            · rw [hq2, lv, ht]
              rfl
            · exact good q (by omega)
        · refine NEx.same (qn (i + 1) ⟨by omega, by show (entV ls i).isSome = false; rw [lv, h1]; rfl, fun q hq => ?_⟩) (s03.trans s5)
          cases q with
          | zero => exact ok0
          | succ q => exact good q (by omega)
      · obtain ⟨⟨Hc, vs, sc, nMc, rfl, tc⟩, good⟩ := pv
        have s5 := sc.trans (same_upd (o := .lst vs) nMc)
        have S5 := s03.trans s5
        have al : AllL ls := fun p hp => by
          cases p with
          | zero => exact ok0
          | succ p => exact good p (by omega)
        have tc5 := tc.same (same_upd (o := .lst vs) nMc)
        have eM : upd Hc M (.lst vs) M = some (.lst vs) := upd_same
        generalize upd Hc M (.lst vs) = H5 at *
        have sm := ents_sm good hl
        have lvs : vs.length ≤ 1000 := by rw [tc5.1, esOf_len]; omega
        dsimp only [tNil]
        refine rd_makeY (C := C) (D1 := D1) (D2 := D2) (v := .int n) (a := M) (R := _) ?_
        by_cases hneg : n < 0
        · exact ⟨vs, .inl (.inl (.inl eM)), lvs, .inr ⟨.inl ⟨n, rfl, hneg⟩, .inl (.inl (.inl smt.leaf)), fun H' s' => qneg al hneg H' (S5.trans s')⟩⟩
        · have n0 : 0 ≤ n := by omega
          rcases first_bad n (esOf ls (ls.length - 1)) with hv | ⟨k, hk⟩
          · refine ⟨vs, .inl (.inl (.inl eM)), lvs, .inl ⟨n, esOf ls (ls.length - 1), rfl, n0, ?_, hv, .inl ⟨tc5.1.symm, fun H' y cs s' la hN => qall al n0 hv H' y cs (S5.trans s') la hN⟩⟩⟩
            rw [← tc5.1, List.take_length]
            exact tc5.en
          · obtain ⟨⟨t, ht, bt⟩, before⟩ := id hk
            obtain ⟨b, hb, eb⟩ := tc5.2 k t ht
            have kl : k < (esOf ls (ls.length - 1)).length := (List.getElem?_eq_some_iff.mp ht).1
            have tl_ : ((esOf ls (ls.length - 1)).take k).length = k := by rw [List.length_take]; omega
            refine ⟨vs, .inl (.inl (.inl eM)), lvs, .inl ⟨n, (esOf ls (ls.length - 1)).take k, rfl, n0, ?_, fun u hu => ?_, .inr ⟨.ref b, by rw [tl_]; exact hb, bad_ent (.inr eb) bt, sho_ent (.inr eb) (sm t (List.mem_of_getElem? ht)), fun H' s' => qbad al n0 k t hk ht H5 b S5 eb H' s'⟩⟩⟩
            · rw [tl_]
              refine ⟨by rw [List.length_take, List.length_take, tc5.1], fun i u hu => ?_⟩
              rw [List.getElem?_take] at hu
              split at hu
              · rename_i hik
                obtain ⟨b2, hb2, eb2⟩ := tc5.2 i u hu
                exact ⟨b2, by rw [List.getElem?_take, if_pos hik]; exact hb2, .inr eb2⟩
              · cases hu
            · obtain ⟨i, hi⟩ := List.mem_iff_getElem?.mp hu
              rw [List.getElem?_take] at hi
              split at hi
              · rename_i hik
                exact before i u hik hi
              · cases hi

def lnH (n : Int) : Ln := [.inl "lot", .inr n]
def spFmt (C : Addr) : Sp := fun vs H Q _ => ∃ (p : Addr) (n : Int) (cs : List Tr), vs = [.ref p] ∧ LotAt C H p n cs ∧ n.natAbs < 2 ^ 64 ∧ (∀ t ∈ cs, Sml (lnE t)) ∧ cs.length ≤ 900 ∧ ∀ H', Same H H' → Q (.str (noteT (lnH n :: cs.map lnE))) H'
theorem ok_fmt {f : Addr} {fd : FuncData} (F : Fun K "format_lot" "format_lot" s_format_lot f fd) (T : Bi mg) (L : LotC K mg C) {f_w : Addr} {d_w : FuncData} (D_w : Df K mg "written" s_written ["lines"] f_w d_w) (G_w : FnOk P w K mg base CX0 1 f_w d_w ["lines"] (spWrit K)) : FnOk P w K mg base CX0 2 f fd ["lot"] (spFmt C) := by
  refine F.ok sc_format_lot (fun vs H Q E h => ?_) (fun cdv A outer s H vs Q E hr h => ?_)
  · obtain ⟨p, n, cs, rfl, _⟩ := h
    rfl
  · obtain ⟨p, n, cs, rfl, ⟨dx, a, e, ⟨us, ea, k⟩⟩, ht, hm, hl, q⟩ := h
    refine ⟨_, (pss_one (ps_ret (pe_call G_w (hr.mono (by decide)) (by rfl) D_w.g D_w.F.kp D_w.b .nil pass0 (pa_cons (pe_op op_cat (pe_lst (pa_cons (pe_tup (pa_cons pe_str (pa_cons (pe_fld (pv 0) rfl) pa_nil))) pa_nil)) (pe_callTy call_list_of (by rfl) T.b_list (by decide +kernel) (pa_cons (pe_fld (pv 0) rfl) pa_nil))) pa_nil)))), ?_⟩
    refine ⟨_, rfl, p, C, dx, _, _, rfl, e, L.cl, L.nP, flds_pins _ _, by show 2 ≤ sizeLine; decide, fun l nl => ?_⟩
    refine ⟨by show 1 ≤ sizeLine; decide, fun m nm => ?_⟩
    have s1 : Same H (upd H l (.tup [.str "lot", .int n])) := same_upd nl
    have s2 : Same (upd H l (.tup [.str "lot", .int n])) (upd (upd H l (.tup [.str "lot", .int n])) m (.lst [.ref l])) := same_upd nm
    have s3 := s1.trans s2
    refine ⟨_, rfl, p, C, dx, _, _, rfl, s3 _ _ e, L.cl, L.nC, flds_cords _ _, a, us, rfl, .inr (.inl (.inl (s3 _ _ ea))), fun c nc => ?_⟩
    have s4 := same_upd (o := .lst us) nc
    have lu : us.length ≤ 900 := by rw [k.1]; exact hl
    refine ⟨m, c, [.ref l], us, rfl, rfl, s4 _ _ upd_same, upd_same, by show 1 + us.length ≤ sizeLine; exact Nat.le_trans (by omega) (by decide : 901 ≤ sizeLine), fun r nr => ?_⟩
    have s5 := same_upd (o := .lst ([.ref l] ++ us)) nr
    have s6 := ((s3.trans s4).trans s5)
    refine ⟨r, [.ref l] ++ us, lnH n :: cs.map lnE, rfl, .inl (.inl upd_same), LnH.cons (.inr (s5 _ _ (s4 _ _ (s2 _ _ upd_same)))) (LnH.trips (k.same s6)), fun d hd => ?_, by rw [List.length_cons, List.length_map]; omega, fun H' s' => q H' (s6.trans s')⟩
    rcases List.mem_cons.mp hd with e | e
    · rw [e]
      refine ⟨by show 2 ≤ 4; decide, fun x hx => ?_⟩
      rcases List.mem_cons.mp hx with e2 | e2
      · rw [e2]
        show ("lot" : Str).length ≤ 65
        decide
      · rw [List.mem_singleton.mp e2]
        exact ht
    · obtain ⟨t, ht2, rfl⟩ := List.mem_map.mp e
      exact hm t ht2

end
end Own

namespace Own
open PySem PySem.Spec PyProof.Rows L2 TL
/-! ### plain texts, notes -/
theorem joinL_snoc (S : List Nat) : ∀ (r : List (List Nat)) (p z : List Nat), joinL S (p :: r ++ [z]) = joinL S (p :: r) ++ (S ++ z)
  | [], p, z => rfl
  | x :: r, p, z => by
    show p ++ (S ++ joinL S (x :: r ++ [z])) = p ++ (S ++ joinL S (x :: r)) ++ (S ++ z)
    rw [joinL_snoc S r x z]
    simp
theorem join_snoc (y : Str) (p : Str) (r : List Str) (z : Str) : Txt.join y (p :: r ++ [z]) = Txt.join y (p :: r) ++ y ++ z := by
  refine ext_tl ?_
  rw [join_eq, join_eq, tl_join, tl_append, tl_append, tl_join, List.map_append, List.map_cons]
  show joinL (tl y) (tl p :: r.map tl ++ [tl z]) = _
  rw [joinL_snoc]
  simp
theorem join_one (y p : Str) : Txt.join y [p] = p := by
  refine ext_tl ?_
  rw [join_eq, tl_join]
  rfl
theorem join_spl (c : Nat) : ∀ (l acc : List Nat), joinL [c] (spl [c] 0 acc l) = acc ++ l
  | [], acc => by
    rw [spl_nil]
    simp [joinL]
  | d :: r, acc => by
    unfold spl
    have hp : pre [c] (d :: r) = true ↔ d = c := by
      unfold pre
      simp
    by_cases h : d = c
    · rw [if_pos (hp.mpr h)]
      have ih := join_spl c r []
      cases e : spl [c] ([c].length - 1) [] r with
      | nil => exact absurd e (spl_ne _ _ _ _)
      | cons p q =>
        have e2 : spl [c] 0 [] r = p :: q := e
        rw [e2] at ih
        show acc ++ ([c] ++ joinL [c] (p :: q)) = acc ++ d :: r
        rw [ih, h]
        rfl
    · rw [if_neg fun z => h (hp.mp z), join_spl c r (acc ++ [d])]
      simp
/-- a text of at most n signs, none of them beyond ASCII, none a line feed -/
def Pl (n : Nat) (x : Str) : Prop := x.length ≤ n ∧ ∀ c ∈ tl x, c < 128 ∧ c ≠ 10
theorem Pl.le {n m : Nat} {x : Str} (h : Pl n x) (l : n ≤ m) : Pl m x := ⟨Nat.le_trans h.1 l, h.2⟩
theorem Pl.app {n m : Nat} {x y : Str} (h : Pl n x) (k : Pl m y) : Pl (n + m) (x ++ y) := by
  refine ⟨by rw [strLen_append]; have := h.1; have := k.1; omega, fun c hc => ?_⟩
  rw [tl_append] at hc
  exact (List.mem_append.mp hc).elim (h.2 c) (k.2 c)
theorem Pl.cut {n : Nat} {x : Str} (h : Pl n x) (lo hi : Option Int) : Pl n (cutS x lo hi) := by
  refine ⟨Nat.le_trans (cutS_length _ _ _) h.1, fun c hc => h.2 c ?_⟩
  have : c ∈ ((tl x).drop (HT.sIx x.length 0 lo)).take (HT.sIx x.length x.length hi - HT.sIx x.length 0 lo) := hc
  exact List.mem_of_mem_drop (List.mem_of_mem_take this)
def plB (n : Nat) (x : Str) : Bool := decide (x.length ≤ n) && (tl x).all fun c => decide (c < 128) && !decide (c = 10)
theorem pl_of {n : Nat} {x : Str} (h : plB n x = true) : Pl n x := by
  unfold plB at h
  rw [Bool.and_eq_true, decide_eq_true_eq] at h
  refine ⟨h.1, fun c hc => ?_⟩
  have := List.all_eq_true.mp h.2 c hc
  rw [Bool.and_eq_true, decide_eq_true_eq] at this
  exact ⟨this.1, by simpa using this.2⟩
theorem spl_mem (S : List Nat) : ∀ (l : List Nat) (k : Nat) (acc : List Nat), ∀ p ∈ spl S k acc l, ∀ c ∈ p, c ∈ acc ∨ c ∈ l
  | [], k, acc => by
    rw [spl_nil]
    intro p hp c hc
    rw [List.mem_singleton.mp hp] at hc
    exact .inl hc
  | d :: r, 0, acc => by
    unfold spl
    intro p hp c hc
    split at hp
    · rcases List.mem_cons.mp hp with e | e
      · rw [e] at hc
        exact .inl hc
      · rcases spl_mem S r _ [] p e c hc with h | h
        · cases h
        · exact .inr (List.mem_cons_of_mem _ h)
    · rcases spl_mem S r 0 _ p hp c hc with h | h
      · rcases List.mem_append.mp h with h | h
        · exact .inl h
        · rw [List.mem_singleton.mp h]
          exact .inr List.mem_cons_self
      · exact .inr (List.mem_cons_of_mem _ h)
  | d :: r, k + 1, acc => by
    unfold spl
    intro p hp c hc
    rcases spl_mem S r k acc p hp c hc with h | h
    · exact .inl h
    · exact .inr (List.mem_cons_of_mem _ h)
theorem wds_tl (x : Str) : (wdsOf x).map tl = spl [32] 0 [] (tl x) := split_tl x " " 32 rfl (by decide)
theorem wds_pl {n : Nat} {x : Str} (h : Pl n x) : ∀ y ∈ wdsOf x, Pl n y := fun y hy => by
  refine ⟨Nat.le_trans ((wds_facts x).2.2 y hy) h.1, fun c hc => h.2 c ?_⟩
  rcases spl_mem [32] (tl x) 0 [] (tl y) (by rw [← wds_tl]; exact List.mem_map.mpr ⟨y, hy, rfl⟩) c hc with e | e
  · cases e
  · exact e
/-- the words of a line, the last one by itself -/
theorem wds_last (x : Str) : ∃ (is : List Str) (z : Str), wdsOf x = is ++ [z] := by
  obtain ⟨ne, _⟩ := wds_facts x
  exact ⟨(wdsOf x).dropLast, (wdsOf x).getLast ne, (List.dropLast_concat_getLast ne).symm⟩
theorem tl_joins (is : List Str) (z : Str) : tl (Txt.join " " (is ++ [z])) = (match is with | [] => tl z | p :: r => joinL [32] ((p :: r).map tl) ++ ([32] ++ tl z)) := by
  rw [join_eq, tl_join]
  cases is with
  | nil => rfl
  | cons p r =>
    rw [List.map_append]
    exact joinL_snoc [32] (r.map tl) (tl p) (tl z)
theorem join_wds (x : Str) : Txt.join " " (wdsOf x) = x := by
  refine ext_tl ?_
  rw [join_eq, tl_join, wds_tl]
  exact join_spl 32 (tl x) []
theorem Pl.up {n : Nat} {x : Str} (h : Pl n x) : Pl n (Txt.upper x) := by
  have e : Txt.upper x = ⟨x.cps.map up1⟩ := upper_ascii fun c hc => (h.2 c hc).1
  have e2 : tl (Txt.upper x) = (tl x).map up1 := by
    rw [e]
    show (x.cps.map up1).toList = _
    rw [Array.toList_map]
  refine ⟨?_, fun c hc => ?_⟩
  · rw [len_tl, e2, List.length_map, ← len_tl]
    exact h.1
  · rw [e2] at hc
    obtain ⟨d, hd, rfl⟩ := List.mem_map.mp hc
    have := h.2 d hd
    unfold up1
    split <;> omega
def cutG (ls : List Str) (lo hi : Option Int) : List Str := (ls.drop (HT.sIx ls.length 0 lo)).take (HT.sIx ls.length ls.length hi - HT.sIx ls.length 0 lo)
theorem cut_map (ls : List Str) (lo hi : Option Int) : cutV (ls.map V.str) lo hi = (cutG ls lo hi).map V.str := by
  unfold cutV cutG
  rw [List.length_map, List.map_take, List.map_drop]
theorem cutG_mem {ls : List Str} {lo hi : Option Int} : ∀ z ∈ cutG ls lo hi, z ∈ ls := fun z hz => List.mem_of_mem_drop (List.mem_of_mem_take hz)
theorem cutG_len (ls : List Str) (lo hi : Option Int) : (cutG ls lo hi).length ≤ ls.length := by
  unfold cutG
  rw [List.length_take, List.length_drop]
  omega
theorem pick {ys : List Str} {m : Int} (h0 : 0 ≤ m) (h1 : m < ys.length) : ∃ y ∈ ys, atI (ys.map V.str) m = some (.str y) := by
  obtain ⟨j, rfl⟩ : ∃ j : Nat, m = (j : Int) := ⟨m.toNat, by omega⟩
  have hj : j < ys.length := by omega
  exact ⟨ys[j], List.getElem_mem hj, atI_nat (by rw [List.getElem?_map, List.getElem?_eq_getElem hj]; rfl)⟩
theorem joinL_len (s : List Nat) (n : Nat) : ∀ {ls : List (List Nat)}, (∀ z ∈ ls, z.length ≤ n) → (joinL s ls).length ≤ ls.length * (n + s.length)
  | [], _ => by simp [joinL]
  | [a], h => by
    have := h a List.mem_cons_self
    simp only [joinL, List.length_cons, List.length_nil, Nat.zero_add, Nat.one_mul]
    omega
  | a :: b :: r, h => by
    have h1 := h a List.mem_cons_self
    have h2 := joinL_len s n (ls := b :: r) fun z hz => h z (List.mem_cons_of_mem _ hz)
    rw [show joinL s (a :: b :: r) = a ++ (s ++ joinL s (b :: r)) by simp [joinL]]
    rw [List.length_append, List.length_append, List.length_cons (a := a), Nat.succ_mul]
    omega
theorem joinT_len {n : Nat} {ls : List Str} (h : ∀ z ∈ ls, Pl n z) : (Txt.join "\n" ls).length ≤ ls.length * (n + 1) := by
  rw [len_tl, join_eq, tl_join]
  have := joinL_len (tl (Str.ofString "\n")) n (ls := ls.map tl) fun z hz => by
    obtain ⟨y, hy, rfl⟩ := List.mem_map.mp hz
    rw [← len_tl]
    exact (h y hy).1
  rw [List.length_map] at this
  exact this
theorem lines_join {n : Nat} {ls : List Str} (ne : ls ≠ []) (h : ∀ z ∈ ls, Pl n z) : linesOf (Txt.join "\n" ls) = ls :=
  split_join (y := "\n") (s := 10) (S := []) rfl (by decide +kernel) ne fun p hp hc => ((h p hp).2 10 hc).2 rfl
theorem lines_empty : linesOf (Str.ofString "") = [Str.ofString ""] := by
  have h := lines_join (n := 0) (ls := [Str.ofString ""]) (fun e => nomatch e) fun z hz => by
    rw [List.mem_singleton.mp hz]
    exact pl_of (by decide +kernel)
  rw [join_one] at h
  exact h
/-- the signs of a number's text -/
theorem pl_nt {i : Int} (h : i.natAbs < 10 ^ 18) : Pl 19 (nt i) := by
  have hn : ∀ n : Nat, ∀ c ∈ numL n, c < 128 ∧ c ≠ 10 := fun n c hc => by
    have := numL_digits n c hc
    omega
  unfold nt
  refine ⟨?_, ?_⟩
  · rw [len_tl, tl_int]
    cases i with
    | ofNat n => exact Nat.le_trans (numL_len (k := 18) (by decide) h) (by decide)
    | negSucc m => exact Nat.succ_le_succ (numL_len (k := 18) (by decide) h)
  · rw [tl_int]
    cases i with
    | ofNat n => exact hn n
    | negSucc m =>
      intro c hc
      rcases List.mem_cons.mp hc with e | e
      · omega
      · exact hn _ c e
/-- a note: lines, plain and short -/
def Nt (n m : Nat) (x : Str) : Prop := ∃ ls : List Str, ls ≠ [] ∧ x = Txt.join "\n" ls ∧ ls.length ≤ m ∧ ∀ z ∈ ls, Pl n z
theorem Nt.fit {n m : Nat} {x : Str} (h : Nt n m x) (hn : n ≤ 250) (hm : m ≤ 300) : Fit x := by
  obtain ⟨ls, ne, rfl, hl, hp⟩ := h
  refine ⟨Nat.le_trans (joinT_len hp) (Nat.le_trans (Nat.mul_le_mul (Nat.le_trans hl hm) (Nat.add_le_add_right hn 1)) (by decide)), ?_⟩
  rw [lines_join ne hp]
  exact ⟨by omega, fun l h => Nat.le_trans (hp l h).1 hn⟩
theorem Nt.le {n m n' m' : Nat} {x : Str} (h : Nt n m x) (hn : n ≤ n') (hm : m ≤ m') : Nt n' m' x := by
  obtain ⟨ls, ne, e, hl, hp⟩ := h
  exact ⟨ls, ne, e, Nat.le_trans hl hm, fun z hz => (hp z hz).le hn⟩
theorem join_lines (x : Str) : Txt.join "\n" (linesOf x) = x := by
  refine ext_tl ?_
  have e : (linesOf x).map tl = spl [10] 0 [] (tl x) := split_tl x "\n" 10 rfl (by decide)
  rw [join_eq, tl_join, e]
  exact join_spl 10 (tl x) []
theorem empty_join : Txt.join "\n" [] = Str.ofString "" := ext_tl (by rw [join_eq, tl_join]; rfl)
theorem nt_empty {n m : Nat} (hm : 1 ≤ m) : Nt n m (Str.ofString "") := ⟨[Str.ofString ""], (fun e => nomatch e), (join_one _ _).symm, hm, fun z hz => by
  rw [List.mem_singleton.mp hz]
  exact (pl_of (n := 0) (by decide +kernel)).le (Nat.zero_le _)⟩
theorem nt_of {n m : Nat} {ls : List Str} (hm : 1 ≤ m) (hl : ls.length ≤ m) (h : ∀ z ∈ ls, Pl n z) : Nt n m (Txt.join "\n" ls) := by
  by_cases e : ls = []
  · rw [e, empty_join]
    exact nt_empty hm
  · exact ⟨ls, e, rfl, hl, h⟩
/-- the joined lines may be made -/
theorem join_few {n : Nat} {ls : List Str} (h : ∀ z ∈ ls, Pl n z) (hn : n ≤ 500) (hl : ls.length ≤ 300) : (ls.map (·.length)).sum + ls.length * (Str.ofString "\n").length ≤ 16777216 := by
  have hs : (ls.map (·.length)).sum ≤ (ls.map (·.length)).length * 500 := sum_le fun k hk => by
    obtain ⟨z, hz, rfl⟩ := List.mem_map.mp hk
    have := (h z hz).1
    omega
  have l1 : (Str.ofString "\n").length = 1 := rfl
  rw [List.length_map] at hs
  rw [l1]
  omega
theorem sl_listK {X : Cx} {K : PySem.W.Frag} (h : X.K = K) : SlR X (rSlL K) := by
  subst h
  exact sl_list
theorem pl_nt2 {i : Int} (h : i.natAbs < 10 ^ 19) : Pl 20 (nt i) := by
  have hn : ∀ n : Nat, ∀ c ∈ numL n, c < 128 ∧ c ≠ 10 := fun n c hc => by
    have := numL_digits n c hc
    omega
  unfold nt
  refine ⟨?_, ?_⟩
  · rw [len_tl, tl_int]
    cases i with
    | ofNat n => exact Nat.le_trans (numL_len (k := 19) (by decide) h) (by decide)
    | negSucc m => exact Nat.succ_le_succ (numL_len (k := 19) (by decide) h)
  · rw [tl_int]
    cases i with
    | ofNat n => exact hn n
    | negSucc m =>
      intro c hc
      rcases List.mem_cons.mp hc with e | e
      · omega
      · exact hn _ c e
/-- an entry that is short -/
def SmE (t : Tr) : Prop := t.1.natAbs < 2 ^ 60 ∧ t.2.1.natAbs < 2 ^ 60 ∧ t.2.2.natAbs < 2 ^ 60
theorem SmE.sml {t : Tr} (h : SmE t) : Sml (lnE t) := by
  have lt : ∀ n : Int, n.natAbs < 2 ^ 60 → n.natAbs < 2 ^ 64 := fun n h => Nat.lt_of_lt_of_le h (by decide)
  refine ⟨by show 3 ≤ 4; decide, fun x hx => ?_⟩
  rcases List.mem_cons.mp hx with e | e
  · rw [e]; exact lt _ h.1
  · rcases List.mem_cons.mp e with e | e
    · rw [e]; exact lt _ h.2.1
    · rw [List.mem_singleton.mp e]; exact lt _ h.2.2
theorem num_nt {n : Int} (h : n.natAbs < 2 ^ 60) : isNum (tl (nt n)) = true ∧ numV (nt n) = n := by
  have hl := (pl_nt2 (i := n) (Nat.lt_of_lt_of_le h (by decide))).1
  unfold nt at hl ⊢
  rw [len_tl, tl_int] at hl
  refine ⟨by rw [tl_int]; exact isNum_int n, numV_int (by omega)⟩
theorem nt_free (n : Int) : 32 ∉ tl (nt n) := by
  unfold nt
  rw [tl_int]
  exact intL_free (.inl (by decide))
theorem line_e (t : Tr) : lineT (lnE t) = nt t.1 ++ " " ++ nt t.2.1 ++ " " ++ nt t.2.2 := by
  show Txt.join " " ([nt t.1, nt t.2.1] ++ [nt t.2.2]) = _
  rw [join_snoc]
  show Txt.join " " ([nt t.1] ++ [nt t.2.1]) ++ " " ++ nt t.2.2 = _
  rw [join_snoc, join_one]
theorem line_h (n : Int) : lineT (lnH n) = Str.ofString "lot " ++ nt n := by
  show Txt.join " " ([Str.ofString "lot"] ++ [nt n]) = _
  rw [join_snoc, join_one, show Str.ofString "lot" ++ " " = Str.ofString "lot " by decide +kernel]
theorem wds_e (t : Tr) : wdsOf (lineT (lnE t)) = [nt t.1, nt t.2.1, nt t.2.2] := by
  refine split_join (y := " ") (s := 32) (S := []) rfl (by decide +kernel) (fun e => nomatch e) fun p hp => ?_
  simp only [lnS, lnE, List.map_cons, List.map_nil, List.mem_cons, List.not_mem_nil, or_false] at hp
  rcases hp with e | e | e <;> (rw [e]; exact nt_free _)
theorem wds_h (n : Int) : wdsOf (lineT (lnH n)) = [Str.ofString "lot", nt n] := by
  refine split_join (y := " ") (s := 32) (S := []) rfl (by decide +kernel) (fun e => nomatch e) fun p hp => ?_
  simp only [lnS, lnH, List.map_cons, List.map_nil, List.mem_cons, List.not_mem_nil, or_false] at hp
  rcases hp with e | e <;> rw [e]
  · show 32 ∉ tl (Str.ofString "lot")
    decide +kernel
  · exact nt_free _
theorem rd_e {t : Tr} (h : SmE t) : rd3 (lineT (lnE t)) = some t := by
  obtain ⟨a1, a2⟩ := num_nt h.1
  obtain ⟨b1, b2⟩ := num_nt h.2.1
  obtain ⟨c1, c2⟩ := num_nt h.2.2
  unfold rd3
  rw [wds_e]
  show (if (isNum (tl (nt t.1)) && (isNum (tl (nt t.2.1)) && isNum (tl (nt t.2.2)))) = true then some (numV (nt t.1), numV (nt t.2.1), numV (nt t.2.2)) else none) = some t
  rw [a1, a2, b1, b2, c1, c2]
  rfl
theorem rd_h {n : Int} (h : n.natAbs < 2 ^ 60) : rdL c0 (lineT (lnH n)) = some (("lot" : Str), [n]) := by
  obtain ⟨a1, a2⟩ := num_nt h
  unfold rdL
  rw [wds_h]
  show (if ([nt n].all fun z => isNum (tl z)) = true ∧ [nt n].length = 1 then some (("lot" : Str), [nt n].map numV) else none) = _
  rw [if_pos ⟨by rw [List.all_cons, List.all_nil, a1]; rfl, rfl⟩, List.map_cons, List.map_nil, a2]
/-- the lines of a note -/
def linesT (n : Int) (l : List Tr) : List Str := (lnH n :: l.map lnE).map lineT
theorem linesT_len (n : Int) (l : List Tr) : (linesT n l).length = l.length + 1 := by
  unfold linesT
  rw [List.length_map, List.length_cons, List.length_map]
theorem pl_e {t : Tr} (h : SmE t) : Pl 62 (lineT (lnE t)) := by
  rw [line_e]
  have p := fun (n : Int) (h : n.natAbs < 2 ^ 60) => pl_nt2 (i := n) (Nat.lt_of_lt_of_le h (by decide))
  have s : Pl 1 (Str.ofString " ") := pl_of (by decide +kernel)
  exact (((((p _ h.1).app s).app (p _ h.2.1)).app s).app (p _ h.2.2)).le (by decide)
theorem pl_h {n : Int} (h : n.natAbs < 2 ^ 60) : Pl 62 (lineT (lnH n)) := by
  rw [line_h]
  exact ((pl_of (n := 4) (by decide +kernel)).app (pl_nt2 (Nat.lt_of_lt_of_le h (by decide)))).le (by decide)
theorem linesT_pl {n : Int} {l : List Tr} (hn : n.natAbs < 2 ^ 60) (h : ∀ t ∈ l, SmE t) : ∀ z ∈ linesT n l, Pl 62 z := fun z hz => by
  rcases List.mem_cons.mp hz with e | e
  · rw [e]
    exact pl_h hn
  · obtain ⟨d, hd, rfl⟩ := List.mem_map.mp e
    obtain ⟨t, ht, rfl⟩ := List.mem_map.mp hd
    exact pl_e (h t ht)
abbrev nT (n : Int) (l : List Tr) : Str := noteT (lnH n :: l.map lnE)
theorem nT_eq (n : Int) (l : List Tr) : nT n l = Txt.join "\n" (linesT n l) := rfl
section
variable {n : Int} {l : List Tr}
theorem lines_note (hn : n.natAbs < 2 ^ 60) (h : ∀ t ∈ l, SmE t) : linesOf (nT n l) = linesT n l := lines_join (fun e => nomatch e) (linesT_pl hn h)
theorem ent_at (h : ∀ t ∈ l, SmE t) {i : Nat} {t : Tr} (e : l[i]? = some t) : entV (linesT n l) i = some t := by
  unfold entV linesT
  rw [List.map_cons, List.getElem?_cons_succ, List.getElem?_map, List.getElem?_map, e]
  exact rd_e (h t (List.mem_of_getElem? e))
theorem head_note (hn : n.natAbs < 2 ^ 60) : hdV (linesT n l) = some n := by
  show (rdL c0 (lineT (lnH n))).map (fun d => d.2.headD 0) = some n
  rw [rd_h hn]
  rfl
theorem all_note (hn : n.natAbs < 2 ^ 60) (h : ∀ t ∈ l, SmE t) : AllL (linesT n l) := fun p hp => by
  cases p with
  | zero =>
    show (hdV (linesT n l)).isSome = true
    rw [head_note hn]
    rfl
  | succ i =>
    rw [linesT_len] at hp
    show (entV (linesT n l) i).isSome = true
    rw [ent_at h (List.getElem?_eq_getElem (by omega : i < l.length))]
    rfl
theorem ents_note (h : ∀ t ∈ l, SmE t) : entsOf (linesT n l) = l := by
  unfold entsOf
  rw [linesT_len, Nat.add_sub_cancel]
  refine List.ext_getElem? fun i => ?_
  by_cases hi : i < l.length
  · rw [esOf_at hi, ent_at h (List.getElem?_eq_getElem hi), List.getElem?_eq_getElem hi]
    rfl
  · rw [List.getElem?_eq_none (by rw [esOf_len]; omega), List.getElem?_eq_none (by omega)]
theorem pins_note (hn : n.natAbs < 2 ^ 60) : pinsOf (linesT n l) = n := by
  unfold pinsOf
  rw [head_note hn]
  rfl
theorem note_nt (hn : n.natAbs < 2 ^ 60) (h : ∀ t ∈ l, SmE t) {m : Nat} (hl : l.length + 1 ≤ m) : Nt 62 m (nT n l) := by
  rw [nT_eq]
  exact nt_of (by omega) (by rw [linesT_len]; exact hl) (linesT_pl hn h)
theorem badL_eq {ls : List Str} {p q : Nat} (h : BadL ls p) (k : BadL ls q) : p = q := by
  by_cases h1 : p < q
  · have := k.2.2 p h1
    rw [h.2.1] at this
    cases this
  · by_cases h2 : q < p
    · have := h.2.2 q h2
      rw [k.2.1] at this
      cases this
    · omega
theorem badL_all {ls : List Str} {p : Nat} (h : BadL ls p) (k : AllL ls) : False := by
  have := k p h.1
  rw [h.2.1] at this
  cases this
theorem badC_eq {n : Int} {es : List Tr} {p q : Nat} (h : BadC n es p) (k : BadC n es q) : p = q := by
  obtain ⟨⟨d, hd, hn⟩, ha⟩ := h
  obtain ⟨⟨e, he, kn⟩, ka⟩ := k
  by_cases h1 : p < q
  · exact absurd (ka p d h1 hd) hn
  · by_cases h2 : q < p
    · exact absurd (ha q e h2 he) kn
    · omega
theorem badC_all {n : Int} {es : List Tr} {p : Nat} (h : BadC n es p) (k : ∀ t ∈ es, Vld n t) : False := by
  obtain ⟨⟨d, hd, hn⟩, _⟩ := h
  exact hn (k d (List.mem_of_getElem? hd))
/-- parse_lot of a note that has the form -/
theorem parse_note {C D D1 D2 : Addr} {H : Hp} {Q : VK} {E : XK} (n0 : 0 ≤ n) (hn : n.natAbs < 2 ^ 60) (h : ∀ t ∈ l, SmE t) (hv : ∀ t ∈ l, Vld n t) (hl : l.length ≤ 200) (q : ∀ H' p r, Same H H' → LotAt C H' p n r → IsNorm l r → Q (.ref p) H') : spParse C D D1 D2 [.str (nT n l)] H Q E := by
  have f := (note_nt hn h (m := 201) (by omega)).fit (by decide) (by decide)
  have e1 := lines_note hn h
  have e2 := ents_note (n := n) h
  have e3 := pins_note (l := l) hn
  refine ⟨nT n l, rfl, f, ⟨?_, ?_, ?_, ?_⟩⟩ <;> rw [e1]
  · exact fun p hb => (badL_all hb (all_note hn h)).elim
  · exact fun _ ng => by rw [e3] at ng; exact absurd ng (by omega)
  · intro _ _ _ H' p r s c hN
    rw [e3] at c
    rw [e2] at hN
    exact q H' p r s c hN
  · intro _ _ k t bk
    rw [e2, e3] at bk
    exact (badC_all bk hv).elim
end
end Own


namespace Own
open PySem PySem.Spec PyProof.Rows L2 TL
theorem fmod_lo {y n : Int} (h0 : 0 ≤ y) (h1 : y < n) : y.fmod n = y := by
  rw [Int.fmod_eq_emod_of_nonneg _ (by omega)]
  exact Int.emod_eq_of_lt h0 h1
theorem fmod_hi {y n : Int} (h0 : n ≤ y) (h1 : y < n + n) : y.fmod n = y - n := by
  rw [Int.fmod_eq_emod_of_nonneg _ (by omega), show y = (y - n) + n * 1 by omega, Int.add_mul_emod_self_left, Int.emod_eq_of_lt (by omega) (by omega)]
  omega
theorem fmod_neg {y n : Int} (h0 : -n ≤ y) (h1 : y < 0) : y.fmod n = y + n := by
  rw [Int.fmod_eq_emod_of_nonneg _ (by omega), show y = (y + n) + n * (-1) by omega, Int.add_mul_emod_self_left, Int.emod_eq_of_lt (by omega) (by omega)]
  omega
/-- the numbers of the entries that the test takes -/
def fl (f : Int × Int → Bool) (cs : List Tr) : List Int := (cs.filter fun t => f (pr t)).map fun t => t.2.2
theorem fl_sum (f : Int × Int → Bool) (cs : List Tr) : (fl f cs).sum = bs f cs := by
  unfold fl
  induction cs with
  | nil => rfl
  | cons t r ih =>
    rw [bs, List.filter_cons]
    by_cases h : f (pr t) = true
    · rw [if_pos h, if_pos h, List.map_cons, List.sum_cons, ih]
    · rw [if_neg h, if_neg h, ih]
      omega
theorem fl_snoc (f : Int × Int → Bool) (cs : List Tr) (t : Tr) : fl f (cs ++ [t]) = if f (pr t) = true then fl f cs ++ [t.2.2] else fl f cs := by
  unfold fl
  rw [List.filter_append, List.map_append]
  by_cases h : f (pr t) = true
  · rw [if_pos h, List.filter_cons, if_pos h]
    rfl
  · rw [if_neg h, List.filter_cons, if_neg h]
    exact List.append_nil _
theorem fl_len (f : Int × Int → Bool) (cs : List Tr) : (fl f cs).length ≤ cs.length := by
  unfold fl
  rw [List.length_map]
  exact List.length_filter_le _ _

theorem digs6 {ds : List Int} {a b c d e f : Int} (h : Digs ds [a, b, c, d, e, f]) : ∃ u v w x y z, ds = [u, v, w, x, y, z] ∧ (0 ≤ u ∧ u < a) ∧ (0 ≤ v ∧ v < b) ∧ (0 ≤ w ∧ w < c) ∧ (0 ≤ x ∧ x < d) ∧ (0 ≤ y ∧ y < e) ∧ (0 ≤ z ∧ z < f) := by
  have hl := h.1
  match ds, hl with
  | [u, v, w, x, y, z], _ => exact ⟨u, v, w, x, y, z, rfl, h.2 0 u a rfl rfl, h.2 1 v b rfl rfl, h.2 2 w c rfl rfl, h.2 3 x d rfl rfl, h.2 4 y e rfl rfl, h.2 5 z f rfl rfl⟩
section
variable {P : Program} {w : World} {K : PySem.W.Frag} {mg : Str → Option Value} {base : Heap} {C : Addr}
def spLotIs (C : Addr) : Sp := fun vs H Q _ => ∃ (p : Addr) (n : Int) (c : Addr) (cs : List Tr), vs = [.ref p, .int n, .ref c] ∧ LotAt C H p n cs ∧ Trip H c cs ∧ cs.length ≤ 1000 ∧ Q (.bl true) H
theorem ok_lotis {f : Addr} {fd : FuncData} (F : Fun K "_law_lot_is" "_law_lot_is" s__law_lot_is f fd) (T : Bi mg) (L : LotC K mg C) (I : C8.InsC K C) {f_s : Addr} {d_s : FuncData} (D_s : Df K mg "_law_same" s__law_same ["_law_value", "_law_due"] f_s d_s) (G_s : FnOk P w K mg base CX0 4 f_s d_s ["_law_value", "_law_due"] (spSame 2)) : FnOk P w K mg base CX0 5 f fd ["_law_thing", "_law_pins_here", "_law_bunch"] (spLotIs C) := by
  refine F.ok sc__law_lot_is (fun vs H Q E h => ?_) (fun cdv A outer s H vs Q E hr h => ?_)
  · obtain ⟨p, n, c, cs, rfl, _⟩ := h
    rfl
  · obtain ⟨p, n, c, cs, rfl, hL, hc, hl, q⟩ := h
    refine ⟨_, (pss_one (ps_ret (pe_and (pe_callB call_isi (by rfl) T.b_isinstance (by decide +kernel) (pa_cons (pv 0) (pa_cons (pe_glob (v := .ref C) (by rfl) L.g rfl) pa_nil))) (pe_and (pe_call G_s (hr.mono (by decide)) (by rfl) D_s.g D_s.F.kp D_s.b .nil pass0 (pa_cons (pe_fld (pv 0) rfl) (pa_cons (pv 1) pa_nil))) (pe_one (pe_call G_s (hr.mono (by decide)) (by rfl) D_s.g D_s.F.kp D_s.b .nil pass0 (pa_cons (pe_fld (pv 0) rfl) (pa_cons (pv 2) pa_nil)))))))), ?_⟩
    obtain ⟨dx, c2, e, t⟩ := hL
    refine ⟨_, rfl, _, _, _, _, true, rfl, .own C, .base (.ins e I.cl I.ha I.hn I.htk I.hm), I.me, true, rfl, ?_⟩
    refine ⟨_, rfl, p, C, dx, _, _, rfl, e, L.cl, L.nP, flds_pins _ _, _, rfl, _, _, rfl, EqV.int n, true, rfl, ?_⟩
    exact ⟨_, rfl, p, C, dx, _, _, rfl, e, L.cl, L.nC, flds_cords _ _, _, rfl, _, _, rfl, EqV.trip t hc hl, q⟩
def spCounts (C : Addr) : Sp := fun vs H Q _ => ∃ (p : Addr) (n : Int) (c : Addr) (cs : List Tr), vs = [.ref p, .int n, .ref c] ∧ LotAt C H p n cs ∧ Trip H c cs ∧ cs.length ≤ 1000 ∧ (∀ t ∈ cs, Vld n t) ∧ 0 ≤ n ∧ n ≤ 1000 ∧ ∀ H', Same H H' → Q (.bl true) H'
theorem ok_counts {f : Addr} {fd : FuncData} (F : Fun K "_law_counts" "_law_counts" s__law_counts f fd) (T : Bi mg) (L : LotC K mg C) {f_s : Addr} {d_s : FuncData} (D_s : Df K mg "_law_same" s__law_same ["_law_value", "_law_due"] f_s d_s) (G_s0 : FnOk P w K mg base CX0 2 f_s d_s ["_law_value", "_law_due"] (spSame 0)) {f_e f_t : Addr} {d_e d_t : FuncData}
    (M_e : Mt K C "ends" "Lot.ends" s_Lot_ends ["self", "pin"] f_e d_e) (G_e : FnOk P w K mg base CX0 4 f_e d_e ["self", "pin"] (spEnds C)) (M_t : Mt K C "total" "Lot.total" s_Lot_total ["self"] f_t d_t) (G_t : FnOk P w K mg base CX0 1 f_t d_t ["self"] (spTotal C)) : FnOk P w K mg base CX0 5 f fd ["_law_thing", "_law_pins_here", "_law_bunch"] (spCounts C) := by
  refine F.ok sc__law_counts (fun vs H Q E h => ?_) (fun cdv A outer s H vs Q E hr h => ?_)
  · obtain ⟨p, n, c, cs, rfl, _⟩ := h
    rfl
  · obtain ⟨p, n, c, cs, rfl, hL, hc, hl, hv, n0, n1, q⟩ := h
    refine ⟨_, (pss_cons (ps_for PassesOwn.never rfl (pi_range1 (by rfl) T.b_range (pa_cons (pv 1) pa_nil)) (pg_name (i := 3) sc__law_counts.nd rfl (.inr rfl))
        (pss_one (ps_if (pt_not (pt_val (pe_call G_s0 (hr.mono (by decide)) (by rfl) D_s.g D_s.F.kp D_s.b .nil pass0 (pa_cons (pe_meth (pv 0) L.cl M_e.m G_e hr M_e.b .nil pass0 (pa_cons (pv 3) pa_nil)) (pa_cons (pe_callB (cr_sum rfl) (by rfl) T.b_sum (by decide +kernel) (pa_cons (pe_lc (own := [("_law_entry_here", 4)]) (g := gName 4) rfl sc__law_counts.nd (pi_tup (pv 2)) (blkOk_by (own := [("_law_entry_here", 4)]) (N := ["_law_thing", "_law_pins_here", "_law_bunch", "_law_spot", "_law_entry_here"]) (sc := defScope s__law_counts) (by decide +kernel)) (fun _ _ _ _ _ => (pg_name (i := 4) sc__law_counts.nd rfl (.inl rfl))) (fun _ _ _ _ _ => pts_one (pt_cmpR (r := rIn K false) op_in_seq (pv 3) (pe_lst (pa_cons (pe_ix (r := rIxT K) ix_tup (pv 4) pe_int (fun _ _ => rfl)) (pa_cons (pe_ix (r := rIxT K) ix_tup (pv 4) pe_int (fun _ _ => rfl)) pa_nil))) (by rfl))) (fun _ _ _ _ _ => (pe_ix (r := rIxT K) ix_tup (pv 4) pe_int (fun _ _ => rfl)))) pa_nil)) pa_nil))))) (pss_one (ps_ret pe_bl)) pss_nil)))
        (pss_one (ps_ret (pe_call G_s0 (hr.mono (by decide)) (by rfl) D_s.g D_s.F.kp D_s.b .nil pass0 (pa_cons (pe_meth0 (pv 0) L.cl M_t.m G_t (hr.mono (by decide)) M_t.b .nil pass0) (pa_cons (pe_callB (cr_sum rfl) (by rfl) T.b_sum (by decide +kernel) (pa_cons (pe_lc (own := [("_law_entry_here", 4)]) (g := gName 4) (tt := tYes) rfl sc__law_counts.nd (pi_tup (pv 2)) (blkOk_by (own := [("_law_entry_here", 4)]) (N := ["_law_thing", "_law_pins_here", "_law_bunch", "_law_spot", "_law_entry_here"]) (sc := defScope s__law_counts) (by decide +kernel)) (fun _ _ _ _ _ => (pg_name (i := 4) sc__law_counts.nd rfl (.inl rfl))) (fun _ _ _ _ _ => pts_nil) (fun _ _ _ _ _ => (pe_ix (r := rIxT K) ix_tup (pv 4) pe_int (fun _ _ => rfl)))) pa_nil)) pa_nil)))))), ?_⟩
    obtain ⟨vs, ec, tc⟩ := id hc
    obtain ⟨dx, c2, eL, tL⟩ := id hL
    refine ⟨_, rfl, n, rfl, by omega, by omega, for_range (lo := 0) (n := n.toNat) (fun i σ H' => (∃ y3 y4, σ = [some (.ref p), some (.int n), some (.ref c), y3, y4]) ∧ Same H H') ⟨⟨_, _, rfl⟩, Same.refl H⟩ (fun i σ H' hi pv => ?_) (fun σ H' pv => ?_)⟩
    · obtain ⟨⟨y3, y4, rfl⟩, sm⟩ := pv
      refine ⟨_, rfl, p, dx, _, rfl, sm _ _ eL, flds_no _ _ (by decide +kernel) (by decide +kernel), _, rfl, p, _, n, cs, rfl, hL.same sm, by omega, by omega, n1, hv, fun H1 s1 => ?_⟩
      refine ⟨_, rfl, c, rfl, ⟨vs, .inl (.inl (s1 _ _ (sm _ _ ec)))⟩, fun D hD => ?_⟩
      generalize hf : (fun q : Int × Int => decide (q.1 = 0 + (i : Int) ∨ q.2 = 0 + (i : Int))) = fF
      refine lc_tup (K := K) (a := c) (xs := vs) (fun m H2 => Same H1 H2 ∧ H2 D = some (.lst ((fl fF (cs.take m)).map V.int))) ⟨same_upd hD, upd_same⟩ (fun m H2 _ pv => .inl (.inl (pv.1 _ _ (s1 _ _ (sm _ _ ec))))) (fun m x H2 hxm pv => ?_) (fun H2 pv => ?_)
      · obtain ⟨s2, eD⟩ := pv
        obtain ⟨u, t, rfl, htm, hu⟩ := ((tc.same sm).same (s1.trans s2)).at_ hxm
        have qu : SqT K H2 u (tv t) := .inl (.inl hu)
        have a0 : atI (tv t) 0 = some (.int t.1) := atI_nat (j := 0) rfl
        have a1 : atI (tv t) 1 = some (.int t.2.1) := atI_nat (j := 1) rfl
        have a2 : atI (tv t) 2 = some (.int t.2.2) := atI_nat (j := 2) rfl
        have etake : fl fF (cs.take (m + 1)) = if fF (pr t) = true then fl fF (cs.take m) ++ [t.2.2] else fl fF (cs.take m) := by
          rw [List.take_add_one, htm]
          exact fl_snoc fF (cs.take m) t
        have eF : fF (pr t) = inV (.int (0 + (i : Int))) [.int t.1, .int t.2.1] := by
          rw [← hf]
          show decide (t.1 = 0 + (i : Int) ∨ t.2.1 = 0 + (i : Int)) = ((t.1 == 0 + (i : Int)) || ((t.2.1 == 0 + (i : Int)) || false))
          generalize 0 + (i : Int) = z
          by_cases h1 : t.1 = z <;> by_cases h2 : t.2.1 = z <;> simp [h1, h2]
        refine ⟨rfl, ?_⟩
        refine ⟨_, rfl, _, rfl, u, _, 0, _, rfl, rfl, qu, a0, _, rfl, u, _, 1, _, rfl, rfl, qu, a1, by show 2 ≤ sizeLine; decide, fun g hg => ⟨g, _, rfl, .inl (.inl (.inl upd_same)), rfl, rfl, _, rfl, ?_⟩⟩
        have sg := same_upd (o := .lst [.int t.1, .int t.2.1]) hg
        have eD2 := sg _ _ eD
        refine ite2 (fun e => ?_) (fun e => ?_)
        · have e1 : fF (pr t) = true := by rw [eF]; exact e
          refine ⟨_, rfl, u, _, 2, _, rfl, rfl, .inl (.inl (sg _ _ hu)), a2, _, eD2, ?_, same_put (H1 := H1) hD (s2.trans sg), ?_⟩
          · rw [List.length_map]
            refine Nat.lt_of_le_of_lt (Nat.le_trans (fl_len _ _) ?_) (small1000 hl)
            rw [List.length_take]
            exact Nat.min_le_right _ _
          · rw [upd_same, etake, if_pos e1, List.map_append]
            rfl
        · have e1 : ¬ fF (pr t) = true := by rw [eF]; exact e
          refine ⟨s2.trans sg, ?_⟩
          rw [etake, if_neg e1]
          exact eD2
      · obtain ⟨s2, eD⟩ := pv
        rw [tc.1, List.take_length] at eD
        refine ⟨D, _, rfl, .inl (.inl eD), ?_⟩
        rw [fl_sum]
        refine ⟨.int (endsOf cs (0 + (i : Int))), .int (bs fF cs), rfl, ?_, true, rfl, ⟨_, _, rfl⟩, (sm.trans s1).trans s2⟩
        rw [← hf]
        exact EqV.int _
    · obtain ⟨⟨y3, y4, rfl⟩, sm⟩ := pv
      refine ⟨_, rfl, p, dx, _, rfl, sm _ _ eL, flds_no _ _ (by decide +kernel) (by decide +kernel), p, n, cs, rfl, hL.same sm, hl, fun H1 s1 => ?_⟩
      refine ⟨_, rfl, c, rfl, ⟨vs, .inl (.inl (s1 _ _ (sm _ _ ec)))⟩, fun D hD => ?_⟩
      refine lc_tup (K := K) (a := c) (xs := vs) (fun i H2 => H2 = upd H1 D (.lst (((cs.map fun t => t.2.2).take i).map V.int))) rfl (fun i H2 _ p => by subst p; exact .inl (.inl (same_upd hD _ _ (s1 _ _ (sm _ _ ec))))) (fun i x H2 hxi p => ?_) (fun H2 p => ?_)
      · subst p
        obtain ⟨u, t, rfl, hti, hu⟩ := ((tc.same sm).same s1).at_ hxi
        refine ⟨rfl, ?_⟩
        refine ⟨_, rfl, u, _, 2, _, rfl, rfl, .inl (.inl (same_upd hD _ _ hu)), atI_nat (j := 2) rfl, _, upd_same, ?_, ?_⟩
        · rw [List.length_map, List.length_take, List.length_map]
          exact Nat.lt_of_le_of_lt (Nat.min_le_right _ _) (small1000 hl)
        · rw [upd_upd, List.take_add_one, List.getElem?_map, hti, List.map_append]
          rfl
      · subst p
        rw [show vs.length = (cs.map fun t => t.2.2).length by rw [List.length_map]; exact tc.1, List.take_length]
        have s2 := same_upd (o := .lst ((cs.map fun t => t.2.2).map V.int)) hD
        have s3 := (sm.trans s1).trans s2
        refine ⟨D, _, rfl, .inl (.inl upd_same), .int (totOf cs), .int (cs.map fun t => t.2.2).sum, rfl, EqV.int _, ?_⟩
        exact q _ s3
def spEnt (K : PySem.W.Frag) : Sp := fun vs H Q _ => ∃ (c n : Int) (e : Addr) (l : List Tr), vs = [.int c, .int n, .ref e] ∧ 2 ≤ n ∧ n ≤ 1000 ∧ TripL H e l ∧ l.length ≤ 1000 ∧ (∀ t ∈ l, Vld n t) ∧ ∀ H' p t, Same H H' → H p = none → H' p = some (.tup (tv t)) → Vld n t → t.2.2 ≤ 100000000 → Q (.ref p) H'
theorem ok_ent {f : Addr} {fd : FuncData} (F : Fun K "_law_entry" "_law_entry" s__law_entry f fd) (T : Bi mg) {f_d : Addr} {d_d : FuncData} (D_d : Df K mg "_law_digits" s__law_digits ["_law_cell_here", "_law_sizes"] f_d d_d) (G_d : FnOk P w K mg base CX0 1 f_d d_d ["_law_cell_here", "_law_sizes"] (spDigs K)) : FnOk P w K mg base CX0 2 f fd ["_law_cell_here", "_law_pins_here", "_law_earlier"] (spEnt K) := by
  refine F.ok sc__law_entry (fun vs H Q E h => ?_) (fun cdv A outer s H vs Q E hr h => ?_)
  · obtain ⟨c, n, e, l, rfl, _⟩ := h
    rfl
  · obtain ⟨c, n, e, l, rfl, n0, n1, hT, hl, hv, q⟩ := h
    refine ⟨_, (pss_cons (ps_set (i := 3) sc__law_entry.nd rfl (.inl rfl) (pe_call G_d (hr.mono (by decide)) (by rfl) D_d.g D_d.F.kp D_d.b .nil pass0 (pa_cons (pv 0) (pa_cons (pe_lst (pa_cons (pv 1) (pa_cons (pe_op op_sub (pv 1) pe_int) (pa_cons pe_int (pa_cons pe_int (pa_cons pe_int (pa_cons pe_int pa_nil))))))) pa_nil))))
        (pss_cons (ps_set (i := 4) sc__law_entry.nd rfl (.inl rfl) (pe_ix (r := rIxL K) ix_list (pv 3) pe_int (fun _ _ => rfl)))
        (pss_cons (ps_set (i := 5) sc__law_entry.nd rfl (.inl rfl) (pe_op op_modN (pe_callTy call_int1 (by rfl) T.b_int (by decide +kernel) (pa_cons (pe_op op_add (pe_op op_add (pv 4) pe_int) (pe_ix (r := rIxL K) ix_list (pv 3) pe_int (fun _ _ => rfl))) pa_nil)) (pv 1)))
        (pss_cons (ps_if (PW.pt (pw_and (pt_cmpR op_eq (pe_ix (r := rIxL K) ix_list (pv 3) pe_int (fun _ _ => rfl)) pe_int (nomark _)) (pw_and1 (pt_cmpR op_gt (pe_callB call_len_seq (by rfl) T.b_len PySem.boot_len (pa_cons (pv 2) pa_nil)) pe_int (nomark _))))) (pss_cons (ps_set (i := 6) sc__law_entry.nd rfl (.inl rfl) (pe_ix (r := rIxL K) ix_list (pv 2) (pe_op op_modN (pe_callTy call_int1 (by rfl) T.b_int (by decide +kernel) (pa_cons (pe_ix (r := rIxL K) ix_list (pv 3) pe_int (fun _ _ => rfl)) pa_nil)) (pe_callB call_len_seq (by rfl) T.b_len PySem.boot_len (pa_cons (pv 2) pa_nil))) (fun _ _ => rfl)))
        (pss_cons (ps_set (i := 4) sc__law_entry.nd rfl (.inl rfl) (pe_ix (r := rIxT K) ix_tup (pv 6) pe_int (fun _ _ => rfl)))
        (pss_one (ps_set (i := 5) sc__law_entry.nd rfl (.inl rfl) (pe_ix (r := rIxT K) ix_tup (pv 6) pe_int (fun _ _ => rfl)))))) pss_nil)
        (pss_one (ps_ret (pe_tup (pa_cons (pv 4) (pa_cons (pv 5) (pa_cons (pe_op op_add pe_int (pe_op op_modN (pe_callTy call_int1 (by rfl) T.b_int (by decide +kernel) (pa_cons (pe_ix (r := rIxL K) ix_list (pv 3) pe_int (fun _ _ => rfl)) pa_nil)) (pe_ix (r := rIxL K) ix_list (pe_lst (pa_cons pe_int (pa_cons pe_int (pa_cons pe_int (pa_cons pe_int (pa_cons pe_int (pa_cons pe_int pa_nil))))))) (pe_ix (r := rIxL K) ix_list (pv 3) pe_int (fun _ _ => rfl)) (fun _ _ => rfl)))) pa_nil)))))))))), ?_⟩
    refine ⟨_, rfl, _, rfl, _, rfl, n, 1, rfl, rfl, by show 6 ≤ sizeLine; decide, fun b nb => ⟨c, b, [n, n - 1, 3, 9, 6, 100000000], rfl, .inl (.inl upd_same), by show 6 ≤ 1000; decide, fun x hx => ?_, fun H3 p3 ds3 s3 np3 ep3 dg3 => ?_⟩⟩
    · simp only [List.mem_cons, List.not_mem_nil, or_false] at hx
      omega
    obtain ⟨d0, d1, d2, d3, d4, d5, rfl, h0, h1, h2, h3, h4, h5⟩ := digs6 dg3
    have s23 : Same H H3 := (same_upd nb).trans s3
    have qp : SqL K H3 p3 [.int d0, .int d1, .int d2, .int d3, .int d4, .int d5] := .inl (.inl ep3)
    have a0 : atI [V.int d0, .int d1, .int d2, .int d3, .int d4, .int d5] 0 = some (.int d0) := atI_nat (j := 0) rfl
    have a1 : atI [V.int d0, .int d1, .int d2, .int d3, .int d4, .int d5] 1 = some (.int d1) := atI_nat (j := 1) rfl
    have a2 : atI [V.int d0, .int d1, .int d2, .int d3, .int d4, .int d5] 2 = some (.int d2) := atI_nat (j := 2) rfl
    have a3 : atI [V.int d0, .int d1, .int d2, .int d3, .int d4, .int d5] 3 = some (.int d3) := atI_nat (j := 3) rfl
    have a4 : atI [V.int d0, .int d1, .int d2, .int d3, .int d4, .int d5] 4 = some (.int d4) := atI_nat (j := 4) rfl
    have a5 : atI [V.int d0, .int d1, .int d2, .int d3, .int d4, .int d5] 5 = some (.int d5) := atI_nat (j := 5) rfl
    refine ⟨_, rfl, p3, _, 0, _, rfl, rfl, qp, a0, ?_⟩
    refine ⟨_, rfl, _, _, rfl, rfl, _, rfl, p3, _, 1, _, rfl, rfl, qp, a1, _, _, rfl, rfl, .inl ⟨_, rfl, _, rfl, _, _, rfl, rfl, by omega, ?_⟩⟩
    have hoth : 0 ≤ (d0 + 1 + d1).fmod n ∧ (d0 + 1 + d1).fmod n < n ∧ d0 ≠ (d0 + 1 + d1).fmod n := by
      have hm := fmod_in (d0 + 1 + d1) (show 0 < n by omega)
      refine ⟨hm.1, hm.2, ?_⟩
      by_cases hx : d0 + 1 + d1 < n
      · rw [fmod_lo (by omega) hx]
        omega
      · rw [fmod_hi (by omega) (by omega)]
        omega
    obtain ⟨z, ez, zpos, zle⟩ : ∃ z : Int, atI [V.int 3, .int 3, .int 3, .int 3, .int 1000, .int 100000000] d4 = some (.int z) ∧ 0 < z ∧ z ≤ 100000000 := by
      have hd : d4 = ((0 : Nat) : Int) ∨ d4 = ((1 : Nat) : Int) ∨ d4 = ((2 : Nat) : Int) ∨ d4 = ((3 : Nat) : Int) ∨ d4 = ((4 : Nat) : Int) ∨ d4 = ((5 : Nat) : Int) := by omega
      rcases hd with e | e | e | e | e | e <;> rw [e] <;> exact ⟨_, atI_nat rfl, by decide⟩
    obtain ⟨vl, eT, tV⟩ := hT.same s23
    have qe : SqL K H3 e vl := .inl (.inl eT)
    have ne_none : ∀ {H5 : Hp} {x : Addr}, Same H H5 → H5 x = none → H x = none := fun s5 hx => s5.free hx
    refine ⟨_, rfl, p3, _, 2, _, rfl, rfl, qp, a2, rfl, _, rfl, ?_⟩
    by_cases e2 : d2 = 0
    · rw [show decide (V.int d2 = V.int 0) = true from decide_eq_true (congrArg V.int e2)]
      refine ⟨_, rfl, e, vl, rfl, .inl qe, _, _, rfl, rfl, _, rfl, ite2 (fun e3 => ?_) (fun e3 => ?_)⟩
      · have l0 : (0 : Int) < (vl.length : Int) := of_decide_eq_true e3
        obtain ⟨r0, r1⟩ := fmod_in d3 l0
        obtain ⟨k, hk⟩ : ∃ k : Nat, d3.fmod (vl.length : Int) = (k : Int) := ⟨(d3.fmod (vl.length : Int)).toNat, by omega⟩
        have kl : k < vl.length := by omega
        obtain ⟨b2, t, eb, hti, hb2⟩ := tV.at_ (List.getElem?_eq_getElem kl)
        have vt := hv t (List.mem_of_getElem? hti)
        have ai : atI vl (d3.fmod (vl.length : Int)) = some (.ref b2) := by
          rw [hk]
          exact atI_nat (by rw [List.getElem?_eq_getElem kl, eb])
        refine ⟨_, rfl, _, rfl, p3, _, 3, _, rfl, rfl, qp, a3, .inl ⟨_, rfl, _, rfl, e, vl, rfl, .inl qe, _, _, rfl, rfl, by omega, e, vl, _, _, rfl, rfl, qe, ai, ?_⟩⟩
        refine ⟨_, rfl, b2, tv t, 1, _, rfl, rfl, .inl (.inl hb2), atI_nat (j := 1) rfl, ?_⟩
        refine ⟨_, rfl, b2, tv t, 0, _, rfl, rfl, .inl (.inl hb2), atI_nat (j := 0) rfl, ?_⟩
        refine ⟨_, rfl, _, rfl, _, rfl, p3, _, 5, _, rfl, rfl, qp, a5, .inl ⟨_, rfl, ?_⟩⟩
        refine ⟨by show 6 ≤ sizeLine; decide, fun g ng => ⟨_, rfl, p3, _, 4, _, rfl, rfl, (same_upd ng).seq qp, a4, g, _, d4, _, rfl, rfl, .inl (.inl upd_same), ez, _, _, rfl, rfl, by omega, ?_⟩⟩
        refine ⟨_, _, rfl, rfl, by show 3 ≤ sizeLine; decide, fun v nv => ?_⟩
        have sg := (same_upd (o := .lst [.int 3, .int 3, .int 3, .int 3, .int 1000, .int 100000000]) ng).trans (same_upd (o := .tup [.int (t.2.1), .int (t.1), .int (1 + d5.fmod z)]) nv)
        refine q _ v (t.2.1, t.1, 1 + d5.fmod z) (s23.trans sg) (ne_none (s23.trans (same_upd ng)) nv) upd_same ⟨vt.2.2.1, vt.2.2.2.1, vt.1, vt.2.1, fun z => vt.2.2.2.2.1 z.symm, by show 1 ≤ 1 + d5.fmod z; have := fmod_in d5 zpos; omega⟩ (by show 1 + d5.fmod z ≤ 100000000; have := fmod_in d5 zpos; omega)
      ·
        refine ⟨_, rfl, _, rfl, _, rfl, p3, _, 5, _, rfl, rfl, qp, a5, .inl ⟨_, rfl, ?_⟩⟩
        refine ⟨by show 6 ≤ sizeLine; decide, fun g ng => ⟨_, rfl, p3, _, 4, _, rfl, rfl, (same_upd ng).seq qp, a4, g, _, d4, _, rfl, rfl, .inl (.inl upd_same), ez, _, _, rfl, rfl, by omega, ?_⟩⟩
        refine ⟨_, _, rfl, rfl, by show 3 ≤ sizeLine; decide, fun v nv => ?_⟩
        have sg := (same_upd (o := .lst [.int 3, .int 3, .int 3, .int 3, .int 1000, .int 100000000]) ng).trans (same_upd (o := .tup [.int (d0), .int ((d0 + 1 + d1).fmod n), .int (1 + d5.fmod z)]) nv)
        refine q _ v (d0, (d0 + 1 + d1).fmod n, 1 + d5.fmod z) (s23.trans sg) (ne_none (s23.trans (same_upd ng)) nv) upd_same ⟨h0.1, h0.2, hoth.1, hoth.2.1, hoth.2.2, by show 1 ≤ 1 + d5.fmod z; have := fmod_in d5 zpos; omega⟩ (by show 1 + d5.fmod z ≤ 100000000; have := fmod_in d5 zpos; omega)
    · rw [show decide (V.int d2 = V.int 0) = false from decide_eq_false fun z => e2 (V.int.inj z)]
      refine ⟨_, rfl, _, rfl, _, rfl, p3, _, 5, _, rfl, rfl, qp, a5, .inl ⟨_, rfl, ?_⟩⟩
      refine ⟨by show 6 ≤ sizeLine; decide, fun g ng => ⟨_, rfl, p3, _, 4, _, rfl, rfl, (same_upd ng).seq qp, a4, g, _, d4, _, rfl, rfl, .inl (.inl upd_same), ez, _, _, rfl, rfl, by omega, ?_⟩⟩
      refine ⟨_, _, rfl, rfl, by show 3 ≤ sizeLine; decide, fun v nv => ?_⟩
      have sg := (same_upd (o := .lst [.int 3, .int 3, .int 3, .int 3, .int 1000, .int 100000000]) ng).trans (same_upd (o := .tup [.int (d0), .int ((d0 + 1 + d1).fmod n), .int (1 + d5.fmod z)]) nv)
      refine q _ v (d0, (d0 + 1 + d1).fmod n, 1 + d5.fmod z) (s23.trans sg) (ne_none (s23.trans (same_upd ng)) nv) upd_same ⟨h0.1, h0.2, hoth.1, hoth.2.1, hoth.2.2, by show 1 ≤ 1 + d5.fmod z; have := fmod_in d5 zpos; omega⟩ (by show 1 + d5.fmod z ≤ 100000000; have := fmod_in d5 zpos; omega)
def spLNote (K : PySem.W.Frag) : Sp := fun vs H Q _ => ∃ (a : Addr) (xs : List V) (n : Int) (l : List Tr), vs = [.int n, .ref a] ∧ SqB K H a xs ∧ TrV H xs l ∧ (∀ t ∈ l, SmE t) ∧ n.natAbs < 2 ^ 60 ∧ l.length ≤ 200 ∧ ∀ H', Same H H' → Q (.str (nT n l)) H'
set_option maxHeartbeats 1000000 in
theorem ok_lnote {f : Addr} {fd : FuncData} (F : Fun K "_law_note" "_law_note" s__law_note f fd) (T : Bi mg) : FnOk P w K mg base CX0 1 f fd ["_law_pins_here", "_law_entries"] (spLNote K) := by
  refine F.ok sc__law_note (fun vs H Q E h => ?_) (fun cdv A outer s H vs Q E hr h => ?_)
  · obtain ⟨a, xs, n, l, rfl, _⟩ := h
    rfl
  · obtain ⟨a, xs, n, l, rfl, hB, ht, hm, hn, hl, q⟩ := h
    refine ⟨_, (pss_cons (ps_set (i := 2) sc__law_note.nd rfl (.inl rfl) (pe_lst (pa_cons (pe_op op_add_str pe_str (pe_callTy call_str_int (by rfl) T.b_str (by decide +kernel) (pa_cons (pv 0) pa_nil))) pa_nil)))
        (pss_cons (ps_for PassesOwn.never rfl (pi_seq (pv 1)) (pg_name (i := 3) sc__law_note.nd rfl (.inl rfl))
        (pss_one (ps_expr (pe_bm PySem.F.plainAttrs_list PySem.F.slot_list_append PySem.F.type_list_append mt_append (pv 2) (pa_cons (pe_op op_add_str (pe_op op_add_str (pe_op op_add_str (pe_op op_add_str (pe_callTy call_str_int (by rfl) T.b_str (by decide +kernel) (pa_cons (pe_ix (r := rIxT K) ix_tup (pv 3) pe_int (fun _ _ => rfl)) pa_nil)) pe_str) (pe_callTy call_str_int (by rfl) T.b_str (by decide +kernel) (pa_cons (pe_ix (r := rIxT K) ix_tup (pv 3) pe_int (fun _ _ => rfl)) pa_nil))) pe_str) (pe_callTy call_str_int (by rfl) T.b_str (by decide +kernel) (pa_cons (pe_ix (r := rIxT K) ix_tup (pv 3) pe_int (fun _ _ => rfl)) pa_nil))) pa_nil)))))
        (pss_one (ps_ret (pe_join pe_str (pv 2)))))), ?_⟩
    have lt : ∀ n : Int, n.natAbs < 2 ^ 60 → (nt n).length ≤ 65 := fun n h => nt_len (Nat.lt_of_lt_of_le h (by decide))
    have lg : ∀ n : Int, n.natAbs < 2 ^ 60 → n.natAbs.log2 < 1920 := fun n h => Nat.lt_of_lt_of_le (log_lt (k := 60) (by decide) h) (by decide)
    have lim : ∀ k, k ≤ 1000 → k ≤ sizeLine := fun k h => Nat.le_trans h (by decide)
    refine ⟨_, rfl, n, rfl, lg n hn, _, _, rfl, rfl, ?_, by show 1 ≤ sizeLine; decide, fun r nr => ?_⟩
    · have := lt n hn
      unfold nt at this
      have l4 : (Str.ofString "lot ").length = 4 := rfl
      rw [l4]
      exact lim _ (by omega)
    have s1 := same_upd (o := .lst [.str (Str.ofString "lot " ++ Str.ofString (toString n))]) nr
    have er : upd H r (.lst [.str (Str.ofString "lot " ++ Str.ofString (toString n))]) r = some (.lst (((linesT n l).take 1).map V.str)) := by
      rw [upd_same]
      exact congrArg (fun z => some (HO.lst [V.str z])) (line_h n).symm
    generalize upd H r (.lst [.str (Str.ofString "lot " ++ Str.ofString (toString n))]) = H1 at *
    have ll := linesT_len n l
    have hx : ∀ i, xs[i]? = none → l.length ≤ i := fun i h => by
      have := List.getElem?_eq_none_iff.mp h
      rw [ht.1] at this
      exact this
    refine ⟨_, rfl, a, rfl, for_same (Hb := H) hB (fun i σ H' => (∃ y3, σ = [some (.int n), some (.ref a), some (.ref r), y3]) ∧ H' r = some (.lst (((linesT n l).take (i + 1)).map V.str)) ∧ Same H (hole H' r)) ⟨⟨_, rfl⟩, er, same_hole nr s1⟩ (fun i σ' H' p => unhole p.2.2) (fun i v σ H' hv pv => ?_) (fun σ H' pv => ?_)⟩
    · obtain ⟨⟨y3, rfl⟩, er', sm⟩ := pv
      obtain ⟨b, t, rfl, hti, eb⟩ := ht.at_ hv
      have eb' := unhole sm _ _ eb
      obtain ⟨h1, h2, h3⟩ := hm t (List.mem_of_getElem? hti)
      have hil := (List.getElem?_eq_some_iff.mp hti).1
      have hB : SqT K H' b [.int t.1, .int t.2.1, .int t.2.2] := .inl (.inl eb')
      have l1 := lt _ h1
      have l2 := lt _ h2
      have l3 := lt _ h3
      unfold nt at l1 l2 l3
      have ls : (Str.ofString " ").length = 1 := rfl
      refine ⟨_, rfl, .inl ⟨rfl, _, .inl (.inl er')⟩, _, rfl, b, _, _, _, rfl, rfl, hB, at_of (j := 0) rfl rfl, t.1, rfl, lg _ h1, _, _, rfl, rfl, by rw [ls]; exact lim _ (by omega), _, rfl, b, _, _, _, rfl, rfl, hB, at_of (j := 1) rfl rfl, t.2.1, rfl, lg _ h2, _, _, rfl, rfl, by rw [strLen_append, ls]; exact lim _ (by omega), _, _, rfl, rfl, by rw [strLen_append, strLen_append, ls]; exact lim _ (by omega), _, rfl, b, _, _, _, rfl, rfl, hB, at_of (j := 2) rfl rfl, t.2.2, rfl, lg _ h3, _, _, rfl, rfl, by rw [strLen_append, strLen_append, strLen_append, ls]; exact lim _ (by omega), ?_⟩
      refine ⟨r, _, _, rfl, rfl, er', by rw [List.length_map, List.length_take]; exact small1000 (by omega), ⟨_, rfl⟩, ?_, by rw [hole_upd]; exact sm⟩
      rw [upd_same]
      have hlt : (linesT n l)[i + 1]? = some (lineT (lnE t)) := by
        unfold linesT
        rw [List.map_cons, List.getElem?_cons_succ, List.getElem?_map, List.getElem?_map, hti]
        rfl
      rw [List.take_add_one (i := i + 1), hlt, List.map_append, line_e]
      rfl
    · obtain ⟨⟨y3, rfl⟩, er', sm⟩ := pv
      rw [ht.1, ← ll, List.take_length] at er'
      refine ⟨⟨_, rfl⟩, _, rfl, _, r, linesT n l, rfl, rfl, .inl (.inl (.inl er')), join_few (linesT_pl hn hm) (by decide) (by omega), q H' (unhole sm)⟩

end
end Own

namespace Own
open PySem PySem.Spec PyProof.Rows L2 TL
theorem at_zero {x : Str} {c : Nat} {r : List Nat} (e : tl x = c :: r) : atI x.cps.toList 0 = some c := by
  have e2 : x.cps.toList = c :: r := e
  rw [e2]
  exact atI_nat (j := 0) (xs := c :: r) rfl
theorem tl_cut01 (x : Str) : tl (cutS x none (some 1)) = (tl x).take 1 := by
  show ((tl x).drop (HT.sIx x.length 0 none)).take (HT.sIx x.length x.length (some 1) - HT.sIx x.length 0 none) = _
  rw [show HT.sIx x.length x.length (some 1) = min 1 x.length from HT.sIx_nat _ _ 1, show HT.sIx x.length 0 none = 0 from rfl, List.drop_zero, Nat.sub_zero, len_tl]
  cases tl x with
  | nil => rfl
  | cons c r =>
    have e : min 1 (c :: r).length = 1 := by simp
    rw [e]
theorem take_one (l : List Nat) (c : Nat) : decide (l.take 1 = [c]) = decide (l.head? = some c) := by
  cases l with
  | nil => rfl
  | cons d r =>
    show decide ([d] = [c]) = decide (some d = some c)
    simp
section
variable {P : Program} {w : World} {K : PySem.W.Frag} {mg : Str → Option Value} {base : Heap}
def spNumB : Sp := fun vs H Q _ => ∃ x : Str, vs = [.str x] ∧ x.length ≤ 600 ∧ Q (.bl (isNum (tl x))) H
theorem ok_lnum {f : Addr} {fd : FuncData} (F : Fun K "_law_number" "_law_number" s__law_number f fd) (T : Bi mg) : FnOk P w K mg base CX0 1 f fd ["_law_word"] spNumB := by
  refine F.ok sc__law_number (fun vs H Q E h => ?_) (fun cdv A outer s H vs Q E hr h => ?_)
  · obtain ⟨x, rfl, _⟩ := h
    rfl
  · obtain ⟨x, rfl, hx, q⟩ := h
    refine ⟨_, (pss_cons (ps_set (i := 1) sc__law_number.nd rfl (.inl rfl) (pv 0))
        (C8.pss_cut (ps_if (PW.pt (pw_and (pt_cmpR op_eq (pe_slice sl_str (pv 0) po_none (po_some pe_int)) pe_str (nomark _)) (pw_and1 (pt_cmpR op_ne (pv 0) pe_str (nomark _))))) (pss_one (ps_set (i := 1) sc__law_number.nd rfl (.inl rfl) (pe_slice sl_str (pv 0) (po_some pe_int) po_none))) pss_nil)
        (C8.pss_cut (ps_if (PW.pt (pw_or (pt_cmpR op_eq (pv 1) pe_str (nomark _)) (pw_or1 (PW.pt (pw_and (pt_cmpR op_eq (pe_ix (r := rIxS) ix_str (pv 1) pe_int (fun _ _ => rfl)) pe_str (nomark _)) (pw_and1 (pt_cmpR op_gt (pe_callB call_len_str (by rfl) T.b_len PySem.boot_len (pa_cons (pv 1) pa_nil)) pe_int (nomark _)))))))) (pss_one (ps_ret pe_bl)) pss_nil)
        (pss_cons (ps_for PassesOwn.never rfl (pi_str (pv 1)) (pg_name (i := 2) sc__law_number.nd rfl (.inl rfl))
        (pss_one (ps_if (pt_cmpR op_notIn_sign (pv 2) pe_str rfl) (pss_one (ps_ret pe_bl)) pss_nil)))
        (pss_one (ps_ret pe_bl)))))), ?_⟩
    have hz : x.length ≤ sizeLine := Nat.le_trans hx (by decide)
    have dig : ∀ c : Nat, decide (c ∈ (Str.ofString "0123456789").cps.toList) = decide (48 ≤ c ∧ c ≤ 57) := fun c => by
      have e : (Str.ofString "0123456789").cps.toList = [48, 49, 50, 51, 52, 53, 54, 55, 56, 57] := rfl
      rw [e, Bool.eq_iff_iff, decide_eq_true_eq, decide_eq_true_eq]
      simp only [List.mem_cons, List.not_mem_nil, or_false]
      omega
    refine ⟨_, rfl, ?_⟩
    have bad0 : isNum [45, 48] = false := by decide
    refine ⟨fun σ' H' => ∃ z : Str, σ' = [some (.str x), some (.str z), none] ∧ ((tl z = bodyL (tl x) ∧ tl x ≠ [45, 48]) ∨ (tl x = [45, 48] ∧ tl z = [45, 48])) ∧ z.length ≤ 600 ∧ H = H', ?_, fun σ' H' mm => ?_⟩
    · refine ⟨_, rfl, _, rfl, x, rfl, hz, rfl, _, rfl, ?_⟩
      rw [str_eq, tl_cut01, show tl (Str.ofString "-") = [45] from rfl, take_one]
      by_cases c : (tl x).head? = some 45
      · rw [decide_eq_true c]
        refine ⟨_, rfl, rfl, _, rfl, ?_⟩
        rw [str_eq, show tl (Str.ofString "-0") = [45, 48] from rfl]
        by_cases c2 : tl x = [45, 48]
        · rw [decide_eq_true c2]
          exact ⟨x, rfl, .inr ⟨c2, c2⟩, hx, rfl⟩
        · rw [decide_eq_false c2]
          refine ⟨_, rfl, _, rfl, x, rfl, hz, _, rfl, .inl ⟨?_, c2⟩, Nat.le_trans (cutS_length _ _ _) hx, rfl⟩
          rw [tl_cut1]
          unfold bodyL
          rw [if_pos c]
      · rw [decide_eq_false c]
        exact ⟨x, rfl, .inl ⟨(body_pos c).symm, fun e => c (by rw [e]; rfl)⟩, hx, rfl⟩
    obtain ⟨z, rfl, hz2, lz, rfl⟩ := mm
    have hzz : z.length ≤ sizeLine := Nat.le_trans lz (by decide)
    have hsz : z.cps.size = (tl z).length := by simp [tl]
    have zl : z.length = (tl z).length := len_tl z
    refine ⟨fun σ' H' => σ' = [some (.str x), some (.str z), none] ∧ H = H' ∧ tl z ≠ [] ∧ ((tl z = bodyL (tl x) ∧ (¬ (tl z).head? = some 48 ∨ tl x = [48])) ∨ (tl x = [45, 48] ∧ tl z = [45, 48])), ?_, fun σ' H' mm => ?_⟩
    · refine ⟨_, rfl, rfl, _, rfl, ?_⟩
      rw [str_eq, show tl (Str.ofString "") = [] from rfl]
      by_cases ze : tl z = []
      · rw [decide_eq_true ze]
        have : isNum (tl x) = false := by
          rcases hz2 with ⟨e, _⟩ | ⟨_, e⟩
          · unfold isNum dgL
            rw [← e, ze]
            rfl
          · rw [ze] at e
            cases e
        rw [this] at q
        exact q
      rw [decide_eq_false ze]
      cases ec : tl z with
      | nil => exact absurd ec ze
      | cons c r =>
        refine ⟨_, rfl, z, 0, c, rfl, rfl, hzz, at_zero ec, rfl, _, rfl, ?_⟩
        rw [str_eq, show tl (Str.ofString "0") = [48] from rfl, show tl (⟨#[c]⟩ : Str) = [c] from rfl]
        by_cases hc : c = 48
        · subst hc
          rw [decide_eq_true rfl]
          have tz : tl z = bodyL (tl x) ∧ tl x ≠ [45, 48] := by
            rcases hz2 with h | ⟨_, e⟩
            · exact h
            · rw [ec] at e
              cases e
          refine ⟨_, rfl, z, rfl, hzz, _, _, rfl, rfl, _, rfl, ite2 (fun cc => ?_) (fun cc => ?_)⟩
          · have l1 : (1 : Int) < (z.length : Int) := of_decide_eq_true cc
            have : isNum (tl x) = false := by
              unfold isNum
              rw [← tz.1, ec, decide_eq_false fun e => ?_]
              · show (_ && (false || !decide (some 48 = some 48))) = false
                simp
              · have hb : bodyL (tl x) = [48] := by rw [e]; rfl
                rw [← tz.1] at hb
                rw [zl, hb] at l1
                exact absurd l1 (by decide)
            rw [this] at q
            exact q
          · have l1 : ¬ (1 : Int) < (z.length : Int) := fun z => cc (decide_eq_true z)
            have hr0 : r = [] := by
              rw [zl, ec, List.length_cons] at l1
              exact List.length_eq_zero_iff.mp (by omega)
            have hx0 : tl x = [48] := by
              have e := tz.1
              rw [ec, hr0] at e
              unfold bodyL at e
              by_cases hm : (tl x).head? = some 45
              · rw [if_pos hm] at e
                cases ex : tl x with
                | nil => rw [ex] at hm; cases hm
                | cons d s =>
                  rw [ex] at hm e
                  obtain rfl : d = 45 := Option.some.inj hm
                  have e : [48] = s := e
                  exact absurd (by rw [ex, ← e]) tz.2
              · rw [if_neg hm] at e
                exact e.symm
            exact ⟨rfl, rfl, (fun e => nomatch e), .inl ⟨by rw [← ec]; exact tz.1, .inr hx0⟩⟩
        · rw [decide_eq_false fun e => hc (List.cons.inj e).1]
          refine ⟨rfl, rfl, (fun e => nomatch e), ?_⟩
          rcases hz2 with ⟨e, _⟩ | ⟨e1, e2⟩
          · exact .inl ⟨by rw [← ec]; exact e, .inl fun e => hc (Option.some.inj e)⟩
          · exact .inr ⟨e1, by rw [← ec]; exact e2⟩
    obtain ⟨rfl, rfl, ze, hfirst⟩ := mm
    refine ⟨_, rfl, z, rfl, for_it walk_str (fun i σ H' => (∃ y, σ = [some (.str x), some (.str z), y]) ∧ H' = H ∧ ∀ c ∈ (tl z).take i, 48 ≤ c ∧ c ≤ 57) ⟨⟨none, rfl⟩, rfl, fun c hc => nomatch hc⟩ (fun i σ H' _ _ => trivial) (fun i v σ H1 H2 hi pv y => ?_) fun σ H' pv => ?_⟩
    · obtain ⟨⟨y0, rfl⟩, rfl, ok⟩ := pv
      obtain ⟨rfl, c, hc, rfl⟩ := y
      have hc2 : (tl z)[i]? = some c := by
        show z.cps.toList[i]? = some c
        rw [Array.getElem?_toList]
        exact hc
      refine ⟨_, rfl, c, _, rfl, rfl, _, rfl, ?_⟩
      rw [dig c]
      by_cases d : 48 ≤ c ∧ c ≤ 57
      · rw [decide_eq_true d]
        refine ⟨⟨_, rfl⟩, rfl, fun e he => ?_⟩
        rw [List.take_add_one, hc2] at he
        rcases List.mem_append.mp he with he | he
        · exact ok e he
        · rw [List.mem_singleton.mp he]
          exact d
      · rw [decide_eq_false d]
        have : isNum (tl x) = false := by
          rcases hfirst with ⟨tz, _⟩ | ⟨e1, _⟩
          · unfold isNum
            have e : dgL (bodyL (tl x)) = false := by
              cases e2 : dgL (bodyL (tl x)) with
              | false => rfl
              | true => exact absurd ((dgL_all e2).2 c (by rw [← tz]; exact List.mem_of_getElem? hc2)) d
            rw [e]
            rfl
          · rw [e1]
            exact bad0
        rw [this] at q
        exact q
    · obtain ⟨⟨y0, rfl⟩, rfl, ok⟩ := pv
      rw [hsz, List.take_length] at ok
      rcases hfirst with ⟨tz, hfirst⟩ | ⟨_, e2⟩
      · have isn : isNum (tl x) = true := by
          unfold isNum
          rw [← tz, dgL_of ze ok, Bool.true_and]
          rcases hfirst with h | h
          · rw [decide_eq_false h]
            simp
          · rw [decide_eq_true h]
            rfl
        rw [isn] at q
        exact q
      · exact absurd (ok 45 (by rw [e2]; exact List.mem_cons_self)) (by decide)

end
/-- a line of two words -/
theorem rd_two {cnt : Str → Option Nat} (h1 : ∀ y k, cnt y = some k → k = 1) {l y z : Str} (h : wdsOf l = [y, z]) : rdL cnt l = if (cnt y).isSome = true ∧ isNum (tl z) = true then some (y, [numV z]) else none := by
  unfold rdL
  rw [h]
  show (match cnt y with
    | none => none
    | some k => if ([z].all fun z => isNum (tl z)) = true ∧ [z].length = k then some (y, [z].map numV) else none) = _
  cases e : cnt y with
  | none => rw [if_neg fun q => Bool.noConfusion q.1]
  | some k =>
    have hk := h1 y k e
    subst hk
    have ea : ([z].all fun z => isNum (tl z)) = isNum (tl z) := by rw [List.all_cons, List.all_nil, Bool.and_true]
    show (if ([z].all fun z => isNum (tl z)) = true ∧ 1 = 1 then some (y, [numV z]) else none) = _
    rw [ea]
    by_cases hn : isNum (tl z) = true
    · rw [if_pos ⟨hn, rfl⟩, if_pos ⟨rfl, hn⟩]
    · rw [if_neg fun q => hn q.1, if_neg fun q => hn q.2]
theorem rd_other {cnt : Str → Option Nat} (h1 : ∀ y k, cnt y = some k → k = 1) {l : Str} (h : (wdsOf l).length ≠ 2) : rdL cnt l = none := by
  unfold rdL
  cases e : wdsOf l with
  | nil => rfl
  | cons y r =>
    rw [e] at h
    show (match cnt y with
      | none => none
      | some k => if (r.all fun z => isNum (tl z)) = true ∧ r.length = k then some (y, r.map numV) else none) = none
    cases e2 : cnt y with
    | none => rfl
    | some k =>
      have hk := h1 y k e2
      subst hk
      show (if _ ∧ r.length = 1 then some (y, r.map numV) else none) = none
      rw [if_neg fun q => h (by rw [List.length_cons, q.2])]
theorem c0_one (y : Str) (k : Nat) (h : c0 y = some k) : k = 1 := by
  unfold c0 at h
  split at h
  · exact (Option.some.inj h).symm
  · cases h
theorem head_words {l : Str} {d : Str × List Int} (h : rdL c0 l = some d) : ∃ z, wdsOf l = [("lot" : Str), z] ∧ isNum (tl z) = true ∧ d.2.headD 0 = numV z := by
  by_cases h2 : (wdsOf l).length = 2
  · obtain ⟨y, z, hw⟩ : ∃ y z, wdsOf l = [y, z] := by
      match wdsOf l, h2 with
      | [y, z], _ => exact ⟨y, z, rfl⟩
    rw [rd_two c0_one hw] at h
    split at h
    · rename_i c
      cases h
      have hy : y = ("lot" : Str) := by
        have := c.1
        unfold c0 at this
        split at this
        · rename_i e
          exact e
        · cases this
      exact ⟨z, by rw [hw, hy], c.2, rfl⟩
    · cases h
  · rw [rd_other c0_one h2] at h
    cases h
theorem rd3_of {l a b c : Str} (h : wdsOf l = [a, b, c]) : rd3 l = if (isNum (tl a) && (isNum (tl b) && isNum (tl c))) = true then some (numV a, numV b, numV c) else none := by
  unfold rd3
  rw [h]
theorem rd3_no {l : Str} (h : (wdsOf l).length ≠ 3) : rd3 l = none := by
  unfold rd3
  split
  · rename_i a b c e
    rw [e] at h
    exact absurd rfl h
  · rfl
def one (x : Str) : Int := if isNum (tl x) = true then 1 else 0
theorem three (a b c : Str) : decide ([one a, one b, one c].sum = 3) = (isNum (tl a) && (isNum (tl b) && isNum (tl c))) := by
  unfold one
  cases isNum (tl a) <;> cases isNum (tl b) <;> cases isNum (tl c) <;> decide
section
variable {P : Program} {w : World} {K : PySem.W.Frag} {mg : Str → Option Value} {base : Heap}
/-- what _law_read finds in a text -/
structure Outc (K : PySem.W.Frag) (x : Str) (H : Hp) (Q : VK) : Prop where
  note : ∀ p, BadL (linesOf x) p → ∀ H' r, Same H H' → H' r = some (.tup [.str "note", .int ((p : Int) + 1)]) → Q (.ref r) H'
  neg : AllL (linesOf x) → pinsOf (linesOf x) < 0 → ∀ H' r, Same H H' → H' r = some (.tup [.str "pins", .int (pinsOf (linesOf x))]) → Q (.ref r) H'
  all : AllL (linesOf x) → 0 ≤ pinsOf (linesOf x) → (∀ t ∈ entsOf (linesOf x), Vld (pinsOf (linesOf x)) t) → ∀ H' r c cs, Same H H' → H' r = some (.tup [.str "lot", .int (pinsOf (linesOf x)), .ref c]) → Trip H' c cs → IsNorm (entsOf (linesOf x)) cs → Q (.ref r) H'
  bad : AllL (linesOf x) → 0 ≤ pinsOf (linesOf x) → ∀ k t, BadC (pinsOf (linesOf x)) (entsOf (linesOf x)) k → (entsOf (linesOf x))[k]? = some t → ∀ H' r b, Same H H' → H' r = some (.tup [.str "cord", .ref b]) → H' b = some (.tup (tv t)) → Q (.ref r) H'
def spOutc (K : PySem.W.Frag) : Sp := fun vs H Q _ => ∃ x : Str, vs = [.str x] ∧ Fit x ∧ Outc K x H Q
set_option maxHeartbeats 4000000 in
theorem ok_outc {f : Addr} {fd : FuncData} (F : Fun K "_law_read" "_law_read" s__law_read f fd) (T : Bi mg)
    {f_n : Addr} {d_n : FuncData} (D_n : Df K mg "_law_number" s__law_number ["_law_word"] f_n d_n) (G_n : FnOk P w K mg base CX0 1 f_n d_n ["_law_word"] spNumB)
    {f_no : Addr} {d_no : FuncData} (D_no : Df K mg "_law_norm" s__law_norm ["_law_triples"] f_no d_no) (G_no : FnOk P w K mg base CX0 1 f_no d_no ["_law_triples"] (spNorm K)) : FnOk P w K mg base CX0 2 f fd ["_law_note_here"] (spOutc K) := by
  refine F.ok sc__law_read (fun vs H Q E h => ?_) (fun cdv A outer s H vs Q E hr h => ?_)
  · obtain ⟨x, rfl, _⟩ := h
    rfl
  · obtain ⟨x, rfl, ⟨hx, hn, hl⟩, qn, qneg, qall, qbad⟩ := h
    refine ⟨_, (pss_cons (ps_set (i := 1) sc__law_read.nd rfl (.inl rfl) (pe_split (pv 0) pe_str))
        (pss_cons (ps_set (i := 2) sc__law_read.nd rfl (.inl rfl) (pe_lst pa_nil))
        (pss_cons (ps_for PassesOwn.never rfl (pi_range1 (by rfl) T.b_range (pa_cons (pe_callB call_len_seq (by rfl) T.b_len PySem.boot_len (pa_cons (pv 1) pa_nil)) pa_nil)) (pg_name (i := 3) sc__law_read.nd rfl (.inl rfl))
        (pss_cons (ps_set (i := 6) sc__law_read.nd rfl (.inl rfl) (pe_split (pe_ix (r := rIxL K) ix_list (pv 1) (pv 3) (fun _ _ => rfl)) pe_str))
        (pss_one (ps_if (pt_cmpR op_eq (pv 3) pe_int (nomark _)) (pss_one (ps_if (PW.pt (pw_or (pt_cmpR op_ne (pe_callB call_len_seq (by rfl) T.b_len PySem.boot_len (pa_cons (pv 6) pa_nil)) pe_int (nomark _)) (pw_or (pt_cmpR op_ne (pe_ix (r := rIxL K) ix_list (pv 6) pe_int (fun _ _ => rfl)) pe_str (nomark _)) (pw_or1 (pt_not (pt_val (pe_call G_n (hr.mono (by decide)) (by rfl) D_n.g D_n.F.kp D_n.b .nil pass0 (pa_cons (pe_ix (r := rIxL K) ix_list (pv 6) pe_int (fun _ _ => rfl)) pa_nil)))))))) (pss_one (ps_ret (pe_tup (pa_cons pe_str (pa_cons pe_int pa_nil))))) pss_nil)) (pss_cons (ps_if (PW.pt (pw_or (pt_cmpR op_ne (pe_callB call_len_seq (by rfl) T.b_len PySem.boot_len (pa_cons (pv 6) pa_nil)) pe_int (nomark _)) (pw_or1 (pt_cmpR op_ne (pe_callB (cr_sum rfl) (by rfl) T.b_sum (by decide +kernel) (pa_cons (pe_lc (own := [("_law_word", 7)]) (g := gName 7) (tt := tYes) rfl sc__law_read.nd (pi_list (pv 6)) (blkOk_by (own := [("_law_word", 7)]) (N := ["_law_note_here", "_law_lines", "_law_entries", "_law_k", "_law_pins_here", "_law_entry_here", "_law_words_here", "_law_word"]) (sc := defScope s__law_read) (by decide +kernel)) (fun _ _ _ _ _ => (pg_name (i := 7) sc__law_read.nd rfl (.inl rfl))) (fun _ _ _ _ _ => pts_nil) (fun _ _ _ _ _ => (pe_callTy call_int1 (by rfl) T.b_int (by decide +kernel) (pa_cons (pe_call G_n (hr.mono (by decide)) (by rfl) D_n.g D_n.F.kp D_n.b .nil pass0 (pa_cons (pv 7) pa_nil)) pa_nil)))) pa_nil)) pe_int (nomark _))))) (pss_one (ps_ret (pe_tup (pa_cons pe_str (pa_cons (pe_op op_add (pv 3) pe_int) pa_nil))))) pss_nil)
        (pss_one (ps_expr (pe_bm PySem.F.plainAttrs_list PySem.F.slot_list_append PySem.F.type_list_append mt_append (pv 2) (pa_cons (pe_tup (pa_cons (pe_callTy call_int_str (by rfl) T.b_int (by decide +kernel) (pa_cons (pe_ix (r := rIxL K) ix_list (pv 6) pe_int (fun _ _ => rfl)) pa_nil)) (pa_cons (pe_callTy call_int_str (by rfl) T.b_int (by decide +kernel) (pa_cons (pe_ix (r := rIxL K) ix_list (pv 6) pe_int (fun _ _ => rfl)) pa_nil)) (pa_cons (pe_callTy call_int_str (by rfl) T.b_int (by decide +kernel) (pa_cons (pe_ix (r := rIxL K) ix_list (pv 6) pe_int (fun _ _ => rfl)) pa_nil)) pa_nil)))) pa_nil)))))))))
        (pss_cons (ps_set (i := 4) sc__law_read.nd rfl (.inl rfl) (pe_callTy call_int_str (by rfl) T.b_int (by decide +kernel) (pa_cons (pe_ix (r := rIxL K) ix_list (pe_split (pe_ix (r := rIxL K) ix_list (pv 1) pe_int (fun _ _ => rfl)) pe_str) pe_int (fun _ _ => rfl)) pa_nil)))
        (pss_cons (ps_if (pt_cmpR op_lt (pv 4) pe_int (nomark _)) (pss_one (ps_ret (pe_tup (pa_cons pe_str (pa_cons (pv 4) pa_nil))))) pss_nil)
        (pss_cons (ps_for PassesOwn.never rfl (pi_list (pv 2)) (pg_name (i := 5) sc__law_read.nd rfl (.inl rfl))
        (pss_one (ps_if (PW.pt (pw_or (pt_not (pt_chain op_le op_lt pe_int (pe_ix (r := rIxT K) ix_tup (pv 5) pe_int (fun _ _ => rfl)) (pv 4))) (pw_or (pt_not (pt_chain op_le op_lt pe_int (pe_ix (r := rIxT K) ix_tup (pv 5) pe_int (fun _ _ => rfl)) (pv 4))) (pw_or (pt_cmpR op_eq (pe_ix (r := rIxT K) ix_tup (pv 5) pe_int (fun _ _ => rfl)) (pe_ix (r := rIxT K) ix_tup (pv 5) pe_int (fun _ _ => rfl)) (nomark _)) (pw_or1 (pt_cmpR op_lt (pe_ix (r := rIxT K) ix_tup (pv 5) pe_int (fun _ _ => rfl)) pe_int (nomark _))))))) (pss_one (ps_ret (pe_tup (pa_cons pe_str (pa_cons (pv 5) pa_nil))))) pss_nil)))
        (pss_one (ps_ret (pe_tup (pa_cons pe_str (pa_cons (pv 4) (pa_cons (pe_call G_no (hr.mono (by decide)) (by rfl) D_no.g D_no.F.kp D_no.b .nil pass0 (pa_cons (pv 2) pa_nil)) pa_nil)))))))))))), ?_⟩
    obtain ⟨ne, lx, lp⟩ := lines_facts x
    have hls : (Txt.split x "\n") = linesOf x := rfl
    unfold entsOf at qall qbad
    have lim : ∀ k, k ≤ 1000 → k ≤ sizeLine := fun k h => Nat.le_trans h (by decide)
    refine ⟨_, rfl, ⟨_, rfl⟩, x, _, rfl, rfl, rfl, Nat.le_trans (Nat.add_le_add_right hx 2) (by decide), fun a na => ?_⟩
    rw [hls]
    generalize linesOf x = ls at *
    have hpos : 0 < ls.length := List.length_pos_iff.mpr ne
    have s1 : Same H (upd H a (.lst (ls.map V.str))) := same_upd na
    have ea : (upd H a (.lst (ls.map V.str))) a = some (.lst (ls.map V.str)) := upd_same
    generalize upd H a (.lst (ls.map V.str)) = H1 at *
    refine ⟨by show 0 ≤ sizeLine; decide, fun r nr => ?_⟩
    have s2 := same_upd (o := .lst []) nr
    have hlen : ((ls.map V.str).length : Int) = (ls.length : Int) := by rw [List.length_map]
    refine ⟨_, rfl, a, _, rfl, .inl (.inl (.inl (s2 _ _ ea))), ((ls.length : Nat) : Int), congrArg (fun z => [V.int z]) hlen, by omega, by omega, for_range (lo := 0) (n := ls.length) (fun i σ H' => (∃ us y3 y6 y7, σ = [some (.str x), some (.ref a), some (.ref r), y3, none, none, y6, y7] ∧ H' r = some (.lst us) ∧ TrV H' us (esOf ls (i - 1))) ∧ Same H1 (hole H' r) ∧ ∀ q, q < i → okV ls q = true) ⟨⟨[], _, _, _, rfl, upd_same, .nil⟩, same_hole nr s2, fun q hq => absurd hq (Nat.not_lt_zero q)⟩ (fun i σ H' hi pv => ?_) (fun σ H' pv => ?_)⟩
    · obtain ⟨⟨us, y3, y6, y7, rfl, er, dt⟩, sm, good⟩ := pv
      rw [Int.zero_add]
      have s3 := unhole sm
      obtain ⟨l, hli⟩ : ∃ l, ls[i]? = some l := ⟨_, List.getElem?_eq_getElem hi⟩
      have hlm := hl l (List.mem_of_getElem? hli)
      obtain ⟨w0, wl, wp⟩ := wds_facts l
      have ati : atI (ls.map V.str) (i : Int) = some (.str l) := atI_nat (by rw [List.getElem?_map, hli]; rfl)
      refine ⟨_, rfl, _, rfl, a, _, _, _, rfl, rfl, .inl (.inl (s3 _ _ ea)), ati, ⟨_, rfl⟩, l, _, rfl, rfl, rfl, Nat.le_trans (Nat.add_le_add_right hlm 2) (by decide), fun b nb => ?_⟩
      rw [show Txt.split l (Str.ofString " ") = wdsOf l from rfl]
      have t1 := same_upd (o := .lst ((wdsOf l).map V.str)) nb
      have eb : upd H' b (.lst ((wdsOf l).map V.str)) b = some (.lst ((wdsOf l).map V.str)) := upd_same
      have er1 := t1 _ _ er
      have dt1 := dt.same t1
      have sm1 : Same H1 (hole (upd H' b (.lst ((wdsOf l).map V.str))) r) := same_hole nr (s3.trans t1)
      generalize upd H' b (.lst ((wdsOf l).map V.str)) = H2 at *
      have hB : SqL K H2 b ((wdsOf l).map V.str) := .inl (.inl eb)
      have S2 := s1.trans (unhole sm1)
      have bad : okV ls i = false → ∀ H' r', Same H2 H' → H' r' = some (.tup [.str "note", .int ((i : Int) + 1)]) → Q (.ref r') H' := fun z H' r' s e => qn i ⟨hi, z, good⟩ H' r' (S2.trans s) e
      refine ⟨_, rfl, rfl, _, rfl, ?_⟩
      cases i with
      | zero =>
        rw [show decide (V.int ((0 : Nat) : Int) = V.int 0) = true from decide_eq_true rfl]
        have ok0 : okV ls 0 = (rdL c0 l).isSome := by
          show (hdV ls).isSome = _
          unfold hdV
          rw [hli]
          show ((rdL c0 l).map fun d => d.2.headD 0).isSome = _
          rw [Option.isSome_map]
        refine ⟨_, rfl, b, _, rfl, .inl hB, rfl, _, rfl, ?_⟩
        rw [List.length_map]
        by_cases h2 : (wdsOf l).length = 2
        rotate_left
        · rw [show (!decide (V.int ((wdsOf l).length : Nat) = V.int 2)) = true by rw [decide_eq_false fun z => h2 (by have := V.int.inj z; omega)]; rfl]
          exact ⟨by show 2 ≤ sizeLine; decide, fun r2 nr2 => bad (by rw [ok0, rd_other c0_one h2]; rfl) _ r2 (same_upd nr2) upd_same⟩
        rw [show (!decide (V.int ((wdsOf l).length : Nat) = V.int 2)) = false by rw [h2]; rfl]
        obtain ⟨y, z, hw⟩ : ∃ y z, wdsOf l = [y, z] := by
          match wdsOf l, h2 with
          | [y, z], _ => exact ⟨y, z, rfl⟩
        rw [hw] at hB wp
        have lz := wp z (by simp)
        have r2e := rd_two c0_one hw
        refine ⟨_, rfl, b, _, _, _, rfl, rfl, hB, at_of (j := 0) rfl rfl, rfl, _, rfl, ?_⟩
        by_cases hy : y = ("lot" : Str)
        rotate_left
        · rw [show (!decide (V.str y = V.str (Str.ofString "lot"))) = true by rw [decide_eq_false fun z => hy (V.str.inj z)]; rfl]
          refine ⟨by show 2 ≤ sizeLine; decide, fun r2 nr2 => bad ?_ _ r2 (same_upd nr2) upd_same⟩
          rw [ok0, r2e, if_neg fun q => ?_]
          · rfl
          · have := q.1
            unfold c0 at this
            rw [if_neg hy] at this
            cases this
        rw [show (!decide (V.str y = V.str (Str.ofString "lot"))) = false by rw [hy, decide_eq_true rfl]; rfl]
        refine ⟨_, rfl, b, _, _, _, rfl, rfl, hB, at_of (j := 1) rfl rfl, z, rfl, by omega, _, rfl, ?_⟩
        cases hz : isNum (tl z) with
        | false => exact ⟨by show 2 ≤ sizeLine; decide, fun r2 nr2 => bad (by rw [ok0, r2e, if_neg fun q => by rw [hz] at q; cases q.2]; rfl) _ r2 (same_upd nr2) upd_same⟩
        | true =>
          refine ⟨⟨us, _, _, _, rfl, er1, dt1⟩, sm1, fun q hq => ?_⟩
          obtain rfl : q = 0 := by omega
          rw [ok0, r2e, if_pos ⟨by unfold c0; rw [if_pos hy]; rfl, hz⟩]
          rfl
      | succ i =>
        rw [show decide (V.int ((i + 1 : Nat) : Int) = V.int 0) = false from decide_eq_false fun z => by have := V.int.inj z; omega]
        have oki : okV ls (i + 1) = (rd3 l).isSome := by
          show (entV ls i).isSome = _
          unfold entV
          rw [hli]
          rfl
        have entl : entV ls i = rd3 l := by
          unfold entV
          rw [hli]
          rfl
        have bad2 : rd3 l = none → ∀ H' r', Same H2 H' → H' r' = some (.tup [.str "note", .int ((((i + 1 : Nat) : Int)) + 1)]) → Q (.ref r') H' := fun z => bad (by rw [oki, z]; rfl)
        refine ⟨_, rfl, b, _, rfl, .inl hB, rfl, _, rfl, ?_⟩
        rw [List.length_map]
        by_cases h3 : (wdsOf l).length = 3
        rotate_left
        · rw [show (!decide (V.int ((wdsOf l).length : Nat) = V.int 3)) = true by rw [decide_eq_false fun z => h3 (by have := V.int.inj z; omega)]; rfl]
          exact ⟨_, rfl, _, _, rfl, rfl, by show 2 ≤ sizeLine; decide, fun r2 nr2 => bad2 (rd3_no h3) _ r2 (same_upd nr2) upd_same⟩
        rw [show (!decide (V.int ((wdsOf l).length : Nat) = V.int 3)) = false by rw [h3]; rfl]
        obtain ⟨w1, w2, w3, hw⟩ : ∃ w1 w2 w3, wdsOf l = [w1, w2, w3] := by
          match wdsOf l, h3 with
          | [w1, w2, w3], _ => exact ⟨w1, w2, w3, rfl⟩
        rw [hw] at hB wp eb
        have l1 := wp w1 (by simp)
        have l2 := wp w2 (by simp)
        have l3 := wp w3 (by simp)
        have r3e := rd3_of hw
        refine ⟨_, rfl, b, rfl, ⟨_, hB⟩, fun M nM => lc_list (K := K) (a := b) (xs := [w1, w2, w3].map V.str) (fun j Hj => Hj = upd H2 M (.lst ((([w1, w2, w3].map one).take j).map V.int))) rfl (fun j Hj _ e => by rw [e]; exact (same_upd nM).seq hB) (fun j v Hj hv e => ?_) fun Hj e => ?_⟩
        · subst e
          obtain ⟨y, rfl, hy⟩ := str_at hv
          have ly := wp y (List.mem_of_getElem? hy)
          have jl : j < 3 := (List.getElem?_eq_some_iff.mp hy).1
          refine ⟨rfl, ?_⟩
          refine ⟨_, rfl, y, rfl, by omega, .inr ⟨_, rfl, _, upd_same, ?_, ?_⟩⟩
          · rw [List.length_map, List.length_take]
            exact Nat.lt_of_le_of_lt (Nat.min_le_left _ _) (small1000 (by omega))
          · rw [upd_upd, List.take_add_one, List.getElem?_map, hy, List.map_append]
            rfl
        subst e
        have sM := same_upd (o := .lst (([w1, w2, w3].map one).map V.int)) nM
        have eM : upd H2 M (.lst (([w1, w2, w3].map one).map V.int)) M = some (.lst (([w1, w2, w3].map one).map V.int)) := upd_same
        have hset : (upd H2 M (.lst ((([w1, w2, w3].map one).take (([w1, w2, w3].map V.str)).length).map V.int))) = upd H2 M (.lst (([w1, w2, w3].map one).map V.int)) := rfl
        rw [hset]
        clear hset
        have er2 := sM _ _ er1
        have dt2 := dt1.same sM
        have hB2 := sM.seq hB
        have sm2 : Same H1 (hole (upd H2 M (.lst (([w1, w2, w3].map one).map V.int))) r) := same_hole nr ((unhole sm1).trans sM)
        generalize upd H2 M (.lst (([w1, w2, w3].map one).map V.int)) = H3 at *
        refine ⟨M, _, rfl, .inl (.inl eM), rfl, _, rfl, ?_⟩
        rw [show (!decide (V.int ([w1, w2, w3].map one).sum = V.int 3)) = !(isNum (tl w1) && (isNum (tl w2) && isNum (tl w3))) by
          rw [← three]
          refine congrArg (fun z => !z) ?_
          rw [Bool.eq_iff_iff, decide_eq_true_eq, decide_eq_true_eq]
          exact ⟨fun z => V.int.inj z, fun z => congrArg V.int z⟩]
        cases hall : (isNum (tl w1) && (isNum (tl w2) && isNum (tl w3))) with
        | false =>
          rw [hall] at r3e
          exact ⟨_, rfl, _, _, rfl, rfl, by show 2 ≤ sizeLine; decide, fun r2 nr2 => bad2 r3e _ r2 (sM.trans (same_upd nr2)) upd_same⟩
        | true =>
          rw [hall] at r3e
          have r3s : rd3 l = some (numV w1, numV w2, numV w3) := r3e
          rw [Bool.and_eq_true, Bool.and_eq_true] at hall
          obtain ⟨n1, n2, n3⟩ := hall
          refine ⟨_, rfl, .inl ⟨rfl, _, .inl (.inl er2)⟩, _, rfl, b, _, _, _, rfl, rfl, hB2, at_of (j := 0) rfl rfl, w1, _, rfl, num_read n1 (by omega), by omega, _, rfl, b, _, _, _, rfl, rfl, hB2, at_of (j := 1) rfl rfl, w2, _, rfl, num_read n2 (by omega), by omega, _, rfl, b, _, _, _, rfl, rfl, hB2, at_of (j := 2) rfl rfl, w3, _, rfl, num_read n3 (by omega), by omega, by show 3 ≤ sizeLine; decide, fun e ne_ => ?_⟩
          have ue := same_upd (o := .tup [.int (numV w1), .int (numV w2), .int (numV w3)]) ne_
          have ner : e ≠ r := fun q => by rw [q, er2] at ne_; cases ne_
          refine ⟨r, _, _, rfl, rfl, ue _ _ er2, by rw [dt2.1, esOf_len]; exact small1000 (by omega), ⟨us ++ [.ref e], _, _, _, rfl, upd_same, ?_⟩, by rw [hole_upd]; exact same_hole nr ((unhole sm2).trans ue), fun q hq => ?_⟩
          · have dt4 : TrV (upd (upd H3 e (.tup [.int (numV w1), .int (numV w2), .int (numV w3)])) r (.lst (us ++ [.ref e]))) us (esOf ls i) := ⟨dt2.1, fun j d hd => by
              obtain ⟨c, e1, e2⟩ := dt2.2 j d hd
              refine ⟨c, e1, ?_⟩
              rw [upd_ne fun q => by rw [q, er2] at e2; cases e2]
              exact ue _ _ e2⟩
            show TrV _ _ (esOf ls (i + 1))
            rw [esOf_succ, entl, r3s]
            exact dt4.snoc (by rw [upd_ne ner]; exact upd_same)
          · by_cases hq2 : q = i + 1
            · rw [hq2, oki, r3s]
              rfl
            · exact good q (by omega)
    · obtain ⟨⟨us, y3, y6, y7, rfl, er, dt⟩, sm, good⟩ := pv
      have S0 := s1.trans (unhole sm)
      have al : AllL ls := good
      have ea' := unhole sm _ _ ea
      obtain ⟨l0, hl0⟩ : ∃ l0, ls[0]? = some l0 := ⟨_, List.getElem?_eq_getElem hpos⟩
      have hlm := hl l0 (List.mem_of_getElem? hl0)
      obtain ⟨w0, wl, wp⟩ := wds_facts l0
      obtain ⟨d0, hd0⟩ : ∃ d0, rdL c0 l0 = some d0 := by
        have h := good 0 hpos
        have e : (hdV ls).isSome = true := h
        unfold hdV at e
        rw [hl0] at e
        cases e2 : rdL c0 l0 with
        | none =>
          have e : ((rdL c0 l0).map fun d => d.2.headD 0).isSome = true := e
          rw [e2] at e
          cases e
        | some d => exact ⟨d, rfl⟩
      obtain ⟨z, hw, hz, hnz⟩ := head_words hd0
      have tp : pinsOf ls = numV z := by
        unfold pinsOf hdV
        rw [hl0]
        show (((rdL c0 l0).map fun d => d.2.headD 0)).getD 0 = _
        rw [hd0]
        exact hnz
      rw [tp] at qneg qall qbad
      have zl := wp z (by rw [hw]; simp)
      have rn := num_read hz (by omega)
      generalize numV z = n at *
      refine ⟨_, rfl, a, _, _, _, rfl, rfl, .inl (.inl ea'), at_of (j := 0) rfl (by rw [List.getElem?_map, hl0]; rfl), ⟨_, rfl⟩, l0, _, rfl, rfl, rfl, Nat.le_trans (Nat.add_le_add_right hlm 2) (by decide), fun b nb => ?_⟩
      rw [show Txt.split l0 (Str.ofString " ") = wdsOf l0 from rfl, hw]
      have t1 := same_upd (o := .lst (([("lot" : Str), z]).map V.str)) nb
      have eb : upd H' b (.lst (([("lot" : Str), z]).map V.str)) b = some (.lst (([("lot" : Str), z]).map V.str)) := upd_same
      have er1 := t1 _ _ er
      have dt1 := dt.same t1
      have S1 := S0.trans t1
      generalize upd H' b (.lst (([("lot" : Str), z]).map V.str)) = H2 at *
      refine ⟨b, _, _, _, rfl, rfl, .inl (.inl eb), at_of (j := 1) rfl rfl, z, n, rfl, rn, by omega, ?_⟩
      refine ⟨_, rfl, _, _, rfl, rfl, _, rfl, ite2 (fun c => ?_) (fun c => ?_)⟩
      · have neg : n < 0 := of_decide_eq_true c
        exact ⟨_, rfl, by show 2 ≤ sizeLine; decide, fun r2 nr2 => qneg al neg _ r2 (S1.trans (same_upd nr2)) upd_same⟩
      have n0 : 0 ≤ n := by
        have : ¬ n < 0 := fun z => c (decide_eq_true z)
        omega
      have hR : SqL K H2 r us := .inl (.inl er1)
      refine ⟨_, rfl, r, rfl, ⟨us, hR⟩, for_list (xs := us) (fun i σ H' => (∃ y5, σ = [some (.str x), some (.ref a), some (.ref r), y3, some (.int n), y5, y6, y7]) ∧ H' = H2 ∧ ∀ j t, j < i → (esOf ls (ls.length - 1))[j]? = some t → Vld n t) ⟨⟨_, rfl⟩, rfl, fun j t hj => absurd hj (Nat.not_lt_zero j)⟩ (fun i σ H' _ pv => by rw [pv.2.1]; exact hR) (fun i v σ H' hv pv => ?_) fun σ H' pv => ?_⟩
      · obtain ⟨⟨y5, rfl⟩, rfl, ok⟩ := pv
        obtain ⟨e, t, rfl, hti, ee⟩ := dt1.at_ hv
        have hT : SqT K H' e [.int t.1, .int t.2.1, .int t.2.2] := .inl (.inl ee)
        have refuse : ¬ Vld n t → (tRet (tTup (tCons (tC (.str (Str.ofString "cord"))) (tCons (tVar 5) tNil)))) { nx := fun _ H' => Q .non H', rt := Q } [some (.str x), some (.ref a), some (.ref r), y3, some (.int n), some (.ref e), y6, y7] H' := fun nv => by
          refine ⟨_, rfl, by show 2 ≤ sizeLine; decide, fun r2 nr2 => ?_⟩
          exact qbad al n0 i t ⟨⟨t, hti, nv⟩, ok⟩ hti _ r2 e (S1.trans (same_upd nr2)) upd_same (same_upd nr2 _ _ ee)
        refine ⟨_, rfl, e, _, _, _, rfl, rfl, hT, at_of (j := 0) rfl rfl, _, _, rfl, rfl, decide (0 ≤ t.1), rfl, ?_⟩
        by_cases h1 : 0 ≤ t.1
        rotate_left
        · rw [decide_eq_false h1]
          exact ⟨_, rfl, refuse fun v => h1 v.1⟩
        rw [decide_eq_true h1]
        refine ⟨_, rfl, _, _, rfl, rfl, _, rfl, ?_⟩
        by_cases h2 : t.1 < n
        rotate_left
        · rw [decide_eq_false h2]
          exact refuse fun v => h2 v.2.1
        rw [decide_eq_true h2]
        refine ⟨_, rfl, e, _, _, _, rfl, rfl, hT, at_of (j := 1) rfl rfl, _, _, rfl, rfl, decide (0 ≤ t.2.1), rfl, ?_⟩
        by_cases h3 : 0 ≤ t.2.1
        rotate_left
        · rw [decide_eq_false h3]
          exact ⟨_, rfl, refuse fun v => h3 v.2.2.1⟩
        rw [decide_eq_true h3]
        refine ⟨_, rfl, _, _, rfl, rfl, _, rfl, ?_⟩
        by_cases h4 : t.2.1 < n
        rotate_left
        · rw [decide_eq_false h4]
          exact refuse fun v => h4 v.2.2.2.1
        rw [decide_eq_true h4]
        refine ⟨_, rfl, e, _, _, _, rfl, rfl, hT, at_of (j := 0) rfl rfl, _, rfl, e, _, _, _, rfl, rfl, hT, at_of (j := 1) rfl rfl, rfl, _, rfl, ?_⟩
        by_cases h5 : t.1 = t.2.1
        · rw [decide_eq_true (congrArg V.int h5)]
          exact refuse fun v => v.2.2.2.2.1 h5
        rw [decide_eq_false fun z => h5 (V.int.inj z)]
        refine ⟨_, rfl, e, _, _, _, rfl, rfl, hT, at_of (j := 2) rfl rfl, _, _, rfl, rfl, _, rfl, ?_⟩
        by_cases h6 : t.2.2 < 1
        · rw [decide_eq_true h6]
          exact refuse fun v => by have := v.2.2.2.2.2; omega
        rw [decide_eq_false h6]
        refine ⟨⟨_, rfl⟩, rfl, fun j u hj hu => ?_⟩
        by_cases hji : j = i
        · rw [hji, hti] at hu
          cases hu
          exact ⟨h1, h2, h3, h4, h5, by omega⟩
        · exact ok j u (by omega) hu
      · obtain ⟨⟨y5, rfl⟩, rfl, ok⟩ := pv
        have vall : ∀ t ∈ esOf ls (ls.length - 1), Vld n t := fun t ht => by
          obtain ⟨i, hi⟩ := List.mem_iff_getElem?.mp ht
          have := (List.getElem?_eq_some_iff.mp hi).1
          exact ok i t (by rw [dt1.1]; exact this) hi
        refine ⟨_, rfl, _, rfl, r, us, _, rfl, .inl hR, dt1, by rw [esOf_len]; omega, fun H3 c2 cs s3 tc gn => ?_⟩
        refine ⟨by show 3 ≤ sizeLine; decide, fun r2 nr2 => ?_⟩
        have v2 := same_upd (o := .tup [.str "lot", .int n, .ref c2]) nr2
        exact qall al n0 vall _ r2 c2 cs ((S1.trans s3).trans v2) upd_same (tc.same v2) (gn.norm fun t ht => (vall t ht).2.2.2.2.2)

end
end Own

namespace Own
open PySem PySem.Spec PyProof.Rows L2 TL
section
variable {P : Program} {w : World} {K : PySem.W.Frag} {mg : Str → Option Value} {base : Heap}
def spHeads : Sp := fun vs H Q _ => ∃ n : Int, vs = [.int n] ∧ n.natAbs < 2 ^ 60 ∧ ∀ H' r (ys : List Str), Same H H' → H' r = some (.lst (ys.map V.str)) → ys.length = 31 → (∀ y ∈ ys, Pl 40 y) → Q (.ref r) H'
set_option maxHeartbeats 4000000 in
theorem ok_heads {f : Addr} {fd : FuncData} (F : Fun K "_law_heads" "_law_heads" s__law_heads f fd) (T : Bi mg) : FnOk P w K mg base CX0 1 f fd ["_law_pins_here"] spHeads := by
  refine F.ok sc__law_heads (fun vs H Q E h => ?_) (fun cdv A outer s H vs Q E hr h => ?_)
  · obtain ⟨n, rfl, _⟩ := h
    rfl
  · obtain ⟨n, rfl, hn, q⟩ := h
    refine ⟨_, (pss_cons (ps_set (i := 1) sc__law_heads.nd rfl (.inl rfl) (pe_callTy call_str_int (by rfl) T.b_str (by decide +kernel) (pa_cons (pv 0) pa_nil)))
        (pss_cons (ps_set (i := 2) sc__law_heads.nd rfl (.inl rfl) (pe_lst (pa_cons pe_str (pa_cons pe_str (pa_cons (pe_op op_add_str pe_str (pv 1)) (pa_cons (pe_op op_add_str pe_str (pv 1)) (pa_cons (pe_op op_add_str (pe_op op_add_str pe_str (pv 1)) pe_str) (pa_cons (pe_op op_add_str pe_str (pv 1)) (pa_cons (pe_op op_add_str (pe_op op_add_str pe_str (pv 1)) pe_str) (pa_cons (pe_op op_add_str (pe_op op_add_str pe_str (pv 1)) pe_str) pa_nil))))))))))
        (pss_cons (ps_set (i := 2) sc__law_heads.nd rfl (.inl rfl) (pe_op op_cat (pv 2) (pe_lst (pa_cons (pe_op op_add_str pe_str (pv 1)) (pa_cons pe_str (pa_cons (pe_op op_add_str pe_str (pv 1)) (pa_cons pe_str (pa_cons pe_str (pa_cons pe_str (pa_cons pe_str (pa_cons pe_str (pa_cons pe_str pa_nil))))))))))))
        (pss_cons (ps_set (i := 2) sc__law_heads.nd rfl (.inl rfl) (pe_op op_cat (pv 2) (pe_lst (pa_cons pe_str (pa_cons pe_str (pa_cons (pe_op op_add_str pe_str (pv 1)) (pa_cons (pe_op op_add_str pe_str (pv 1)) (pa_cons (pe_op op_add_str pe_str (pv 1)) (pa_cons (pe_op op_add_str pe_str (pv 1)) (pa_cons (pe_op op_add_str pe_str (pv 1)) (pa_cons (pe_op op_add_str pe_str (pv 1)) pa_nil)))))))))))
        (pss_one (ps_ret (pe_op op_cat (pv 2) (pe_lst (pa_cons (pe_op op_add_str (pv 1) pe_str) (pa_cons (pv 1) (pa_cons pe_str (pa_cons pe_str (pa_cons pe_str (pa_cons (pe_op op_add_str pe_str (pv 1)) pa_nil)))))))))))))), ?_⟩
    have lg : n.natAbs.log2 < 1920 := Nat.lt_of_lt_of_le (log_lt (k := 60) (by decide) hn) (by decide)
    have pp := pl_nt2 (i := n) (Nat.lt_of_lt_of_le hn (by decide))
    unfold nt at pp
    have lp := pp.1
    have lim : ∀ k, k ≤ 1000 → k ≤ sizeLine := fun k h => Nat.le_trans h (by decide)
    have c0 : (Str.ofString "lot").length = 3 := rfl
    have c1 : (Str.ofString "lot ").length = 4 := rfl
    have c2 : (Str.ofString " lot ").length = 5 := rfl
    have c3 : (Str.ofString "lot  ").length = 5 := rfl
    have c4 : (Str.ofString " ").length = 1 := rfl
    have c5 : (Str.ofString "lot\t").length = 4 := rfl
    have c6 : (Str.ofString "\t").length = 1 := rfl
    have c7 : (Str.ofString " 0").length = 2 := rfl
    have c8 : (Str.ofString "lot 0").length = 5 := rfl
    have c9 : (Str.ofString "lot -0").length = 6 := rfl
    have c10 : (Str.ofString "lot +").length = 5 := rfl
    have c11 : (Str.ofString "lot x").length = 5 := rfl
    have c12 : (Str.ofString "lot -").length = 5 := rfl
    have c13 : (Str.ofString "lot --1").length = 7 := rfl
    have c14 : (Str.ofString "lot 1-").length = 6 := rfl
    have c15 : (Str.ofString "lot -01").length = 7 := rfl
    have c16 : (Str.ofString "lot -1").length = 6 := rfl
    have c17 : (Str.ofString "lot 1.0").length = 7 := rfl
    have c18 : (Str.ofString "lot 1_0").length = 7 := rfl
    have c19 : (Str.ofString "Lot ").length = 4 := rfl
    have c20 : (Str.ofString "LOT ").length = 4 := rfl
    have c21 : (Str.ofString "lots ").length = 5 := rfl
    have c22 : (Str.ofString "lo ").length = 3 := rfl
    have c23 : (Str.ofString "board ").length = 6 := rfl
    have c24 : (Str.ofString "row ").length = 4 := rfl
    have c25 : (Str.ofString " lot").length = 4 := rfl
    have c26 : (Str.ofString "").length = 0 := rfl
    refine ⟨_, rfl, n, rfl, lg, _, rfl, _, _, rfl, rfl, (by first | (simp only [strLen_append]; exact lim _ (by omega)) | exact lim _ (by omega)), _, rfl, _, _, rfl, rfl, (by first | (simp only [strLen_append]; exact lim _ (by omega)) | exact lim _ (by omega)), _, rfl, _, _, rfl, rfl, (by first | (simp only [strLen_append]; exact lim _ (by omega)) | exact lim _ (by omega)), _, _, rfl, rfl, (by first | (simp only [strLen_append]; exact lim _ (by omega)) | exact lim _ (by omega)), _, rfl, _, _, rfl, rfl, (by first | (simp only [strLen_append]; exact lim _ (by omega)) | exact lim _ (by omega)), _, rfl, _, _, rfl, rfl, (by first | (simp only [strLen_append]; exact lim _ (by omega)) | exact lim _ (by omega)), _, _, rfl, rfl, (by first | (simp only [strLen_append]; exact lim _ (by omega)) | exact lim _ (by omega)), _, rfl, _, _, rfl, rfl, (by first | (simp only [strLen_append]; exact lim _ (by omega)) | exact lim _ (by omega)), _, _, rfl, rfl, (by first | (simp only [strLen_append]; exact lim _ (by omega)) | exact lim _ (by omega)), by show 8 ≤ sizeLine; decide, fun r1 nr1 => ?_⟩
    obtain ⟨y1, hy1⟩ : ∃ ys : List Str, ys = [Str.ofString "lot", Str.ofString "lot ", (Str.ofString " lot " ++ Str.ofString (toString n)), (Str.ofString "lot  " ++ Str.ofString (toString n)), ((Str.ofString "lot " ++ Str.ofString (toString n)) ++ Str.ofString " "), (Str.ofString "lot\t" ++ Str.ofString (toString n)), ((Str.ofString "lot " ++ Str.ofString (toString n)) ++ Str.ofString "\t"), ((Str.ofString "lot " ++ Str.ofString (toString n)) ++ Str.ofString " 0")] := ⟨_, rfl⟩
    have py1 : ∀ y ∈ y1, Pl (40) y := fun y hy => by
      rw [hy1] at hy
      simp only [List.mem_cons, List.not_mem_nil, or_false] at hy
      rcases hy with e | e | e | e | e | e | e | e <;> rw [e]
      · exact ((pl_of (n := 3) (by decide +kernel))).le (by omega)
      · exact ((pl_of (n := 4) (by decide +kernel))).le (by omega)
      · exact ((((pl_of (n := 5) (by decide +kernel))).app (pp))).le (by omega)
      · exact ((((pl_of (n := 5) (by decide +kernel))).app (pp))).le (by omega)
      · exact ((((((pl_of (n := 4) (by decide +kernel))).app (pp))).app ((pl_of (n := 1) (by decide +kernel))))).le (by omega)
      · exact ((((pl_of (n := 4) (by decide +kernel))).app (pp))).le (by omega)
      · exact ((((((pl_of (n := 4) (by decide +kernel))).app (pp))).app ((pl_of (n := 1) (by decide +kernel))))).le (by omega)
      · exact ((((((pl_of (n := 4) (by decide +kernel))).app (pp))).app ((pl_of (n := 2) (by decide +kernel))))).le (by omega)
    have ly1 : y1.length = 8 := by rw [hy1]; rfl
    generalize hgr1 : upd H r1 _ = H1
    have er1 : H1 r1 = some (.lst (y1.map V.str)) := by rw [← hgr1, upd_same, hy1]; rfl
    have sr1 : Same H H1 := by rw [← hgr1]; exact same_upd nr1
    clear hy1 hgr1
    refine ⟨_, rfl, _, rfl, _, _, rfl, rfl, (by first | (simp only [strLen_append]; exact lim _ (by omega)) | exact lim _ (by omega)), _, rfl, _, _, rfl, rfl, (by first | (simp only [strLen_append]; exact lim _ (by omega)) | exact lim _ (by omega)), by show 9 ≤ sizeLine; decide, fun r2 nr2 => ?_⟩
    obtain ⟨y2, hy2⟩ : ∃ ys : List Str, ys = [(Str.ofString "lot 0" ++ Str.ofString (toString n)), Str.ofString "lot -0", (Str.ofString "lot +" ++ Str.ofString (toString n)), Str.ofString "lot x", Str.ofString "lot -", Str.ofString "lot --1", Str.ofString "lot 1-", Str.ofString "lot -01", Str.ofString "lot -1"] := ⟨_, rfl⟩
    have py2 : ∀ y ∈ y2, Pl (40) y := fun y hy => by
      rw [hy2] at hy
      simp only [List.mem_cons, List.not_mem_nil, or_false] at hy
      rcases hy with e | e | e | e | e | e | e | e | e <;> rw [e]
      · exact ((((pl_of (n := 5) (by decide +kernel))).app (pp))).le (by omega)
      · exact ((pl_of (n := 6) (by decide +kernel))).le (by omega)
      · exact ((((pl_of (n := 5) (by decide +kernel))).app (pp))).le (by omega)
      · exact ((pl_of (n := 5) (by decide +kernel))).le (by omega)
      · exact ((pl_of (n := 5) (by decide +kernel))).le (by omega)
      · exact ((pl_of (n := 7) (by decide +kernel))).le (by omega)
      · exact ((pl_of (n := 6) (by decide +kernel))).le (by omega)
      · exact ((pl_of (n := 7) (by decide +kernel))).le (by omega)
      · exact ((pl_of (n := 6) (by decide +kernel))).le (by omega)
    have ly2 : y2.length = 9 := by rw [hy2]; rfl
    generalize hgr2 : upd H1 r2 _ = H2
    have er2 : H2 r2 = some (.lst (y2.map V.str)) := by rw [← hgr2, upd_same, hy2]; rfl
    have sr2 : Same H1 H2 := by rw [← hgr2]; exact same_upd nr2
    clear hy2 hgr2
    refine ⟨r1, r2, _, _, rfl, rfl, sr2 _ _ er1, er2, lim _ (by rw [List.length_map, List.length_map]; omega), fun r3 nr3 => ?_⟩
    obtain ⟨y3, hy3⟩ : ∃ ys : List Str, ys = y1 ++ y2 := ⟨_, rfl⟩
    have py3 : ∀ y ∈ y3, Pl (40) y := fun y hy => by
      rw [hy3] at hy
      exact (List.mem_append.mp hy).elim (py1 y) (py2 y)
    have ly3 : y3.length = y1.length + y2.length := by rw [hy3, List.length_append]
    generalize hgr3 : upd H2 r3 _ = H3
    have er3 : H3 r3 = some (.lst (y3.map V.str)) := by rw [← hgr3, upd_same, hy3, List.map_append]
    have sr3 : Same H2 H3 := by rw [← hgr3]; exact same_upd nr3
    clear hy3 hgr3
    refine ⟨_, rfl, _, rfl, _, _, rfl, rfl, (by first | (simp only [strLen_append]; exact lim _ (by omega)) | exact lim _ (by omega)), _, rfl, _, _, rfl, rfl, (by first | (simp only [strLen_append]; exact lim _ (by omega)) | exact lim _ (by omega)), _, rfl, _, _, rfl, rfl, (by first | (simp only [strLen_append]; exact lim _ (by omega)) | exact lim _ (by omega)), _, rfl, _, _, rfl, rfl, (by first | (simp only [strLen_append]; exact lim _ (by omega)) | exact lim _ (by omega)), _, rfl, _, _, rfl, rfl, (by first | (simp only [strLen_append]; exact lim _ (by omega)) | exact lim _ (by omega)), _, rfl, _, _, rfl, rfl, (by first | (simp only [strLen_append]; exact lim _ (by omega)) | exact lim _ (by omega)), by show 8 ≤ sizeLine; decide, fun r4 nr4 => ?_⟩
    obtain ⟨y4, hy4⟩ : ∃ ys : List Str, ys = [Str.ofString "lot 1.0", Str.ofString "lot 1_0", (Str.ofString "Lot " ++ Str.ofString (toString n)), (Str.ofString "LOT " ++ Str.ofString (toString n)), (Str.ofString "lots " ++ Str.ofString (toString n)), (Str.ofString "lo " ++ Str.ofString (toString n)), (Str.ofString "board " ++ Str.ofString (toString n)), (Str.ofString "row " ++ Str.ofString (toString n))] := ⟨_, rfl⟩
    have py4 : ∀ y ∈ y4, Pl (40) y := fun y hy => by
      rw [hy4] at hy
      simp only [List.mem_cons, List.not_mem_nil, or_false] at hy
      rcases hy with e | e | e | e | e | e | e | e <;> rw [e]
      · exact ((pl_of (n := 7) (by decide +kernel))).le (by omega)
      · exact ((pl_of (n := 7) (by decide +kernel))).le (by omega)
      · exact ((((pl_of (n := 4) (by decide +kernel))).app (pp))).le (by omega)
      · exact ((((pl_of (n := 4) (by decide +kernel))).app (pp))).le (by omega)
      · exact ((((pl_of (n := 5) (by decide +kernel))).app (pp))).le (by omega)
      · exact ((((pl_of (n := 3) (by decide +kernel))).app (pp))).le (by omega)
      · exact ((((pl_of (n := 6) (by decide +kernel))).app (pp))).le (by omega)
      · exact ((((pl_of (n := 4) (by decide +kernel))).app (pp))).le (by omega)
    have ly4 : y4.length = 8 := by rw [hy4]; rfl
    generalize hgr4 : upd H3 r4 _ = H4
    have er4 : H4 r4 = some (.lst (y4.map V.str)) := by rw [← hgr4, upd_same, hy4]; rfl
    have sr4 : Same H3 H4 := by rw [← hgr4]; exact same_upd nr4
    clear hy4 hgr4
    refine ⟨r3, r4, _, _, rfl, rfl, sr4 _ _ er3, er4, lim _ (by rw [List.length_map, List.length_map]; omega), fun r5 nr5 => ?_⟩
    obtain ⟨y5, hy5⟩ : ∃ ys : List Str, ys = y3 ++ y4 := ⟨_, rfl⟩
    have py5 : ∀ y ∈ y5, Pl (40) y := fun y hy => by
      rw [hy5] at hy
      exact (List.mem_append.mp hy).elim (py3 y) (py4 y)
    have ly5 : y5.length = y3.length + y4.length := by rw [hy5, List.length_append]
    generalize hgr5 : upd H4 r5 _ = H5
    have er5 : H5 r5 = some (.lst (y5.map V.str)) := by rw [← hgr5, upd_same, hy5, List.map_append]
    have sr5 : Same H4 H5 := by rw [← hgr5]; exact same_upd nr5
    clear hy5 hgr5
    refine ⟨_, rfl, _, rfl, _, _, rfl, rfl, (by first | (simp only [strLen_append]; exact lim _ (by omega)) | exact lim _ (by omega)), _, rfl, _, rfl, _, _, rfl, rfl, (by first | (simp only [strLen_append]; exact lim _ (by omega)) | exact lim _ (by omega)), by show 6 ≤ sizeLine; decide, fun r6 nr6 => ?_⟩
    obtain ⟨y6, hy6⟩ : ∃ ys : List Str, ys = [(Str.ofString (toString n) ++ Str.ofString " lot"), Str.ofString (toString n), Str.ofString "", Str.ofString " ", Str.ofString "lot 0", (Str.ofString "lot " ++ Str.ofString (toString n))] := ⟨_, rfl⟩
    have py6 : ∀ y ∈ y6, Pl (40) y := fun y hy => by
      rw [hy6] at hy
      simp only [List.mem_cons, List.not_mem_nil, or_false] at hy
      rcases hy with e | e | e | e | e | e <;> rw [e]
      · exact (((pp).app ((pl_of (n := 4) (by decide +kernel))))).le (by omega)
      · exact (pp).le (by omega)
      · exact ((pl_of (n := 0) (by decide +kernel))).le (by omega)
      · exact ((pl_of (n := 1) (by decide +kernel))).le (by omega)
      · exact ((pl_of (n := 5) (by decide +kernel))).le (by omega)
      · exact ((((pl_of (n := 4) (by decide +kernel))).app (pp))).le (by omega)
    have ly6 : y6.length = 6 := by rw [hy6]; rfl
    generalize hgr6 : upd H5 r6 _ = H6
    have er6 : H6 r6 = some (.lst (y6.map V.str)) := by rw [← hgr6, upd_same, hy6]; rfl
    have sr6 : Same H5 H6 := by rw [← hgr6]; exact same_upd nr6
    clear hy6 hgr6
    refine ⟨r5, r6, _, _, rfl, rfl, sr6 _ _ er5, er6, lim _ (by rw [List.length_map, List.length_map]; omega), fun r7 nr7 => ?_⟩
    obtain ⟨y7, hy7⟩ : ∃ ys : List Str, ys = y5 ++ y6 := ⟨_, rfl⟩
    have py7 : ∀ y ∈ y7, Pl (40) y := fun y hy => by
      rw [hy7] at hy
      exact (List.mem_append.mp hy).elim (py5 y) (py6 y)
    have ly7 : y7.length = y5.length + y6.length := by rw [hy7, List.length_append]
    generalize hgr7 : upd H6 r7 _ = H7
    have er7 : H7 r7 = some (.lst (y7.map V.str)) := by rw [← hgr7, upd_same, hy7, List.map_append]
    have sr7 : Same H6 H7 := by rw [← hgr7]; exact same_upd nr7
    clear hy7 hgr7
    exact q _ r7 y7 (sr1.trans (sr2.trans (sr3.trans (sr4.trans (sr5.trans (sr6.trans sr7)))))) er7 (by omega) py7

def spWds : Sp := fun vs H Q _ => ∃ (x : Str) (n : Nat), vs = [.str x] ∧ Pl n x ∧ n ≤ 500 ∧ ∀ H' r (ys : List Str), Same H H' → H' r = some (.lst (ys.map V.str)) → ys.length = 28 → (∀ y ∈ ys, Pl (n + 2 + 4) y) → Q (.ref r) H'
set_option maxHeartbeats 4000000 in
theorem ok_words28 {f : Addr} {fd : FuncData} (F : Fun K "_law_words" "_law_words" s__law_words f fd) (T : Bi mg) : FnOk P w K mg base CX0 1 f fd ["_law_word"] spWds := by
  refine F.ok sc__law_words (fun vs H Q E h => ?_) (fun cdv A outer s H vs Q E hr h => ?_)
  · obtain ⟨x, n, rfl, _⟩ := h
    rfl
  · obtain ⟨x, n, rfl, px, hn, q⟩ := h
    refine ⟨_, (pss_cons (ps_set (i := 1) sc__law_words.nd rfl (.inl rfl) (pe_lst (pa_cons pe_str (pa_cons pe_str (pa_cons pe_str (pa_cons pe_str (pa_cons pe_str (pa_cons pe_str (pa_cons pe_str (pa_cons pe_str (pa_cons pe_str (pa_cons pe_str (pa_cons pe_str (pa_cons pe_str (pa_cons pe_str (pa_cons pe_str (pa_cons pe_str (pa_cons pe_str (pa_cons pe_str pa_nil)))))))))))))))))))
        (pss_cons (ps_set (i := 1) sc__law_words.nd rfl (.inl rfl) (pe_op op_cat (pv 1) (pe_lst (pa_cons (pe_op op_add_str pe_str (pv 0)) (pa_cons (pe_op op_add_str pe_str (pv 0)) (pa_cons (pe_op op_add_str pe_str (pv 0)) (pa_cons (pe_op op_add_str pe_str (pv 0)) (pa_cons (pe_op op_add_str pe_str (pv 0)) (pa_cons (pe_op op_add_str (pv 0) pe_str) (pa_cons (pe_op op_add_str (pv 0) pe_str) (pa_cons (pe_op op_add_str (pv 0) pe_str) pa_nil)))))))))))
        (pss_one (ps_ret (pe_op op_cat (pv 1) (pe_lst (pa_cons (pe_op op_add_str (pv 0) pe_str) (pa_cons (pe_op op_add_str (pv 0) pe_str) (pa_cons (pe_op op_add_str pe_str (pv 0)) pa_nil))))))))), ?_⟩
    have lx := px.1
    have lim : ∀ k, k ≤ 1000 → k ≤ sizeLine := fun k h => Nat.le_trans h (by decide)
    have c0 : (Str.ofString "x").length = 1 := rfl
    have c1 : (Str.ofString "").length = 0 := rfl
    have c2 : (Str.ofString "-").length = 1 := rfl
    have c3 : (Str.ofString "--1").length = 3 := rfl
    have c4 : (Str.ofString "1-").length = 2 := rfl
    have c5 : (Str.ofString "1.0").length = 3 := rfl
    have c6 : (Str.ofString "0x1").length = 3 := rfl
    have c7 : (Str.ofString "1e3").length = 3 := rfl
    have c8 : (Str.ofString "1_0").length = 3 := rfl
    have c9 : (Str.ofString "+1").length = 2 := rfl
    have c10 : (Str.ofString "-0").length = 2 := rfl
    have c11 : (Str.ofString "00").length = 2 := rfl
    have c12 : (Str.ofString "-01").length = 3 := rfl
    have c13 : (Str.ofString "0").length = 1 := rfl
    have c14 : (Str.ofString "-1").length = 2 := rfl
    have c15 : (Str.ofString "lot").length = 3 := rfl
    have c16 : (Str.ofString "1,0").length = 3 := rfl
    have c17 : (Str.ofString "+").length = 1 := rfl
    have c18 : (Str.ofString "--").length = 2 := rfl
    have c19 : (Str.ofString ".").length = 1 := rfl
    have c20 : (Str.ofString "_").length = 1 := rfl
    have c21 : (Str.ofString "\t").length = 1 := rfl
    refine ⟨by show 17 ≤ sizeLine; decide, fun r1 nr1 => ?_⟩
    obtain ⟨y1, hy1⟩ : ∃ ys : List Str, ys = [Str.ofString "x", Str.ofString "", Str.ofString "-", Str.ofString "--1", Str.ofString "1-", Str.ofString "1.0", Str.ofString "0x1", Str.ofString "1e3", Str.ofString "1_0", Str.ofString "+1", Str.ofString "-0", Str.ofString "00", Str.ofString "-01", Str.ofString "0", Str.ofString "-1", Str.ofString "lot", Str.ofString "1,0"] := ⟨_, rfl⟩
    have py1 : ∀ y ∈ y1, Pl (n + 2 + 4) y := fun y hy => by
      rw [hy1] at hy
      simp only [List.mem_cons, List.not_mem_nil, or_false] at hy
      rcases hy with e | e | e | e | e | e | e | e | e | e | e | e | e | e | e | e | e <;> rw [e]
      · exact ((pl_of (n := 1) (by decide +kernel))).le (by omega)
      · exact ((pl_of (n := 0) (by decide +kernel))).le (by omega)
      · exact ((pl_of (n := 1) (by decide +kernel))).le (by omega)
      · exact ((pl_of (n := 3) (by decide +kernel))).le (by omega)
      · exact ((pl_of (n := 2) (by decide +kernel))).le (by omega)
      · exact ((pl_of (n := 3) (by decide +kernel))).le (by omega)
      · exact ((pl_of (n := 3) (by decide +kernel))).le (by omega)
      · exact ((pl_of (n := 3) (by decide +kernel))).le (by omega)
      · exact ((pl_of (n := 3) (by decide +kernel))).le (by omega)
      · exact ((pl_of (n := 2) (by decide +kernel))).le (by omega)
      · exact ((pl_of (n := 2) (by decide +kernel))).le (by omega)
      · exact ((pl_of (n := 2) (by decide +kernel))).le (by omega)
      · exact ((pl_of (n := 3) (by decide +kernel))).le (by omega)
      · exact ((pl_of (n := 1) (by decide +kernel))).le (by omega)
      · exact ((pl_of (n := 2) (by decide +kernel))).le (by omega)
      · exact ((pl_of (n := 3) (by decide +kernel))).le (by omega)
      · exact ((pl_of (n := 3) (by decide +kernel))).le (by omega)
    have ly1 : y1.length = 17 := by rw [hy1]; rfl
    generalize hgr1 : upd H r1 _ = H1
    have er1 : H1 r1 = some (.lst (y1.map V.str)) := by rw [← hgr1, upd_same, hy1]; rfl
    have sr1 : Same H H1 := by rw [← hgr1]; exact same_upd nr1
    clear hy1 hgr1
    refine ⟨_, rfl, _, rfl, _, _, rfl, rfl, (by first | (simp only [strLen_append]; exact lim _ (by omega)) | exact lim _ (by omega)), _, rfl, _, _, rfl, rfl, (by first | (simp only [strLen_append]; exact lim _ (by omega)) | exact lim _ (by omega)), _, rfl, _, _, rfl, rfl, (by first | (simp only [strLen_append]; exact lim _ (by omega)) | exact lim _ (by omega)), _, rfl, _, _, rfl, rfl, (by first | (simp only [strLen_append]; exact lim _ (by omega)) | exact lim _ (by omega)), _, rfl, _, _, rfl, rfl, (by first | (simp only [strLen_append]; exact lim _ (by omega)) | exact lim _ (by omega)), _, rfl, _, _, rfl, rfl, (by first | (simp only [strLen_append]; exact lim _ (by omega)) | exact lim _ (by omega)), _, rfl, _, _, rfl, rfl, (by first | (simp only [strLen_append]; exact lim _ (by omega)) | exact lim _ (by omega)), _, rfl, _, _, rfl, rfl, (by first | (simp only [strLen_append]; exact lim _ (by omega)) | exact lim _ (by omega)), by show 8 ≤ sizeLine; decide, fun r2 nr2 => ?_⟩
    obtain ⟨y2, hy2⟩ : ∃ ys : List Str, ys = [(Str.ofString "0" ++ x), (Str.ofString "-" ++ x), (Str.ofString "+" ++ x), (Str.ofString "--" ++ x), (Str.ofString "-0" ++ x), (x ++ Str.ofString "x"), (x ++ Str.ofString "."), (x ++ Str.ofString "_")] := ⟨_, rfl⟩
    have py2 : ∀ y ∈ y2, Pl (n + 2 + 4) y := fun y hy => by
      rw [hy2] at hy
      simp only [List.mem_cons, List.not_mem_nil, or_false] at hy
      rcases hy with e | e | e | e | e | e | e | e <;> rw [e]
      · exact ((((pl_of (n := 1) (by decide +kernel))).app (px))).le (by omega)
      · exact ((((pl_of (n := 1) (by decide +kernel))).app (px))).le (by omega)
      · exact ((((pl_of (n := 1) (by decide +kernel))).app (px))).le (by omega)
      · exact ((((pl_of (n := 2) (by decide +kernel))).app (px))).le (by omega)
      · exact ((((pl_of (n := 2) (by decide +kernel))).app (px))).le (by omega)
      · exact (((px).app ((pl_of (n := 1) (by decide +kernel))))).le (by omega)
      · exact (((px).app ((pl_of (n := 1) (by decide +kernel))))).le (by omega)
      · exact (((px).app ((pl_of (n := 1) (by decide +kernel))))).le (by omega)
    have ly2 : y2.length = 8 := by rw [hy2]; rfl
    generalize hgr2 : upd H1 r2 _ = H2
    have er2 : H2 r2 = some (.lst (y2.map V.str)) := by rw [← hgr2, upd_same, hy2]; rfl
    have sr2 : Same H1 H2 := by rw [← hgr2]; exact same_upd nr2
    clear hy2 hgr2
    refine ⟨r1, r2, _, _, rfl, rfl, sr2 _ _ er1, er2, lim _ (by rw [List.length_map, List.length_map]; omega), fun r3 nr3 => ?_⟩
    obtain ⟨y3, hy3⟩ : ∃ ys : List Str, ys = y1 ++ y2 := ⟨_, rfl⟩
    have py3 : ∀ y ∈ y3, Pl (n + 2 + 4) y := fun y hy => by
      rw [hy3] at hy
      exact (List.mem_append.mp hy).elim (py1 y) (py2 y)
    have ly3 : y3.length = y1.length + y2.length := by rw [hy3, List.length_append]
    generalize hgr3 : upd H2 r3 _ = H3
    have er3 : H3 r3 = some (.lst (y3.map V.str)) := by rw [← hgr3, upd_same, hy3, List.map_append]
    have sr3 : Same H2 H3 := by rw [← hgr3]; exact same_upd nr3
    clear hy3 hgr3
    refine ⟨_, rfl, _, rfl, _, _, rfl, rfl, (by first | (simp only [strLen_append]; exact lim _ (by omega)) | exact lim _ (by omega)), _, rfl, _, _, rfl, rfl, (by first | (simp only [strLen_append]; exact lim _ (by omega)) | exact lim _ (by omega)), _, rfl, _, _, rfl, rfl, (by first | (simp only [strLen_append]; exact lim _ (by omega)) | exact lim _ (by omega)), by show 3 ≤ sizeLine; decide, fun r4 nr4 => ?_⟩
    obtain ⟨y4, hy4⟩ : ∃ ys : List Str, ys = [(x ++ Str.ofString "-"), (x ++ Str.ofString "\t"), (Str.ofString "\t" ++ x)] := ⟨_, rfl⟩
    have py4 : ∀ y ∈ y4, Pl (n + 2 + 4) y := fun y hy => by
      rw [hy4] at hy
      simp only [List.mem_cons, List.not_mem_nil, or_false] at hy
      rcases hy with e | e | e <;> rw [e]
      · exact (((px).app ((pl_of (n := 1) (by decide +kernel))))).le (by omega)
      · exact (((px).app ((pl_of (n := 1) (by decide +kernel))))).le (by omega)
      · exact ((((pl_of (n := 1) (by decide +kernel))).app (px))).le (by omega)
    have ly4 : y4.length = 3 := by rw [hy4]; rfl
    generalize hgr4 : upd H3 r4 _ = H4
    have er4 : H4 r4 = some (.lst (y4.map V.str)) := by rw [← hgr4, upd_same, hy4]; rfl
    have sr4 : Same H3 H4 := by rw [← hgr4]; exact same_upd nr4
    clear hy4 hgr4
    refine ⟨r3, r4, _, _, rfl, rfl, sr4 _ _ er3, er4, lim _ (by rw [List.length_map, List.length_map]; omega), fun r5 nr5 => ?_⟩
    obtain ⟨y5, hy5⟩ : ∃ ys : List Str, ys = y3 ++ y4 := ⟨_, rfl⟩
    have py5 : ∀ y ∈ y5, Pl (n + 2 + 4) y := fun y hy => by
      rw [hy5] at hy
      exact (List.mem_append.mp hy).elim (py3 y) (py4 y)
    have ly5 : y5.length = y3.length + y4.length := by rw [hy5, List.length_append]
    generalize hgr5 : upd H4 r5 _ = H5
    have er5 : H5 r5 = some (.lst (y5.map V.str)) := by rw [← hgr5, upd_same, hy5, List.map_append]
    have sr5 : Same H4 H5 := by rw [← hgr5]; exact same_upd nr5
    clear hy5 hgr5
    exact q _ r5 y5 (sr1.trans (sr2.trans (sr3.trans (sr4.trans sr5)))) er5 (by omega) py5

end
end Own

namespace Own
open PySem PySem.Spec PyProof.Rows L2 TL
/-! ### the lengths of joined words -/
def lens (ws : List Str) : Nat := (ws.map fun z => z.length + 1).sum
theorem lens_app (a b : List Str) : lens (a ++ b) = lens a + lens b := by
  unfold lens
  rw [List.map_append, List.sum_append]
theorem lens_cons (z : Str) (r : List Str) : lens (z :: r) = z.length + 1 + lens r := by
  unfold lens
  rw [List.map_cons, List.sum_cons]
theorem joinL_lens : ∀ ls : List Str, ls ≠ [] → (joinL [32] (ls.map tl)).length + 1 = lens ls
  | [], h => absurd rfl h
  | [a], _ => by
    show (tl a).length + 1 = _
    rw [← len_tl, lens_cons]
    rfl
  | a :: b :: r, _ => by
    have ih := joinL_lens (b :: r) (fun e => nomatch e)
    rw [lens_cons, ← ih]
    show (tl a ++ ([32] ++ joinL [32] ((b :: r).map tl))).length + 1 = _
    rw [List.length_append, List.length_append, ← len_tl]
    show a.length + (1 + _) + 1 = _
    omega
theorem join_lens (ws : List Str) : (Txt.join " " ws).length ≤ lens ws - 1 := by
  rw [join_eq, len_tl, tl_join]
  show (joinL [32] (ws.map tl)).length ≤ _
  by_cases h : ws = []
  · rw [h]
    exact Nat.zero_le _
  · have := joinL_lens ws h
    omega
theorem joinL_mem (S : List Nat) : ∀ ls : List (List Nat), ∀ c ∈ joinL S ls, c ∈ S ∨ ∃ l ∈ ls, c ∈ l
  | [], c, h => nomatch h
  | [a], c, h => .inr ⟨a, List.mem_cons_self, h⟩
  | a :: b :: r, c, h => by
    have h : c ∈ a ++ (S ++ joinL S (b :: r)) := h
    rcases List.mem_append.mp h with h | h
    · exact .inr ⟨a, List.mem_cons_self, h⟩
    · rcases List.mem_append.mp h with h | h
      · exact .inl h
      · rcases joinL_mem S (b :: r) c h with h | ⟨l, hl, hc⟩
        · exact .inl h
        · exact .inr ⟨l, List.mem_cons_of_mem _ hl, hc⟩
theorem pl_join {n N : Nat} {ws : List Str} (h : ∀ z ∈ ws, Pl n z) (l : lens ws ≤ N + 1) : Pl N (Txt.join " " ws) := by
  refine ⟨by have := join_lens ws; omega, fun c hc => ?_⟩
  rw [join_eq, tl_join] at hc
  rcases joinL_mem _ _ c hc with h1 | ⟨l, hl, h1⟩
  · have : c ∈ [32] := h1
    rw [List.mem_singleton.mp this]
    decide
  · obtain ⟨z, hz, rfl⟩ := List.mem_map.mp hl
    exact (h z hz).2 c h1
theorem wds_lens (x : Str) : lens (wdsOf x) = x.length + 1 := by
  have h := joinL_lens (wdsOf x) (wds_facts x).1
  rw [← h, ← show tl (Txt.join " " (wdsOf x)) = joinL [32] ((wdsOf x).map tl) by rw [join_eq, tl_join]; rfl, join_wds, ← len_tl]
theorem cutG_to {ls : List Str} {k : Nat} : cutG ls none (some (k : Int)) = ls.take k := by
  unfold cutG
  rw [show HT.sIx ls.length ls.length (some (k : Int)) = min k ls.length from HT.sIx_nat _ _ k, show HT.sIx ls.length 0 none = 0 from rfl, List.drop_zero, Nat.sub_zero]
  by_cases h : k ≤ ls.length
  · rw [Nat.min_eq_left h]
  · rw [Nat.min_eq_right (by omega), List.take_of_length_le (Nat.le_refl _), List.take_of_length_le (by omega)]
theorem cutG_of {ls : List Str} {k : Nat} : cutG ls (some (k : Int)) none = ls.drop k := by
  unfold cutG
  rw [show HT.sIx ls.length 0 (some (k : Int)) = min k ls.length from HT.sIx_nat _ _ k, HT.sIx_none]
  by_cases h : k ≤ ls.length
  · rw [Nat.min_eq_left h, List.take_of_length_le (by rw [List.length_drop]; exact Nat.le_refl _)]
  · rw [Nat.min_eq_right (by omega), Nat.sub_self, List.take_zero, List.drop_of_length_le (by omega)]
theorem lens_split {ws : List Str} {k : Nat} {z : Str} (h : ws[k]? = some z) : lens (ws.take k) + (z.length + 1) + lens (ws.drop (k + 1)) = lens ws := by
  obtain ⟨hk, e⟩ := List.getElem?_eq_some_iff.mp h
  have : ws = ws.take k ++ z :: ws.drop (k + 1) := by
    rw [← e, ← List.drop_eq_getElem_cons hk, List.take_append_drop]
  conv => rhs; rw [this]
  rw [lens_app, lens_cons]
  omega
theorem lens_parts {ws : List Str} {k : Nat} : lens (ws.take k) + lens (ws.drop k) = lens ws := by
  rw [← lens_app, List.take_append_drop]
section
variable {P : Program} {w : World} {K : PySem.W.Frag} {mg : Str → Option Value} {base : Heap}
def spForms : Sp := fun vs H Q _ => ∃ (x : Str) (m : Int) (n : Nat), vs = [.str x, .int m] ∧ Pl n x ∧ n ≤ 250 ∧ ∀ H' r (ys : List Str), Same H H' → H' r = some (.lst (ys.map V.str)) → ys.length = 41 → (∀ y ∈ ys, Pl (2 * n + 7) y) → Q (.ref r) H'
set_option maxHeartbeats 4000000 in
theorem ok_forms {f : Addr} {fd : FuncData} (F : Fun K "_law_forms" "_law_forms" s__law_forms f fd) (T : Bi mg)
    {f_w : Addr} {d_w : FuncData} (D_w : Df K mg "_law_words" s__law_words ["_law_word"] f_w d_w) (G_w : FnOk P w K mg base CX0 1 f_w d_w ["_law_word"] spWds) : FnOk P w K mg base CX0 2 f fd ["_law_line", "_law_at"] spForms := by
  refine F.ok sc__law_forms (fun vs H Q E h => ?_) (fun cdv A outer s H vs Q E hr h => ?_)
  · obtain ⟨x, m, n, rfl, _⟩ := h
    rfl
  · obtain ⟨x, m, n, rfl, px, hn, q⟩ := h
    refine ⟨_, (pss_cons (ps_set (i := 2) sc__law_forms.nd rfl (.inr rfl) (pe_split (pv 0) pe_str))
        (pss_cons (ps_set (i := 3) sc__law_forms.nd rfl (.inr rfl) (pe_op op_modN (pe_callTy call_int1 (by rfl) T.b_int (by decide +kernel) (pa_cons (pv 1) pa_nil)) (pe_callB call_len_seq (by rfl) T.b_len PySem.boot_len (pa_cons (pv 2) pa_nil))))
        (pss_cons (ps_setLc (i := 4) (own := [("_law_word", 5)]) (g := gName 5) (tt := tYes) rfl sc__law_forms.nd rfl rfl (sw_true rfl rfl rfl (by decide +kernel)) (pi_list (pe_call G_w (hr.mono (by decide)) (by rfl) D_w.g D_w.F.kp D_w.b .nil pass0 (pa_cons (pe_ix (r := rIxL K) ix_list (pv 2) (pv 3) (fun _ _ => rfl)) pa_nil))) (blkOk_by (own := [("_law_word", 5)]) (N := ["_law_line", "_law_at", "_law_words_here", "_law_w", "_law_forms_here", "_law_word"]) (sc := defScope s__law_forms) (by decide +kernel)) (fun _ _ _ _ _ => (pg_name (i := 5) sc__law_forms.nd rfl (.inl rfl))) (fun _ _ _ _ _ => pts_nil) (fun _ _ _ _ _ => (pe_asJ (K := K) rfl (pe_join pe_str (pe_op op_cat (pe_op op_cat (pe_slice (sl_listK (K := K) rfl) (pv 2) po_none (po_some (pv 3))) (pe_lst (pa_cons (pv 5) pa_nil))) (pe_slice (sl_listK (K := K) rfl) (pv 2) (po_some (pe_op op_add (pv 3) pe_int)) po_none))))))
        (pss_cons (ps_set (i := 4) sc__law_forms.nd rfl (.inl rfl) (pe_op op_cat (pv 4) (pe_lst (pa_cons (pe_op op_add_str (pv 0) pe_str) (pa_cons (pe_op op_add_str pe_str (pv 0)) (pa_cons (pe_op op_add_str (pv 0) pe_str) (pa_cons (pe_op op_add_str pe_str (pv 0)) (pa_cons (pe_op op_add_str (pv 0) pe_str) (pa_cons (pe_op op_add_str (pv 0) pe_str) (pa_cons (pe_op op_add_str (pe_op op_add_str (pv 0) pe_str) (pv 0)) pa_nil))))))))))
        (pss_cons (ps_set (i := 4) sc__law_forms.nd rfl (.inl rfl) (pe_op op_cat (pv 4) (pe_lst (pa_cons (pe_asJ (K := K) rfl (pe_join pe_str (pe_op op_cat (pe_op op_cat (pe_slice (sl_listK (K := K) rfl) (pv 2) po_none (po_some (pv 3))) (pe_lst (pa_cons pe_str pa_nil))) (pe_slice (sl_listK (K := K) rfl) (pv 2) (po_some (pv 3)) po_none)))) (pa_cons (pe_asJ (K := K) rfl (pe_join pe_str (pe_op op_cat (pe_slice (sl_listK (K := K) rfl) (pv 2) po_none (po_some (pv 3))) (pe_slice (sl_listK (K := K) rfl) (pv 2) (po_some (pe_op op_add (pv 3) pe_int)) po_none)))) (pa_cons (pe_ix (r := rIxL K) ix_list (pv 2) (pv 3) (fun _ _ => rfl)) (pa_cons pe_str (pa_cons pe_str pa_nil))))))))
        (pss_one (ps_ret (pe_op op_cat (pv 4) (pe_lst (pa_cons (pe_op op_add_str (pe_op op_add_str (pe_asJ (K := K) rfl (pe_join pe_str (pe_slice (sl_listK (K := K) rfl) (pv 2) po_none (po_some (pv 3))))) pe_str) (pe_asJ (K := K) rfl (pe_join pe_str (pe_slice (sl_listK (K := K) rfl) (pv 2) (po_some (pv 3)) po_none)))) pa_nil)))))))))), ?_⟩
    obtain ⟨w0, wl, wp⟩ := wds_facts x
    have lx := px.1
    have lim : ∀ k, k ≤ 20000 → k ≤ sizeLine := fun k h => Nat.le_trans h (by decide)
    refine ⟨_, rfl, ⟨_, rfl⟩, x, _, rfl, rfl, rfl, lim _ (by omega), fun a na => ?_⟩
    rw [show Txt.split x (Str.ofString " ") = wdsOf x from rfl]
    have lw := wds_lens x
    have pw := wds_pl px
    generalize wdsOf x = ws at *
    have s1 : Same H (upd H a (.lst (ws.map V.str))) := same_upd na
    have ea : upd H a (.lst (ws.map V.str)) a = some (.lst (ws.map V.str)) := upd_same
    generalize upd H a (.lst (ws.map V.str)) = H1 at *
    have hpos : 0 < ws.length := List.length_pos_iff.mpr w0
    have lws : ws.length ≤ 251 := by omega
    obtain ⟨k, hk, kl⟩ : ∃ k : Nat, m.fmod ((ws.map V.str).length : Nat) = (k : Int) ∧ k < ws.length := by
      have := fmod_in m (n := ((ws.map V.str).length : Nat)) (by rw [List.length_map]; omega)
      rw [List.length_map] at this ⊢
      exact ⟨(m.fmod (ws.length : Nat)).toNat, by omega, by omega⟩
    refine ⟨_, rfl, .inl ⟨_, rfl, _, rfl, a, _, rfl, .inl (.inl (.inl ea)), _, _, rfl, rfl, by rw [List.length_map]; omega, ?_⟩⟩
    dsimp only
    rw [hk]
    clear hk
    obtain ⟨z, hz⟩ : ∃ z, ws[k]? = some z := ⟨_, List.getElem?_eq_getElem kl⟩
    have pz0 := pw z (List.mem_of_getElem? hz)
    have lz := lens_split hz
    have lp := lens_parts (ws := ws) (k := k)
    have atz : atI (ws.map V.str) (k : Int) = some (.str z) := atI_nat (by rw [List.getElem?_map, hz]; rfl)
    have pt : ∀ (v : Str) (j : Nat), v ∈ ws.take j → v ∈ ws := fun v j h => List.mem_of_mem_take h
    have pd : ∀ (v : Str) (j : Nat), v ∈ ws.drop j → v ∈ ws := fun v j h => List.mem_of_mem_drop h
    have wfew : ∀ {zs : List Str}, (∀ y ∈ zs, Pl 500 y) → zs.length ≤ 260 → (zs.map (·.length)).sum + zs.length * (Str.ofString " ").length ≤ 16777216 := fun h hl => join_few h (by decide) (by omega)
    have pzm : Pl z.length z := ⟨Nat.le_refl _, pz0.2⟩
    refine ⟨_, rfl, _, rfl, a, _, _, _, rfl, rfl, .inl (.inl ea), atz, z, z.length, rfl, pzm, by have := pz0.1; omega, fun H2 r qs s2 er lq pq => ?_⟩
    have ea2 := s2 _ _ ea
    refine ⟨r, rfl, ⟨_, .inl (.inl er)⟩, fun M nM => lc_list (K := K) (a := r) (xs := qs.map V.str) (fun i Hi => ∃ (ps : List Str) (Hc : Hp), (ps.length = i ∧ ∀ p ∈ ps, Pl (2 * n + 7) p) ∧ Same H2 Hc ∧ Hc M = none ∧ Hi = upd Hc M (.lst (ps.map V.str))) ⟨[], H2, ⟨rfl, fun p h => nomatch h⟩, Same.refl _, nM, rfl⟩ (fun i Hi _ pv => ?_) (fun i v Hi hv pv => ?_) fun Hi pv => ?_⟩
    · obtain ⟨ps, Hc, _, sc, nc, rfl⟩ := pv
      exact .inl (.inl ((sc.trans (same_upd nc)) _ _ er))
    · obtain ⟨ps, Hc, ⟨lps, pp⟩, sc, nc, rfl⟩ := pv
      obtain ⟨y, rfl, hy⟩ := str_at hv
      have py := pq y (List.mem_of_getElem? hy)
      have ly := py.1
      have sM := same_upd (o := .lst (ps.map V.str)) nc
      have sH := sc.trans sM
      have eMM : upd Hc M (.lst (ps.map V.str)) M = some (.lst (ps.map V.str)) := upd_same
      generalize upd Hc M (.lst (ps.map V.str)) = Hi at *
      have eai := sH _ _ ea2
      have elm : Pl (2 * n + 7) (Txt.join (Str.ofString " ") ((ws.take k ++ [y]) ++ ws.drop (k + 1))) := by
        refine pl_join (n := n + 6) (fun v hv => ?_) ?_
        · rcases List.mem_append.mp hv with h | h
          · rcases List.mem_append.mp h with h | h
            · exact (pw v (pt v k h)).le (by omega)
            · rw [List.mem_singleton.mp h]
              exact py.le (by have := pz0.1; omega)
          · exact (pw v (pd v _ h)).le (by omega)
        · rw [lens_app, lens_app, lens_cons]
          show lens (ws.take k) + (y.length + 1 + 0) + lens (ws.drop (k + 1)) ≤ _
          omega
      have elf : ∀ v ∈ ((ws.take k ++ [y]) ++ ws.drop (k + 1)), Pl 500 v := fun v hv => by
        rcases List.mem_append.mp hv with h | h
        · rcases List.mem_append.mp h with h | h
          · exact (pw v (pt v k h)).le (by omega)
          · rw [List.mem_singleton.mp h]
            exact py.le (by have := pz0.1; omega)
        · exact (pw v (pd v _ h)).le (by omega)
      refine ⟨rfl, ?_⟩
      refine ⟨⟨_, rfl⟩, _, rfl, _, rfl, _, rfl, a, _, rfl, .inl (.inl eai), fun pa npa => ?_⟩
      rw [cut_map, cutG_to]
      generalize hgt1 : upd Hi pa _ = tG1
      have epa : tG1 pa = some (.lst ((ws.take k).map V.str)) := by rw [← hgt1, upd_same]
      have tu1 : Same Hi tG1 := by rw [← hgt1]; exact same_upd npa
      clear hgt1
      refine ⟨_, rfl, by show 1 ≤ sizeLine; decide, fun pb npb => ?_⟩
      generalize hgt2 : upd tG1 pb _ = tG2
      have epb : tG2 pb = some (.lst ([y].map V.str)) := by rw [← hgt2, upd_same]; rfl
      have tu2 : Same tG1 tG2 := by rw [← hgt2]; exact same_upd npb
      clear hgt2
      refine ⟨pa, pb, _, _, rfl, rfl, (tu2 _ _ epa), epb, lim _ (by simp only [List.length_append, List.length_map, List.length_cons, List.length_nil, List.length_take, List.length_drop]; omega), fun pc npc => ?_⟩
      generalize hgt3 : upd tG2 pc _ = tG3
      have epc : tG3 pc = some (.lst ((ws.take k ++ [y]).map V.str)) := by rw [← hgt3, upd_same]; simp only [List.map_append]
      have tu3 : Same tG2 tG3 := by rw [← hgt3]; exact same_upd npc
      clear hgt3
      refine ⟨_, rfl, _, rfl, _, _, rfl, rfl, _, rfl, a, _, rfl, .inl (.inl ((tu1.trans (tu2.trans tu3)) _ _ eai)), fun pd npd => ?_⟩
      rw [cut_map, show ((k : Int) + 1) = ((k + 1 : Nat) : Int) by omega, cutG_of]
      generalize hgt4 : upd tG3 pd _ = tG4
      have epd : tG4 pd = some (.lst ((ws.drop (k + 1)).map V.str)) := by rw [← hgt4, upd_same]
      have tu4 : Same tG3 tG4 := by rw [← hgt4]; exact same_upd npd
      clear hgt4
      refine ⟨pc, pd, _, _, rfl, rfl, (tu4 _ _ epc), epd, lim _ (by simp only [List.length_append, List.length_map, List.length_cons, List.length_nil, List.length_take, List.length_drop]; omega), fun pe npe => ?_⟩
      generalize hgt5 : upd tG4 pe _ = tG5
      have epe : tG5 pe = some (.lst (((ws.take k ++ [y]) ++ (ws.drop (k + 1))).map V.str)) := by rw [← hgt5, upd_same]; simp only [List.map_append]
      have tu5 : Same tG4 tG5 := by rw [← hgt5]; exact same_upd npe
      clear hgt5
      refine ⟨_, pe, _, rfl, rfl, .inl (.inl (.inl epe)), wfew elf (by simp only [List.length_append, List.length_cons, List.length_nil, List.length_take, List.length_drop]; omega), ?_⟩
      have li : i < 28 := by
        have := (List.getElem?_eq_some_iff.mp hy).1
        omega
      refine ⟨_, (tu1.trans (tu2.trans (tu3.trans (tu4.trans tu5)))) _ _ eMM, by rw [List.length_map]; exact small1000 (by omega), ps ++ [Txt.join (Str.ofString " ") ((ws.take k ++ [y]) ++ ws.drop (k + 1))], hole tG5 M, ⟨by rw [List.length_append, lps]; rfl, fun v hv => ?_⟩, same_hole nM (sH.trans (tu1.trans (tu2.trans (tu3.trans (tu4.trans tu5))))), hole_at, ?_⟩
      · rcases List.mem_append.mp hv with h | h
        · exact pp v h
        · rw [List.mem_singleton.mp h]
          exact elm
      · rw [upd_hole, List.map_append]
        rfl
    · obtain ⟨ps, Hc, ⟨lps, pps⟩, sc, nc, rfl⟩ := pv
      rw [List.length_map, lq] at lps
      have S4 := s1.trans (s2.trans (sc.trans (same_upd (o := .lst (ps.map V.str)) nc)))
      have eM : upd Hc M (.lst (ps.map V.str)) M = some (.lst (ps.map V.str)) := upd_same
      have ea4 := (sc.trans (same_upd (o := .lst (ps.map V.str)) nc)) _ _ ea2
      generalize upd Hc M (.lst (ps.map V.str)) = H4 at *
      have lps := lps
      have j1n : ∀ v ∈ ((ws.take k ++ [(Str.ofString "")]) ++ ws.drop k), Pl 500 v := fun v hv => by
        rcases List.mem_append.mp hv with h | h
        · rcases List.mem_append.mp h with h | h
          · exact (pw v (pt v k h)).le (by omega)
          · rw [List.mem_singleton.mp h]
            exact (pl_of (n := 0) (by decide +kernel)).le (by omega)
        · exact (pw v (pd v _ h)).le (by omega)
      have j1 : Pl (2 * n + 7) (Txt.join (Str.ofString " ") ((ws.take k ++ [(Str.ofString "")]) ++ ws.drop k)) := by
        refine pl_join j1n ?_
        rw [lens_app, lens_app, lens_cons]
        show lens (ws.take k) + (0 + 1 + 0) + lens (ws.drop k) ≤ _
        omega
      have j2n : ∀ v ∈ (ws.take k ++ ws.drop (k + 1)), Pl 500 v := fun v hv => by
        rcases List.mem_append.mp hv with h | h
        · exact (pw v (pt v k h)).le (by omega)
        · exact (pw v (pd v _ h)).le (by omega)
      have j2 : Pl (2 * n + 7) (Txt.join (Str.ofString " ") (ws.take k ++ ws.drop (k + 1))) := by
        refine pl_join j2n ?_
        rw [lens_app]
        omega
      have j3n : ∀ v ∈ ws.take k, Pl 500 v := fun v h => (pw v (pt v k h)).le (by omega)
      have j4n : ∀ v ∈ ws.drop k, Pl 500 v := fun v h => (pw v (pd v k h)).le (by omega)
      have j3 : Pl (lens (ws.take k)) (Txt.join (Str.ofString " ") (ws.take k)) := pl_join j3n (by omega)
      have j4 : Pl (lens (ws.drop k)) (Txt.join (Str.ofString " ") (ws.drop k)) := pl_join j4n (by omega)
      have j34 : Pl (2 * n + 7) (Txt.join (Str.ofString " ") (ws.take k) ++ Str.ofString "\t" ++ Txt.join (Str.ofString " ") (ws.drop k)) := ((j3.app (pl_of (n := 1) (by decide +kernel))).app j4).le (by omega)
      have l3 := j3.1
      have l4 := j4.1
      have pz := pz0
      have c0 : (Str.ofString " ").length = 1 := rfl
      have c1 : (Str.ofString "\t").length = 1 := rfl
      have c2 : (Str.ofString "  ").length = 2 := rfl
      have c3 : (Str.ofString " 0").length = 2 := rfl
      have c4 : (Str.ofString "").length = 0 := rfl
      refine ⟨_, rfl, _, rfl, _, _, rfl, rfl, (by first | (simp only [strLen_append]; exact lim _ (by omega)) | exact lim _ (by omega)), _, rfl, _, _, rfl, rfl, (by first | (simp only [strLen_append]; exact lim _ (by omega)) | exact lim _ (by omega)), _, rfl, _, _, rfl, rfl, (by first | (simp only [strLen_append]; exact lim _ (by omega)) | exact lim _ (by omega)), _, rfl, _, _, rfl, rfl, (by first | (simp only [strLen_append]; exact lim _ (by omega)) | exact lim _ (by omega)), _, rfl, _, _, rfl, rfl, (by first | (simp only [strLen_append]; exact lim _ (by omega)) | exact lim _ (by omega)), _, rfl, _, _, rfl, rfl, (by first | (simp only [strLen_append]; exact lim _ (by omega)) | exact lim _ (by omega)), _, rfl, _, _, rfl, rfl, (by first | (simp only [strLen_append]; exact lim _ (by omega)) | exact lim _ (by omega)), _, rfl, _, _, rfl, rfl, (by first | (simp only [strLen_append]; exact lim _ (by omega)) | exact lim _ (by omega)), by show 7 ≤ sizeLine; decide, fun r1 nr1 => ?_⟩
      obtain ⟨y1, hy1⟩ : ∃ ys : List Str, ys = [(x ++ Str.ofString " "), (Str.ofString " " ++ x), (x ++ Str.ofString "\t"), (Str.ofString "\t" ++ x), (x ++ Str.ofString "  "), (x ++ Str.ofString " 0"), ((x ++ Str.ofString " ") ++ x)] := ⟨_, rfl⟩
      have py1 : ∀ y ∈ y1, Pl (2 * n + 7) y := fun y hy => by
        rw [hy1] at hy
        simp only [List.mem_cons, List.not_mem_nil, or_false] at hy
        rcases hy with e | e | e | e | e | e | e <;> rw [e]
        · exact (((px).app ((pl_of (n := 1) (by decide +kernel))))).le (by omega)
        · exact ((((pl_of (n := 1) (by decide +kernel))).app (px))).le (by omega)
        · exact (((px).app ((pl_of (n := 1) (by decide +kernel))))).le (by omega)
        · exact ((((pl_of (n := 1) (by decide +kernel))).app (px))).le (by omega)
        · exact (((px).app ((pl_of (n := 2) (by decide +kernel))))).le (by omega)
        · exact (((px).app ((pl_of (n := 2) (by decide +kernel))))).le (by omega)
        · exact (((((px).app ((pl_of (n := 1) (by decide +kernel))))).app (px))).le (by omega)
      have ly1 : y1.length = 7 := by rw [hy1]; rfl
      generalize hgr1 : upd H4 r1 _ = G1
      have er1 : G1 r1 = some (.lst (y1.map V.str)) := by rw [← hgr1, upd_same, hy1]; rfl
      have sr1 : Same H4 G1 := by rw [← hgr1]; exact same_upd nr1
      clear hy1 hgr1
      have u1 := sr1
      refine ⟨M, r1, _, _, rfl, rfl, (u1 _ _ eM), er1, lim _ (by rw [List.length_map, List.length_map]; omega), fun r2 nr2 => ?_⟩
      obtain ⟨y2, hy2⟩ : ∃ ys : List Str, ys = ps ++ y1 := ⟨_, rfl⟩
      have py2 : ∀ y ∈ y2, Pl (2 * n + 7) y := fun y hy => by
        rw [hy2] at hy
        exact (List.mem_append.mp hy).elim (pps y) (py1 y)
      have ly2 : y2.length = ps.length + y1.length := by rw [hy2, List.length_append]
      generalize hgr2 : upd G1 r2 _ = G2
      have er2 : G2 r2 = some (.lst (y2.map V.str)) := by rw [← hgr2, upd_same, hy2, List.map_append]
      have sr2 : Same G1 G2 := by rw [← hgr2]; exact same_upd nr2
      clear hy2 hgr2
      have u2 := sr2
      refine ⟨_, rfl, ⟨_, rfl⟩, _, rfl, _, rfl, _, rfl, a, _, rfl, .inl (.inl ((u1.trans u2) _ _ ea4)), fun fa nfa => ?_⟩
      rw [cut_map, cutG_to]
      generalize hg3 : upd G2 fa _ = G3
      have efa : G3 fa = some (.lst ((ws.take k).map V.str)) := by rw [← hg3, upd_same]
      have u3 : Same G2 G3 := by rw [← hg3]; exact same_upd nfa
      clear hg3
      refine ⟨by show 1 ≤ sizeLine; decide, fun fb nfb => ?_⟩
      generalize hg4 : upd G3 fb _ = G4
      have efb : G4 fb = some (.lst ([(Str.ofString "")].map V.str)) := by rw [← hg4, upd_same]; rfl
      have u4 : Same G3 G4 := by rw [← hg4]; exact same_upd nfb
      clear hg4
      refine ⟨fa, fb, _, _, rfl, rfl, (u4 _ _ efa), efb, lim _ (by simp only [List.length_append, List.length_map, List.length_cons, List.length_nil, List.length_take, List.length_drop]; omega), fun fc nfc => ?_⟩
      generalize hg5 : upd G4 fc _ = G5
      have efc : G5 fc = some (.lst ((ws.take k ++ [(Str.ofString "")]).map V.str)) := by rw [← hg5, upd_same]; simp only [List.map_append]
      have u5 : Same G4 G5 := by rw [← hg5]; exact same_upd nfc
      clear hg5
      refine ⟨_, rfl, _, rfl, _, rfl, a, _, rfl, .inl (.inl ((u1.trans (u2.trans (u3.trans (u4.trans u5)))) _ _ ea4)), fun fd nfd => ?_⟩
      rw [cut_map, cutG_of]
      generalize hg6 : upd G5 fd _ = G6
      have efd : G6 fd = some (.lst ((ws.drop k).map V.str)) := by rw [← hg6, upd_same]
      have u6 : Same G5 G6 := by rw [← hg6]; exact same_upd nfd
      clear hg6
      refine ⟨fc, fd, _, _, rfl, rfl, (u6 _ _ efc), efd, lim _ (by simp only [List.length_append, List.length_map, List.length_cons, List.length_nil, List.length_take, List.length_drop]; omega), fun fe nfe => ?_⟩
      generalize hg7 : upd G6 fe _ = G7
      have efe : G7 fe = some (.lst (((ws.take k ++ [(Str.ofString "")]) ++ (ws.drop k)).map V.str)) := by rw [← hg7, upd_same]; simp only [List.map_append]
      have u7 : Same G6 G7 := by rw [← hg7]; exact same_upd nfe
      clear hg7
      refine ⟨_, fe, _, rfl, rfl, .inl (.inl (.inl efe)), wfew j1n (by simp only [List.length_append, List.length_cons, List.length_nil, List.length_take, List.length_drop]; omega), ?_⟩
      refine ⟨⟨_, rfl⟩, _, rfl, _, rfl, _, rfl, a, _, rfl, .inl (.inl ((u1.trans (u2.trans (u3.trans (u4.trans (u5.trans (u6.trans u7)))))) _ _ ea4)), fun ga nga => ?_⟩
      rw [cut_map, cutG_to]
      generalize hg8 : upd G7 ga _ = G8
      have ega : G8 ga = some (.lst ((ws.take k).map V.str)) := by rw [← hg8, upd_same]
      have u8 : Same G7 G8 := by rw [← hg8]; exact same_upd nga
      clear hg8
      refine ⟨_, rfl, _, rfl, _, _, rfl, rfl, _, rfl, a, _, rfl, .inl (.inl ((u1.trans (u2.trans (u3.trans (u4.trans (u5.trans (u6.trans (u7.trans u8))))))) _ _ ea4)), fun gb ngb => ?_⟩
      rw [cut_map, show ((k : Int) + 1) = ((k + 1 : Nat) : Int) by omega, cutG_of]
      generalize hg9 : upd G8 gb _ = G9
      have egb : G9 gb = some (.lst ((ws.drop (k + 1)).map V.str)) := by rw [← hg9, upd_same]
      have u9 : Same G8 G9 := by rw [← hg9]; exact same_upd ngb
      clear hg9
      refine ⟨ga, gb, _, _, rfl, rfl, (u9 _ _ ega), egb, lim _ (by simp only [List.length_append, List.length_map, List.length_cons, List.length_nil, List.length_take, List.length_drop]; omega), fun gc ngc => ?_⟩
      generalize hg10 : upd G9 gc _ = G10
      have egc : G10 gc = some (.lst (((ws.take k) ++ (ws.drop (k + 1))).map V.str)) := by rw [← hg10, upd_same]; simp only [List.map_append]
      have u10 : Same G9 G10 := by rw [← hg10]; exact same_upd ngc
      clear hg10
      refine ⟨_, gc, _, rfl, rfl, .inl (.inl (.inl egc)), wfew j2n (by simp only [List.length_append, List.length_cons, List.length_nil, List.length_take, List.length_drop]; omega), ?_⟩
      refine ⟨_, rfl, _, rfl, a, _, _, _, rfl, rfl, .inl (.inl ((u1.trans (u2.trans (u3.trans (u4.trans (u5.trans (u6.trans (u7.trans (u8.trans (u9.trans u10))))))))) _ _ ea4)), atz, by show 5 ≤ sizeLine; decide, fun r3 nr3 => ?_⟩
      obtain ⟨y3, hy3⟩ : ∃ ys : List Str, ys = [(Txt.join (Str.ofString " ") ((ws.take k ++ [Str.ofString ""]) ++ ws.drop k)), (Txt.join (Str.ofString " ") (ws.take k ++ ws.drop (k + 1))), z, Str.ofString "", Str.ofString " "] := ⟨_, rfl⟩
      have py3 : ∀ y ∈ y3, Pl (2 * n + 7) y := fun y hy => by
        rw [hy3] at hy
        simp only [List.mem_cons, List.not_mem_nil, or_false] at hy
        rcases hy with e | e | e | e | e <;> rw [e]
        · exact (j1).le (by omega)
        · exact (j2).le (by omega)
        · exact (pz).le (by omega)
        · exact ((pl_of (n := 0) (by decide +kernel))).le (by omega)
        · exact ((pl_of (n := 1) (by decide +kernel))).le (by omega)
      have ly3 : y3.length = 5 := by rw [hy3]; rfl
      generalize hgr3 : upd G10 r3 _ = G11
      have er3 : G11 r3 = some (.lst (y3.map V.str)) := by rw [← hgr3, upd_same, hy3]; rfl
      have sr3 : Same G10 G11 := by rw [← hgr3]; exact same_upd nr3
      clear hy3 hgr3
      have u11 := sr3
      refine ⟨r2, r3, _, _, rfl, rfl, ((u3.trans (u4.trans (u5.trans (u6.trans (u7.trans (u8.trans (u9.trans (u10.trans u11)))))))) _ _ er2), er3, lim _ (by rw [List.length_map, List.length_map]; omega), fun r4 nr4 => ?_⟩
      obtain ⟨y4, hy4⟩ : ∃ ys : List Str, ys = y2 ++ y3 := ⟨_, rfl⟩
      have py4 : ∀ y ∈ y4, Pl (2 * n + 7) y := fun y hy => by
        rw [hy4] at hy
        exact (List.mem_append.mp hy).elim (py2 y) (py3 y)
      have ly4 : y4.length = y2.length + y3.length := by rw [hy4, List.length_append]
      generalize hgr4 : upd G11 r4 _ = G12
      have er4 : G12 r4 = some (.lst (y4.map V.str)) := by rw [← hgr4, upd_same, hy4, List.map_append]
      have sr4 : Same G11 G12 := by rw [← hgr4]; exact same_upd nr4
      clear hy4 hgr4
      have u12 := sr4
      refine ⟨_, rfl, ⟨_, rfl⟩, _, rfl, _, rfl, _, rfl, a, _, rfl, .inl (.inl ((u1.trans (u2.trans (u3.trans (u4.trans (u5.trans (u6.trans (u7.trans (u8.trans (u9.trans (u10.trans (u11.trans u12))))))))))) _ _ ea4)), fun ha nha => ?_⟩
      rw [cut_map, cutG_to]
      generalize hg13 : upd G12 ha _ = G13
      have eha : G13 ha = some (.lst ((ws.take k).map V.str)) := by rw [← hg13, upd_same]
      have u13 : Same G12 G13 := by rw [← hg13]; exact same_upd nha
      clear hg13
      refine ⟨_, ha, _, rfl, rfl, .inl (.inl (.inl eha)), wfew j3n (by simp only [List.length_take]; omega), _, _, rfl, rfl, lim _ (by omega), ?_⟩
      refine ⟨⟨_, rfl⟩, _, rfl, _, rfl, _, rfl, a, _, rfl, .inl (.inl ((u1.trans (u2.trans (u3.trans (u4.trans (u5.trans (u6.trans (u7.trans (u8.trans (u9.trans (u10.trans (u11.trans (u12.trans u13)))))))))))) _ _ ea4)), fun hb nhb => ?_⟩
      rw [cut_map, cutG_of]
      generalize hg14 : upd G13 hb _ = G14
      have ehb : G14 hb = some (.lst ((ws.drop k).map V.str)) := by rw [← hg14, upd_same]
      have u14 : Same G13 G14 := by rw [← hg14]; exact same_upd nhb
      clear hg14
      have l34 := j34.1
      rw [strLen_append, strLen_append] at l34
      refine ⟨_, hb, _, rfl, rfl, .inl (.inl (.inl ehb)), wfew j4n (by simp only [List.length_drop]; omega), _, _, rfl, rfl, by rw [strLen_append]; exact lim _ (by omega), ?_⟩
      refine ⟨by show 1 ≤ sizeLine; decide, fun r5 nr5 => ?_⟩
      obtain ⟨y5, hy5⟩ : ∃ ys : List Str, ys = [(Txt.join (Str.ofString " ") (ws.take k) ++ Str.ofString "\t" ++ Txt.join (Str.ofString " ") (ws.drop k))] := ⟨_, rfl⟩
      have py5 : ∀ y ∈ y5, Pl (2 * n + 7) y := fun y hy => by
        rw [hy5] at hy
        simp only [List.mem_cons, List.not_mem_nil, or_false] at hy
        rw [hy]
        · exact (j34).le (by omega)
      have ly5 : y5.length = 1 := by rw [hy5]; rfl
      generalize hgr5 : upd G14 r5 _ = G15
      have er5 : G15 r5 = some (.lst (y5.map V.str)) := by rw [← hgr5, upd_same, hy5]; rfl
      have sr5 : Same G14 G15 := by rw [← hgr5]; exact same_upd nr5
      clear hy5 hgr5
      have u15 := sr5
      refine ⟨r4, r5, _, _, rfl, rfl, ((u13.trans (u14.trans u15)) _ _ er4), er5, lim _ (by rw [List.length_map, List.length_map]; omega), fun r6 nr6 => ?_⟩
      obtain ⟨y6, hy6⟩ : ∃ ys : List Str, ys = y4 ++ y5 := ⟨_, rfl⟩
      have py6 : ∀ y ∈ y6, Pl (2 * n + 7) y := fun y hy => by
        rw [hy6] at hy
        exact (List.mem_append.mp hy).elim (py4 y) (py5 y)
      have ly6 : y6.length = y4.length + y5.length := by rw [hy6, List.length_append]
      generalize hgr6 : upd G15 r6 _ = G16
      have er6 : G16 r6 = some (.lst (y6.map V.str)) := by rw [← hgr6, upd_same, hy6, List.map_append]
      have sr6 : Same G15 G16 := by rw [← hgr6]; exact same_upd nr6
      clear hy6 hgr6
      have u16 := sr6
      exact q _ r6 y6 (S4.trans (u1.trans (u2.trans (u3.trans (u4.trans (u5.trans (u6.trans (u7.trans (u8.trans (u9.trans (u10.trans (u11.trans (u12.trans (u13.trans (u14.trans (u15.trans u16)))))))))))))))) er6 (by omega) py6

end
end Own

namespace Own
open PySem PySem.Spec PyProof.Rows L2 TL
theorem digs7 {ds : List Int} (h : Digs ds [60, 6, 1000, 1000, 6, 41, 3]) : ∃ a b c d e f g : Int, ds = [a, b, c, d, e, f, g] ∧ (0 ≤ b ∧ b < 6) ∧ (0 ≤ c ∧ c < 1000) ∧ (0 ≤ d ∧ d < 1000) ∧ (0 ≤ f ∧ f < 41) ∧ (0 ≤ e ∧ e < 6) := by
  match ds, h with
  | [a, b, c, d, e, f, g], h => exact ⟨a, b, c, d, e, f, g, rfl, h.2 1 b 6 rfl rfl, h.2 2 c 1000 rfl rfl, h.2 3 d 1000 rfl rfl, h.2 5 f 41 rfl rfl, h.2 4 e 6 rfl rfl⟩
  | [], h => exact absurd h.1 (by simp)
  | [_], h => exact absurd h.1 (by simp)
  | [_, _], h => exact absurd h.1 (by simp)
  | [_, _, _], h => exact absurd h.1 (by simp)
  | [_, _, _, _], h => exact absurd h.1 (by simp)
  | [_, _, _, _, _], h => exact absurd h.1 (by simp)
  | [_, _, _, _, _, _], h => exact absurd h.1 (by simp)
  | _ :: _ :: _ :: _ :: _ :: _ :: _ :: _ :: _, h => exact absurd h.1 (by simp)
section
variable {P : Program} {w : World} {K : PySem.W.Frag} {mg : Str → Option Value} {base : Heap}
/-- a line of numbers that are no entry -/
def spWrg (K : PySem.W.Frag) : Sp := fun vs H Q _ => ∃ (n : Int) (a : Addr) (d0 d1 d2 d3 d4 d5 d6 : Int), vs = [.int n, .ref a] ∧ SqL K H a [.int d0, .int d1, .int d2, .int d3, .int d4, .int d5, .int d6] ∧ (0 ≤ n ∧ n ≤ 100) ∧ (0 ≤ d1 ∧ d1 < 6) ∧ (0 ≤ d2 ∧ d2 < 1000) ∧ (0 ≤ d3 ∧ d3 < 1000) ∧ (0 ≤ d4 ∧ d4 < 6) ∧ ∀ H' y, Same H H' → Pl 62 y → Q (.str y) H'
set_option maxHeartbeats 4000000 in
theorem ok_wrong {f : Addr} {fd : FuncData} (F : Fun K "_law_wrong_line" "_law_wrong_line" s__law_wrong_line f fd) (T : Bi mg) : FnOk P w K mg base CX0 1 f fd ["_law_pins_here", "_law_draw"] (spWrg K) := by
  refine F.ok sc__law_wrong_line (fun vs H Q E h => ?_) (fun cdv A outer s H vs Q E hr h => ?_)
  · obtain ⟨n, a, d0, d1, d2, d3, d4, d5, d6, rfl, _⟩ := h
    rfl
  · obtain ⟨n, a, d0, d1, d2, d3, d4, d5, d6, rfl, hs, hn, h1, h2, h3, h4, q⟩ := h
    refine ⟨_, (pss_cons (ps_set (i := 2) sc__law_wrong_line.nd rfl (.inl rfl) (pe_ix (r := rIxL K) ix_list (pe_lst (pa_cons (pv 0) (pa_cons (pe_op op_add (pv 0) (pe_ix (r := rIxL K) ix_list (pv 1) pe_int (fun _ _ => rfl))) (pa_cons (pe_un un_neg pe_int) (pa_cons (pe_op op_sub (pe_un un_neg pe_int) (pe_ix (r := rIxL K) ix_list (pv 1) pe_int (fun _ _ => rfl))) (pa_cons (pe_op op_sub (pe_op op_pow pe_int pe_int) (pe_ix (r := rIxL K) ix_list (pv 1) pe_int (fun _ _ => rfl))) (pa_cons (pe_op op_sub (pe_ix (r := rIxL K) ix_list (pv 1) pe_int (fun _ _ => rfl)) (pe_op op_pow pe_int pe_int)) pa_nil))))))) (pe_ix (r := rIxL K) ix_list (pv 1) pe_int (fun _ _ => rfl)) (fun _ _ => rfl)))
        (pss_cons (ps_set (i := 3) sc__law_wrong_line.nd rfl (.inl rfl) (pe_op op_modN (pe_callTy call_int1 (by rfl) T.b_int (by decide +kernel) (pa_cons (pe_ix (r := rIxL K) ix_list (pv 1) pe_int (fun _ _ => rfl)) pa_nil)) (pe_callB (call_max2 rfl) (by rfl) T.b_max (by decide +kernel) (pa_cons (pv 0) (pa_cons pe_int pa_nil)))))
        (pss_cons (ps_set (i := 4) sc__law_wrong_line.nd rfl (.inl rfl) (pe_op op_sub (pe_op op_add (pv 3) pe_int) (pe_op op_mul pe_int (pe_callTy call_int1 (by rfl) T.b_int (by decide +kernel) (pa_cons (pe_cmpR op_gt (pv 3) pe_int (nomark _)) pa_nil)))))
        (pss_cons (ps_set (i := 5) sc__law_wrong_line.nd rfl (.inl rfl) (pe_lst (pa_cons (pe_tup (pa_cons (pv 3) (pa_cons (pv 3) (pa_cons pe_int pa_nil)))) (pa_cons (pe_tup (pa_cons (pv 2) (pa_cons (pv 3) (pa_cons pe_int pa_nil)))) (pa_cons (pe_tup (pa_cons (pv 3) (pa_cons (pv 2) (pa_cons pe_int pa_nil)))) (pa_cons (pe_tup (pa_cons (pv 3) (pa_cons (pv 4) (pa_cons pe_int pa_nil)))) (pa_cons (pe_tup (pa_cons (pv 3) (pa_cons (pv 4) (pa_cons (pe_op op_sub (pe_un un_neg pe_int) (pe_ix (r := rIxL K) ix_list (pv 1) pe_int (fun _ _ => rfl))) pa_nil)))) pa_nil)))))))
        (pss_cons (ps_set (i := 5) sc__law_wrong_line.nd rfl (.inl rfl) (pe_op op_cat (pv 5) (pe_lst (pa_cons (pe_tup (pa_cons (pv 4) (pa_cons (pv 3) (pa_cons (pe_op op_sub (pe_ix (r := rIxL K) ix_list (pv 1) pe_int (fun _ _ => rfl)) (pe_op op_pow pe_int pe_int)) pa_nil)))) pa_nil))))
        (pss_one (ps_ret (pe_op op_add_str (pe_op op_add_str (pe_op op_add_str (pe_op op_add_str (pe_callTy call_str_int (by rfl) T.b_str (by decide +kernel) (pa_cons (pe_ix (r := rIxT K) ix_tup (pe_ix (r := rIxL K) ix_list (pv 5) (pe_ix (r := rIxL K) ix_list (pv 1) pe_int (fun _ _ => rfl)) (fun _ _ => rfl)) pe_int (fun _ _ => rfl)) pa_nil)) pe_str) (pe_callTy call_str_int (by rfl) T.b_str (by decide +kernel) (pa_cons (pe_ix (r := rIxT K) ix_tup (pe_ix (r := rIxL K) ix_list (pv 5) (pe_ix (r := rIxL K) ix_list (pv 1) pe_int (fun _ _ => rfl)) (fun _ _ => rfl)) pe_int (fun _ _ => rfl)) pa_nil))) pe_str) (pe_callTy call_str_int (by rfl) T.b_str (by decide +kernel) (pa_cons (pe_ix (r := rIxT K) ix_tup (pe_ix (r := rIxL K) ix_list (pv 5) (pe_ix (r := rIxL K) ix_list (pv 1) pe_int (fun _ _ => rfl)) (fun _ _ => rfl)) pe_int (fun _ _ => rfl)) pa_nil)))))))))), ?_⟩
    have e18 : ((10 : Int) ^ (18 : Int).toNat) = 1000000000000000000 := by decide
    have lim : ∀ k, k ≤ 1000 → k ≤ sizeLine := fun k h => Nat.le_trans h (by decide)
    obtain ⟨far, ef, bf⟩ : ∃ far : Int, atI [V.int n, .int (n + d2), .int (-1), .int (-1 - d2), .int (10 ^ (18 : Int).toNat - d2), .int (d2 - 10 ^ (18 : Int).toNat)] d4 = some (.int far) ∧ far.natAbs < 10 ^ 19 := by
      rw [e18]
      have hd : d4 = ((0 : Nat) : Int) ∨ d4 = ((1 : Nat) : Int) ∨ d4 = ((2 : Nat) : Int) ∨ d4 = ((3 : Nat) : Int) ∨ d4 = ((4 : Nat) : Int) ∨ d4 = ((5 : Nat) : Int) := by omega
      rcases hd with e | e | e | e | e | e <;> rw [e] <;> exact ⟨_, atI_nat rfl, by omega⟩
    refine ⟨_, rfl, _, rfl, _, rfl, a, _, _, _, rfl, rfl, hs, at_of (j := 2) rfl rfl, _, _, rfl, rfl, _, rfl, _, rfl, _, rfl, a, _, _, _, rfl, rfl, hs, at_of (j := 2) rfl rfl, _, _, rfl, rfl, _, _, rfl, rfl, ⟨by decide, by decide, by decide⟩, _, rfl, a, _, _, _, rfl, rfl, hs, at_of (j := 2) rfl rfl, _, _, rfl, rfl, _, rfl, a, _, _, _, rfl, rfl, hs, at_of (j := 2) rfl rfl, _, _, rfl, rfl, ⟨by decide, by decide, by decide⟩, _, _, rfl, rfl, by show 6 ≤ sizeLine; decide, fun pf npf => ?_⟩
    generalize hg1 : upd H pf _ = G1
    have epf : G1 pf = some (.lst [V.int n, .int (n + d2), .int (-1), .int (-1 - d2), .int (10 ^ (18 : Int).toNat - d2), .int (d2 - 10 ^ (18 : Int).toNat)]) := by rw [← hg1, upd_same]
    have u1 : Same H G1 := by rw [← hg1]; exact same_upd npf
    clear hg1
    refine ⟨_, rfl, a, _, _, _, rfl, rfl, (u1.seq hs), at_of (j := 4) rfl rfl, pf, _, _, _, rfl, rfl, .inl (.inl epf), ef, ?_⟩
    refine ⟨_, rfl, a, _, _, _, rfl, rfl, (u1.seq hs), at_of (j := 3) rfl rfl, .inl ⟨_, rfl, _, rfl, _, _, rfl, _, _, rfl, rfl, ?_, ?_⟩⟩
    · split <;> omega
    obtain ⟨near, hnear, near0, near1⟩ : ∃ near : Int, d3.fmod (if (1 : Int) > n then 1 else n) = near ∧ 0 ≤ near ∧ near < 101 := by
      by_cases h : (1 : Int) > n
      · rw [if_pos h]
        have := fmod_in d3 (show (0 : Int) < 1 by decide)
        exact ⟨_, rfl, this.1, by omega⟩
      · rw [if_neg h]
        have := fmod_in d3 (show (0 : Int) < n by omega)
        exact ⟨_, rfl, this.1, by omega⟩
    dsimp only
    rw [hnear]
    clear hnear
    refine ⟨_, rfl, _, _, rfl, rfl, _, rfl, _, _, rfl, rfl, .inr ⟨_, rfl, _, _, rfl, rfl, .inl ⟨by decide, by decide⟩, _, _, rfl, rfl, ?_⟩⟩
    obtain ⟨side, hside, bside⟩ : ∃ side : Int, near + 1 - 2 * (if decide (0 < near) = true then 1 else 0) = side ∧ side.natAbs < 200 := by
      refine ⟨_, rfl, ?_⟩
      split <;> omega
    dsimp only
    rw [hside]
    clear hside
    refine ⟨_, rfl, _, rfl, by show 3 ≤ sizeLine; decide, fun t1 nt1 => ?_⟩
    generalize hg2 : upd G1 t1 _ = G2
    have et1 : G2 t1 = some (.tup [V.int near, .int near, .int 1]) := by rw [← hg2, upd_same]
    have u2 : Same G1 G2 := by rw [← hg2]; exact same_upd nt1
    clear hg2
    refine ⟨_, rfl, _, rfl, by show 3 ≤ sizeLine; decide, fun t2 nt2 => ?_⟩
    generalize hg3 : upd G2 t2 _ = G3
    have et2 : G3 t2 = some (.tup [V.int far, .int near, .int 1]) := by rw [← hg3, upd_same]
    have u3 : Same G2 G3 := by rw [← hg3]; exact same_upd nt2
    clear hg3
    refine ⟨_, rfl, _, rfl, by show 3 ≤ sizeLine; decide, fun t3 nt3 => ?_⟩
    generalize hg4 : upd G3 t3 _ = G4
    have et3 : G4 t3 = some (.tup [V.int near, .int far, .int 2]) := by rw [← hg4, upd_same]
    have u4 : Same G3 G4 := by rw [← hg4]; exact same_upd nt3
    clear hg4
    refine ⟨_, rfl, _, rfl, by show 3 ≤ sizeLine; decide, fun t4 nt4 => ?_⟩
    generalize hg5 : upd G4 t4 _ = G5
    have et4 : G5 t4 = some (.tup [V.int near, .int side, .int 0]) := by rw [← hg5, upd_same]
    have u5 : Same G4 G5 := by rw [← hg5]; exact same_upd nt4
    clear hg5
    refine ⟨_, rfl, _, rfl, _, rfl, _, rfl, a, _, _, _, rfl, rfl, ((u1.trans (u2.trans (u3.trans (u4.trans u5)))).seq hs), at_of (j := 2) rfl rfl, _, _, rfl, rfl, by show 3 ≤ sizeLine; decide, fun t5 nt5 => ?_⟩
    generalize hg6 : upd G5 t5 _ = G6
    have et5 : G6 t5 = some (.tup [V.int near, .int side, .int (-1 - d2)]) := by rw [← hg6, upd_same]
    have u6 : Same G5 G6 := by rw [← hg6]; exact same_upd nt5
    clear hg6
    refine ⟨by show 5 ≤ sizeLine; decide, fun b nb => ?_⟩
    generalize hg7 : upd G6 b _ = G7
    have eb : G7 b = some (.lst [V.ref t1, .ref t2, .ref t3, .ref t4, .ref t5]) := by rw [← hg7, upd_same]
    have u7 : Same G6 G7 := by rw [← hg7]; exact same_upd nb
    clear hg7
    refine ⟨_, rfl, _, rfl, _, rfl, _, rfl, a, _, _, _, rfl, rfl, ((u1.trans (u2.trans (u3.trans (u4.trans (u5.trans (u6.trans u7)))))).seq hs), at_of (j := 2) rfl rfl, _, _, rfl, rfl, ⟨by decide, by decide, by decide⟩, _, _, rfl, rfl, by show 3 ≤ sizeLine; decide, fun t6 nt6 => ?_⟩
    generalize hg8 : upd G7 t6 _ = G8
    have et6 : G8 t6 = some (.tup [V.int side, .int near, .int (d2 - 10 ^ (18 : Int).toNat)]) := by rw [← hg8, upd_same]
    have u8 : Same G7 G8 := by rw [← hg8]; exact same_upd nt6
    clear hg8
    refine ⟨by show 1 ≤ sizeLine; decide, fun l nl => ?_⟩
    generalize hg9 : upd G8 l _ = G9
    have el : G9 l = some (.lst [V.ref t6]) := by rw [← hg9, upd_same]
    have u9 : Same G8 G9 := by rw [← hg9]; exact same_upd nl
    clear hg9
    refine ⟨b, l, _, _, rfl, rfl, ((u8.trans u9) _ _ eb), el, by show 5 + 1 ≤ sizeLine; decide, fun bb nbb => ?_⟩
    generalize hg10 : upd G9 bb _ = G10
    have ebb : G10 bb = some (.lst [V.ref t1, .ref t2, .ref t3, .ref t4, .ref t5, .ref t6]) := by rw [← hg10, upd_same]; rfl
    have u10 : Same G9 G10 := by rw [← hg10]; exact same_upd nbb
    clear hg10
    obtain ⟨tb, x, y, z, eat, etb, bx, by_, bz⟩ : ∃ (tb : Addr) (x y z : Int), atI [V.ref t1, .ref t2, .ref t3, .ref t4, .ref t5, .ref t6] d1 = some (.ref tb) ∧ G10 tb = some (.tup [V.int x, .int y, .int z]) ∧ x.natAbs < 10 ^ 19 ∧ y.natAbs < 10 ^ 19 ∧ z.natAbs < 10 ^ 19 := by
      have hd : d1 = ((0 : Nat) : Int) ∨ d1 = ((1 : Nat) : Int) ∨ d1 = ((2 : Nat) : Int) ∨ d1 = ((3 : Nat) : Int) ∨ d1 = ((4 : Nat) : Int) ∨ d1 = ((5 : Nat) : Int) := by omega
      rcases hd with e | e | e | e | e | e <;> rw [e]
      · exact ⟨t1, _, _, _, atI_nat rfl, ((u3.trans (u4.trans (u5.trans (u6.trans (u7.trans (u8.trans (u9.trans u10))))))) _ _ et1), by omega, by omega, by omega⟩
      · exact ⟨t2, _, _, _, atI_nat rfl, ((u4.trans (u5.trans (u6.trans (u7.trans (u8.trans (u9.trans u10)))))) _ _ et2), by omega, by omega, by omega⟩
      · exact ⟨t3, _, _, _, atI_nat rfl, ((u5.trans (u6.trans (u7.trans (u8.trans (u9.trans u10))))) _ _ et3), by omega, by omega, by omega⟩
      · exact ⟨t4, _, _, _, atI_nat rfl, ((u6.trans (u7.trans (u8.trans (u9.trans u10)))) _ _ et4), by omega, by omega, by omega⟩
      · exact ⟨t5, _, _, _, atI_nat rfl, ((u7.trans (u8.trans (u9.trans u10))) _ _ et5), by omega, by omega, by omega⟩
      · exact ⟨t6, _, _, _, atI_nat rfl, ((u9.trans u10) _ _ et6), by omega, by omega, by rw [e18]; omega⟩
    have lg : ∀ i : Int, i.natAbs < 10 ^ 19 → i.natAbs.log2 < 1920 := fun i h => Nat.lt_of_lt_of_le (log_lt (k := 64) (by decide) (Nat.lt_of_lt_of_le h (by decide))) (by decide)
    have px := pl_nt2 bx
    have py := pl_nt2 by_
    have pz := pl_nt2 bz
    unfold nt at px py pz
    have lx := px.1
    have ly := py.1
    have lz := pz.1
    have ls : (Str.ofString " ").length = 1 := rfl
    have ps : Pl 1 (Str.ofString " ") := pl_of (by decide +kernel)
    refine ⟨_, rfl, _, rfl, a, _, _, _, rfl, rfl, ((u1.trans (u2.trans (u3.trans (u4.trans (u5.trans (u6.trans (u7.trans (u8.trans (u9.trans u10))))))))).seq hs), at_of (j := 1) rfl rfl, bb, _, _, _, rfl, rfl, .inl (.inl ebb), eat, tb, _, _, _, rfl, rfl, .inl (.inl etb), at_of (j := 0) rfl rfl, _, rfl, lg _ bx, _, _, rfl, rfl, by rw [ls]; exact lim _ (by omega), _, rfl, _, rfl, a, _, _, _, rfl, rfl, ((u1.trans (u2.trans (u3.trans (u4.trans (u5.trans (u6.trans (u7.trans (u8.trans (u9.trans u10))))))))).seq hs), at_of (j := 1) rfl rfl, bb, _, _, _, rfl, rfl, .inl (.inl ebb), eat, tb, _, _, _, rfl, rfl, .inl (.inl etb), at_of (j := 1) rfl rfl, _, rfl, lg _ by_, _, _, rfl, rfl, by rw [strLen_append, ls]; exact lim _ (by omega), _, _, rfl, rfl, by rw [strLen_append, strLen_append, ls]; exact lim _ (by omega), _, rfl, _, rfl, a, _, _, _, rfl, rfl, ((u1.trans (u2.trans (u3.trans (u4.trans (u5.trans (u6.trans (u7.trans (u8.trans (u9.trans u10))))))))).seq hs), at_of (j := 1) rfl rfl, bb, _, _, _, rfl, rfl, .inl (.inl ebb), eat, tb, _, _, _, rfl, rfl, .inl (.inl etb), at_of (j := 2) rfl rfl, _, rfl, lg _ bz, _, _, rfl, rfl, by rw [strLen_append, strLen_append, strLen_append, ls]; exact lim _ (by omega), ?_⟩
    exact q _ _ (u1.trans (u2.trans (u3.trans (u4.trans (u5.trans (u6.trans (u7.trans (u8.trans (u9.trans u10))))))))) ((((px.app ps).app py).app ps).app pz)

def spSpo (K : PySem.W.Frag) : Sp := fun vs H Q _ => ∃ (a : Addr) (ls : List Str) (k c p : Int) (n : Nat), vs = [.ref a, .int k, .int c, .int p] ∧ H a = some (.lst (ls.map V.str)) ∧ ls ≠ [] ∧ ls.length ≤ 200 ∧ (∀ z ∈ ls, Pl n z) ∧ 28 ≤ n ∧ n ≤ 120 ∧ (0 ≤ k ∧ k < 16) ∧ (0 ≤ p ∧ p ≤ 100) ∧
  ∀ H' r (ys : List Str), Same H H' → H' r = some (.lst (ys.map V.str)) → ys ≠ [] → ys.length ≤ ls.length + 1 → (∀ y ∈ ys, Pl (2 * n + 7) y) → Q (.ref r) H'
set_option maxHeartbeats 4000000 in
theorem ok_spoilt {f : Addr} {fd : FuncData} (F : Fun K "_law_spoilt" "_law_spoilt" s__law_spoilt f fd) (T : Bi mg)
    {f_d : Addr} {d_d : FuncData} (D_d : Df K mg "_law_digits" s__law_digits ["_law_cell_here", "_law_sizes"] f_d d_d) (G_d : FnOk P w K mg base CX0 1 f_d d_d ["_law_cell_here", "_law_sizes"] (spDigs K))
    {f_f : Addr} {d_f : FuncData} (D_f : Df K mg "_law_forms" s__law_forms ["_law_line", "_law_at"] f_f d_f) (G_f : FnOk P w K mg base CX0 2 f_f d_f ["_law_line", "_law_at"] spForms)
    {f_w : Addr} {d_w : FuncData} (D_w : Df K mg "_law_wrong_line" s__law_wrong_line ["_law_pins_here", "_law_draw"] f_w d_w) (G_w : FnOk P w K mg base CX0 1 f_w d_w ["_law_pins_here", "_law_draw"] (spWrg K)) : FnOk P w K mg base CX0 3 f fd ["_law_lines", "_law_kind", "_law_cell_here", "_law_pins_here"] (spSpo K) := by
  refine F.ok sc__law_spoilt (fun vs H Q E h => ?_) (fun cdv A outer s H vs Q E hr h => ?_)
  · obtain ⟨a, ls, k, c, p, n, rfl, _⟩ := h
    rfl
  · obtain ⟨a, ls, k, c, p, n, rfl, ea, hne, hl, hp, n28, n120, hk, hpin, q⟩ := h
    refine ⟨_, (pss_cons (ps_set (i := 4) sc__law_spoilt.nd rfl (.inl rfl) (pe_call G_d (hr.mono (by decide)) (by rfl) D_d.g D_d.F.kp D_d.b .nil pass0 (pa_cons (pv 2) (pa_cons (pe_lst (pa_cons pe_int (pa_cons pe_int (pa_cons pe_int (pa_cons pe_int (pa_cons pe_int (pa_cons pe_int (pa_cons pe_int pa_nil)))))))) pa_nil))))
        (pss_cons (ps_set (i := 5) sc__law_spoilt.nd rfl (.inl rfl) (pe_op op_modN (pe_callTy call_int1 (by rfl) T.b_int (by decide +kernel) (pa_cons (pe_ix (r := rIxL K) ix_list (pv 4) pe_int (fun _ _ => rfl)) pa_nil)) (pe_callB call_len_seq (by rfl) T.b_len PySem.boot_len (pa_cons (pv 0) pa_nil))))
        (pss_cons (ps_if (pt_cmpR op_eq (pv 1) pe_int (nomark _)) (pss_one (ps_ret (pe_op op_cat (pe_op op_cat (pe_slice sl_list (pv 0) po_none (po_some (pv 5))) (pe_lst (pa_cons pe_str pa_nil))) (pe_slice sl_list (pv 0) (po_some (pv 5)) po_none)))) pss_nil)
        (pss_cons (ps_if (pt_cmpR op_eq (pv 1) pe_int (nomark _)) (pss_one (ps_ret (pe_op op_cat (pe_slice sl_list (pv 0) (po_some pe_int) po_none) (pe_slice sl_list (pv 0) po_none (po_some pe_int))))) pss_nil)
        (pss_cons (ps_if (pt_cmpR op_eq (pv 1) pe_int (nomark _)) (pss_one (ps_ret (pe_op op_cat (pe_slice sl_list (pv 0) (po_some pe_int) po_none) (pe_slice sl_list (pe_lst (pa_cons pe_str pa_nil)) po_none (po_some (pe_callTy call_int1 (by rfl) T.b_int (by decide +kernel) (pa_cons (pe_cmpR op_eq (pe_callB call_len_seq (by rfl) T.b_len PySem.boot_len (pa_cons (pv 0) pa_nil)) pe_int (nomark _)) pa_nil))))))) pss_nil)
        (pss_cons (ps_if (pt_cmpR op_eq (pv 1) pe_int (nomark _)) (pss_one (ps_ret (pe_op op_cat (pe_slice sl_list (pv 0) po_none (po_some pe_int)) (pv 0)))) pss_nil)
        (pss_cons (ps_if (pt_cmpR op_eq (pv 1) pe_int (nomark _)) (pss_one (ps_ret (pe_op op_cat (pv 0) (pe_lst (pa_cons pe_str pa_nil))))) pss_nil)
        (pss_cons (ps_if (pt_cmpR op_eq (pv 1) pe_int (nomark _)) (pss_one (ps_ret (pe_op op_cat (pe_lst (pa_cons pe_str pa_nil)) (pv 0)))) pss_nil)
        (pss_cons (ps_if (pt_cmpR op_eq (pv 1) pe_int (nomark _)) (pss_one (ps_ret (pe_lst (pa_cons pe_str pa_nil)))) pss_nil)
        (pss_cons (ps_if (pt_cmpR op_eq (pv 1) pe_int (nomark _)) (pss_one (ps_ret (pe_op op_cat (pe_lst (pa_cons (pe_op op_add_str pe_str (pe_callTy call_str_int (by rfl) T.b_str (by decide +kernel) (pa_cons (pe_ix (r := rIxL K) ix_list (pe_lst (pa_cons (pe_op op_sub (pe_un un_neg pe_int) (pe_ix (r := rIxL K) ix_list (pv 4) pe_int (fun _ _ => rfl))) (pa_cons (pe_op op_sub (pe_ix (r := rIxL K) ix_list (pv 4) pe_int (fun _ _ => rfl)) (pe_op op_pow pe_int pe_int)) pa_nil))) (pe_op op_mod (pe_callTy call_int1 (by rfl) T.b_int (by decide +kernel) (pa_cons (pe_ix (r := rIxL K) ix_list (pv 4) pe_int (fun _ _ => rfl)) pa_nil)) pe_int) (fun _ _ => rfl)) pa_nil))) pa_nil)) (pe_slice sl_list (pv 0) (po_some pe_int) po_none)))) pss_nil)
        (pss_cons (ps_if (pt_cmpR op_eq (pv 1) pe_int (nomark _)) (pss_one (ps_ret (pe_op op_cat (pe_op op_cat (pe_slice sl_list (pv 0) po_none (po_some (pv 5))) (pe_lst (pa_cons (pe_ix (r := rIxL K) ix_list (pe_call G_f (hr.mono (by decide)) (by rfl) D_f.g D_f.F.kp D_f.b .nil pass0 (pa_cons (pe_ix (r := rIxL K) ix_list (pv 0) (pv 5) (fun _ _ => rfl)) (pa_cons (pe_ix (r := rIxL K) ix_list (pv 4) pe_int (fun _ _ => rfl)) pa_nil))) (pe_ix (r := rIxL K) ix_list (pv 4) pe_int (fun _ _ => rfl)) (fun _ _ => rfl)) pa_nil))) (pe_slice sl_list (pv 0) (po_some (pe_op op_add (pv 5) pe_int)) po_none)))) pss_nil)
        (pss_one (ps_ret (pe_op op_cat (pe_op op_cat (pe_slice sl_list (pv 0) po_none (po_some (pe_op op_add (pv 5) pe_int))) (pe_lst (pa_cons (pe_call G_w (hr.mono (by decide)) (by rfl) D_w.g D_w.F.kp D_w.b .nil pass0 (pa_cons (pv 3) (pa_cons (pv 4) pa_nil))) pa_nil))) (pe_slice sl_list (pv 0) (po_some (pe_op op_add (pv 5) pe_int)) po_none))))))))))))))), ?_⟩
    have lim : ∀ k, k ≤ 1000 → k ≤ sizeLine := fun k h => Nat.le_trans h (by decide)
    have hpos : 0 < ls.length := List.length_pos_iff.mpr hne
    have pt : ∀ (v : Str) (j : Nat), v ∈ ls.take j → Pl (2 * n + 7) v := fun v j h => (hp v (List.mem_of_mem_take h)).le (by omega)
    have pd : ∀ (v : Str) (j : Nat), v ∈ ls.drop j → Pl (2 * n + 7) v := fun v j h => (hp v (List.mem_of_mem_drop h)).le (by omega)
    have pl0 : ∀ v ∈ ls, Pl (2 * n + 7) v := fun v h => (hp v h).le (by omega)
    have pe : Pl (2 * n + 7) (Str.ofString "") := (pl_of (n := 0) (by decide +kernel)).le (by omega)
    have one : ∀ z : Str, Pl (2 * n + 7) z → ∀ v ∈ [z], Pl (2 * n + 7) v := fun z h v hv => by rw [List.mem_singleton.mp hv]; exact h
    have app : ∀ {xs ys : List Str}, (∀ v ∈ xs, Pl (2 * n + 7) v) → (∀ v ∈ ys, Pl (2 * n + 7) v) → ∀ v ∈ xs ++ ys, Pl (2 * n + 7) v := fun h1 h2 v hv => (List.mem_append.mp hv).elim (h1 v) (h2 v)
    refine ⟨_, rfl, by show 7 ≤ sizeLine; decide, fun b0 nb0 => ⟨c, b0, [60, 6, 1000, 1000, 6, 41, 3], rfl, .inl (.inl upd_same), by decide, by decide, fun H1 dr dg s1 ndr edr hdg => ?_⟩⟩
    have s0 := (same_upd nb0).trans s1
    obtain ⟨d0, d1, d2, d3, d4, d5, d6, rfl, b1, b2, b3, b4, b5⟩ := digs7 hdg
    have ea1 := s0 _ _ ea
    obtain ⟨k0, hk0, kl⟩ : ∃ k : Nat, d0.fmod ((ls.map V.str).length : Nat) = (k : Int) ∧ k < ls.length := by
      have := fmod_in d0 (n := ((ls.map V.str).length : Nat)) (by rw [List.length_map]; omega)
      rw [List.length_map] at this ⊢
      exact ⟨(d0.fmod (ls.length : Nat)).toNat, by omega, by omega⟩
    refine ⟨_, rfl, dr, _, _, _, rfl, rfl, .inl (.inl edr), at_of (j := 0) rfl rfl, .inl ⟨_, rfl, _, rfl, a, _, rfl, .inl (.inl (.inl ea1)), _, _, rfl, rfl, by rw [List.length_map]; omega, ?_⟩⟩
    dsimp only
    rw [hk0]
    clear hk0
    have sz : SqL K H1 dr [.int d0, .int d1, .int d2, .int d3, .int d4, .int d5, .int d6] := .inl (.inl edr)
    generalize hst : H1 = Hx at *
    clear hst
    refine ⟨_, rfl, rfl, _, rfl, ite2 (fun _ => ?_) (fun nc0 => ?_)⟩
    · refine ⟨_, rfl, _, rfl, _, rfl, a, _, rfl, .inl (.inl ea1), fun pa npa => ?_⟩
      rw [cut_map, cutG_to]
      generalize hg1 : upd Hx pa _ = G1
      have epa : G1 pa = some (.lst ((ls.take k0).map V.str)) := by rw [← hg1, upd_same]
      have u1 : Same Hx G1 := by rw [← hg1]; exact same_upd npa
      clear hg1
      refine ⟨by show 1 ≤ sizeLine; decide, fun pb npb => ?_⟩
      generalize hg2 : upd G1 pb _ = G2
      have epb : G2 pb = some (.lst ([(Str.ofString "")].map V.str)) := by rw [← hg2, upd_same]; rfl
      have u2 : Same G1 G2 := by rw [← hg2]; exact same_upd npb
      clear hg2
      refine ⟨pa, pb, _, _, rfl, rfl, (u2 _ _ epa), epb, lim _ (by simp only [List.length_append, List.length_map, List.length_cons, List.length_nil, List.length_take, List.length_drop]; omega), fun pc npc => ?_⟩
      generalize hg3 : upd G2 pc _ = G3
      have epc : G3 pc = some (.lst ((ls.take k0 ++ [Str.ofString ""]).map V.str)) := by rw [← hg3, upd_same]; simp only [List.map_append]
      have u3 : Same G2 G3 := by rw [← hg3]; exact same_upd npc
      clear hg3
      refine ⟨_, rfl, _, rfl, _, rfl, a, _, rfl, .inl (.inl ((u1.trans (u2.trans u3)) _ _ ea1)), fun pd_ npd_ => ?_⟩
      rw [cut_map, cutG_of]
      generalize hg4 : upd G3 pd_ _ = G4
      have epd_ : G4 pd_ = some (.lst ((ls.drop k0).map V.str)) := by rw [← hg4, upd_same]
      have u4 : Same G3 G4 := by rw [← hg4]; exact same_upd npd_
      clear hg4
      refine ⟨pc, pd_, _, _, rfl, rfl, (u4 _ _ epc), epd_, lim _ (by simp only [List.length_append, List.length_map, List.length_cons, List.length_nil, List.length_take, List.length_drop]; omega), fun pf npf => ?_⟩
      generalize hg5 : upd G4 pf _ = G5
      have epf : G5 pf = some (.lst (((ls.take k0 ++ [Str.ofString ""]) ++ (ls.drop k0)).map V.str)) := by rw [← hg5, upd_same]; simp only [List.map_append]
      have u5 : Same G4 G5 := by rw [← hg5]; exact same_upd npf
      clear hg5
      exact q _ pf ((ls.take k0 ++ [Str.ofString ""]) ++ ls.drop k0) (s0.trans (u1.trans (u2.trans (u3.trans (u4.trans u5))))) epf (fun e => by have := congrArg List.length e; simp only [List.length_append, List.length_cons, List.length_nil, List.length_take, List.length_drop] at this; omega) (by simp only [List.length_append, List.length_cons, List.length_nil, List.length_take, List.length_drop]; omega) (app (app (fun v h => pt v _ h) (one _ pe)) (fun v h => pd v _ h))
    refine ⟨_, rfl, rfl, _, rfl, ite2 (fun _ => ?_) (fun nc1 => ?_)⟩
    · refine ⟨_, rfl, _, rfl, a, _, rfl, .inl (.inl ea1), fun pa npa => ?_⟩
      rw [cut_map, show cutG ls (some 1) none = ls.drop 1 from cutG_of (k := 1)]
      generalize hg1 : upd Hx pa _ = G1
      have epa : G1 pa = some (.lst ((ls.drop 1).map V.str)) := by rw [← hg1, upd_same]
      have u1 : Same Hx G1 := by rw [← hg1]; exact same_upd npa
      clear hg1
      refine ⟨_, rfl, _, rfl, a, _, rfl, .inl (.inl (u1 _ _ ea1)), fun pb npb => ?_⟩
      rw [cut_map, show cutG ls none (some 1) = ls.take 1 from cutG_to (k := 1)]
      generalize hg2 : upd G1 pb _ = G2
      have epb : G2 pb = some (.lst ((ls.take 1).map V.str)) := by rw [← hg2, upd_same]
      have u2 : Same G1 G2 := by rw [← hg2]; exact same_upd npb
      clear hg2
      refine ⟨pa, pb, _, _, rfl, rfl, (u2 _ _ epa), epb, lim _ (by simp only [List.length_append, List.length_map, List.length_cons, List.length_nil, List.length_take, List.length_drop]; omega), fun pc npc => ?_⟩
      generalize hg3 : upd G2 pc _ = G3
      have epc : G3 pc = some (.lst ((ls.drop 1 ++ (ls.take 1)).map V.str)) := by rw [← hg3, upd_same]; simp only [List.map_append]
      have u3 : Same G2 G3 := by rw [← hg3]; exact same_upd npc
      clear hg3
      exact q _ pc (ls.drop 1 ++ ls.take 1) (s0.trans (u1.trans (u2.trans u3))) epc (fun e => by have := congrArg List.length e; simp only [List.length_append, List.length_cons, List.length_nil, List.length_take, List.length_drop] at this; omega) (by simp only [List.length_append, List.length_cons, List.length_nil, List.length_take, List.length_drop]; omega) (app (fun v h => pd v _ h) (fun v h => pt v _ h))
    refine ⟨_, rfl, rfl, _, rfl, ite2 (fun _ => ?_) (fun nc2 => ?_)⟩
    · refine ⟨_, rfl, _, rfl, a, _, rfl, .inl (.inl ea1), fun pa npa => ?_⟩
      rw [cut_map, show cutG ls (some 1) none = ls.drop 1 from cutG_of (k := 1)]
      generalize hg1 : upd Hx pa _ = G1
      have epa : G1 pa = some (.lst ((ls.drop 1).map V.str)) := by rw [← hg1, upd_same]
      have u1 : Same Hx G1 := by rw [← hg1]; exact same_upd npa
      clear hg1
      refine ⟨by show 1 ≤ sizeLine; decide, fun pb npb => ?_⟩
      generalize hg2 : upd G1 pb _ = G2
      have epb : G2 pb = some (.lst ([(Str.ofString "")].map V.str)) := by rw [← hg2, upd_same]; rfl
      have u2 : Same G1 G2 := by rw [← hg2]; exact same_upd npb
      clear hg2
      refine ⟨_, rfl, a, _, rfl, .inl (.inl (.inl ((u1.trans u2) _ _ ea1))), rfl, .inr ⟨_, rfl, _, rfl, pb, _, rfl, .inl (.inl epb), fun pc npc => ?_⟩⟩
      obtain ⟨zs, hzs, lzs, pzs, nzs⟩ : ∃ zs : List Str, cutV ([Str.ofString ""].map V.str) none (some (if decide (V.int (((ls.map V.str).length : Nat) : Int) = V.int 1) = true then 1 else 0)) = zs.map V.str ∧ zs.length ≤ 1 ∧ (∀ v ∈ zs, Pl (2 * n + 7) v) ∧ (ls.length = 1 → zs ≠ []) := by
        rw [List.length_map]
        by_cases h : ls.length = 1
        · rw [h]
          exact ⟨[Str.ofString ""], by rw [show decide (V.int ((1 : Nat) : Int) = V.int 1) = true from decide_eq_true rfl, if_pos rfl, cut_map, show cutG [Str.ofString ""] none (some 1) = [Str.ofString ""].take 1 from cutG_to (k := 1)]; rfl, by decide, one _ pe, fun _ e => nomatch e⟩
        · exact ⟨[], by rw [decide_eq_false fun e => h (by have := V.int.inj e; omega), if_neg Bool.false_ne_true, cut_map, show cutG [Str.ofString ""] none (some 0) = [Str.ofString ""].take 0 from cutG_to (k := 0)]; rfl, by decide, fun v h => (nomatch h), fun e => absurd e h⟩
      rw [hzs]
      generalize hg3 : upd G2 pc _ = G3
      have epc : G3 pc = some (.lst (zs.map V.str)) := by rw [← hg3, upd_same]
      have u3 : Same G2 G3 := by rw [← hg3]; exact same_upd npc
      clear hg3
      refine ⟨pa, pc, _, _, rfl, rfl, ((u2.trans u3) _ _ epa), epc, lim _ (by simp only [List.length_map, List.length_drop]; omega), fun pf npf => ?_⟩
      generalize hg4 : upd G3 pf _ = G4
      have epf : G4 pf = some (.lst ((ls.drop 1 ++ zs).map V.str)) := by rw [← hg4, upd_same]; simp only [List.map_append]
      have u4 : Same G3 G4 := by rw [← hg4]; exact same_upd npf
      clear hg4
      exact q _ pf (ls.drop 1 ++ zs) (s0.trans (u1.trans (u2.trans (u3.trans u4)))) epf (fun e => by have e1 := congrArg List.length e; rw [List.length_append, List.length_drop, List.length_nil] at e1; exact nzs (by omega) (List.length_eq_zero_iff.mp (by omega))) (by rw [List.length_append, List.length_drop]; omega) (app (fun v h => pd v _ h) pzs)
    refine ⟨_, rfl, rfl, _, rfl, ite2 (fun _ => ?_) (fun nc3 => ?_)⟩
    · refine ⟨_, rfl, _, rfl, a, _, rfl, .inl (.inl ea1), fun pa npa => ?_⟩
      rw [cut_map, show cutG ls none (some 1) = ls.take 1 from cutG_to (k := 1)]
      generalize hg1 : upd Hx pa _ = G1
      have epa : G1 pa = some (.lst ((ls.take 1).map V.str)) := by rw [← hg1, upd_same]
      have u1 : Same Hx G1 := by rw [← hg1]; exact same_upd npa
      clear hg1
      refine ⟨_, rfl, pa, a, _, _, rfl, rfl, epa, (u1 _ _ ea1), lim _ (by simp only [List.length_append, List.length_map, List.length_cons, List.length_nil, List.length_take, List.length_drop]; omega), fun pb npb => ?_⟩
      generalize hg2 : upd G1 pb _ = G2
      have epb : G2 pb = some (.lst ((ls.take 1 ++ ls).map V.str)) := by rw [← hg2, upd_same, List.map_append]
      have u2 : Same G1 G2 := by rw [← hg2]; exact same_upd npb
      clear hg2
      exact q _ pb (ls.take 1 ++ ls) (s0.trans (u1.trans u2)) epb (fun e => by have := congrArg List.length e; simp only [List.length_append, List.length_cons, List.length_nil, List.length_take, List.length_drop] at this; omega) (by simp only [List.length_append, List.length_cons, List.length_nil, List.length_take, List.length_drop]; omega) (app (fun v h => pt v _ h) pl0)
    refine ⟨_, rfl, rfl, _, rfl, ite2 (fun _ => ?_) (fun nc4 => ?_)⟩
    · refine ⟨_, rfl, by show 1 ≤ sizeLine; decide, fun pa npa => ?_⟩
      generalize hg1 : upd Hx pa _ = G1
      have epa : G1 pa = some (.lst ([(Str.ofString "")].map V.str)) := by rw [← hg1, upd_same]; rfl
      have u1 : Same Hx G1 := by rw [← hg1]; exact same_upd npa
      clear hg1
      refine ⟨a, pa, _, _, rfl, rfl, (u1 _ _ ea1), epa, lim _ (by simp only [List.length_append, List.length_map, List.length_cons, List.length_nil, List.length_take, List.length_drop]; omega), fun pb npb => ?_⟩
      generalize hg2 : upd G1 pb _ = G2
      have epb : G2 pb = some (.lst ((ls ++ [Str.ofString ""]).map V.str)) := by rw [← hg2, upd_same]; simp only [List.map_append]
      have u2 : Same G1 G2 := by rw [← hg2]; exact same_upd npb
      clear hg2
      exact q _ pb (ls ++ [Str.ofString ""]) (s0.trans (u1.trans u2)) epb (fun e => by have := congrArg List.length e; simp only [List.length_append, List.length_cons, List.length_nil, List.length_take, List.length_drop] at this; omega) (by simp only [List.length_append, List.length_cons, List.length_nil, List.length_take, List.length_drop]; omega) (app pl0 (one _ pe))
    refine ⟨_, rfl, rfl, _, rfl, ite2 (fun _ => ?_) (fun nc5 => ?_)⟩
    · refine ⟨by show 1 ≤ sizeLine; decide, fun pa npa => ?_⟩
      generalize hg1 : upd Hx pa _ = G1
      have epa : G1 pa = some (.lst ([(Str.ofString "")].map V.str)) := by rw [← hg1, upd_same]; rfl
      have u1 : Same Hx G1 := by rw [← hg1]; exact same_upd npa
      clear hg1
      refine ⟨_, rfl, pa, a, _, _, rfl, rfl, epa, (u1 _ _ ea1), lim _ (by simp only [List.length_append, List.length_map, List.length_cons, List.length_nil, List.length_take, List.length_drop]; omega), fun pb npb => ?_⟩
      generalize hg2 : upd G1 pb _ = G2
      have epb : G2 pb = some (.lst (([Str.ofString ""] ++ ls).map V.str)) := by rw [← hg2, upd_same, List.map_append]
      have u2 : Same G1 G2 := by rw [← hg2]; exact same_upd npb
      clear hg2
      exact q _ pb ([Str.ofString ""] ++ ls) (s0.trans (u1.trans u2)) epb (fun e => by have := congrArg List.length e; simp only [List.length_append, List.length_cons, List.length_nil, List.length_take, List.length_drop] at this; omega) (by simp only [List.length_append, List.length_cons, List.length_nil, List.length_take, List.length_drop]; omega) (app (one _ pe) pl0)
    refine ⟨_, rfl, rfl, _, rfl, ite2 (fun _ => ?_) (fun nc6 => ?_)⟩
    · refine ⟨by show 1 ≤ sizeLine; decide, fun pa npa => ?_⟩
      generalize hg1 : upd Hx pa _ = G1
      have epa : G1 pa = some (.lst ([(Str.ofString "")].map V.str)) := by rw [← hg1, upd_same]; rfl
      have u1 : Same Hx G1 := by rw [← hg1]; exact same_upd npa
      clear hg1
      exact q _ pa [Str.ofString ""] (s0.trans u1) epa (fun e => nomatch e) (by show 1 ≤ _; omega) (one _ pe)
    refine ⟨_, rfl, rfl, _, rfl, ite2 (fun _ => ?_) (fun nc7 => ?_)⟩
    · have e18 : ((10 : Int) ^ (18 : Int).toNat) = 1000000000000000000 := by decide
      have m2 : 0 ≤ d3 % 2 ∧ d3 % 2 < 2 := ⟨Int.emod_nonneg _ (by decide), Int.emod_lt_of_pos _ (by decide)⟩
      obtain ⟨v, ev, bv⟩ : ∃ v : Int, atI [V.int (-1 - d2), .int (d2 - 10 ^ (18 : Int).toNat)] (d3 % 2) = some (.int v) ∧ v.natAbs < 10 ^ 19 := by
        rw [e18]
        have hd : d3 % 2 = ((0 : Nat) : Int) ∨ d3 % 2 = ((1 : Nat) : Int) := by omega
        rcases hd with e | e <;> rw [e] <;> exact ⟨_, atI_nat rfl, by omega⟩
      have pv := pl_nt2 bv
      unfold nt at pv
      have lv := pv.1
      have l4 : (Str.ofString "lot ").length = 4 := rfl
      refine ⟨_, rfl, _, rfl, dr, _, _, _, rfl, rfl, sz, at_of (j := 2) rfl rfl, _, _, rfl, rfl, _, rfl, dr, _, _, _, rfl, rfl, sz, at_of (j := 2) rfl rfl, _, _, rfl, rfl, ⟨by decide, by decide, by decide⟩, _, _, rfl, rfl, by show 2 ≤ sizeLine; decide, fun pa npa => ?_⟩
      generalize hg1 : upd Hx pa _ = G1
      have epa : G1 pa = some (.lst [V.int (-1 - d2), .int (d2 - 10 ^ (18 : Int).toNat)]) := by rw [← hg1, upd_same]
      have u1 : Same Hx G1 := by rw [← hg1]; exact same_upd npa
      clear hg1
      refine ⟨_, rfl, dr, _, _, _, rfl, rfl, (u1.seq sz), at_of (j := 3) rfl rfl, .inl ⟨_, rfl, _, _, rfl, rfl, by show (0 : Int) < 2; decide, pa, _, _, _, rfl, rfl, .inl (.inl epa), ev, _, rfl, Nat.lt_of_lt_of_le (log_lt (k := 64) (by decide) (Nat.lt_of_lt_of_le bv (by decide))) (by decide), _, _, rfl, rfl, by rw [l4]; exact lim _ (by omega), by show 1 ≤ sizeLine; decide, fun pb npb => ?_⟩⟩
      generalize hg2 : upd G1 pb _ = G2
      have epb : G2 pb = some (.lst ([(Str.ofString "lot " ++ Str.ofString (toString v))].map V.str)) := by rw [← hg2, upd_same]; rfl
      have u2 : Same G1 G2 := by rw [← hg2]; exact same_upd npb
      clear hg2
      refine ⟨_, rfl, _, rfl, a, _, rfl, .inl (.inl ((u1.trans u2) _ _ ea1)), fun pc npc => ?_⟩
      rw [cut_map, show cutG ls (some 1) none = ls.drop 1 from cutG_of (k := 1)]
      generalize hg3 : upd G2 pc _ = G3
      have epc : G3 pc = some (.lst ((ls.drop 1).map V.str)) := by rw [← hg3, upd_same]
      have u3 : Same G2 G3 := by rw [← hg3]; exact same_upd npc
      clear hg3
      refine ⟨pb, pc, _, _, rfl, rfl, (u3 _ _ epb), epc, lim _ (by simp only [List.length_append, List.length_map, List.length_cons, List.length_nil, List.length_take, List.length_drop]; omega), fun pf npf => ?_⟩
      generalize hg4 : upd G3 pf _ = G4
      have epf : G4 pf = some (.lst (([(Str.ofString "lot " ++ Str.ofString (toString v))] ++ (ls.drop 1)).map V.str)) := by rw [← hg4, upd_same]; simp only [List.map_append]
      have u4 : Same G3 G4 := by rw [← hg4]; exact same_upd npf
      clear hg4
      exact q _ pf ([(Str.ofString "lot " ++ Str.ofString (toString v))] ++ ls.drop 1) (s0.trans (u1.trans (u2.trans (u3.trans u4)))) epf (fun e => by have := congrArg List.length e; simp only [List.length_append, List.length_cons, List.length_nil, List.length_take, List.length_drop] at this; omega) (by simp only [List.length_append, List.length_cons, List.length_nil, List.length_take, List.length_drop]; omega) (app (one _ (((pl_of (n := 4) (by decide +kernel)).app pv).le (by omega))) (fun v h => pd v _ h))
    refine ⟨_, rfl, rfl, _, rfl, ite2 (fun _ => ?_) (fun nc8 => ?_)⟩
    · obtain ⟨z, hz⟩ : ∃ z, ls[k0]? = some z := ⟨_, List.getElem?_eq_getElem kl⟩
      have pz := hp z (List.mem_of_getElem? hz)
      have atz : atI (ls.map V.str) (k0 : Int) = some (.str z) := atI_nat (by rw [List.getElem?_map, hz]; rfl)
      refine ⟨_, rfl, _, rfl, _, rfl, a, _, rfl, .inl (.inl ea1), fun pa npa => ?_⟩
      rw [cut_map, cutG_to]
      generalize hg1 : upd Hx pa _ = G1
      have epa : G1 pa = some (.lst ((ls.take k0).map V.str)) := by rw [← hg1, upd_same]
      have u1 : Same Hx G1 := by rw [← hg1]; exact same_upd npa
      clear hg1
      refine ⟨_, rfl, _, rfl, a, _, _, _, rfl, rfl, .inl (.inl (u1 _ _ ea1)), atz, _, rfl, dr, _, _, _, rfl, rfl, (u1.seq sz), at_of (j := 6) rfl rfl, z, d6, n, rfl, pz, by omega, fun Hf fr ys sf efr ly py => ?_⟩
      obtain ⟨y, hy, ey⟩ := pick (ys := ys) (m := d5) b4.1 (by rw [ly]; exact b4.2)
      have pyy := py y hy
      have epa2 := sf _ _ epa
      have ea2 := sf _ _ (u1 _ _ ea1)
      have szf := (u1.trans sf).seq sz
      refine ⟨_, rfl, dr, _, _, _, rfl, rfl, szf, at_of (j := 5) rfl rfl, fr, _, _, _, rfl, rfl, .inl (.inl efr), ey, by show 1 ≤ sizeLine; decide, fun pb npb => ?_⟩
      generalize hgw1 : upd Hf pb _ = wG1
      have epb : wG1 pb = some (.lst ([y].map V.str)) := by rw [← hgw1, upd_same]; rfl
      have wu1 : Same Hf wG1 := by rw [← hgw1]; exact same_upd npb
      clear hgw1
      refine ⟨pa, pb, _, _, rfl, rfl, (wu1 _ _ epa2), epb, lim _ (by simp only [List.length_append, List.length_map, List.length_cons, List.length_nil, List.length_take, List.length_drop]; omega), fun pc npc => ?_⟩
      generalize hgw2 : upd wG1 pc _ = wG2
      have epc : wG2 pc = some (.lst ((ls.take k0 ++ [y]).map V.str)) := by rw [← hgw2, upd_same]; simp only [List.map_append]
      have wu2 : Same wG1 wG2 := by rw [← hgw2]; exact same_upd npc
      clear hgw2
      refine ⟨_, rfl, _, rfl, _, _, rfl, rfl, _, rfl, a, _, rfl, .inl (.inl ((wu1.trans wu2) _ _ ea2)), fun pd_ npd_ => ?_⟩
      rw [cut_map, show ((k0 : Int) + 1) = ((k0 + 1 : Nat) : Int) by omega, cutG_of]
      generalize hgw3 : upd wG2 pd_ _ = wG3
      have epd_ : wG3 pd_ = some (.lst ((ls.drop (k0 + 1)).map V.str)) := by rw [← hgw3, upd_same]
      have wu3 : Same wG2 wG3 := by rw [← hgw3]; exact same_upd npd_
      clear hgw3
      refine ⟨pc, pd_, _, _, rfl, rfl, (wu3 _ _ epc), epd_, lim _ (by simp only [List.length_append, List.length_map, List.length_cons, List.length_nil, List.length_take, List.length_drop]; omega), fun pf npf => ?_⟩
      generalize hgw4 : upd wG3 pf _ = wG4
      have epf : wG4 pf = some (.lst (((ls.take k0 ++ [y]) ++ (ls.drop (k0 + 1))).map V.str)) := by rw [← hgw4, upd_same]; simp only [List.map_append]
      have wu4 : Same wG3 wG4 := by rw [← hgw4]; exact same_upd npf
      clear hgw4
      exact q _ pf ((ls.take k0 ++ [y]) ++ ls.drop (k0 + 1)) ((s0.trans (u1.trans sf)).trans (wu1.trans (wu2.trans (wu3.trans wu4)))) epf (fun e => by have := congrArg List.length e; simp only [List.length_append, List.length_cons, List.length_nil, List.length_take, List.length_drop] at this; omega) (by simp only [List.length_append, List.length_cons, List.length_nil, List.length_take, List.length_drop]; omega) (app (app (fun v h => pt v _ h) (one _ pyy)) (fun v h => pd v _ h))
    refine ⟨_, rfl, _, rfl, _, _, rfl, rfl, _, rfl, a, _, rfl, .inl (.inl ea1), fun pa npa => ?_⟩
    rw [cut_map, show ((k0 : Int) + 1) = ((k0 + 1 : Nat) : Int) by omega, cutG_to]
    generalize hg1 : upd Hx pa _ = G1
    have epa : G1 pa = some (.lst ((ls.take (k0 + 1)).map V.str)) := by rw [← hg1, upd_same]
    have u1 : Same Hx G1 := by rw [← hg1]; exact same_upd npa
    clear hg1
    refine ⟨_, rfl, _, rfl, p, dr, d0, d1, d2, d3, d4, d5, d6, rfl, u1.seq sz, hpin, b1, b2, b3, ⟨by omega, by omega⟩, fun Hf y sf py => ?_⟩
    have pyy : Pl (2 * n + 7) y := py.le (by omega)
    have epa2 := sf _ _ epa
    have ea2 := sf _ _ (u1 _ _ ea1)
    refine ⟨by show 1 ≤ sizeLine; decide, fun pb npb => ?_⟩
    generalize hgw1 : upd Hf pb _ = wG1
    have epb : wG1 pb = some (.lst ([y].map V.str)) := by rw [← hgw1, upd_same]; rfl
    have wu1 : Same Hf wG1 := by rw [← hgw1]; exact same_upd npb
    clear hgw1
    refine ⟨pa, pb, _, _, rfl, rfl, (wu1 _ _ epa2), epb, lim _ (by simp only [List.length_append, List.length_map, List.length_cons, List.length_nil, List.length_take, List.length_drop]; omega), fun pc npc => ?_⟩
    generalize hgw2 : upd wG1 pc _ = wG2
    have epc : wG2 pc = some (.lst ((ls.take (k0 + 1) ++ [y]).map V.str)) := by rw [← hgw2, upd_same]; simp only [List.map_append]
    have wu2 : Same wG1 wG2 := by rw [← hgw2]; exact same_upd npc
    clear hgw2
    refine ⟨_, rfl, _, rfl, _, _, rfl, rfl, _, rfl, a, _, rfl, .inl (.inl ((wu1.trans wu2) _ _ ea2)), fun pd_ npd_ => ?_⟩
    rw [cut_map, show ((k0 : Int) + 1) = ((k0 + 1 : Nat) : Int) by omega, cutG_of]
    generalize hgw3 : upd wG2 pd_ _ = wG3
    have epd_ : wG3 pd_ = some (.lst ((ls.drop (k0 + 1)).map V.str)) := by rw [← hgw3, upd_same]
    have wu3 : Same wG2 wG3 := by rw [← hgw3]; exact same_upd npd_
    clear hgw3
    refine ⟨pc, pd_, _, _, rfl, rfl, (wu3 _ _ epc), epd_, lim _ (by simp only [List.length_append, List.length_map, List.length_cons, List.length_nil, List.length_take, List.length_drop]; omega), fun pf npf => ?_⟩
    generalize hgw4 : upd wG3 pf _ = wG4
    have epf : wG4 pf = some (.lst (((ls.take (k0 + 1) ++ [y]) ++ (ls.drop (k0 + 1))).map V.str)) := by rw [← hgw4, upd_same]; simp only [List.map_append]
    have wu4 : Same wG3 wG4 := by rw [← hgw4]; exact same_upd npf
    clear hgw4
    exact q _ pf ((ls.take (k0 + 1) ++ [y]) ++ ls.drop (k0 + 1)) ((s0.trans (u1.trans sf)).trans (wu1.trans (wu2.trans (wu3.trans wu4)))) epf (fun e => by have := congrArg List.length e; simp only [List.length_append, List.length_cons, List.length_nil, List.length_take, List.length_drop] at this; omega) (by simp only [List.length_append, List.length_cons, List.length_nil, List.length_take, List.length_drop]; omega) (app (app (fun v h => pt v _ h) (one _ pyy)) (fun v h => pd v _ h))

end
end Own

namespace Own
open PySem PySem.Spec PyProof.Rows L2
/-! ### several clauses, each with the name of the caught error -/
/-- behind a clause the name is gone -/
abbrev goneE (i : Nat) (D : Ends) : Ends := ⟨fun τ G => D.nx (τ.set i none) G, D.rt, fun τ G => D.bk (τ.set i none) G, fun τ G => D.ct (τ.set i none) G⟩
abbrev Clause := Value × (Addr → Value → Option Addr → TS)
def wEach (K : PySem.W.Frag) (out : WX) (i : Nat) (D : Ends) : List Clause → WX
  | [] => out
  | q :: more => fun cls d τ G => ∃ yes, PySem.W.exmOne K cls q.1 = some yes ∧ (yes = true → ∀ p, G p = none → q.2 p cls d (goneE i D) (τ.set i (some (.ref p))) G) ∧ (yes = false → wEach K out i D more cls d τ G)
inductive Clauses (X : Cx) (nm : Str) : List ExceptHandler → List Clause → Prop
  | none : Clauses X nm [] []
  | more {x : Str} {c : Value} {rd : Addr → Value → Option Addr → TS} {b : Stmt} {bs : List Stmt} {p1 p2 : Pos} {hs : List ExceptHandler} {qs : List Clause} (known : Names X x c)
      (suite : ∀ (p : Addr) (o : Obj) (cls : Value) (d : Option Addr) (pn : List (Addr × Obj)), L2N.Zn cls d o → (∃ vs, o.data = .fields vs) → PSs (X.suite p ((p, o) :: pn)) (b :: bs) (rd p cls d)) (rest : Clauses X nm hs qs) :
      Clauses X nm (.ExceptHandler (some (.Name x p1)) (some nm) (b :: bs) p2 :: hs) ((c, rd) :: qs)
section
variable {X : Cx} {nm : Str} {i : Nat} {body : List Stmt} {e1 : ExceptHandler} {es : List ExceptHandler} {qs : List Clause} {pos : Pos} {tb : WX → TS} {out : WX}
theorem ps_try_each (stk : X.stack = X.env :: X.outer) (frm : X.env.frame = some X.env.locals) (nod : X.N.Nodup) (at_ : X.N[i]? = some nm) (loc : X.env.kindOf nm = some .local) (takes : L2N.Takes X out)
    (try_ : ∀ (W : WX) (pn : List (Addr × Obj)) (xe : Value → Shared → Prop), L2N.Takes (X.tr pn xe) W → PassesOwn (model X.prog X.w) X.A X.env xe → PSs (X.tr pn xe) body (tb W))
    (cl : Clauses X nm (e1 :: es) qs) : PS X (.Try body (e1 :: es) [] [] pos) (fun D τ G => tb (wEach X.K out i D qs) D τ G) := by
  constructor
  intro pins st τ G D inv ask
  have okI := inv.ok
  have frs_ : X.A.frames = some (X.env :: X.outer) := okI.frames.trans (congrArg some stk)
  have local_ : Loc X.env.scope nm := .inl loc
  apply wpAny_Try_except
  have run := (try_ (wEach X.K out i D qs) (X.pn ++ pins) (fun u s1 => wpAny (model X.prog X.w) X.A (noteFrame u X.env) (fun _ s2 => wpAny (model X.prog X.w) X.A (setFlight u none) (fun _ s3 =>
    wpAny (model X.prog X.w) X.A (handleBy u X.env (e1 :: es)) (SP X pins D) X.xe s3) X.xe s2) X.xe s1) (fun u s1 air => ?_) PassesOwn.looking).run [] st τ G D (inv.toTry _) ask
  rotate_left
  · -- caught
    obtain ⟨p, B, sI, pins2, τ2, G2, cls, d, rfl, inv2, old, slots, sky, fresh, os, bare, wish⟩ := air
    have inv3 : Inv X pins τ2 G2 sI := inv2.ofTry okI
    rw [show (X.tr (X.pn ++ pins) _).stack = X.env :: X.outer from stk] at sky
    refine L2N.Sky.land L2N.Zn.steady frs_ frm sky fun hp fl up => ?_
    have inv4 : Inv X pins τ2 G2 { s1 with heap := hp } := inv3.landed old fl.1 (slots.trans up) os bare
    obtain ⟨o, vs, atp, isz, isd⟩ := fl.there
    have noFrame : p ∉ frs (X.env :: X.outer) := fun hm => by
      obtain ⟨_, o2, at2, no2⟩ := fl.2.2.1.mem hm
      rw [atp] at at2
      cases at2
      exact no2 _ isd
    have noL : p ≠ X.env.locals := fun z => noFrame (List.mem_filterMap.mpr ⟨X.env, List.mem_cons_self, frm.trans (congrArg some z.symm)⟩)
    have noF : p ∉ X.fs := fun hm => by
      obtain ⟨v, hv, q⟩ := List.mem_filterMap.mp hm
      exact noFrame (List.mem_filterMap.mpr ⟨v, List.mem_cons_of_mem _ hv, q⟩)
    have invS := inv4.suite atp isd fresh noL noF
    have walk : ∀ {hs' : List ExceptHandler} {qs' : List Clause}, Clauses X nm hs' qs' → wEach X.K out i D qs' cls d τ2 G2 →
        wpAny (model X.prog X.w) X.A (handleBy (.ref p) X.env hs') (SP X pins D) X.xe { s1 with heap := hp } := fun {hs' qs'} ck => by
      induction ck with
      | none =>
        intro wish
        apply wpAny_handleBy_nil
        obtain ⟨_, _, _, o2, vs2, T, oT, ts2, at2, z2, d2, tr, _⟩ := id fl
        unfold PySem.passOn
        apply wpAny_bind
        refine wpAny_field at2 d2 tr ?_
        have on : wpAny (model X.prog X.w) X.A (setFlight (.ref p) X.env.frame) (fun _ s4 => wpAny (model X.prog X.w) X.A (throw (.ref p) : Sem Flow) (SP X pins D) X.xe s4) X.xe { s1 with heap := hp } := by
          rw [frm]
          refine HandSPX.setFlight_upZ fl fun h4 held up4 => wpAny_throw (takes _ _ ?_)
          refine ⟨p, B, sI, pins, τ2, G2, cls, d, rfl, inv3, old, (slots.trans up).trans up4, .inr (.inr ?_), fresh, os, bare, wish⟩
          rw [stk]
          exact held
        rw [if_neg (by simp : ¬ ((Value.ref T == Value.none) = true))]
        first
          | exact wpAny_bind (wpAny_pure (wpAny_bind on))
          | exact wpAny_bind on
      | @more x c rd b bs p1 p2 hs2 qs2 known suite rest ih =>
        intro wish
        obtain ⟨yes, ex, then_, else_⟩ := wish
        apply wpAny_handleBy_cons
        rotate_left
        · intro q
          cases q
        apply codeAny_handlers_test
        have looks : PySem.W.Looks (model X.prog X.w) hp (typeOf (.ref p)) cls := fun A Q E s k q => wpAny_typeOf_ref (k _ _ atp) (by rw [isz.1]; exact q)
        have is := PySem.W.exm_one (M := model X.prog X.w) inv4.kIn looks ex
        have name : ∀ {Q E : Value → Shared → Prop}, Q c { s1 with heap := hp } → wpAny (model X.prog X.w) (X.A.mark (some (.ref p))) (eval (.Name x p1) X.env) Q E { s1 with heap := hp } := fun {Q E} q => by
          obtain ⟨gl, nodbg, mod | ⟨nomod, boot, nn⟩⟩ := known
          · exact ld_glob (X := X.suite p ((p, o) :: (X.pn ++ pins))) invS gl mod q nodbg
          · exact ld_blt (X := X.suite p ((p, o) :: (X.pn ++ pins))) invS gl nomod boot q nn nodbg
        refine name (is.here ?_)
        cases yes with
        | false => exact ih (else_ rfl)
        | true =>
          apply codeAny_handlers_suite_as
          refine HandSPX.lands_againZ fl fun h4 fl4 up4 => ?_
          have inv5 : Inv X pins τ2 G2 { s1 with heap := h4 } := inv3.landed old fl4.1 ((slots.trans up).trans up4) os bare
          obtain ⟨o4, vs4, at4, z4, d4⟩ := fl4.there
          have invT := inv5.suite at4 d4 fresh noL noF
          refine store_ok (X := X.suite p ((p, o4) :: (X.pn ++ pins))) (v := .ref p) invT nod at_ local_ rfl (fun s5 inv6 => ?_) (.inr loc)
          refine wpAny_mono ((suite p o4 cls d (X.pn ++ pins) z4 ⟨_, d4⟩).run [] s5 _ G2 _ inv6 (then_ rfl p fresh)) (fun f s6 r => ?_) (fun _ _ z => False.elim z)
          have gone : ∀ {τ6 : L2.St} {G6 : Hp} {Q : Shared → Prop}, Inv (X.suite p ((p, o4) :: (X.pn ++ pins))) [] τ6 G6 s6 → (∀ s7, Inv X pins (τ6.set i none) G6 s7 → Q s7) →
              wpAny (model X.prog X.w) X.A (do bindName X.env nm .none; unbindBehindTheSuite X.env nm p2) (fun _ s7 => Q s7) X.xe s6 := fun inv7 hq => gone_ok (inv7.unsuite okI) nod at_ loc hq
          cases f with
          | next =>
            obtain ⟨_, _, inv7, q⟩ := r
            exact gone inv7 fun _ inv8 => ⟨_, _, inv8, q⟩
          | brk =>
            obtain ⟨_, _, inv7, q⟩ := r
            exact gone inv7 fun _ inv8 => ⟨_, _, inv8, q⟩
          | cont =>
            obtain ⟨_, _, inv7, q⟩ := r
            exact gone inv7 fun _ inv8 => ⟨_, _, inv8, q⟩
          | ret u =>
            obtain ⟨_, _, _, inv7, rel, q⟩ := r
            exact gone inv7 fun _ inv8 => ⟨_, _, _, inv8, rel, q⟩
    exact walk cl wish
  · refine wpAny_mono run (fun f s1 r => ?_) fun _ _ z => z
    cases f with
    | next =>
      obtain ⟨_, _, inv2, q⟩ := r
      exact wpAny_execs_nil ⟨_, _, inv2.ofTry okI, q⟩
    | brk =>
      obtain ⟨_, _, inv2, q⟩ := r
      exact ⟨_, _, inv2.ofTry okI, q⟩
    | cont =>
      obtain ⟨_, _, inv2, q⟩ := r
      exact ⟨_, _, inv2.ofTry okI, q⟩
    | ret u =>
      obtain ⟨_, _, _, inv2, rel, q⟩ := r
      exact ⟨_, _, _, inv2.ofTry okI, rel, q⟩
end
end Own

namespace Own
open PySem PySem.Spec PyProof.Rows L2 L2H
section
variable {P : Program} {w : World} {K : PySem.W.Frag} {mg : Str → Option Value} {base : Heap} {C : Addr}
theorem okH_lwhole {f : Addr} {fd : FuncData} (F : Fun K "_law_whole" "_law_whole" s__law_whole f fd) (T : Bi mg) : L2H.FnH P w K mg base CX0 1 f fd ["_law_value"] spWhole := by
  refine okH F sc__law_whole (fun vs H Q E h => ?_) (fun cdv A outer s H vs Q E p hot hr h => ?_)
  · obtain ⟨i, rfl, _⟩ := h
    rfl
  · obtain ⟨i, rfl, q⟩ := h
    refine ⟨_, (pss_one (ps_ret (pe_and (pe_callB call_isi (by rfl) T.b_isinstance (by decide +kernel) (pa_cons (pv 0) (pa_cons (pe_bltn (v := .ty "int") (by rfl) T.b_int (by decide +kernel) rfl) pa_nil))) (pe_one (pe_not (pe_callB call_isi (by rfl) T.b_isinstance (by decide +kernel) (pa_cons (pv 0) (pa_cons (pe_bltn (v := .ty "bool") (by rfl) T.b_bool (by decide +kernel) rfl) pa_nil)))))))), ?_⟩
    refine ⟨_, rfl, _, _, _, _, true, rfl, .ty "int", .base (.int i), kit_ty (by decide +kernel), true, rfl, ?_⟩
    exact ⟨_, rfl, _, _, _, _, false, rfl, .ty "bool", .base (.int i), kit_ty (by decide +kernel), false, rfl, q⟩
theorem fnH_no {k : Nat} {f : Addr} {fd : FuncData} {ps : List Str} : L2H.FnH P w K mg base CX0 k f fd ps spNo := ⟨fun _ _ _ _ h => h.elim, fun _ _ _ _ _ _ _ _ _ _ _ _ _ _ _ _ h => h.elim⟩
/-- its body, with any promise for the call within -/
theorem sameH_body {f : Addr} {fd : FuncData} {k : Nat} {sp : Sp} {d : Nat} (D_s : Df K mg "_law_same" s__law_same ["_law_value", "_law_due"] f fd) (T : Bi mg) {f_w : Addr} {d_w : FuncData} (D_w : Df K mg "_law_whole" s__law_whole ["_law_value"] f_w d_w) (G_w : L2H.FnH P w K mg base CX0 1 f_w d_w ["_law_value"] spWhole)
    (G_s : L2H.FnH P w K mg base CX0 (k + 1) f fd ["_law_value", "_law_due"] sp) (hsp : ∀ e x y H Q, e + 1 ≤ d → EqV e H x y → Q (.bl true) H → sp [x, y] H Q E0) : L2H.FnH P w K mg base CX0 (k + 2) f fd ["_law_value", "_law_due"] (spSame d) := by
  refine okH D_s.F sc__law_same (fun vs H Q E h => ?_) (fun cdv A outer s H vs Q E p hot hr h => ?_)
  · obtain ⟨x, y, rfl, _⟩ := h
    rfl
  · obtain ⟨x, y, rfl, hxy, q⟩ := h
    refine ⟨_, (pss_cons (ps_if (pt_cmpR op_isN (pv 1) pe_non (nomark _)) (pss_one (ps_ret (pe_cmpR op_isN (pv 0) pe_non (nomark _)))) pss_nil)
        (pss_cons (ps_if (pt_val (pe_callB call_isi (by rfl) T.b_isinstance (by decide +kernel) (pa_cons (pv 1) (pa_cons (pe_bltn (v := .ty "bool") (by rfl) T.b_bool (by decide +kernel) rfl) pa_nil)))) (pss_one (ps_ret (pe_and (pe_callB call_isi (by rfl) T.b_isinstance (by decide +kernel) (pa_cons (pv 0) (pa_cons (pe_bltn (v := .ty "bool") (by rfl) T.b_bool (by decide +kernel) rfl) pa_nil))) (pe_one (pe_cmpR op_eq (pv 0) (pv 1) (nomark _)))))) pss_nil)
        (pss_cons (ps_if (pt_val (pe_callB call_isi (by rfl) T.b_isinstance (by decide +kernel) (pa_cons (pv 1) (pa_cons (pe_bltn (v := .ty "int") (by rfl) T.b_int (by decide +kernel) rfl) pa_nil)))) (pss_one (ps_ret (pe_and (pe_callH G_w (hr.mono (by omega)) hot (by rfl) D_w.g D_w.F.kp D_w.b (E := fun _ => E0) (fun _ => pass0A) (pa_cons (pv 0) pa_nil)) (pe_one (pe_cmpR op_eq (pv 0) (pv 1) (nomark _)))))) pss_nil)
        (pss_cons (ps_if (pt_val (pe_callB call_isi (by rfl) T.b_isinstance (by decide +kernel) (pa_cons (pv 1) (pa_cons (pe_bltn (v := .ty "str") (by rfl) T.b_str (by decide +kernel) rfl) pa_nil)))) (pss_one (ps_ret (pe_and (pe_callB call_isi (by rfl) T.b_isinstance (by decide +kernel) (pa_cons (pv 0) (pa_cons (pe_bltn (v := .ty "str") (by rfl) T.b_str (by decide +kernel) rfl) pa_nil))) (pe_one (pe_cmpR op_eq (pv 0) (pv 1) (nomark _)))))) pss_nil)
        (pss_cons (ps_if (PW.pt (pw_and (pt_val (pe_callB call_isi (by rfl) T.b_isinstance (by decide +kernel) (pa_cons (pv 1) (pa_cons (pe_bltn (v := .ty "list") (by rfl) T.b_list (by decide +kernel) rfl) pa_nil)))) (pw_and1 (pt_not (pt_val (pe_callB call_isi (by rfl) T.b_isinstance (by decide +kernel) (pa_cons (pv 0) (pa_cons (pe_bltn (v := .ty "list") (by rfl) T.b_list (by decide +kernel) rfl) pa_nil)))))))) (pss_one (ps_ret pe_bl)) pss_nil)
        (pss_cons (ps_if (PW.pt (pw_and (pt_val (pe_callB call_isi (by rfl) T.b_isinstance (by decide +kernel) (pa_cons (pv 1) (pa_cons (pe_bltn (v := .ty "tuple") (by rfl) T.b_tuple (by decide +kernel) rfl) pa_nil)))) (pw_and1 (pt_not (pt_val (pe_callB call_isi (by rfl) T.b_isinstance (by decide +kernel) (pa_cons (pv 0) (pa_cons (pe_bltn (v := .ty "tuple") (by rfl) T.b_tuple (by decide +kernel) rfl) pa_nil)))))))) (pss_one (ps_ret pe_bl)) pss_nil)
        (pss_cons (ps_if (pt_cmpR op_ne (pe_callB call_len_seq (by rfl) T.b_len PySem.boot_len (pa_cons (pv 0) pa_nil)) (pe_callB call_len_seq (by rfl) T.b_len PySem.boot_len (pa_cons (pv 1) pa_nil)) (nomark _)) (pss_one (ps_ret pe_bl)) pss_nil)
        (pss_cons (ps_forH PassesOwn.never hot (pi_range1H (by rfl) T.b_range (pa_cons (pe_callB call_len_seq (by rfl) T.b_len PySem.boot_len (pa_cons (pv 1) pa_nil)) pa_nil)) (pg_name (i := 2) sc__law_same.nd rfl (.inl rfl))
        (pss_one (ps_if (pt_not (pt_val (pe_callH G_s hr hot (by rfl) D_s.g D_s.F.kp D_s.b (E := fun _ => E0) (fun _ => pass0A) (pa_cons (pe_ix (r := rIxB K) ix_seqB (pv 0) (pv 2) (fun _ _ => rfl)) (pa_cons (pe_ix (r := rIxB K) ix_seqB (pv 1) (pv 2) (fun _ _ => rfl)) pa_nil))))) (pss_one (ps_ret pe_bl)) pss_nil)))
        (pss_one (ps_ret pe_bl)))))))))), ?_⟩
    rcases hxy.cases' with (⟨i, rfl, rfl⟩ | ⟨b, rfl, rfl⟩ | ⟨rfl, rfl⟩ | ⟨z, rfl, rfl⟩) | ⟨e, a, b, vs, us, hle, rfl, rfl, hab, hlen, hl, hel⟩
    · refine ⟨_, rfl, rfl, _, rfl, ?_⟩
      refine ⟨_, rfl, _, _, _, _, false, rfl, .ty "bool", .base (.int i), kit_ty (by decide +kernel), false, rfl, ?_⟩
      refine ⟨_, rfl, _, _, _, _, true, rfl, .ty "int", .base (.int i), kit_ty (by decide +kernel), true, rfl, ?_⟩
      refine ⟨_, rfl, i, rfl, true, rfl, ?_⟩
      refine ⟨_, rfl, _, rfl, rfl, ?_⟩
      rw [decide_eq_true rfl]
      exact q
    · refine ⟨_, rfl, rfl, _, rfl, ?_⟩
      refine ⟨_, rfl, _, _, _, _, true, rfl, .ty "bool", .base (.bl b), kit_ty (by decide +kernel), true, rfl, ?_⟩
      refine ⟨_, rfl, _, _, _, _, true, rfl, .ty "bool", .base (.bl b), kit_ty (by decide +kernel), true, rfl, ?_⟩
      refine ⟨_, rfl, _, rfl, rfl, ?_⟩
      rw [decide_eq_true rfl]
      exact q
    · refine ⟨_, rfl, rfl, _, rfl, ?_⟩
      exact ⟨_, rfl, rfl, q⟩
    · refine ⟨_, rfl, rfl, _, rfl, ?_⟩
      refine ⟨_, rfl, _, _, _, _, false, rfl, .ty "bool", .base (.str z), kit_ty (by decide +kernel), false, rfl, ?_⟩
      refine ⟨_, rfl, _, _, _, _, false, rfl, .ty "int", .base (.str z), kit_ty (by decide +kernel), false, rfl, ?_⟩
      refine ⟨_, rfl, _, _, _, _, true, rfl, .ty "str", .base (.str z), kit_ty (by decide +kernel), true, rfl, ?_⟩
      refine ⟨_, rfl, _, _, _, _, true, rfl, .ty "str", .base (.str z), kit_ty (by decide +kernel), true, rfl, ?_⟩
      refine ⟨_, rfl, _, rfl, rfl, ?_⟩
      rw [decide_eq_true rfl]
      exact q
    · rcases hab with ⟨ha, hb⟩ | ⟨ha, hb⟩
      · have tA : TyX K H (.ref a) (.type "tuple") := .base (.tup ha)
        have tB : TyX K H (.ref b) (.type "tuple") := .base (.tup hb)
        have qA : SqB K H a vs := .inr (.inl (.inl ha))
        have qB : SqB K H b us := .inr (.inl (.inl hb))
        refine ⟨_, rfl, rfl, _, rfl, ?_⟩
        refine ⟨_, rfl, _, _, _, _, false, rfl, .ty "bool", tB, kit_ty (by decide +kernel), false, rfl, ?_⟩
        refine ⟨_, rfl, _, _, _, _, false, rfl, .ty "int", tB, kit_ty (by decide +kernel), false, rfl, ?_⟩
        refine ⟨_, rfl, _, _, _, _, false, rfl, .ty "str", tB, kit_ty (by decide +kernel), false, rfl, ?_⟩
        refine ⟨_, rfl, _, _, _, _, false, rfl, .ty "list", tB, kit_ty (by decide +kernel), false, rfl, ?_⟩
        refine ⟨_, rfl, _, _, _, _, true, rfl, .ty "tuple", tB, kit_ty (by decide +kernel), true, rfl, ?_⟩
        refine ⟨_, rfl, _, _, _, _, true, rfl, .ty "tuple", tA, kit_ty (by decide +kernel), true, rfl, ?_⟩
        refine ⟨_, rfl, a, _, rfl, qA, _, rfl, b, _, rfl, qB, rfl, _, rfl, ?_⟩
        rw [hlen]
        refine iteNS rfl ?_
        refine ⟨_, rfl, b, _, rfl, qB, _, rfl, by omega, by omega, ?_⟩
        rw [show ((us.length : Int)).toNat = us.length by omega]
        refine for_range (lo := 0) (n := us.length) (fun i σ H' => (∃ y2, σ = [some (.ref a), some (.ref b), y2]) ∧ H' = H) ⟨⟨_, rfl⟩, rfl⟩ (fun i σ H' hi p => ?_) (fun σ H' p => ?_)
        · obtain ⟨⟨y2, rfl⟩, rfl⟩ := p
          have hv : vs[i]? = some vs[i] := List.getElem?_eq_getElem (by omega)
          have hu : us[i]? = some us[i] := List.getElem?_eq_getElem hi
          refine ⟨_, rfl, _, rfl, a, _, _, _, rfl, rfl, qA, at_of (j := i) (by omega) hv, _, rfl, _, rfl, b, _, _, _, rfl, rfl, qB, at_of (j := i) (by omega) hu, ?_⟩
          exact hsp e _ _ _ _ hle (hel i _ _ hv hu) ⟨true, rfl, ⟨_, rfl⟩, rfl⟩
        · obtain ⟨_, rfl⟩ := p
          exact q
      · have tA : TyX K H (.ref a) (.type "list") := .base (.lst ha)
        have tB : TyX K H (.ref b) (.type "list") := .base (.lst hb)
        have qA : SqB K H a vs := .inl (.inl (.inl ha))
        have qB : SqB K H b us := .inl (.inl (.inl hb))
        refine ⟨_, rfl, rfl, _, rfl, ?_⟩
        refine ⟨_, rfl, _, _, _, _, false, rfl, .ty "bool", tB, kit_ty (by decide +kernel), false, rfl, ?_⟩
        refine ⟨_, rfl, _, _, _, _, false, rfl, .ty "int", tB, kit_ty (by decide +kernel), false, rfl, ?_⟩
        refine ⟨_, rfl, _, _, _, _, false, rfl, .ty "str", tB, kit_ty (by decide +kernel), false, rfl, ?_⟩
        refine ⟨_, rfl, _, _, _, _, true, rfl, .ty "list", tB, kit_ty (by decide +kernel), true, rfl, ?_⟩
        refine ⟨_, rfl, _, _, _, _, true, rfl, .ty "list", tA, kit_ty (by decide +kernel), true, rfl, ?_⟩
        refine ⟨_, rfl, _, _, _, _, false, rfl, .ty "tuple", tB, kit_ty (by decide +kernel), false, rfl, ?_⟩
        refine ⟨_, rfl, a, _, rfl, qA, _, rfl, b, _, rfl, qB, rfl, _, rfl, ?_⟩
        rw [hlen]
        refine iteNS rfl ?_
        refine ⟨_, rfl, b, _, rfl, qB, _, rfl, by omega, by omega, ?_⟩
        rw [show ((us.length : Int)).toNat = us.length by omega]
        refine for_range (lo := 0) (n := us.length) (fun i σ H' => (∃ y2, σ = [some (.ref a), some (.ref b), y2]) ∧ H' = H) ⟨⟨_, rfl⟩, rfl⟩ (fun i σ H' hi p => ?_) (fun σ H' p => ?_)
        · obtain ⟨⟨y2, rfl⟩, rfl⟩ := p
          have hv : vs[i]? = some vs[i] := List.getElem?_eq_getElem (by omega)
          have hu : us[i]? = some us[i] := List.getElem?_eq_getElem hi
          refine ⟨_, rfl, _, rfl, a, _, _, _, rfl, rfl, qA, at_of (j := i) (by omega) hv, _, rfl, _, rfl, b, _, _, _, rfl, rfl, qB, at_of (j := i) (by omega) hu, ?_⟩
          exact hsp e _ _ _ _ hle (hel i _ _ hv hu) ⟨true, rfl, ⟨_, rfl⟩, rfl⟩
        · obtain ⟨_, rfl⟩ := p
          exact q
theorem okH_same {f : Addr} {fd : FuncData} (D_s : Df K mg "_law_same" s__law_same ["_law_value", "_law_due"] f fd) (T : Bi mg) {f_w : Addr} {d_w : FuncData} (D_w : Df K mg "_law_whole" s__law_whole ["_law_value"] f_w d_w) (G_w : L2H.FnH P w K mg base CX0 1 f_w d_w ["_law_value"] spWhole) :
    ∀ d : Nat, L2H.FnH P w K mg base CX0 (d + 2) f fd ["_law_value", "_law_due"] (spSame d)
  | 0 => sameH_body (k := 0) D_s T D_w G_w (sp := spNo) fnH_no fun e x y H Q h => absurd h (by omega)
  | d + 1 => sameH_body (k := d + 1) D_s T D_w G_w (okH_same D_s T D_w G_w d) fun e x y H Q h h1 q => ⟨x, y, rfl, h1.le (by omega), q⟩
end
end Own

namespace Own
open PySem PySem.Spec PyProof.Rows L2 TL
theorem nodup_le : ∀ {P L : List (Int × Int)}, P.Nodup → (∀ p ∈ P, p ∈ L) → P.length ≤ L.length
  | [], _, _, _ => Nat.zero_le _
  | p :: P, L, hn, h => by
    have hc := List.nodup_cons.mp hn
    have hp : p ∈ L := h p List.mem_cons_self
    have ih := nodup_le (P := P) (L := L.erase p) hc.2 fun q hq => (List.mem_erase_of_ne (fun z => hc.1 (by rw [← z]; exact hq))).mpr (h q (List.mem_cons_of_mem _ hq))
    rw [List.length_erase_of_mem hp] at ih
    have := List.length_pos_of_mem hp
    rw [List.length_cons]
    omega
theorem IsNorm.len {l r : List Tr} (h : IsNorm l r) : r.length ≤ l.length := by
  have := nodup_le (srt_nodup h.srt) fun p m => (h.mem p).mp m
  rw [List.length_map, List.length_map] at this
  exact this
theorem EqV.same {H H' : Hp} (s : Same H H') : ∀ {d : Nat} {x y : V}, EqV d H x y → EqV d H' x y
  | 0, x, y, h => h
  | d + 1, x, y, h => by
    rcases h with h | ⟨a, b, vs, us, e1, e2, hab, l1, l2, hi⟩
    · exact .inl (EqV.same s h)
    · refine .inr ⟨a, b, vs, us, e1, e2, ?_, l1, l2, fun i x y hx hy => EqV.same s (hi i x y hx hy)⟩
      rcases hab with ⟨h1, h2⟩ | ⟨h1, h2⟩
      · exact .inl ⟨s _ _ h1, s _ _ h2⟩
      · exact .inr ⟨s _ _ h1, s _ _ h2⟩
/-- what the law knows of the classes of errors -/
structure XcL (K : PySem.W.Frag) (D D1 D2 x1 x2 RE : Addr) : Prop where
  c0 : ExcC K D
  c1 : ExcC K D1
  c2 : ExcC K D2
  x0 : XfC K D
  x1_ : XfC K D1
  x2_ : XfC K D2
  n0 : PySem.W.findIn K (.ref D) "line" = some none
  n1 : PySem.W.findIn K (.ref D1) "pins" = some none
  n2 : PySem.W.findIn K (.ref D2) "entry" = some none
  k0_BadPins : PySem.W.kitOne K (.ref D) (.ref D1) = some false
  k0_BadCord : PySem.W.kitOne K (.ref D) (.ref D2) = some false
  k0_BadPin : PySem.W.kitOne K (.ref D) (.ref x1) = some false
  k0_BadNumber : PySem.W.kitOne K (.ref D) (.ref x2) = some false
  k0_RimError : PySem.W.kitOne K (.ref D) (.ref RE) = some true
  k1_NoteError : PySem.W.kitOne K (.ref D1) (.ref D) = some false
  k1_BadCord : PySem.W.kitOne K (.ref D1) (.ref D2) = some false
  k1_BadPin : PySem.W.kitOne K (.ref D1) (.ref x1) = some false
  k1_BadNumber : PySem.W.kitOne K (.ref D1) (.ref x2) = some false
  k1_RimError : PySem.W.kitOne K (.ref D1) (.ref RE) = some true
  k2_NoteError : PySem.W.kitOne K (.ref D2) (.ref D) = some false
  k2_BadPins : PySem.W.kitOne K (.ref D2) (.ref D1) = some false
  k2_BadPin : PySem.W.kitOne K (.ref D2) (.ref x1) = some false
  k2_BadNumber : PySem.W.kitOne K (.ref D2) (.ref x2) = some false
  k2_RimError : PySem.W.kitOne K (.ref D2) (.ref RE) = some true
  v0 : PySem.W.kitOne K (.ref D) (.type "ValueError") = some true
  v1 : PySem.W.kitOne K (.ref D1) (.type "ValueError") = some true
  v2 : PySem.W.kitOne K (.ref D2) (.type "ValueError") = some true
  e00 : PySem.W.exmOne K (.ref D) (.ref D) = some true
  e10 : PySem.W.exmOne K (.ref D1) (.ref D) = some false
  e11 : PySem.W.exmOne K (.ref D1) (.ref D1) = some true
  e20 : PySem.W.exmOne K (.ref D2) (.ref D) = some false
  e21 : PySem.W.exmOne K (.ref D2) (.ref D1) = some false
  e22 : PySem.W.exmOne K (.ref D2) (.ref D2) = some true
def oc_s0 (K : PySem.W.Frag) (D D1 D2 x1 x2 RE : Addr) (a : Addr) (cls : Value) (d : Option Addr) : TS := (tSeq (tIfS (tOr (tB (tCB (rIsX K D a cls d) (tCons (tVar 3) (tCons (tC (.ref D1)) tNil)))) (tOr (tB (tCB (rIsX K D a cls d) (tCons (tVar 3) (tCons (tC (.ref D2)) tNil)))) (tOr (tB (tCB (rIsX K D a cls d) (tCons (tVar 3) (tCons (tC (.ref x1)) tNil)))) (tB (tCB (rIsX K D a cls d) (tCons (tVar 3) (tCons (tC (.ref x2)) tNil))))))) (tRet (tC (.bl false))) tNext)
  (tSeq (tIfS (tOr (tTest (tOp rNe (tOp (rIxT K) (tVar 1) (tC (.int 0))) (tC (.str "note")))) (tOr (tNot (tB (tCB (rIsX K D a cls d) (tCons (tVar 3) (tCons (tC (.ref RE)) tNil))))) (tNot (tB (tCB (rIsX K D a cls d) (tCons (tVar 3) (tCons (tC (.ty "ValueError")) tNil))))))) (tRet (tC (.bl false))) tNext)
  (tRet (tCallS (spSame 1) (fun _ => E0) (tCons (tXf a cls d D "line" (tVar 3)) (tCons (tOp (rIxT K) (tVar 1) (tC (.int 1))) tNil))))))
def oc_s1 (K : PySem.W.Frag) (D D1 D2 x1 x2 RE : Addr) (a : Addr) (cls : Value) (d : Option Addr) : TS := (tSeq (tIfS (tOr (tB (tCB (rIsX K D1 a cls d) (tCons (tVar 3) (tCons (tC (.ref D)) tNil)))) (tOr (tB (tCB (rIsX K D1 a cls d) (tCons (tVar 3) (tCons (tC (.ref D2)) tNil)))) (tOr (tB (tCB (rIsX K D1 a cls d) (tCons (tVar 3) (tCons (tC (.ref x1)) tNil)))) (tB (tCB (rIsX K D1 a cls d) (tCons (tVar 3) (tCons (tC (.ref x2)) tNil))))))) (tRet (tC (.bl false))) tNext)
  (tSeq (tIfS (tOr (tTest (tOp rNe (tOp (rIxT K) (tVar 1) (tC (.int 0))) (tC (.str "pins")))) (tOr (tNot (tB (tCB (rIsX K D1 a cls d) (tCons (tVar 3) (tCons (tC (.ref RE)) tNil))))) (tNot (tB (tCB (rIsX K D1 a cls d) (tCons (tVar 3) (tCons (tC (.ty "ValueError")) tNil))))))) (tRet (tC (.bl false))) tNext)
  (tRet (tCallS (spSame 1) (fun _ => E0) (tCons (tXf a cls d D1 "pins" (tVar 3)) (tCons (tOp (rIxT K) (tVar 1) (tC (.int 1))) tNil))))))
def oc_s2 (K : PySem.W.Frag) (D D1 D2 x1 x2 RE : Addr) (a : Addr) (cls : Value) (d : Option Addr) : TS := (tSeq (tIfS (tOr (tB (tCB (rIsX K D2 a cls d) (tCons (tVar 3) (tCons (tC (.ref D)) tNil)))) (tOr (tB (tCB (rIsX K D2 a cls d) (tCons (tVar 3) (tCons (tC (.ref D1)) tNil)))) (tOr (tB (tCB (rIsX K D2 a cls d) (tCons (tVar 3) (tCons (tC (.ref x1)) tNil)))) (tB (tCB (rIsX K D2 a cls d) (tCons (tVar 3) (tCons (tC (.ref x2)) tNil))))))) (tRet (tC (.bl false))) tNext)
  (tSeq (tIfS (tOr (tTest (tOp rNe (tOp (rIxT K) (tVar 1) (tC (.int 0))) (tC (.str "cord")))) (tOr (tNot (tB (tCB (rIsX K D2 a cls d) (tCons (tVar 3) (tCons (tC (.ref RE)) tNil))))) (tNot (tB (tCB (rIsX K D2 a cls d) (tCons (tVar 3) (tCons (tC (.ty "ValueError")) tNil))))))) (tRet (tC (.bl false))) tNext)
  (tRet (tCallS (spSame 1) (fun _ => E0) (tCons (tXf a cls d D2 "entry" (tVar 3)) (tCons (tOp (rIxT K) (tVar 1) (tC (.int 1))) tNil))))))
theorem sc_oc : FnScope ["_law_note_here", "_law_due", "_law_thing", "e"] ["_law_note_here", "_law_due"] (defScope s__law_outcome) := ⟨rfl, rfl, rfl, by decide +kernel, rfl, by decide +kernel, by decide +kernel⟩
/-- what is due for a text -/
def DueOf (x : Str) (H : Hp) (du : Addr) : Prop :=
  (∃ p, BadL (linesOf x) p ∧ H du = some (.tup [.str "note", .int ((p : Int) + 1)])) ∨
  (AllL (linesOf x) ∧ pinsOf (linesOf x) < 0 ∧ H du = some (.tup [.str "pins", .int (pinsOf (linesOf x))])) ∨
  (AllL (linesOf x) ∧ 0 ≤ pinsOf (linesOf x) ∧ ∃ k t b, BadC (pinsOf (linesOf x)) (entsOf (linesOf x)) k ∧ (entsOf (linesOf x))[k]? = some t ∧ H du = some (.tup [.str "cord", .ref b]) ∧ H b = some (.tup (tv t))) ∨
  (AllL (linesOf x) ∧ 0 ≤ pinsOf (linesOf x) ∧ (∀ t ∈ entsOf (linesOf x), Vld (pinsOf (linesOf x)) t) ∧ ∃ c cs, H du = some (.tup [.str "lot", .int (pinsOf (linesOf x)), .ref c]) ∧ Trip H c cs ∧ IsNorm (entsOf (linesOf x)) cs)
def spOut : Sp := fun vs H Q _ => ∃ (x : Str) (du : Addr), vs = [.str x, .ref du] ∧ Fit x ∧ DueOf x H du ∧ ∀ H', Same H H' → Q (.bl true) H'
section
variable {P : Program} {w : World} {K : PySem.W.Frag} {mg : Str → Option Value} {base : Heap} {C D D1 D2 x1 x2 RE : Addr}
set_option maxHeartbeats 4000000 in
theorem ok_out {f : Addr} {fd : FuncData} (F : Fun K "_law_outcome" "_law_outcome" s__law_outcome f fd) (T : Bi mg) (T_ve : mg "ValueError" = none) (U : mg "NoteError" = some (.ref D)) (U1 : mg "BadPins" = some (.ref D1)) (U2 : mg "BadCord" = some (.ref D2)) (UX1 : mg "BadPin" = some (.ref x1)) (UX2 : mg "BadNumber" = some (.ref x2)) (UR : mg "RimError" = some (.ref RE)) (X_c : XcL K D D1 D2 x1 x2 RE)
    {f_p : Addr} {d_p : FuncData} (D_p : Df K mg "parse_lot" s_parse_lot ["text"] f_p d_p) (G_p : FnOk P w K mg base (L2N.CX P w) 8 f_p d_p ["text"] (spParse C D D1 D2))
    {f_l : Addr} {d_l : FuncData} (D_l : Df K mg "_law_lot_is" s__law_lot_is ["_law_thing", "_law_pins_here", "_law_bunch"] f_l d_l) (G_l : FnOk P w K mg base CX0 5 f_l d_l ["_law_thing", "_law_pins_here", "_law_bunch"] (spLotIs C))
    {f_s : Addr} {d_s : FuncData} (D_s : Df K mg "_law_same" s__law_same ["_law_value", "_law_due"] f_s d_s) (H_s : L2H.FnH P w K mg base CX0 3 f_s d_s ["_law_value", "_law_due"] (spSame 1)) : FnOk P w K mg base CX0 9 f fd ["_law_note_here", "_law_due"] spOut := by
  refine F.ok sc_oc (fun vs H Q E h => ?_) (fun cdv A outer s H vs Q E hr h => ?_)
  · obtain ⟨x, du, rfl, _⟩ := h
    rfl
  · obtain ⟨x, du, rfl, hx, due, q⟩ := h
    refine ⟨_, (pss_cons (ps_try_each (nm := "e") (i := 3) (out := fun _ _ _ _ => False) (qs := [(Value.ref D, oc_s0 K D D1 D2 x1 x2 RE), (Value.ref D1, oc_s1 K D D1 D2 x1 x2 RE), (Value.ref D2, oc_s2 K D D1 D2 x1 x2 RE)]) rfl rfl sc_oc.nd rfl rfl takesN
        (tb := fun W => tAsg (tCallS (spParse C D D1 D2) (WE W) (tCons (tVar 0) tNil)) (gName 2))
        (fun W pn xe tk _ => pss_one (ps_set (i := 2) sc_oc.nd rfl (.inl rfl) (pe_callS G_p (hr.mono (by decide)) (by rfl) D_p.g D_p.F.kp D_p.b (fun σ => L2N.passAt tk σ) (pa_cons (pv 0) pa_nil))))
        (Clauses.more (c := .ref D) (rd := oc_s0 K D D1 D2 x1 x2 RE) ⟨by rfl, by decide, .inl U⟩ (fun a oe cls d pn hz hf => (pss_cons (ps_if (PW.pt (pw_or (pt_val (pe_callB (call_isX X_c.c0 hz.zc hf) (by rfl) T.b_isinstance (by decide +kernel) (pa_cons (pv 3) (pa_cons (pe_glob (v := .ref D1) (by rfl) U1 rfl) pa_nil)))) (pw_or (pt_val (pe_callB (call_isX X_c.c0 hz.zc hf) (by rfl) T.b_isinstance (by decide +kernel) (pa_cons (pv 3) (pa_cons (pe_glob (v := .ref D2) (by rfl) U2 rfl) pa_nil)))) (pw_or (pt_val (pe_callB (call_isX X_c.c0 hz.zc hf) (by rfl) T.b_isinstance (by decide +kernel) (pa_cons (pv 3) (pa_cons (pe_glob (v := .ref x1) (by rfl) UX1 rfl) pa_nil)))) (pw_or1 (pt_val (pe_callB (call_isX X_c.c0 hz.zc hf) (by rfl) T.b_isinstance (by decide +kernel) (pa_cons (pv 3) (pa_cons (pe_glob (v := .ref x2) (by rfl) UX2 rfl) pa_nil))))))))) (pss_one (ps_ret pe_bl)) pss_nil) (pss_cons (ps_if (PW.pt (pw_or (pt_cmpR op_ne (pe_ix (r := rIxT K) ix_tup (pv 1) pe_int (fun _ _ => rfl)) pe_str (nomark _)) (pw_or (pt_not (pt_val (pe_callB (call_isX X_c.c0 hz.zc hf) (by rfl) T.b_isinstance (by decide +kernel) (pa_cons (pv 3) (pa_cons (pe_glob (v := .ref RE) (by rfl) UR rfl) pa_nil))))) (pw_or1 (pt_not (pt_val (pe_callB (call_isX X_c.c0 hz.zc hf) (by rfl) T.b_isinstance (by decide +kernel) (pa_cons (pv 3) (pa_cons (pe_bltn (v := .ty "ValueError") (by rfl) T_ve (by decide +kernel) rfl) pa_nil))))))))) (pss_one (ps_ret pe_bl)) pss_nil) (pss_one (ps_ret (L2H.pe_callH H_s ⟨(L2H.RoomH.mono (j := 3) (L2H.roomH_of hr) (by decide)).dp, (L2H.RoomH.mono (j := 3) (L2H.roomH_of hr) (by decide)).un⟩ (hotS hz hf) (by rfl) D_s.g D_s.F.kp D_s.b (E := fun _ => E0) (fun _ => pass0A) (pa_cons (pe_xf X_c.x0 X_c.n0 hz.zc hf (pv 3)) (pa_cons (pe_ix (r := rIxT K) ix_tup (pv 1) pe_int (fun _ _ => rfl)) pa_nil)))))))) (Clauses.more (c := .ref D1) (rd := oc_s1 K D D1 D2 x1 x2 RE) ⟨by rfl, by decide, .inl U1⟩ (fun a oe cls d pn hz hf => (pss_cons (ps_if (PW.pt (pw_or (pt_val (pe_callB (call_isX X_c.c1 hz.zc hf) (by rfl) T.b_isinstance (by decide +kernel) (pa_cons (pv 3) (pa_cons (pe_glob (v := .ref D) (by rfl) U rfl) pa_nil)))) (pw_or (pt_val (pe_callB (call_isX X_c.c1 hz.zc hf) (by rfl) T.b_isinstance (by decide +kernel) (pa_cons (pv 3) (pa_cons (pe_glob (v := .ref D2) (by rfl) U2 rfl) pa_nil)))) (pw_or (pt_val (pe_callB (call_isX X_c.c1 hz.zc hf) (by rfl) T.b_isinstance (by decide +kernel) (pa_cons (pv 3) (pa_cons (pe_glob (v := .ref x1) (by rfl) UX1 rfl) pa_nil)))) (pw_or1 (pt_val (pe_callB (call_isX X_c.c1 hz.zc hf) (by rfl) T.b_isinstance (by decide +kernel) (pa_cons (pv 3) (pa_cons (pe_glob (v := .ref x2) (by rfl) UX2 rfl) pa_nil))))))))) (pss_one (ps_ret pe_bl)) pss_nil) (pss_cons (ps_if (PW.pt (pw_or (pt_cmpR op_ne (pe_ix (r := rIxT K) ix_tup (pv 1) pe_int (fun _ _ => rfl)) pe_str (nomark _)) (pw_or (pt_not (pt_val (pe_callB (call_isX X_c.c1 hz.zc hf) (by rfl) T.b_isinstance (by decide +kernel) (pa_cons (pv 3) (pa_cons (pe_glob (v := .ref RE) (by rfl) UR rfl) pa_nil))))) (pw_or1 (pt_not (pt_val (pe_callB (call_isX X_c.c1 hz.zc hf) (by rfl) T.b_isinstance (by decide +kernel) (pa_cons (pv 3) (pa_cons (pe_bltn (v := .ty "ValueError") (by rfl) T_ve (by decide +kernel) rfl) pa_nil))))))))) (pss_one (ps_ret pe_bl)) pss_nil) (pss_one (ps_ret (L2H.pe_callH H_s ⟨(L2H.RoomH.mono (j := 3) (L2H.roomH_of hr) (by decide)).dp, (L2H.RoomH.mono (j := 3) (L2H.roomH_of hr) (by decide)).un⟩ (hotS hz hf) (by rfl) D_s.g D_s.F.kp D_s.b (E := fun _ => E0) (fun _ => pass0A) (pa_cons (pe_xf X_c.x1_ X_c.n1 hz.zc hf (pv 3)) (pa_cons (pe_ix (r := rIxT K) ix_tup (pv 1) pe_int (fun _ _ => rfl)) pa_nil)))))))) (Clauses.more (c := .ref D2) (rd := oc_s2 K D D1 D2 x1 x2 RE) ⟨by rfl, by decide, .inl U2⟩ (fun a oe cls d pn hz hf => (pss_cons (ps_if (PW.pt (pw_or (pt_val (pe_callB (call_isX X_c.c2 hz.zc hf) (by rfl) T.b_isinstance (by decide +kernel) (pa_cons (pv 3) (pa_cons (pe_glob (v := .ref D) (by rfl) U rfl) pa_nil)))) (pw_or (pt_val (pe_callB (call_isX X_c.c2 hz.zc hf) (by rfl) T.b_isinstance (by decide +kernel) (pa_cons (pv 3) (pa_cons (pe_glob (v := .ref D1) (by rfl) U1 rfl) pa_nil)))) (pw_or (pt_val (pe_callB (call_isX X_c.c2 hz.zc hf) (by rfl) T.b_isinstance (by decide +kernel) (pa_cons (pv 3) (pa_cons (pe_glob (v := .ref x1) (by rfl) UX1 rfl) pa_nil)))) (pw_or1 (pt_val (pe_callB (call_isX X_c.c2 hz.zc hf) (by rfl) T.b_isinstance (by decide +kernel) (pa_cons (pv 3) (pa_cons (pe_glob (v := .ref x2) (by rfl) UX2 rfl) pa_nil))))))))) (pss_one (ps_ret pe_bl)) pss_nil) (pss_cons (ps_if (PW.pt (pw_or (pt_cmpR op_ne (pe_ix (r := rIxT K) ix_tup (pv 1) pe_int (fun _ _ => rfl)) pe_str (nomark _)) (pw_or (pt_not (pt_val (pe_callB (call_isX X_c.c2 hz.zc hf) (by rfl) T.b_isinstance (by decide +kernel) (pa_cons (pv 3) (pa_cons (pe_glob (v := .ref RE) (by rfl) UR rfl) pa_nil))))) (pw_or1 (pt_not (pt_val (pe_callB (call_isX X_c.c2 hz.zc hf) (by rfl) T.b_isinstance (by decide +kernel) (pa_cons (pv 3) (pa_cons (pe_bltn (v := .ty "ValueError") (by rfl) T_ve (by decide +kernel) rfl) pa_nil))))))))) (pss_one (ps_ret pe_bl)) pss_nil) (pss_one (ps_ret (L2H.pe_callH H_s ⟨(L2H.RoomH.mono (j := 3) (L2H.roomH_of hr) (by decide)).dp, (L2H.RoomH.mono (j := 3) (L2H.roomH_of hr) (by decide)).un⟩ (hotS hz hf) (by rfl) D_s.g D_s.F.kp D_s.b (E := fun _ => E0) (fun _ => pass0A) (pa_cons (pe_xf X_c.x2_ X_c.n2 hz.zc hf (pv 3)) (pa_cons (pe_ix (r := rIxT K) ix_tup (pv 1) pe_int (fun _ _ => rfl)) pa_nil)))))))) Clauses.none))))
        (pss_one (ps_ret (pe_and (pe_cmpR op_eq (pe_ix (r := rIxT K) ix_tup (pv 1) pe_int (fun _ _ => rfl)) pe_str (nomark _)) (pe_one (pe_call G_l (hr.mono (by decide)) (by rfl) D_l.g D_l.F.kp D_l.b .nil pass0 (pa_cons (pv 2) (pa_cons (pe_ix (r := rIxT K) ix_tup (pv 1) pe_int (fun _ _ => rfl)) (pa_cons (pe_ix (r := rIxT K) ix_tup (pv 1) pe_int (fun _ _ => rfl)) pa_nil))))))))), ?_⟩
    refine ⟨_, rfl, x, rfl, hx, ⟨fun p hb H1 d s1 nd => ?_, fun al ng H1 s1 d nd => ?_, fun al n0 va H1 p r s1 lot hN => ?_, fun al n0 k t bk hk H0 b s0 eb H1 s01 d nd => ?_⟩⟩
    · rcases due with ⟨p2, hb2, edu⟩ | ⟨al, _⟩ | ⟨al, _⟩ | ⟨al, _⟩
      rotate_left
      · exact (badL_all hb al).elim
      · exact (badL_all hb al).elim
      · exact (badL_all hb al).elim
      cases badL_eq hb hb2
      refine ⟨true, X_c.e00, fun _ ax na => ?_, fun z => by cases z⟩
      have sd := same_upd (o := .xd (flE ["line"] [.int ((p : Int) + 1)])) nd
      have ed : upd H1 d (.xd (flE ["line"] [.int ((p : Int) + 1)])) d = some (.xd (flE ["line"] [.int ((p : Int) + 1)])) := upd_same
      generalize upd H1 d (.xd (flE ["line"] [.int ((p : Int) + 1)])) = H2 at *
      have edu2 := (s1.trans sd) _ _ edu
      refine ⟨_, rfl, rfl, d, .ref D1, .ref D1, false, _, rfl, rfl, ed, fun u h => h, X_c.k0_BadPins, false, rfl, ?_⟩
      refine ⟨_, rfl, rfl, d, .ref D2, .ref D2, false, _, rfl, rfl, ed, fun u h => h, X_c.k0_BadCord, false, rfl, ?_⟩
      refine ⟨_, rfl, rfl, d, .ref x1, .ref x1, false, _, rfl, rfl, ed, fun u h => h, X_c.k0_BadPin, false, rfl, ?_⟩
      refine ⟨_, rfl, rfl, d, .ref x2, .ref x2, false, _, rfl, rfl, ed, fun u h => h, X_c.k0_BadNumber, false, rfl, ?_⟩
      refine ⟨_, rfl, du, _, _, _, rfl, rfl, .inl (.inl edu2), at_of (j := 0) rfl rfl, rfl, _, rfl, ?_⟩
      rw [show (!decide (V.str (Str.ofString "note") = V.str (Str.ofString "note"))) = false by rw [decide_eq_true rfl]; rfl]
      refine ⟨_, rfl, rfl, d, .ref RE, .ref RE, true, _, rfl, rfl, ed, fun u h => h, X_c.k0_RimError, true, rfl, ?_⟩
      refine ⟨_, rfl, rfl, d, .ty "ValueError", .type "ValueError", true, _, rfl, rfl, ed, fun u h => h, X_c.v0, true, rfl, ?_⟩
      refine ⟨_, rfl, rfl, rfl, d, _, _, rfl, ed, rfl, _, rfl, du, _, _, _, rfl, rfl, .inl (.inl edu2), at_of (j := 1) rfl rfl, _, _, rfl, EqV.int _, q _ (s1.trans sd)⟩
    · rcases due with ⟨p2, hb2, _⟩ | ⟨_, _, edu⟩ | ⟨_, n0, _⟩ | ⟨_, n0, _⟩
      · exact (badL_all hb2 al).elim
      rotate_left
      · exact absurd ng (by omega)
      · exact absurd ng (by omega)
      refine ⟨false, X_c.e10, (fun z => by cases z), fun _ => ⟨true, X_c.e11, fun _ ax na => ?_, fun z => by cases z⟩⟩
      have sd := same_upd (o := .xd (flE ["pins"] [.int (pinsOf (linesOf x))])) nd
      have ed : upd H1 d (.xd (flE ["pins"] [.int (pinsOf (linesOf x))])) d = some (.xd (flE ["pins"] [.int (pinsOf (linesOf x))])) := upd_same
      generalize upd H1 d (.xd (flE ["pins"] [.int (pinsOf (linesOf x))])) = H2 at *
      have edu2 := (s1.trans sd) _ _ edu
      refine ⟨_, rfl, rfl, d, .ref D, .ref D, false, _, rfl, rfl, ed, fun u h => h, X_c.k1_NoteError, false, rfl, ?_⟩
      refine ⟨_, rfl, rfl, d, .ref D2, .ref D2, false, _, rfl, rfl, ed, fun u h => h, X_c.k1_BadCord, false, rfl, ?_⟩
      refine ⟨_, rfl, rfl, d, .ref x1, .ref x1, false, _, rfl, rfl, ed, fun u h => h, X_c.k1_BadPin, false, rfl, ?_⟩
      refine ⟨_, rfl, rfl, d, .ref x2, .ref x2, false, _, rfl, rfl, ed, fun u h => h, X_c.k1_BadNumber, false, rfl, ?_⟩
      refine ⟨_, rfl, du, _, _, _, rfl, rfl, .inl (.inl edu2), at_of (j := 0) rfl rfl, rfl, _, rfl, ?_⟩
      rw [show (!decide (V.str (Str.ofString "pins") = V.str (Str.ofString "pins"))) = false by rw [decide_eq_true rfl]; rfl]
      refine ⟨_, rfl, rfl, d, .ref RE, .ref RE, true, _, rfl, rfl, ed, fun u h => h, X_c.k1_RimError, true, rfl, ?_⟩
      refine ⟨_, rfl, rfl, d, .ty "ValueError", .type "ValueError", true, _, rfl, rfl, ed, fun u h => h, X_c.v1, true, rfl, ?_⟩
      refine ⟨_, rfl, rfl, rfl, d, _, _, rfl, ed, rfl, _, rfl, du, _, _, _, rfl, rfl, .inl (.inl edu2), at_of (j := 1) rfl rfl, _, _, rfl, EqV.int _, q _ (s1.trans sd)⟩
    · rcases due with ⟨p2, hb2, _⟩ | ⟨_, ng, _⟩ | ⟨_, _, k, t, b, bk, _⟩ | ⟨_, _, _, c, cs, edu, tc, hN2⟩
      · exact (badL_all hb2 al).elim
      · exact absurd ng (by omega)
      · exact (badC_all bk va).elim
      have edu2 := s1 _ _ edu
      obtain rfl : r = cs := norm_uniq hN hN2
      have le : (entsOf (linesOf x)).length ≤ 800 := by
        unfold entsOf
        rw [esOf_len]
        have := hx.2.1
        omega
      refine ⟨_, rfl, du, _, _, _, rfl, rfl, .inl (.inl edu2), at_of (j := 0) rfl rfl, rfl, true, congrArg V.bl (decide_eq_true rfl), ?_⟩
      rw [if_pos rfl]
      exact ⟨_, rfl, _, rfl, du, _, _, _, rfl, rfl, .inl (.inl edu2), at_of (j := 1) rfl rfl, _, rfl, du, _, _, _, rfl, rfl, .inl (.inl edu2), at_of (j := 2) rfl rfl, p, _, c, r, rfl, lot, tc.same s1, Nat.le_trans hN.len (by omega), q _ s1⟩
    · rcases due with ⟨p2, hb2, _⟩ | ⟨_, ng, _⟩ | ⟨_, _, k2, t2, b2, bk2, hk2, edu, eb2⟩ | ⟨_, _, va, _⟩
      · exact (badL_all hb2 al).elim
      · exact absurd ng (by omega)
      rotate_left
      · exact (badC_all bk va).elim
      cases badC_eq bk bk2
      cases hk.symm.trans hk2
      refine ⟨false, X_c.e20, (fun z => by cases z), fun _ => ⟨false, X_c.e21, (fun z => by cases z), fun _ => ⟨true, X_c.e22, fun _ ax na => ?_, fun z => by cases z⟩⟩⟩
      have sd := same_upd (o := .xd (flE ["entry"] [.ref b])) nd
      have ed : upd H1 d (.xd (flE ["entry"] [.ref b])) d = some (.xd (flE ["entry"] [.ref b])) := upd_same
      generalize upd H1 d (.xd (flE ["entry"] [.ref b])) = H2 at *
      have edu2 := ((s0.trans s01).trans sd) _ _ edu
      refine ⟨_, rfl, rfl, d, .ref D, .ref D, false, _, rfl, rfl, ed, fun u h => h, X_c.k2_NoteError, false, rfl, ?_⟩
      refine ⟨_, rfl, rfl, d, .ref D1, .ref D1, false, _, rfl, rfl, ed, fun u h => h, X_c.k2_BadPins, false, rfl, ?_⟩
      refine ⟨_, rfl, rfl, d, .ref x1, .ref x1, false, _, rfl, rfl, ed, fun u h => h, X_c.k2_BadPin, false, rfl, ?_⟩
      refine ⟨_, rfl, rfl, d, .ref x2, .ref x2, false, _, rfl, rfl, ed, fun u h => h, X_c.k2_BadNumber, false, rfl, ?_⟩
      refine ⟨_, rfl, du, _, _, _, rfl, rfl, .inl (.inl edu2), at_of (j := 0) rfl rfl, rfl, _, rfl, ?_⟩
      rw [show (!decide (V.str (Str.ofString "cord") = V.str (Str.ofString "cord"))) = false by rw [decide_eq_true rfl]; rfl]
      refine ⟨_, rfl, rfl, d, .ref RE, .ref RE, true, _, rfl, rfl, ed, fun u h => h, X_c.k2_RimError, true, rfl, ?_⟩
      refine ⟨_, rfl, rfl, d, .ty "ValueError", .type "ValueError", true, _, rfl, rfl, ed, fun u h => h, X_c.v2, true, rfl, ?_⟩
      refine ⟨_, rfl, rfl, rfl, d, _, _, rfl, ed, rfl, _, rfl, du, _, _, _, rfl, rfl, .inl (.inl edu2), at_of (j := 1) rfl rfl, _, _, rfl, EqV.tr (sd _ _ (s01 _ _ eb)) (((s0.trans s01).trans sd) _ _ eb2), q _ ((s0.trans s01).trans sd)⟩

/-- a list of lines is asked -/
def spAsk (K : PySem.W.Frag) : Sp := fun vs H Q _ => ∃ (a : Addr) (ls : List Str) (n : Nat), vs = [.ref a] ∧ SqL K H a (ls.map V.str) ∧ ls.length ≤ 300 ∧ n ≤ 250 ∧ (∀ z ∈ ls, Pl n z) ∧ ∀ H', Same H H' → Q (.bl true) H'
theorem ok_asked {f : Addr} {fd : FuncData} (F : Fun K "_law_asked" "_law_asked" s__law_asked f fd) (T : Bi mg)
    {f_o : Addr} {d_o : FuncData} (D_o : Df K mg "_law_outcome" s__law_outcome ["_law_note_here", "_law_due"] f_o d_o) (G_o : FnOk P w K mg base CX0 9 f_o d_o ["_law_note_here", "_law_due"] spOut)
    {f_r : Addr} {d_r : FuncData} (D_r : Df K mg "_law_read" s__law_read ["_law_note_here"] f_r d_r) (G_r : FnOk P w K mg base CX0 2 f_r d_r ["_law_note_here"] (spOutc K)) : FnOk P w K mg base CX0 10 f fd ["_law_lines"] (spAsk K) := by
  refine F.ok sc__law_asked (fun vs H Q E h => ?_) (fun cdv A outer s H vs Q E hr h => ?_)
  · obtain ⟨a, ls, n, rfl, _⟩ := h
    rfl
  · obtain ⟨a, ls, n, rfl, hs, hl, hn, hp, q⟩ := h
    refine ⟨_, (pss_cons (ps_set (i := 1) sc__law_asked.nd rfl (.inl rfl) (pe_join pe_str (pv 0)))
        (pss_one (ps_ret (pe_call G_o hr (by rfl) D_o.g D_o.F.kp D_o.b .nil pass0 (pa_cons (pv 1) (pa_cons (pe_call G_r (hr.mono (by decide)) (by rfl) D_r.g D_r.F.kp D_r.b .nil pass0 (pa_cons (pv 1) pa_nil)) pa_nil)))))), ?_⟩
    have ft : Fit (Txt.join "\n" ls) := (nt_of (m := 300) (by decide) hl hp).fit hn (by decide)
    refine ⟨⟨_, rfl⟩, _, rfl, _, a, ls, rfl, rfl, .inl hs, join_few hp (by omega) hl, ?_⟩
    refine ⟨_, rfl, _, rfl, _, rfl, ft, ⟨fun p hb H1 r s1 er => ?_, fun al ng H1 r s1 er => ?_, fun al n0 va H1 r c cs s1 er tc hN => ?_, fun al n0 k t bk hk H1 r b s1 er eb => ?_⟩⟩
    · exact ⟨_, r, rfl, ft, .inl ⟨p, hb, er⟩, fun H2 s2 => q _ (s1.trans s2)⟩
    · exact ⟨_, r, rfl, ft, .inr (.inl ⟨al, ng, er⟩), fun H2 s2 => q _ (s1.trans s2)⟩
    · exact ⟨_, r, rfl, ft, .inr (.inr (.inr ⟨al, n0, va, c, cs, er, tc, hN⟩)), fun H2 s2 => q _ (s1.trans s2)⟩
    · exact ⟨_, r, rfl, ft, .inr (.inr (.inl ⟨al, n0, k, t, b, bk, hk, er, eb⟩)), fun H2 s2 => q _ (s1.trans s2)⟩
end
end Own

namespace Own
open PySem PySem.Spec PyProof.Rows L2 TL
theorem digs_ex {ds szs : List Int} (h : Digs ds szs) {i : Nat} (hi : i < szs.length) : ∃ v : Int, atI (ds.map V.int) (i : Int) = some (.int v) := by
  have hl : i < ds.length := by rw [h.1]; exact hi
  exact ⟨ds[i], atI_nat (by rw [List.getElem?_map, List.getElem?_eq_getElem hl]; rfl)⟩
theorem pl_cutG {n : Nat} {ls : List Str} {lo hi : Option Int} (h : ∀ z ∈ ls, Pl n z) : ∀ z ∈ cutG ls lo hi, Pl n z := fun z hz => h z (cutG_mem z hz)
theorem digs4_ {ds : List Int} {x y : Int} (h : Digs ds [16, x, y, 7]) : ∃ a b c d : Int, ds = [a, b, c, d] ∧ (0 ≤ a ∧ a < 16) ∧ (0 ≤ d ∧ d < 7) := by
  match ds, h with
  | [a, b, c, d], h => exact ⟨a, b, c, d, rfl, h.2 0 a 16 rfl rfl, h.2 3 d 7 rfl rfl⟩
  | [], h => exact absurd h.1 (by simp)
  | [_], h => exact absurd h.1 (by simp)
  | [_, _], h => exact absurd h.1 (by simp)
  | [_, _, _], h => exact absurd h.1 (by simp)
  | _ :: _ :: _ :: _ :: _ :: _, h => exact absurd h.1 (by simp)
section
variable {P : Program} {w : World} {K : PySem.W.Frag} {mg : Str → Option Value} {base : Heap}
def spFoA (K : PySem.W.Frag) : Sp := fun vs H Q _ => ∃ (a : Addr) (ls : List Str) (c p : Int) (n : Nat), vs = [.ref a, .int c, .int p] ∧ H a = some (.lst (ls.map V.str)) ∧ ls ≠ [] ∧ ls.length ≤ 90 ∧ (∀ z ∈ ls, Pl n z) ∧ 20 ≤ n ∧ n ≤ 100 ∧ (0 ≤ p ∧ p ≤ 100) ∧ ∀ H', Same H H' → Q (.bl true) H'
set_option maxHeartbeats 4000000 in
theorem ok_foa {f : Addr} {fd : FuncData} (F : Fun K "_law_forms_asked" "_law_forms_asked" s__law_forms_asked f fd) (T : Bi mg)
    {f_d : Addr} {d_d : FuncData} (D_d : Df K mg "_law_digits" s__law_digits ["_law_cell_here", "_law_sizes"] f_d d_d) (G_d : FnOk P w K mg base CX0 1 f_d d_d ["_law_cell_here", "_law_sizes"] (spDigs K))
    {f_h : Addr} {d_h : FuncData} (D_h : Df K mg "_law_heads" s__law_heads ["_law_pins_here"] f_h d_h) (G_h : FnOk P w K mg base CX0 1 f_h d_h ["_law_pins_here"] spHeads)
    {f_f : Addr} {d_f : FuncData} (D_f : Df K mg "_law_forms" s__law_forms ["_law_line", "_law_at"] f_f d_f) (G_f : FnOk P w K mg base CX0 2 f_f d_f ["_law_line", "_law_at"] spForms)
    {f_a : Addr} {d_a : FuncData} (D_a : Df K mg "_law_asked" s__law_asked ["_law_lines"] f_a d_a) (G_a : FnOk P w K mg base CX0 10 f_a d_a ["_law_lines"] (spAsk K)) : FnOk P w K mg base CX0 11 f fd ["_law_lines", "_law_cell_here", "_law_pins_here"] (spFoA K) := by
  refine F.ok sc__law_forms_asked (fun vs H Q E h => ?_) (fun cdv A outer s H vs Q E hr h => ?_)
  · obtain ⟨a, ls, c, p, n, rfl, _⟩ := h
    rfl
  · obtain ⟨a, ls, c, p, n, rfl, ea, hne, hl, hp, n20, n100, hpin, q⟩ := h
    refine ⟨_, (pss_cons (ps_set (i := 3) sc__law_forms_asked.nd rfl (.inl rfl) (pe_call G_d (hr.mono (by decide)) (by rfl) D_d.g D_d.F.kp D_d.b .nil pass0 (pa_cons (pv 1) (pa_cons (pe_op op_cat (pe_lst (pa_cons pe_int (pa_cons pe_int pa_nil))) (pe_op op_rep (pe_lst (pa_cons pe_int (pa_cons pe_int pa_nil))) pe_int)) pa_nil))))
        (pss_cons (ps_set (i := 4) sc__law_forms_asked.nd rfl (.inl rfl) (pe_call G_h (hr.mono (by decide)) (by rfl) D_h.g D_h.F.kp D_h.b .nil pass0 (pa_cons (pv 2) pa_nil)))
        (pss_cons (ps_for PassesOwn.never rfl (pi_range1 (by rfl) T.b_range (pa_cons pe_int pa_nil)) (pg_name (i := 5) sc__law_forms_asked.nd rfl (.inl rfl))
        (pss_one (ps_if (pt_not (pt_val (pe_call G_a hr (by rfl) D_a.g D_a.F.kp D_a.b .nil pass0 (pa_cons (pe_op op_cat (pe_lst (pa_cons (pe_ix (r := rIxL K) ix_list (pv 4) (pe_op op_mod (pe_callTy call_int1 (by rfl) T.b_int (by decide +kernel) (pa_cons (pe_op op_add (pe_ix (r := rIxL K) ix_list (pv 3) pe_int (fun _ _ => rfl)) (pe_op op_mul pe_int (pv 5))) pa_nil)) pe_int) (fun _ _ => rfl)) pa_nil)) (pe_slice sl_list (pv 0) (po_some pe_int) (po_some (pe_op op_add pe_int (pe_op op_mul pe_int (pe_op op_mod (pe_callTy call_int1 (by rfl) T.b_int (by decide +kernel) (pa_cons (pe_op op_add (pe_ix (r := rIxL K) ix_list (pv 3) pe_int (fun _ _ => rfl)) (pv 5)) pa_nil)) pe_int)))))) pa_nil)))) (pss_one (ps_ret pe_bl)) pss_nil)))
        (pss_cons (ps_set (i := 6) sc__law_forms_asked.nd rfl (.inl rfl) (pe_slice sl_list (pv 0) (po_some pe_int) po_none))
        (C8.pss_cut (ps_if (pt_cmpR op_eq (pe_callB call_len_seq (by rfl) T.b_len PySem.boot_len (pa_cons (pv 6) pa_nil)) pe_int (nomark _)) (pss_one (ps_set (i := 6) sc__law_forms_asked.nd rfl (.inl rfl) (pe_lst (pa_cons pe_str pa_nil)))) pss_nil)
        (pss_cons (ps_for PassesOwn.never rfl (pi_range1 (by rfl) T.b_range (pa_cons pe_int pa_nil)) (pg_name (i := 5) sc__law_forms_asked.nd rfl (.inl rfl))
        (pss_cons (ps_set (i := 7) sc__law_forms_asked.nd rfl (.inl rfl) (pe_op op_modN (pe_callTy call_int1 (by rfl) T.b_int (by decide +kernel) (pa_cons (pe_ix (r := rIxL K) ix_list (pv 3) (pe_op op_add pe_int (pe_op op_mul pe_int (pv 5))) (fun _ _ => rfl)) pa_nil)) (pe_callB call_len_seq (by rfl) T.b_len PySem.boot_len (pa_cons (pv 6) pa_nil))))
        (pss_cons (ps_set (i := 8) sc__law_forms_asked.nd rfl (.inl rfl) (pe_ix (r := rIxL K) ix_list (pe_call G_f (hr.mono (by decide)) (by rfl) D_f.g D_f.F.kp D_f.b .nil pass0 (pa_cons (pe_ix (r := rIxL K) ix_list (pv 6) (pv 7) (fun _ _ => rfl)) (pa_cons (pe_ix (r := rIxL K) ix_list (pv 3) (pe_op op_add pe_int (pe_op op_mul pe_int (pv 5))) (fun _ _ => rfl)) pa_nil))) (pe_op op_mod (pe_callTy call_int1 (by rfl) T.b_int (by decide +kernel) (pa_cons (pe_op op_add (pe_ix (r := rIxL K) ix_list (pv 3) pe_int (fun _ _ => rfl)) (pe_op op_mul pe_int (pv 5))) pa_nil)) pe_int) (fun _ _ => rfl)))
        (pss_one (ps_if (pt_not (pt_val (pe_call G_a hr (by rfl) D_a.g D_a.F.kp D_a.b .nil pass0 (pa_cons (pe_op op_cat (pe_op op_cat (pe_op op_cat (pe_slice sl_list (pv 0) po_none (po_some pe_int)) (pe_slice sl_list (pv 6) (po_some (pe_callB (call_max2 rfl) (by rfl) T.b_max (by decide +kernel) (pa_cons (pe_op op_sub (pv 7) pe_int) (pa_cons pe_int pa_nil)))) (po_some (pv 7)))) (pe_lst (pa_cons (pv 8) pa_nil))) (pe_slice sl_list (pv 6) (po_some (pe_op op_add (pv 7) pe_int)) (po_some (pe_op op_add (pv 7) pe_int)))) pa_nil)))) (pss_one (ps_ret pe_bl)) pss_nil)))))
        (pss_one (ps_ret pe_bl)))))))), ?_⟩
    have lim : ∀ k, k ≤ 1000 → k ≤ sizeLine := fun k h => Nat.le_trans h (by decide)
    refine ⟨_, rfl, by show 2 ≤ sizeLine; decide, fun la nla => ?_⟩
    generalize hg1 : upd H la _ = G1
    have ela : G1 la = some (.lst [V.int 31, .int 41]) := by rw [← hg1, upd_same]
    have u1 : Same H G1 := by rw [← hg1]; exact same_upd nla
    clear hg1
    refine ⟨by show 2 ≤ sizeLine; decide, fun lb nlb => ?_⟩
    generalize hg2 : upd G1 lb _ = G2
    have elb : G2 lb = some (.lst [V.int 60, .int 3]) := by rw [← hg2, upd_same]
    have u2 : Same G1 G2 := by rw [← hg2]; exact same_upd nlb
    clear hg2
    refine ⟨lb, 10, _, rfl, rfl, elb, by decide, by decide, by show 2 * 10 ≤ sizeLine; decide, fun lc nlc => ?_⟩
    generalize hg3 : upd G2 lc _ = G3
    have elc : G3 lc = some (.lst (List.replicate (10 : Int).toNat [V.int 60, .int 3]).flatten) := by rw [← hg3, upd_same]
    have u3 : Same G2 G3 := by rw [← hg3]; exact same_upd nlc
    clear hg3
    refine ⟨la, lc, _, _, rfl, rfl, ((u2.trans u3) _ _ ela), elc, by show 2 + 20 ≤ sizeLine; decide, fun ld nld => ?_⟩
    generalize hg4 : upd G3 ld _ = G4
    have eld : G4 ld = some (.lst ([31, 41, 60, 3, 60, 3, 60, 3, 60, 3, 60, 3, 60, 3, 60, 3, 60, 3, 60, 3, 60, 3].map V.int)) := by rw [← hg4, upd_same]; rfl
    have u4 : Same G3 G4 := by rw [← hg4]; exact same_upd nld
    clear hg4
    refine ⟨c, ld, _, rfl, .inl (.inl eld), by decide, by decide, fun Ha dr dg sa _ edr0 hdg => ?_⟩
    refine ⟨_, rfl, p, rfl, by omega, fun H2 hd ys sb ehd lys pys => ?_⟩
    have S2 := ((u1.trans (u2.trans (u3.trans u4))).trans (sa.trans sb))
    have ea2 := S2 _ _ ea
    have edr := sb _ _ edr0
    obtain ⟨v0, ev0⟩ := digs_ex hdg (i := 0) (by decide)
    obtain ⟨v1, ev1⟩ := digs_ex hdg (i := 1) (by decide)
    have ev0 : atI (dg.map V.int) 0 = some (.int v0) := ev0
    have ev1 : atI (dg.map V.int) 1 = some (.int v1) := ev1
    refine ⟨8, rfl, by omega, by omega, for_range (lo := 0) (n := 8) (fun i σ H' => (∃ y5, σ = [some (.ref a), some (.int c), some (.int p), some (.ref dr), some (.ref hd), y5, none, none, none]) ∧ Same H2 H') ⟨⟨_, rfl⟩, Same.refl _⟩ (fun i σ H3 hi pv => ?_) (fun σ H3 pv => ?_)⟩
    · obtain ⟨⟨y5, rfl⟩, s3⟩ := pv
      have ea3 := s3 _ _ ea2
      have sq3 : SqL K H3 dr (dg.map V.int) := .inl (.inl (s3 _ _ edr))
      have ehd3 := s3 _ _ ehd
      have m31 : 0 ≤ (v0 + 4 * (0 + (i : Int))) % 31 ∧ (v0 + 4 * (0 + (i : Int))) % 31 < 31 := ⟨Int.emod_nonneg _ (by decide), Int.emod_lt_of_pos _ (by decide)⟩
      obtain ⟨y, hy, ey⟩ := pick (ys := ys) m31.1 (by rw [lys]; exact m31.2)
      refine ⟨_, rfl, _, rfl, dr, _, _, _, rfl, rfl, sq3, ev0, _, rfl, _, _, rfl, rfl, .inl ⟨by decide, by decide⟩, _, _, rfl, rfl, .inl ⟨_, rfl, _, _, rfl, rfl, by show (0 : Int) < 31; decide, hd, _, _, _, rfl, rfl, .inl (.inl ehd3), ey, by show 1 ≤ sizeLine; decide, fun l nl => ?_⟩⟩
      generalize hgv1 : upd H3 l _ = vG1
      have el : vG1 l = some (.lst ([y].map V.str)) := by rw [← hgv1, upd_same]; rfl
      have vu1 : Same H3 vG1 := by rw [← hgv1]; exact same_upd nl
      clear hgv1
      refine ⟨_, rfl, _, rfl, _, rfl, dr, _, _, _, rfl, rfl, vu1.seq sq3, ev1, _, rfl, _, _, rfl, rfl, .inl ⟨_, rfl, _, _, rfl, rfl, by show (0 : Int) < 2; decide, _, _, rfl, rfl, .inl ⟨by decide, by decide⟩, _, _, rfl, rfl, _, rfl, a, _, rfl, .inl (.inl (vu1 _ _ ea3)), fun pc npc => ?_⟩⟩
      rw [cut_map]
      obtain ⟨cs, hcs⟩ : ∃ cs, cs = cutG ls (some 1) (some (1 + 3 * ((v1 + (0 + (i : Int))) % 2))) := ⟨_, rfl⟩
      have pcs : ∀ z ∈ cs, Pl n z := by rw [hcs]; exact pl_cutG hp
      have lcs : cs.length ≤ 90 := by rw [hcs]; exact Nat.le_trans (cutG_len _ _ _) hl
      rw [← hcs]
      generalize hgv2 : upd vG1 pc _ = vG2
      have epc : vG2 pc = some (.lst (cs.map V.str)) := by rw [← hgv2, upd_same]
      have vu2 : Same vG1 vG2 := by rw [← hgv2]; exact same_upd npc
      clear hgv2
      refine ⟨l, pc, _, _, rfl, rfl, (vu2 _ _ el), epc, lim _ (by simp only [List.length_append, List.length_map, List.length_cons, List.length_nil]; omega), fun x nx => ?_⟩
      generalize hgv3 : upd vG2 x _ = vG3
      have ex : vG3 x = some (.lst (([y] ++ cs).map V.str)) := by rw [← hgv3, upd_same]; simp only [List.map_append]
      have vu3 : Same vG2 vG3 := by rw [← hgv3]; exact same_upd nx
      clear hgv3
      refine ⟨x, [y] ++ cs, n + 20, rfl, .inl (.inl ex), by simp only [List.length_append, List.length_cons, List.length_nil]; omega, by omega, fun z hz => ?_, fun H4 s4 => ⟨true, rfl, ⟨_, rfl⟩, s3.trans ((vu1.trans (vu2.trans vu3)).trans s4)⟩⟩
      rcases List.mem_append.mp hz with h | h
      · rw [List.mem_singleton.mp h]
        exact (pys y hy).le (by omega)
      · exact (pcs z h).le (by omega)
    · obtain ⟨⟨y5, rfl⟩, s3⟩ := pv
      have ea3 := s3 _ _ ea2
      have sq3 : SqL K H3 dr (dg.map V.int) := .inl (.inl (s3 _ _ edr))
      refine ⟨_, rfl, _, rfl, a, _, rfl, .inl (.inl ea3), fun bd nbd => ?_⟩
      rw [cut_map]
      obtain ⟨bs0, hbs0⟩ : ∃ bs0, bs0 = cutG ls (some 1) none := ⟨_, rfl⟩
      have pbs0 : ∀ z ∈ bs0, Pl n z := by rw [hbs0]; exact pl_cutG hp
      have lbs0 : bs0.length ≤ 90 := by rw [hbs0]; exact Nat.le_trans (cutG_len _ _ _) hl
      rw [← hbs0]
      have s4 : Same H3 (upd H3 bd (.lst (bs0.map V.str))) := same_upd nbd
      have ebd : upd H3 bd (.lst (bs0.map V.str)) bd = some (.lst (bs0.map V.str)) := upd_same
      generalize upd H3 bd (.lst (bs0.map V.str)) = H4 at *
      refine ⟨fun σ' H' => ∃ (b2 : Addr) (bs : List Str), σ' = [some (.ref a), some (.int c), some (.int p), some (.ref dr), some (.ref hd), y5, some (.ref b2), none, none] ∧ H' b2 = some (.lst (bs.map V.str)) ∧ bs ≠ [] ∧ bs.length ≤ 90 ∧ (∀ z ∈ bs, Pl n z) ∧ Same H3 H', ?_, fun σ' H' m => ?_⟩
      · refine ⟨_, rfl, bd, _, rfl, .inl (.inl (.inl ebd)), rfl, _, rfl, ?_⟩
        rw [List.length_map]
        by_cases h0 : bs0 = []
        · rw [h0]
          rw [show decide (V.int (([] : List Str).length : Nat) = V.int 0) = true from decide_eq_true rfl]
          refine ⟨by show 1 ≤ sizeLine; decide, fun b2 nb2 => ⟨b2, [Str.ofString "0 1 2"], rfl, upd_same, (fun e => nomatch e), by decide, fun z hz => ?_, s4.trans (same_upd nb2)⟩⟩
          rw [List.mem_singleton.mp hz]
          exact (pl_of (n := 5) (by decide +kernel)).le (by omega)
        · rw [decide_eq_false fun e => h0 (List.length_eq_zero_iff.mp (by have := V.int.inj e; omega))]
          exact ⟨bd, bs0, rfl, ebd, h0, lbs0, pbs0, s4⟩
      obtain ⟨b2, bs, rfl, eb2, bne, lbs, pbs, s5⟩ := m
      have S5 := S2.trans (s3.trans s5)
      have bpos : 0 < bs.length := List.length_pos_iff.mpr bne
      have ea5 := s5 _ _ ea3
      have sq5 := s5.seq sq3
      clear ebd
      refine ⟨10, rfl, by omega, by omega, for_range (lo := 0) (n := 10) (fun i σ H6 => (∃ y5 y7 y8, σ = [some (.ref a), some (.int c), some (.int p), some (.ref dr), some (.ref hd), y5, some (.ref b2), y7, y8]) ∧ Same H' H6) ⟨⟨_, _, _, rfl⟩, Same.refl _⟩ (fun i σ H6 hi pv => ?_) (fun σ H6 pv => ?_)⟩
      rotate_left
      · exact q _ (S5.trans pv.2)
      obtain ⟨⟨y5, y7, y8, rfl⟩, s6⟩ := pv
      have ea6 := s6 _ _ ea5
      have eb6 := s6 _ _ eb2
      have sq6 := s6.seq sq5
      obtain ⟨v2, ev2⟩ := digs_ex hdg (i := 2 + 2 * i) (by show _ < 22; omega)
      obtain ⟨v3, ev3⟩ := digs_ex hdg (i := 3 + 2 * i) (by show _ < 22; omega)
      have ev2 : atI (dg.map V.int) (2 + 2 * (0 + (i : Int))) = some (.int v2) := by rw [← ev2]; exact congrArg _ (by omega)
      have ev3 : atI (dg.map V.int) (3 + 2 * (0 + (i : Int))) = some (.int v3) := by rw [← ev3]; exact congrArg _ (by omega)
      obtain ⟨k0, hk0, kl⟩ : ∃ k : Nat, v2.fmod ((bs.map V.str).length : Nat) = (k : Int) ∧ k < bs.length := by
        have := fmod_in v2 (n := ((bs.map V.str).length : Nat)) (by rw [List.length_map]; omega)
        rw [List.length_map] at this ⊢
        exact ⟨(v2.fmod (bs.length : Nat)).toNat, by omega, by omega⟩
      refine ⟨_, rfl, _, rfl, _, _, rfl, rfl, .inl ⟨by decide, by decide⟩, _, _, rfl, rfl, dr, _, _, _, rfl, rfl, sq6, ev2, .inl ⟨_, rfl, _, rfl, b2, _, rfl, .inl (.inl (.inl eb6)), _, _, rfl, rfl, by rw [List.length_map]; omega, ?_⟩⟩
      dsimp only
      rw [hk0]
      clear hk0
      obtain ⟨z, hz⟩ : ∃ z, bs[k0]? = some z := ⟨_, List.getElem?_eq_getElem kl⟩
      have pz := pbs z (List.mem_of_getElem? hz)
      have atz : atI (bs.map V.str) (k0 : Int) = some (.str z) := atI_nat (by rw [List.getElem?_map, hz]; rfl)
      refine ⟨_, rfl, _, rfl, b2, _, _, _, rfl, rfl, .inl (.inl eb6), atz, _, rfl, _, rfl, _, _, rfl, rfl, .inl ⟨by decide, by decide⟩, _, _, rfl, rfl, dr, _, _, _, rfl, rfl, sq6, ev3, z, v3, n, rfl, pz, by omega, fun H7 fr fs s7 efr lfs pfs => ?_⟩
      have m41 : 0 ≤ (v1 + 4 * (0 + (i : Int))) % 41 ∧ (v1 + 4 * (0 + (i : Int))) % 41 < 41 := ⟨Int.emod_nonneg _ (by decide), Int.emod_lt_of_pos _ (by decide)⟩
      obtain ⟨y, hy, ey⟩ := pick (ys := fs) m41.1 (by rw [lfs]; exact m41.2)
      have py := pfs y hy
      have ea7 := s7 _ _ ea6
      have eb7 := s7 _ _ eb6
      refine ⟨_, rfl, dr, _, _, _, rfl, rfl, s7.seq sq6, ev1, _, rfl, _, _, rfl, rfl, .inl ⟨by decide, by decide⟩, _, _, rfl, rfl, .inl ⟨_, rfl, _, _, rfl, rfl, by show (0 : Int) < 41; decide, fr, _, _, _, rfl, rfl, .inl (.inl efr), ey, ?_⟩⟩
      refine ⟨_, rfl, _, rfl, a, _, rfl, .inl (.inl ea7), fun q1 nq1 => ?_⟩
      rw [cut_map]
      obtain ⟨cq1, hcq1⟩ : ∃ cs, cs = cutG ls none (some 1) := ⟨_, rfl⟩
      have pq1 : ∀ z ∈ cq1, Pl n z := by rw [hcq1]; exact pl_cutG hp
      have lq1 : cq1.length ≤ 90 := by rw [hcq1]; exact Nat.le_trans (cutG_len _ _ _) (by assumption)
      rw [← hcq1]
      generalize hgw1 : upd H7 q1 _ = wG1
      have eq1 : wG1 q1 = some (.lst (cq1.map V.str)) := by rw [← hgw1, upd_same]
      have wu1 : Same H7 wG1 := by rw [← hgw1]; exact same_upd nq1
      clear hgw1
      refine ⟨_, rfl, _, rfl, _, _, rfl, rfl, _, _, rfl, _, rfl, _, rfl, _, rfl, b2, _, rfl, .inl (.inl (wu1 _ _ eb7)), fun q2 nq2 => ?_⟩
      rw [cut_map]
      obtain ⟨cq2, hcq2⟩ : ∃ cs, cs = cutG bs (some (if (0 : Int) > (k0 : Int) - 2 then 0 else (k0 : Int) - 2)) (some (k0 : Int)) := ⟨_, rfl⟩
      have pq2 : ∀ z ∈ cq2, Pl n z := by rw [hcq2]; exact pl_cutG pbs
      have lq2 : cq2.length ≤ 90 := by rw [hcq2]; exact Nat.le_trans (cutG_len _ _ _) (by assumption)
      rw [← hcq2]
      generalize hgw2 : upd wG1 q2 _ = wG2
      have eq2 : wG2 q2 = some (.lst (cq2.map V.str)) := by rw [← hgw2, upd_same]
      have wu2 : Same wG1 wG2 := by rw [← hgw2]; exact same_upd nq2
      clear hgw2
      refine ⟨q1, q2, _, _, rfl, rfl, (wu2 _ _ eq1), eq2, lim _ (by simp only [List.length_append, List.length_map, List.length_cons, List.length_nil]; omega), fun q3 nq3 => ?_⟩
      generalize hgw3 : upd wG2 q3 _ = wG3
      have eq3 : wG3 q3 = some (.lst ((cq1 ++ cq2).map V.str)) := by rw [← hgw3, upd_same]; simp only [List.map_append]
      have wu3 : Same wG2 wG3 := by rw [← hgw3]; exact same_upd nq3
      clear hgw3
      refine ⟨_, rfl, by show 1 ≤ sizeLine; decide, fun q4 nq4 => ?_⟩
      generalize hgw4 : upd wG3 q4 _ = wG4
      have eq4 : wG4 q4 = some (.lst ([y].map V.str)) := by rw [← hgw4, upd_same]; rfl
      have wu4 : Same wG3 wG4 := by rw [← hgw4]; exact same_upd nq4
      clear hgw4
      refine ⟨q3, q4, _, _, rfl, rfl, (wu4 _ _ eq3), eq4, lim _ (by simp only [List.length_append, List.length_map, List.length_cons, List.length_nil]; omega), fun q5 nq5 => ?_⟩
      generalize hgw5 : upd wG4 q5 _ = wG5
      have eq5 : wG5 q5 = some (.lst (((cq1 ++ cq2) ++ [y]).map V.str)) := by rw [← hgw5, upd_same]; simp only [List.map_append]
      have wu5 : Same wG4 wG5 := by rw [← hgw5]; exact same_upd nq5
      clear hgw5
      refine ⟨_, rfl, _, rfl, _, _, rfl, rfl, _, rfl, _, rfl, _, _, rfl, rfl, _, rfl, b2, _, rfl, .inl (.inl ((wu1.trans (wu2.trans (wu3.trans (wu4.trans wu5)))) _ _ eb7)), fun q6 nq6 => ?_⟩
      rw [cut_map]
      obtain ⟨cq6, hcq6⟩ : ∃ cs, cs = cutG bs (some ((k0 : Int) + 1)) (some ((k0 : Int) + 3)) := ⟨_, rfl⟩
      have pq6 : ∀ z ∈ cq6, Pl n z := by rw [hcq6]; exact pl_cutG pbs
      have lq6 : cq6.length ≤ 90 := by rw [hcq6]; exact Nat.le_trans (cutG_len _ _ _) (by assumption)
      rw [← hcq6]
      generalize hgw6 : upd wG5 q6 _ = wG6
      have eq6 : wG6 q6 = some (.lst (cq6.map V.str)) := by rw [← hgw6, upd_same]
      have wu6 : Same wG5 wG6 := by rw [← hgw6]; exact same_upd nq6
      clear hgw6
      refine ⟨q5, q6, _, _, rfl, rfl, (wu6 _ _ eq5), eq6, lim _ (by simp only [List.length_append, List.length_map, List.length_cons, List.length_nil]; omega), fun q7 nq7 => ?_⟩
      generalize hgw7 : upd wG6 q7 _ = wG7
      have eq7 : wG7 q7 = some (.lst (((cq1 ++ cq2 ++ [y]) ++ cq6).map V.str)) := by rw [← hgw7, upd_same]; simp only [List.map_append]
      have wu7 : Same wG6 wG7 := by rw [← hgw7]; exact same_upd nq7
      clear hgw7
      refine ⟨q7, cq1 ++ cq2 ++ [y] ++ cq6, 2 * n + 7, rfl, .inl (.inl eq7), by simp only [List.length_append, List.length_cons, List.length_nil]; omega, by omega, fun z hz => ?_, fun H8 s8 => ⟨true, rfl, ⟨_, _, _, rfl⟩, s6.trans (s7.trans ((wu1.trans (wu2.trans (wu3.trans (wu4.trans (wu5.trans (wu6.trans wu7)))))).trans s8))⟩⟩
      rcases List.mem_append.mp hz with h | h
      · rcases List.mem_append.mp h with h | h
        · rcases List.mem_append.mp h with h | h
          · exact (pq1 z h).le (by omega)
          · exact (pq2 z h).le (by omega)
        · rw [List.mem_singleton.mp h]
          exact py
      · exact (pq6 z h).le (by omega)

def spTxA (K : PySem.W.Frag) : Sp := fun vs H Q _ => ∃ (z a : Addr) (ns : List Int) (ls : List Str) (p : Int) (n : Nat), vs = [.ref z, .ref a, .int p] ∧ SqL K H z (ns.map V.int) ∧ ns.length ≤ 1000 ∧ H a = some (.lst (ls.map V.str)) ∧ ls ≠ [] ∧ ls.length ≤ 190 ∧ (∀ z ∈ ls, Pl n z) ∧ 28 ≤ n ∧ n ≤ 50 ∧ (0 ≤ p ∧ p ≤ 100) ∧ ∀ H', Same H H' → Q (.bl true) H'
set_option maxHeartbeats 4000000 in
theorem ok_txa {f : Addr} {fd : FuncData} (F : Fun K "_law_texts_asked" "_law_texts_asked" s__law_texts_asked f fd) (T : Bi mg)
    {f_d : Addr} {d_d : FuncData} (D_d : Df K mg "_law_digits" s__law_digits ["_law_cell_here", "_law_sizes"] f_d d_d) (G_d : FnOk P w K mg base CX0 1 f_d d_d ["_law_cell_here", "_law_sizes"] (spDigs K))
    {f_c : Addr} {d_c : FuncData} (D_c : Df K mg "_law_cell" s__law_cell ["_law_script", "_law_k"] f_c d_c) (G_c : FnOk P w K mg base CX0 1 f_c d_c ["_law_script", "_law_k"] (spCell K))
    {f_s : Addr} {d_s : FuncData} (D_s : Df K mg "_law_spoilt" s__law_spoilt ["_law_lines", "_law_kind", "_law_cell_here", "_law_pins_here"] f_s d_s) (G_s : FnOk P w K mg base CX0 3 f_s d_s ["_law_lines", "_law_kind", "_law_cell_here", "_law_pins_here"] (spSpo K))
    {f_a : Addr} {d_a : FuncData} (D_a : Df K mg "_law_asked" s__law_asked ["_law_lines"] f_a d_a) (G_a : FnOk P w K mg base CX0 10 f_a d_a ["_law_lines"] (spAsk K)) : FnOk P w K mg base CX0 11 f fd ["_law_script", "_law_lines", "_law_pins_here"] (spTxA K) := by
  refine F.ok sc__law_texts_asked (fun vs H Q E h => ?_) (fun cdv A outer s H vs Q E hr h => ?_)
  · obtain ⟨z, a, ns, ls, p, n, rfl, _⟩ := h
    rfl
  · obtain ⟨z, a, ns, ls, p, n, rfl, hs, hn, ea, hne, hl, hp, n28, n50, hpin, q⟩ := h
    refine ⟨_, (pss_cons (ps_for PassesOwn.never rfl (pi_range1 (by rfl) T.b_range (pa_cons pe_int pa_nil)) (pg_name (i := 3) sc__law_texts_asked.nd rfl (.inl rfl))
        (pss_cons (ps_set (i := 4) sc__law_texts_asked.nd rfl (.inl rfl) (pe_call G_d (hr.mono (by decide)) (by rfl) D_d.g D_d.F.kp D_d.b .nil pass0 (pa_cons (pe_call G_c (hr.mono (by decide)) (by rfl) D_c.g D_c.F.kp D_c.b .nil pass0 (pa_cons (pv 0) (pa_cons (pe_op op_add pe_int (pv 3)) pa_nil))) (pa_cons (pe_lst (pa_cons pe_int (pa_cons (pe_op op_pow pe_int pe_int) (pa_cons (pe_op op_pow pe_int pe_int) (pa_cons pe_int pa_nil))))) pa_nil))))
        (pss_cons (ps_set (i := 5) sc__law_texts_asked.nd rfl (.inl rfl) (pv 1))
        (C8.pss_cut (ps_if (pt_cmpR op_ge (pv 3) pe_int (nomark _)) (pss_one (ps_set (i := 5) sc__law_texts_asked.nd rfl (.inl rfl) (pe_call G_s (hr.mono (by decide)) (by rfl) D_s.g D_s.F.kp D_s.b .nil pass0 (pa_cons (pv 5) (pa_cons (pe_op op_add pe_int (pe_ix (r := rIxL K) ix_list (pv 4) pe_int (fun _ _ => rfl))) (pa_cons (pe_ix (r := rIxL K) ix_list (pv 4) pe_int (fun _ _ => rfl)) (pa_cons (pv 2) pa_nil))))))) pss_nil)
        (pss_one (ps_if (pt_not (pt_val (pe_call G_a hr (by rfl) D_a.g D_a.F.kp D_a.b .nil pass0 (pa_cons (pe_call G_s (hr.mono (by decide)) (by rfl) D_s.g D_s.F.kp D_s.b .nil pass0 (pa_cons (pv 5) (pa_cons (pe_ix (r := rIxL K) ix_list (pv 4) pe_int (fun _ _ => rfl)) (pa_cons (pe_ix (r := rIxL K) ix_list (pv 4) pe_int (fun _ _ => rfl)) (pa_cons (pv 2) pa_nil))))) pa_nil)))) (pss_one (ps_ret pe_bl)) pss_nil))))))
        (pss_one (ps_ret pe_bl))), ?_⟩
    have e9 : ((10 : Int) ^ (9 : Int).toNat) = 1000000000 := by decide
    refine ⟨7, rfl, by omega, by omega, for_range (lo := 0) (n := 7) (fun i σ H' => (∃ y3 y4 y5, σ = [some (.ref z), some (.ref a), some (.int p), y3, y4, y5]) ∧ Same H H') ⟨⟨_, _, _, rfl⟩, Same.refl _⟩ (fun i σ H1 hi pv => ?_) (fun σ H1 pv => ?_)⟩
    rotate_left
    · exact q _ pv.2
    obtain ⟨⟨y3, y4, y5, rfl⟩, s1⟩ := pv
    refine ⟨_, rfl, _, rfl, _, _, rfl, rfl, z, ns, 16 + i, by show [V.ref z, V.int (16 + (0 + (i : Int)))] = _; rw [show (16 + (0 + (i : Int))) = ((16 + i : Nat) : Int) by omega], s1.seq hs, by omega, hn, fun c => ?_⟩
    refine ⟨_, _, rfl, rfl, ⟨by decide, by decide, by decide⟩, _, _, rfl, rfl, ⟨by decide, by decide, by decide⟩, by show 4 ≤ sizeLine; decide, fun l nl => ?_⟩
    refine ⟨c, l, [16, 10 ^ (9 : Int).toNat, 10 ^ (9 : Int).toNat, 7], rfl, .inl (.inl upd_same), by show 4 ≤ 1000; decide, fun x hx => ?_, fun H2 dr dg s2 _ edr hdg => ?_⟩
    · simp only [List.mem_cons, List.not_mem_nil, or_false] at hx
      rw [e9] at hx
      omega
    obtain ⟨d0, d1, d2, d3, rfl, b0, b3⟩ := digs4_ hdg
    have S2 := s1.trans ((same_upd nl).trans s2)
    have ea2 := S2 _ _ ea
    have sq : SqL K H2 dr [.int d0, .int d1, .int d2, .int d3] := .inl (.inl edr)
    generalize hst : H2 = Hx at *
    clear hst
    refine ⟨_, rfl, ?_⟩
    refine ⟨fun σ' H' => ∃ (b : Addr) (bs : List Str), σ' = [some (.ref z), some (.ref a), some (.int p), some (.int (0 + (i : Int))), some (.ref dr), some (.ref b)] ∧ H' b = some (.lst (bs.map V.str)) ∧ bs ≠ [] ∧ bs.length ≤ 191 ∧ (∀ z ∈ bs, Pl (2 * n + 7) z) ∧ Same Hx H', ?_, fun σ' H' m => ?_⟩
    · refine ⟨_, rfl, _, _, rfl, rfl, _, rfl, ite2 (fun _ => ?_) (fun _ => ?_)⟩
      · exact ⟨_, rfl, _, rfl, dr, _, _, _, rfl, rfl, sq, at_of (j := 3) rfl rfl, _, _, rfl, rfl, _, rfl, dr, _, _, _, rfl, rfl, sq, at_of (j := 2) rfl rfl, _, rfl, a, ls, 7 + d3, d2, p, n, rfl, ea2, hne, by omega, hp, n28, by omega, ⟨by omega, by omega⟩, hpin, fun H3 r ys s3 er yne yl py => ⟨r, ys, rfl, er, yne, by omega, py, s3⟩⟩
      · exact ⟨a, ls, rfl, ea2, hne, by omega, fun z hz => (hp z hz).le (by omega), Same.refl _⟩
    obtain ⟨b, bs, rfl, eb, bne, bl_, pb, s3⟩ := m
    have sq3 := s3.seq sq
    refine ⟨_, rfl, _, rfl, dr, _, _, _, rfl, rfl, sq3, at_of (j := 0) rfl rfl, _, rfl, dr, _, _, _, rfl, rfl, sq3, at_of (j := 1) rfl rfl, _, rfl, b, bs, d0, d1, p, 2 * n + 7, rfl, eb, bne, by omega, pb, by omega, by omega, b0, hpin, fun H4 r ys s4 er yne yl py => ?_⟩
    exact ⟨r, ys, 2 * (2 * n + 7) + 7, rfl, .inl (.inl er), by omega, by omega, py, fun H5 s5 => ⟨true, rfl, ⟨_, _, _, rfl⟩, S2.trans (s3.trans (s4.trans s5))⟩⟩

end
end Own

namespace Own
open PySem PySem.Spec PyProof.Rows L2 TL
theorem tot_le {B : Int} (p : Int × Int) : ∀ l : List Tr, (∀ t ∈ l, 0 ≤ t.2.2 ∧ t.2.2 ≤ B) → 0 ≤ tot p l ∧ tot p l ≤ l.length * B
  | [], _ => by
    show 0 ≤ (0 : Int) ∧ (0 : Int) ≤ ((0 : Nat) : Int) * B
    rw [show (((0 : Nat) : Int)) * B = 0 by simp]
    omega
  | t :: r, h => by
    have ih := tot_le p r fun u hu => h u (List.mem_cons_of_mem _ hu)
    have ht := h t List.mem_cons_self
    rw [tot_cons, List.length_cons]
    have e : ((r.length + 1 : Nat) : Int) * B = (r.length : Int) * B + B := by
      rw [Int.natCast_add, Int.add_mul]
      simp
    rw [e]
    split <;> omega
/-- the cords of entries are short numbers -/
theorem norm_sm {n : Int} {l r : List Tr} (h : IsNorm l r) (hn : n ≤ 100) (v : ∀ t ∈ l, Vld n t) (b : ∀ t ∈ l, t.2.2 ≤ 100000000) (hl : l.length ≤ 60) : (∀ t ∈ r, SmE t) ∧ (∀ t ∈ r, Vld n t) ∧ r.length ≤ 60 := by
  have g := h.good v
  refine ⟨fun e he => ?_, g.vld, Nat.le_trans h.len hl⟩
  obtain ⟨o1, o2, o3, o4⟩ := g.ord e he
  have t := tot_le (B := 100000000) (pr e) l fun u hu => ⟨by have := (v u hu).2.2.2.2.2; omega, b u hu⟩
  rw [← h.cnt e he] at t
  have : (l.length : Int) * 100000000 ≤ 60 * 100000000 := Int.mul_le_mul_of_nonneg_right (by omega) (by decide)
  exact ⟨by omega, by omega, by omega⟩
theorem pl_nt9 {i : Int} (h : i.natAbs < 10 ^ 9) : Pl 10 (nt i) := by
  have hn : ∀ n : Nat, ∀ c ∈ numL n, c < 128 ∧ c ≠ 10 := fun n c hc => by
    have := numL_digits n c hc
    omega
  unfold nt
  refine ⟨?_, ?_⟩
  · rw [len_tl, tl_int]
    cases i with
    | ofNat n => exact Nat.le_trans (numL_len (k := 9) (by decide) h) (by decide)
    | negSucc m => exact Nat.succ_le_succ (numL_len (k := 9) (by decide) h)
  · rw [tl_int]
    cases i with
    | ofNat n => exact hn n
    | negSucc m =>
      intro c hc
      rcases List.mem_cons.mp hc with e | e
      · omega
      · exact hn _ c e
theorem lines32 {n : Int} {l : List Tr} (hn : 0 ≤ n ∧ n ≤ 100) (v : ∀ t ∈ l, Vld n t) (b : ∀ t ∈ l, t.2.2 ≤ 100000000) : ∀ z ∈ linesT n l, Pl 32 z := fun z hz => by
  have s : Pl 1 (Str.ofString " ") := pl_of (by decide +kernel)
  rcases List.mem_cons.mp hz with e | e
  · rw [e, line_h]
    exact ((pl_of (n := 4) (by decide +kernel)).app (pl_nt9 (by omega))).le (by decide)
  · obtain ⟨d, hd, rfl⟩ := List.mem_map.mp e
    obtain ⟨t, ht, rfl⟩ := List.mem_map.mp hd
    obtain ⟨v1, v2, v3, v4, _, v6⟩ := v t ht
    have := b t ht
    rw [line_e]
    exact (((((pl_nt9 (by omega)).app s).app (pl_nt9 (by omega))).app s).app (pl_nt9 (by omega))).le (by decide)
theorem sme_of {n : Int} {l : List Tr} (hn : 0 ≤ n ∧ n ≤ 100) (v : ∀ t ∈ l, Vld n t) (b : ∀ t ∈ l, t.2.2 ≤ 100000000) : ∀ t ∈ l, SmE t := fun t ht => by
  obtain ⟨v1, v2, v3, v4, _, v6⟩ := v t ht
  have := b t ht
  exact ⟨by omega, by omega, by omega⟩
section
variable {X : Cx} {CX : CXT} {k : Nat} {C g : Addr} {fd : FuncData} {ps : List Str} {sp : Sp} {E : XK}
def rOwnEq (K : PySem.W.Frag) (C : Addr) (sp : Sp) : R2 := fun x y H Q => ∃ (a dx : Addr) (fs : List (Str × V)) (tb : Value), x = .ref a ∧ H a = some (.ins C dx fs) ∧ (TyX K H y tb ∨ ∃ (b dy : Addr) (gs : List (Str × V)), y = .ref b ∧ H b = some (.ins C dy gs) ∧ tb = .ref C) ∧ PySem.W.notFirst K C tb = true ∧
  sp [.ref a, y] H (fun v H' => ∃ c : Bool, v = .bl c ∧ Q (.bl c) H') E0
theorem op_ownEq (hs : PySem.W.findIn X.K (.ref C) "__eq__" = some (some (.ref g))) (hf : PySem.W.isFn X.K (.ref g) = true) (F : FnOk X.prog X.w X.K X.mg X.base CX0 k g fd ps sp) (room : Room k X.A) (hb : Binds X.K fd ps []) :
    OpR X (compareOp .Eq) (rOwnEq X.K C sp) := by
  intro pins s σ H x y v u Q inv rx ry ask
  obtain ⟨a, dx, fs, tb, rfl, ha, ty, nf, q⟩ := ask
  cases (show v = Value.ref a from rx)
  obtain ⟨_, O, _, _, _, _⟩ := ins_get inv.hok ha
  obtain ⟨od, J, _⟩ := O.look
  obtain ⟨m, hF⟩ := inv.fr
  have look : PySem.W.Looks (model X.prog X.w) s.heap (typeOf u) tb := by
    rcases ty with ty | ⟨b, dy, gs, rfl, hb, rfl⟩
    · obtain ⟨Pp, kx, hp, _⟩ := kit_of inv ry ty
      exact kx.ty _ _ inv.kIn hp
    · cases (show u = Value.ref b from ry)
      obtain ⟨_, O2, _, _, _, _⟩ := ins_get inv.hok hb
      obtain ⟨od2, J2, _⟩ := O2.look
      exact J2.type
  show wpAny (model X.prog X.w) X.A (richCompare .Eq (.ref a) u) (EP X pins σ Q) X.xe s
  refine PySem.W.cmp_K (op := .Eq) (tb := tb) room.units0 hF inv.ok.mod.kin J look nf hs hf ?_
  refine wpAny_mono (run_fnS (E := fun _ => E0) (us := [.ref a, u]) (vs := [.ref a, y]) F room hb pass0A inv (.cons rfl (.cons ry .nil)) q) (fun w s' z => ?_) fun _ _ x => x
  obtain ⟨z', H', I', rz, c, rfl, qz⟩ := z
  cases (show w = Value.bool c from rz)
  exact ⟨.bl c, H', I', rfl, qz⟩
theorem op_ownEqK {K : PySem.W.Frag} (hK : X.K = K) (hs : PySem.W.findIn K (.ref C) "__eq__" = some (some (.ref g))) (hf : PySem.W.isFn K (.ref g) = true) (F : FnOk X.prog X.w K X.mg X.base CX0 k g fd ps sp) (room : Room k X.A) (hb : Binds K fd ps []) :
    OpR X (compareOp .Eq) (rOwnEq K C sp) := by
  subst hK
  exact op_ownEq hs hf F room hb
end
section
variable {X : Cx} {CX : CXT} {k : Nat} {f : Addr} {fd : FuncData} {ps ks : List Str} {sp : Sp} {E : XK} {x : Str} {p pos : Pos} {kws : List Keyword} {tk : TA} {g : List Value → List Value → List Value} {gV : List V → List V → List V}
theorem pe_callK0 (F : FnOk X.prog X.w X.K X.mg X.base CX k f fd ps sp) (hr : Room k X.A) (hg : Gl X x) (hm : X.mg x = some (.ref f)) (hk : PySem.W.keepIn X.K (.ref f) = true) (hb : KBn X.K fd ps 0 ks g gV) (hx : Passes CX X E)
    (hkw : PK X kws tk) (hall : (backToKw pos (keywordEach kws X.env)).all (·.1.isSome) = true := by rfl) (hks : (backToKw pos (keywordEach kws X.env)).filterMap (·.1) = ks := by rfl)
    (hdb : (x == ("__debug__" : Str)) = false := by decide)
    (hpl : ((backTo pos (starEach [] X.env)).any (·.1) || (backToKw pos (keywordEach kws X.env)).any (·.1.isNone)) = false := by rfl) :
    PE X (.Call (.Name x p) [] kws pos) (tCallN 0 ks.length sp gV E tNil tk) := by
  refine ⟨fun pins s σ H Q I h => ?_⟩
  refine wpAny_Call_Name_kw (ld_glob I hg hm ?_ hdb)
  refine PySem.W.callWith_KW0 (h₀ := X.base) I.ok.mod.kin hk hall ?_ hpl
  refine thn (hkw.run pos pins s σ H _ I h) fun ws s2 ⟨zs, H2, I2, rz, l1, l2, q2⟩ => ⟨I2.kIn, ?_⟩
  rw [hks]
  exact run_fnN (us := []) (vs := []) F hr hb hx I2 .nil rz rfl l2 q2
end
theorem op_eqDK {X : Cx} {K : PySem.W.Frag} (hK : X.K = K) (hu : X.A.units + 64 < cLine) : OpR X (compareOp .Eq) (rEqD K) := by
  subst hK
  exact op_eqD hu
theorem ints_dp {K : PySem.W.Frag} {H : Hp} : ∀ l : List Int, DpAll K H (l.map V.int) (l.map PyData.int)
  | [] => .nil
  | i :: r => .cons (.int i) (ints_dp r)
theorem ints_lay : ∀ l : List Int, PyData.canLayAll0 (l.map PyData.int) = true ∧ PyData.depthAll (l.map PyData.int) ≤ 0
  | [] => ⟨rfl, Nat.le_refl _⟩
  | i :: r => by
    obtain ⟨h1, h2⟩ := ints_lay r
    refine ⟨?_, ?_⟩
    · show (true && PyData.canLayAll0 (r.map PyData.int)) = true
      rw [h1]
      rfl
    · show max (PyData.depth (.int i)) (PyData.depthAll (r.map PyData.int)) ≤ 0
      have : PyData.depth (.int i) = 0 := rfl
      omega
theorem shaped_of {d : PyData} (h1 : d.canLay0 = true) (h2 : d.depth ≤ 64) : SeqAt.shaped d = true := by
  unfold SeqAt.shaped
  rw [h1, decide_eq_true h2]
  rfl
theorem eqv_of {d : PyData} (h1 : d.canLay0 = true) : PyData.eqv d d = true := SeqAt.eqv_refl_plain d (PyData.plain_of_canLay0 d h1)
/-! ### == of lots -/
def eD (t : Tr) : PyData := .tuple [.int t.1, .int t.2.1, .int t.2.2]
theorem TrV.dp {K : PySem.W.Frag} {H : Hp} : ∀ (l : List Tr) (vs : List V), TrV H vs l → DpAll K H vs (l.map eD)
  | [], [], _ => .nil
  | [], _ :: _, h => absurd h.1 (by simp)
  | _ :: _, [], h => absurd h.1 (by simp)
  | t :: r, v :: vs, h => by
    obtain ⟨b, e1, e2⟩ := h.2 0 t rfl
    cases Option.some.inj e1
    exact .cons (.tup (.inl (.inl e2)) (.cons (.int _) (.cons (.int _) (.cons (.int _) .nil)))) (TrV.dp r vs ⟨Nat.succ.inj h.1, fun i u e => h.2 (i + 1) u e⟩)
theorem es_lay : ∀ l : List Tr, PyData.canLayAll0 (l.map eD) = true ∧ PyData.depthAll (l.map eD) ≤ 1
  | [] => ⟨rfl, Nat.zero_le _⟩
  | t :: r => by
    obtain ⟨h1, h2⟩ := es_lay r
    refine ⟨?_, ?_⟩
    · show (true && PyData.canLayAll0 (r.map eD)) = true
      rw [h1]
      rfl
    · show max (PyData.depth (eD t)) (PyData.depthAll (r.map eD)) ≤ 1
      have : PyData.depth (eD t) = 1 := rfl
      omega
section
variable {P : Program} {w : World} {K : PySem.W.Frag} {mg : Str → Option Value} {base : Heap} {C : Addr}
def spLEq (C : Addr) : Sp := fun vs H Q _ => ∃ (p o : Addr) (n : Int) (cs : List Tr), vs = [.ref p, .ref o] ∧ LotAt C H p n cs ∧ LotAt C H o n cs ∧ Q (.bl true) H
theorem ok_leq {f : Addr} {fd : FuncData} (F : Fun K "__eq__" "Lot.__eq__" s_Lot_eq f fd) (T : Bi mg) (L : LotC K mg C) (I : C8.InsC K C) : FnOk P w K mg base CX0 1 f fd ["self", "other"] (spLEq C) := by
  refine F.ok sc_Lot_eq (fun vs H Q E h => ?_) (fun cdv A outer s H vs Q E hr h => ?_)
  · obtain ⟨p, o, n, cs, rfl, _⟩ := h
    rfl
  · obtain ⟨p, o, n, cs, rfl, ⟨dx, b, e, us, eb, k⟩, ⟨dy, b2, f1, ws, fb, k2⟩, q⟩ := h
    have hu64 : (A.deeper (envOfC "Lot.__eq__" (defScope s_Lot_eq) s.heap.objs.size f cdv)).units + 64 < cLine := hr.units
    refine ⟨_, (pss_one (ps_ret (pe_and (pe_callB call_isi (by rfl) T.b_isinstance (by decide +kernel) (pa_cons (pv 1) (pa_cons (pe_glob (v := .ref C) (by rfl) L.g rfl) pa_nil))) (pe_and (pe_cmpR op_eq (pe_fld (pv 0) rfl) (pe_fld (pv 1) rfl) (nomark _)) (pe_one (pe_cmpR (op_eqDK (K := K) rfl hu64) (pe_fld (pv 0) rfl) (pe_fld (pv 1) rfl) (nomark _))))))), ?_⟩
    have d1 : Dp K H (.ref b) (.tuple (cs.map eD)) := .tup (.inl (.inl eb)) (k.dp cs us)
    have d2 : Dp K H (.ref b2) (.tuple (cs.map eD)) := .tup (.inl (.inl fb)) (k2.dp cs ws)
    obtain ⟨h1, h2⟩ := es_lay cs
    have c0 : (PyData.tuple (cs.map eD)).canLay0 = true := h1
    have dp : (PyData.tuple (cs.map eD)).depth ≤ 64 := by show PyData.depthAll (cs.map eD) + 1 ≤ 64; omega
    refine ⟨_, rfl, _, _, _, _, true, rfl, .own C, .base (.ins f1 I.cl I.ha I.hn I.htk I.hm), I.me, true, rfl, ?_⟩
    refine ⟨_, rfl, p, C, dx, _, _, rfl, e, L.cl, L.nP, flds_pins _ _, _, rfl, o, C, dy, _, _, rfl, f1, L.cl, L.nP, flds_pins _ _, rfl, ?_⟩
    rw [show decide (V.int n = V.int n) = true from decide_eq_true rfl]
    refine ⟨_, rfl, _, rfl, p, C, dx, _, _, rfl, e, L.cl, L.nC, flds_cords _ _, _, rfl, o, C, dy, _, _, rfl, f1, L.cl, L.nC, flds_cords _ _, _, _, d1, d2, shaped_of c0 dp, shaped_of c0 dp, ?_⟩
    rw [eqv_of c0]
    exact q
/-- two lots with the same cords are equal -/
theorem eqLot (nfC : PySem.W.notFirst K C (.ref C) = true) {H : Hp} {Q : VK} {p o : Addr} {n : Int} {cs : List Tr} (hp : LotAt C H p n cs) (ho : LotAt C H o n cs) (q : Q (.bl true) H) : rOwnEq K C (spLEq C) (.ref p) (.ref o) H Q := by
  obtain ⟨dx, a, e, _⟩ := id hp
  obtain ⟨dy, b, e2, _⟩ := id ho
  exact ⟨p, dx, _, .ref C, rfl, e, .inr ⟨o, dy, _, rfl, e2, rfl⟩, nfC, p, o, n, cs, rfl, hp, ho, true, rfl, q⟩
end
end Own

namespace Own
open PySem PySem.Spec PyProof.Rows L2 TL
/-! ### what stands through the law -/
structure LE (K : PySem.W.Frag) (z : Addr) (ns : List Int) (n : Int) (e : Addr) (us : List V) (es : List Tr) (H : Hp) : Prop where
  hs : SqL K H z (ns.map V.int)
  he : H e = some (.lst us)
  tv : TrV H us es
  ok : ∀ t ∈ es, Vld n t
  bnd : ∀ t ∈ es, t.2.2 ≤ 100000000
  hn : 0 ≤ n ∧ n ≤ 100
structure LW (K : PySem.W.Frag) (z : Addr) (ns : List Int) (n : Int) (e : Addr) (us : List V) (es : List Tr) (b5 : Addr) (cs : List Tr) (H : Hp) : Prop where
  l : LE K z ns n e us es H
  len : es.length ≤ 50
  hb : Trip H b5 cs
  hN : IsNorm es cs
theorem LE.same {K : PySem.W.Frag} {z : Addr} {ns : List Int} {n : Int} {e : Addr} {us : List V} {es : List Tr} {H H' : Hp} (h : LE K z ns n e us es H) (s : Same H H') : LE K z ns n e us es H' :=
  ⟨s.seq h.hs, s _ _ h.he, h.tv.same s, h.ok, h.bnd, h.hn⟩
theorem LW.same {K : PySem.W.Frag} {z : Addr} {ns : List Int} {n : Int} {e : Addr} {us : List V} {es : List Tr} {b5 : Addr} {cs : List Tr} {H H' : Hp} (h : LW K z ns n e us es b5 cs H) (s : Same H H') : LW K z ns n e us es b5 cs H' :=
  ⟨h.l.same s, h.len, h.hb.same s, h.hN⟩
theorem digs3 {ds : List Int} (h : Digs ds [10, 6, 32]) : ∃ a b c : Int, ds = [a, b, c] ∧ (0 ≤ a ∧ a < 10) ∧ (0 ≤ c ∧ c < 32) := by
  match ds, h with
  | [a, b, c], h => exact ⟨a, b, c, rfl, h.2 0 a 10 rfl rfl, h.2 2 c 32 rfl rfl⟩
  | [], h => exact absurd h.1 (by simp)
  | [_], h => exact absurd h.1 (by simp)
  | [_, _], h => exact absurd h.1 (by simp)
  | _ :: _ :: _ :: _ :: _, h => exact absurd h.1 (by simp)
def rep3 (n : Int) : Nat → List Int
  | 0 => []
  | k + 1 => n :: (n - 1) :: 1000 :: rep3 n k
theorem rep3_map (n : Int) : ∀ k, (List.replicate k [V.int n, V.int (n - 1), V.int 1000]).flatten = (rep3 n k).map V.int
  | 0 => rfl
  | k + 1 => by
    rw [List.replicate_succ, List.flatten_cons, rep3_map n k]
    rfl
theorem rep3_len (n : Int) : ∀ k, (rep3 n k).length = 3 * k
  | 0 => rfl
  | k + 1 => by
    show (rep3 n k).length + 1 + 1 + 1 = _
    rw [rep3_len n k]
    omega
theorem rep3_mem (n : Int) : ∀ k, ∀ s ∈ rep3 n k, s = n ∨ s = n - 1 ∨ s = 1000
  | 0, s, h => nomatch h
  | k + 1, s, h => by
    rcases List.mem_cons.mp h with e | h
    · exact .inl e
    · rcases List.mem_cons.mp h with e | h
      · exact .inr (.inl e)
      · rcases List.mem_cons.mp h with e | h
        · exact .inr (.inr e)
        · exact rep3_mem n k s h
theorem rep3_at (n : Int) : ∀ k i, i < k → (rep3 n k)[3 * i]? = some n ∧ (rep3 n k)[3 * i + 1]? = some (n - 1) ∧ (rep3 n k)[3 * i + 2]? = some 1000
  | 0, i, h => absurd h (Nat.not_lt_zero i)
  | k + 1, 0, _ => ⟨rfl, rfl, rfl⟩
  | k + 1, i + 1, h => rep3_at n k i (Nat.lt_of_succ_lt_succ h)
theorem digs_row3 {n : Int} {ds : List Int} (h : Digs ds (rep3 n 40)) {i : Nat} (hi : i < 40) : ∃ a b c : Int, atI (ds.map V.int) (3 * (i : Int)) = some (.int a) ∧ atI (ds.map V.int) (3 * (i : Int) + 1) = some (.int b) ∧ atI (ds.map V.int) (3 * (i : Int) + 2) = some (.int c) ∧ (0 ≤ a ∧ a < n) ∧ (0 ≤ b ∧ b < n - 1) ∧ (0 ≤ c ∧ c < 1000) := by
  obtain ⟨r0, r1, r2⟩ := rep3_at n 40 i hi
  have hl : ds.length = 120 := by rw [h.1, rep3_len]
  have g := fun (j : Nat) (hj : j < 120) => (List.getElem?_eq_getElem (by omega) : ds[j]? = some ds[j])
  have at_ := fun (j : Nat) (hj : j < 120) => (atI_nat (by rw [List.getElem?_map, g j hj]; rfl) : atI (ds.map V.int) (j : Int) = some (.int ds[j]))
  refine ⟨_, _, _, ?_, ?_, ?_, h.2 _ _ _ (g (3 * i) (by omega)) r0, h.2 _ _ _ (g (3 * i + 1) (by omega)) r1, h.2 _ _ _ (g (3 * i + 2) (by omega)) r2⟩
  · exact at_ (3 * i) (by omega)
  · exact at_ (3 * i + 1) (by omega)
  · exact at_ (3 * i + 2) (by omega)
theorem put_tv {H : Hp} {e p : Addr} {us : List V} {es : List Tr} {t : Tr} {o : HO} (he : H e = some (.lst us)) (tv_ : TrV H us es) (ep : H p = some (.tup (tv t))) : TrV (upd H e o) (us ++ [.ref p]) (es ++ [t]) := by
  have ne : ∀ {b : Addr} {xs : List V}, H b = some (.tup xs) → b ≠ e := fun h z => by rw [z, he] at h; cases h
  have h1 : TrV (upd H e o) us es := ⟨tv_.1, fun i u hu => by
    obtain ⟨b, e1, e2⟩ := tv_.2 i u hu
    exact ⟨b, e1, by rw [upd_ne (ne e2)]; exact e2⟩⟩
  exact h1.snoc (by rw [upd_ne (ne ep)]; exact ep)

section
variable {P : Program} {w : World} {K : PySem.W.Frag} {mg : Str → Option Value} {base : Heap} {C D0 D1 D2 : Addr}
def spLaw (K : PySem.W.Frag) : Sp := fun vs H Q _ => ∃ (s : Addr) (ns : List Int), vs = [.ref s] ∧ SqL K H s (ns.map V.int) ∧ ns.length ≤ 1000 ∧ ∀ H', Q (.bl true) H'
set_option maxHeartbeats 0 in
theorem ok_law {f : Addr} {fd : FuncData} (F : Fun K "law" "law" s_law f fd) (T : Bi mg) (L : LotC K mg C) 
    {f_pi : Addr} {d_pi : FuncData} (D_pi : Df K mg "_law_pins" s__law_pins ["_law_cell_here"] f_pi d_pi) (G_pi : FnOk P w K mg base CX0 2 f_pi d_pi ["_law_cell_here"] (spPins K))
    {f_c : Addr} {d_c : FuncData} (D_c : Df K mg "_law_cell" s__law_cell ["_law_script", "_law_k"] f_c d_c) (G_c : FnOk P w K mg base CX0 1 f_c d_c ["_law_script", "_law_k"] (spCell K))
    {f_d : Addr} {d_d : FuncData} (D_d : Df K mg "_law_digits" s__law_digits ["_law_cell_here", "_law_sizes"] f_d d_d) (G_d : FnOk P w K mg base CX0 1 f_d d_d ["_law_cell_here", "_law_sizes"] (spDigs K))
    {f_e : Addr} {d_e : FuncData} (D_e : Df K mg "_law_entry" s__law_entry ["_law_cell_here", "_law_pins_here", "_law_earlier"] f_e d_e) (G_e : FnOk P w K mg base CX0 2 f_e d_e ["_law_cell_here", "_law_pins_here", "_law_earlier"] (spEnt K))
    {f_n : Addr} {d_n : FuncData} (D_n : Df K mg "_law_norm" s__law_norm ["_law_triples"] f_n d_n) (G_n : FnOk P w K mg base CX0 1 f_n d_n ["_law_triples"] (spNorm K))
    {f_no : Addr} {d_no : FuncData} (D_no : Df K mg "_law_note" s__law_note ["_law_pins_here", "_law_entries"] f_no d_no) (G_no : FnOk P w K mg base CX0 1 f_no d_no ["_law_pins_here", "_law_entries"] (spLNote K))
    {f_li : Addr} {d_li : FuncData} (D_li : Df K mg "_law_lot_is" s__law_lot_is ["_law_thing", "_law_pins_here", "_law_bunch"] f_li d_li) (G_li : FnOk P w K mg base CX0 5 f_li d_li ["_law_thing", "_law_pins_here", "_law_bunch"] (spLotIs C))
    {f_co : Addr} {d_co : FuncData} (D_co : Df K mg "_law_counts" s__law_counts ["_law_thing", "_law_pins_here", "_law_bunch"] f_co d_co) (G_co : FnOk P w K mg base CX0 5 f_co d_co ["_law_thing", "_law_pins_here", "_law_bunch"] (spCounts C))
    {f_fa : Addr} {d_fa : FuncData} (D_fa : Df K mg "_law_forms_asked" s__law_forms_asked ["_law_lines", "_law_cell_here", "_law_pins_here"] f_fa d_fa) (G_fa : FnOk P w K mg base CX0 11 f_fa d_fa ["_law_lines", "_law_cell_here", "_law_pins_here"] (spFoA K))
    {f_ta : Addr} {d_ta : FuncData} (D_ta : Df K mg "_law_texts_asked" s__law_texts_asked ["_law_script", "_law_lines", "_law_pins_here"] f_ta d_ta) (G_ta : FnOk P w K mg base CX0 11 f_ta d_ta ["_law_script", "_law_lines", "_law_pins_here"] (spTxA K))
    {f_s : Addr} {d_s : FuncData} (D_s : Df K mg "_law_same" s__law_same ["_law_value", "_law_due"] f_s d_s) (G_s : FnOk P w K mg base CX0 4 f_s d_s ["_law_value", "_law_due"] (spSame 2))
    {f_p : Addr} {d_p : FuncData} (D_p : Df K mg "parse_lot" s_parse_lot ["text"] f_p d_p) (G_p : FnOk P w K mg base (L2N.CX P w) 8 f_p d_p ["text"] (spParse C D0 D1 D2))
    {f_f : Addr} {d_f : FuncData} (D_f : Df K mg "format_lot" s_format_lot ["lot"] f_f d_f) (G_f : FnOk P w K mg base CX0 2 f_f d_f ["lot"] (spFmt C))
    (kb_f : KBn K d_f ["lot"] 0 ["lot"] (fun _ ws => ws) (fun _ zs => zs)) (kb_p : KBn K d_p ["text"] 0 ["text"] (fun _ ws => ws) (fun _ zs => zs))
    {f_i : Addr} {d_i : FuncData} (M : Mk K C f_i) (G_i : GIY P w K mg base C D1 D2 f_i d_i) (b_i : Binds K d_i ["self", "pins", "cords"] [])
    {f_eq : Addr} {d_eq : FuncData} (i_eq : PySem.W.findIn K (.ref C) "__eq__" = some (some (.ref f_eq))) (n_eq : PySem.W.isFn K (.ref f_eq) = true) (G_eq : FnOk P w K mg base CX0 1 f_eq d_eq ["self", "other"] (spLEq C)) (b_eq : Binds K d_eq ["self", "other"] []) (nfC : PySem.W.notFirst K C (.ref C) = true) : FnOk P w K mg base CX0 12 f fd ["_law_script"] (spLaw K) := by
  refine F.ok sc_law (fun vs H Q E h => ?_) (fun cdv A outer s H vs Q E hr h => ?_)
  · obtain ⟨z, ns, rfl, _⟩ := h
    rfl
  · obtain ⟨z, ns, rfl, hs, hn, q⟩ := h
    obtain ⟨tPb, hPb, qPb⟩ : ∃ tR, PSs (cxOf CX0 P w K mg base ["_law_script", "_law_pins_here", "_law_many", "_law_entries", "_law_k", "_law_bunch", "_law_thing", "_law_note_here", "_law_back", "_law_drawn", "_law_lines", "_law_row"] "law" (defScope s_law) f cdv A outer s H E).nox ((defBody s_law).drop 7) tR ∧ ∀ (n : Int) (y2 : Option V) (e : Addr) (us : List V) (es : List Tr) (b5 : Addr) (cs : List Tr) (y4 y6 y7 y8 y9 y10 y11 : Option V) (H0 : Hp), LW K z ns n e us es b5 cs H0 → tR { nx := fun _ H' => Q .non H', rt := Q } [some (.ref z), some (.int n), y2, some (.ref e), y4, some (.ref b5), y6, y7, y8, y9, y10, y11] H0 := by
      refine ⟨_, (pss_cons (ps_set (i := 6) sc_law.nd rfl (.inl rfl) (pe_make M G_i (hr.mono (by decide)) (by rfl) L.g b_i .nil passN (pa_cons (pv 1) (pa_cons (pv 3) pa_nil))))
        (pss_cons (ps_set (i := 7) sc_law.nd rfl (.inl rfl) (pe_call G_no (hr.mono (by decide)) (by rfl) D_no.g D_no.F.kp D_no.b .nil pass0 (pa_cons (pv 1) (pa_cons (pv 5) pa_nil))))
        (pss_cons (ps_if (PW.pt (pw_or (pt_not (pt_val (pe_call G_s (hr.mono (by decide)) (by rfl) D_s.g D_s.F.kp D_s.b .nil pass0 (pa_cons (pe_call G_f (hr.mono (by decide)) (by rfl) D_f.g D_f.F.kp D_f.b .nil pass0 (pa_cons (pv 6) pa_nil)) (pa_cons (pv 7) pa_nil))))) (pw_or1 (pt_not (pt_val (pe_call G_li (hr.mono (by decide)) (by rfl) D_li.g D_li.F.kp D_li.b .nil pass0 (pa_cons (pe_call G_p (hr.mono (by decide)) (by rfl) D_p.g D_p.F.kp D_p.b .nil passN (pa_cons (pv 7) pa_nil)) (pa_cons (pv 1) (pa_cons (pv 5) pa_nil))))))))) (pss_one (ps_ret pe_bl)) pss_nil)
        (pss_cons (ps_set (i := 8) sc_law.nd rfl (.inl rfl) (pe_call G_p (hr.mono (by decide)) (by rfl) D_p.g D_p.F.kp D_p.b .nil passN (pa_cons (pe_call G_f (hr.mono (by decide)) (by rfl) D_f.g D_f.F.kp D_f.b .nil pass0 (pa_cons (pv 6) pa_nil)) pa_nil)))
        (pss_cons (ps_if (PW.pt (pw_or (pt_not (pt_val (pe_call G_s (hr.mono (by decide)) (by rfl) D_s.g D_s.F.kp D_s.b .nil pass0 (pa_cons (pe_cmpR (by exact op_ownEqK (K := K) rfl i_eq n_eq G_eq (hr.mono (by decide)) b_eq) (pv 8) (pv 6) (nomark _)) (pa_cons pe_bl pa_nil))))) (pw_or1 (pt_not (pt_val (pe_call G_li (hr.mono (by decide)) (by rfl) D_li.g D_li.F.kp D_li.b .nil pass0 (pa_cons (pv 8) (pa_cons (pv 1) (pa_cons (pv 5) pa_nil))))))))) (pss_one (ps_ret pe_bl)) pss_nil)
        (pss_cons (ps_set (i := 9) sc_law.nd rfl (.inl rfl) (pe_call G_no (hr.mono (by decide)) (by rfl) D_no.g D_no.F.kp D_no.b .nil pass0 (pa_cons (pv 1) (pa_cons (pv 3) pa_nil))))
        (pss_cons (ps_if (PW.pt (pw_or (pt_not (pt_val (pe_call G_li (hr.mono (by decide)) (by rfl) D_li.g D_li.F.kp D_li.b .nil pass0 (pa_cons (pe_call G_p (hr.mono (by decide)) (by rfl) D_p.g D_p.F.kp D_p.b .nil passN (pa_cons (pv 9) pa_nil)) (pa_cons (pv 1) (pa_cons (pv 5) pa_nil)))))) (pw_or1 (pt_not (pt_val (pe_call G_co (hr.mono (by decide)) (by rfl) D_co.g D_co.F.kp D_co.b .nil pass0 (pa_cons (pe_call G_p (hr.mono (by decide)) (by rfl) D_p.g D_p.F.kp D_p.b .nil passN (pa_cons (pv 9) pa_nil)) (pa_cons (pv 1) (pa_cons (pv 5) pa_nil))))))))) (pss_one (ps_ret pe_bl)) pss_nil)
        (pss_cons (ps_set (i := 10) sc_law.nd rfl (.inl rfl) (pe_split (pv 9) pe_str))
        (pss_cons (ps_if (PW.pt (pw_or (pt_not (pt_val (pe_call G_fa (hr.mono (by decide)) (by rfl) D_fa.g D_fa.F.kp D_fa.b .nil pass0 (pa_cons (pv 10) (pa_cons (pe_call G_c (hr.mono (by decide)) (by rfl) D_c.g D_c.F.kp D_c.b .nil pass0 (pa_cons (pv 0) (pa_cons pe_int pa_nil))) (pa_cons (pv 1) pa_nil)))))) (pw_or1 (pt_not (pt_val (pe_call G_ta (hr.mono (by decide)) (by rfl) D_ta.g D_ta.F.kp D_ta.b .nil pass0 (pa_cons (pv 0) (pa_cons (pv 10) (pa_cons (pv 1) pa_nil))))))))) (pss_one (ps_ret pe_bl)) pss_nil)
        (pss_cons (ps_if (PW.pt (pw_or (pt_not (pt_val (pe_call G_s (hr.mono (by decide)) (by rfl) D_s.g D_s.F.kp D_s.b .nil pass0 (pa_cons (pe_call G_f (hr.mono (by decide)) (by rfl) D_f.g D_f.F.kp D_f.b .nil pass0 (pa_cons (pv 6) pa_nil)) (pa_cons (pv 7) pa_nil))))) (pw_or1 (pt_not (pt_val (pe_call G_li (hr.mono (by decide)) (by rfl) D_li.g D_li.F.kp D_li.b .nil pass0 (pa_cons (pv 6) (pa_cons (pv 1) (pa_cons (pv 5) pa_nil))))))))) (pss_one (ps_ret pe_bl)) pss_nil)
        (pss_one (ps_ret (pe_and (pe_call G_li (hr.mono (by decide)) (by rfl) D_li.g D_li.F.kp D_li.b .nil pass0 (pa_cons (pe_callK0 G_p (hr.mono (by decide)) (by rfl) D_p.g D_p.F.kp kb_p passN (pk_cons (pv 9) pk_nil)) (pa_cons (pv 1) (pa_cons (pv 5) pa_nil)))) (pe_one (pe_call G_s (hr.mono (by decide)) (by rfl) D_s.g D_s.F.kp D_s.b .nil pass0 (pa_cons (pe_callK0 G_f (hr.mono (by decide)) (by rfl) D_f.g D_f.F.kp kb_f pass0 (pk_cons (pv 6) pk_nil)) (pa_cons (pv 7) pa_nil))))))))))))))))), ?_⟩
      intro n y2 e us es b5 cs y4 y6 y7 y8 y9 y10 y11 H0 W
      have hn_ := W.l.hn
      have gd := W.hN.good W.l.ok
      have gs := gd.self
      obtain ⟨smc, vc, lc⟩ := norm_sm W.hN hn_.2 W.l.ok W.l.bnd (by have := W.len; omega)
      have sme := sme_of hn_ W.l.ok W.l.bnd
      have le := W.len
      obtain ⟨vs5, eb5, tv5⟩ := id W.hb
      have smls : ∀ t ∈ cs, Sml (lnE t) := fun t ht => (smc t ht).sml
      refine ⟨_, rfl, _, rfl, ?_⟩
      dsimp only [tNil]
      refine rd_makeG (C := C) (D1 := D1) (D2 := D2) (R := fun v H2 => gName 6 v _ H2 _) hn_.1 (.inl (.inl (.inl W.l.he))) W.l.tv.en W.l.ok (by omega) fun H1 p c1 s1 lot hN1 => ?_
      obtain rfl : c1 = cs := norm_uniq hN1 W.hN
      refine ⟨_, rfl, _, rfl, b5, vs5, n, c1, rfl, .inr (.inl (.inl (s1 _ _ eb5))), tv5.same s1, smc, by omega, by omega, fun H2 s2 => ?_⟩
      refine ⟨_, rfl, p, n, c1, rfl, lot.same s2, by omega, smls, by omega, fun H3 s3 => ⟨_, rfl, _, _, rfl, EqV.str _, true, rfl, ?_⟩⟩
      refine ⟨_, rfl, ?_⟩
      dsimp only [tSeq, tIfS, tOr, tTest, tOp, tCall, tCons, tC, tNil, tVar, tRet, List.cons_append, List.nil_append]
      refine parse_note hn_.1 (by omega) smc vc (by omega) fun H4 p4 r4 s4 lot4 hN4 => ?_
      obtain rfl : r4 = c1 := norm_uniq hN4 gs
      have S4 := s1.trans (s2.trans (s3.trans s4))
      refine ⟨_, rfl, _, rfl, p4, n, b5, r4, rfl, lot4, W.hb.same S4, by omega, true, rfl, ?_⟩
      have lotA := lot.same (s2.trans (s3.trans s4))
      refine ⟨_, rfl, p, n, r4, rfl, lotA, by omega, smls, by omega, fun H5 s5 => ?_⟩
      dsimp only [tSeq, tIfS, tOr, tTest, tOp, tCall, tCons, tC, tNil, tVar, tRet, List.cons_append, List.nil_append]
      refine parse_note hn_.1 (by omega) smc vc (by omega) fun H6 p6 r6 s6 lot6 hN6 => ?_
      obtain rfl : r6 = r4 := norm_uniq hN6 gs
      have S6 := S4.trans (s5.trans s6)
      refine ⟨_, rfl, _, rfl, eqLot nfC lot6 (lotA.same (s5.trans s6)) ⟨_, _, rfl, EqV.bl true, true, rfl, ?_⟩⟩
      refine ⟨_, rfl, _, rfl, _, rfl, p6, n, b5, r6, rfl, lot6, W.hb.same S6, by omega, true, rfl, ?_⟩
      have W6 := W.same S6
      refine ⟨_, rfl, _, rfl, e, us, n, es, rfl, .inl (.inl (.inl W6.l.he)), W6.l.tv, sme, by omega, by omega, fun H7 s7 => ?_⟩
      refine ⟨_, rfl, ?_⟩
      dsimp only [tSeq, tIfS, tOr, tTest, tOp, tCall, tCons, tC, tNil, tVar, tRet, List.cons_append, List.nil_append]
      refine parse_note hn_.1 (by omega) sme W.l.ok (by omega) fun H8 p8 r8 s8 lot8 hN8 => ?_
      obtain rfl : r8 = r6 := norm_uniq hN8 W.hN
      have S8 := S6.trans (s7.trans s8)
      refine ⟨_, rfl, _, rfl, p8, n, b5, r8, rfl, lot8, W.hb.same S8, by omega, true, rfl, ?_⟩
      refine ⟨_, rfl, ?_⟩
      dsimp only [tSeq, tIfS, tOr, tTest, tOp, tCall, tCons, tC, tNil, tVar, tRet, List.cons_append, List.nil_append]
      refine parse_note hn_.1 (by omega) sme W.l.ok (by omega) fun H9 p9 r9 s9 lot9 hN9 => ?_
      obtain rfl : r9 = r8 := norm_uniq hN9 W.hN
      have S9 := S8.trans s9
      refine ⟨_, rfl, _, rfl, p9, n, b5, r9, rfl, lot9, W.hb.same S9, by omega, vc, hn_.1, by omega, fun H10 s10 => ⟨true, rfl, ?_⟩⟩
      have S10 := S9.trans s10
      have nn := (note_nt (n := n) (by omega) sme (m := 101) (by omega)).fit (by decide) (by decide)
      refine ⟨_, rfl, ⟨_, rfl⟩, nT n es, _, rfl, rfl, rfl, Nat.le_trans (Nat.add_le_add_right nn.1 2) (by decide), fun a na => ?_⟩
      rw [show Txt.split (nT n es) (Str.ofString "\n") = linesOf (nT n es) from rfl, lines_note (by omega) sme]
      have s11 := same_upd (o := .lst ((linesT n es).map V.str)) na
      have ea : upd H10 a (.lst ((linesT n es).map V.str)) a = some (.lst ((linesT n es).map V.str)) := upd_same
      generalize upd H10 a (.lst ((linesT n es).map V.str)) = H11 at *
      have S11 := S10.trans s11
      have pl := lines32 hn_ W.l.ok W.l.bnd
      have lne : linesT n es ≠ [] := fun z => nomatch z
      have ll := linesT_len n es
      refine ⟨_, rfl, _, rfl, z, ns, 2, rfl, S11.seq W.l.hs, by decide, hn, fun c2 => ⟨_, rfl, a, linesT n es, c2, n, 32, rfl, ea, lne, by omega, pl, by decide, by decide, hn_, fun H12 s12 => ⟨true, rfl, ?_⟩⟩⟩
      refine ⟨_, rfl, _, rfl, _, rfl, z, a, ns, linesT n es, n, 32, rfl, (S11.trans s12).seq W.l.hs, hn, s12 _ _ ea, lne, by omega, pl, by decide, by decide, hn_, fun H13 s13 => ⟨true, rfl, ?_⟩⟩
      have S13 := S11.trans (s12.trans s13)
      have lot13 := lotA.same ((s5.trans s6).trans ((s7.trans s8).trans (s9.trans (s10.trans (s11.trans (s12.trans s13))))))
      refine ⟨_, rfl, p, n, r9, rfl, lot13, by omega, smls, by omega, fun H14 s14 => ⟨_, rfl, _, _, rfl, EqV.str _, true, rfl, ?_⟩⟩
      refine ⟨_, rfl, _, rfl, _, rfl, p, n, b5, r9, rfl, lot13.same s14, W.hb.same (S13.trans s14), by omega, true, rfl, ?_⟩
      refine ⟨_, rfl, rfl, rfl, ?_⟩
      dsimp only [tCall, tCons, tNil, tVar, List.cons_append, List.nil_append]
      refine parse_note hn_.1 (by omega) sme W.l.ok (by omega) fun H15 p15 r15 s15 lot15 hN15 => ?_
      obtain rfl : r15 = r9 := norm_uniq hN15 W.hN
      refine ⟨_, rfl, _, rfl, p15, n, b5, r15, rfl, lot15, W.hb.same (S13.trans (s14.trans s15)), by omega, true, rfl, ?_⟩
      rw [if_pos rfl]
      exact ⟨_, rfl, rfl, rfl, p, n, r15, rfl, lot13.same (s14.trans s15), by omega, smls, by omega, fun H16 s16 => ⟨_, rfl, _, _, rfl, EqV.str _, q _⟩⟩
    refine ⟨_, (pss_cons (ps_set (i := 1) sc_law.nd rfl (.inl rfl) (pe_call G_pi (hr.mono (by decide)) (by rfl) D_pi.g D_pi.F.kp D_pi.b .nil pass0 (pa_cons (pe_call G_c (hr.mono (by decide)) (by rfl) D_c.g D_c.F.kp D_c.b .nil pass0 (pa_cons (pv 0) (pa_cons pe_int pa_nil))) pa_nil)))
        (pss_cons (ps_set (i := 2) sc_law.nd rfl (.inl rfl) (pe_call G_d (hr.mono (by decide)) (by rfl) D_d.g D_d.F.kp D_d.b .nil pass0 (pa_cons (pe_call G_c (hr.mono (by decide)) (by rfl) D_c.g D_c.F.kp D_c.b .nil pass0 (pa_cons (pv 0) (pa_cons pe_int pa_nil))) (pa_cons (pe_lst (pa_cons pe_int (pa_cons pe_int (pa_cons pe_int pa_nil)))) pa_nil))))
        (C8.pss_cut (ps_if (PW.pt (pw_and (pt_cmpR op_ge (pv 1) pe_int (nomark _)) (pw_and1 (pt_cmpR op_eq (pe_ix (r := rIxL K) ix_list (pv 2) pe_int (fun _ _ => rfl)) pe_int (nomark _))))) (pss_one (ps_set (i := 1) sc_law.nd rfl (.inl rfl) (pe_callB (call_max2 rfl) (by rfl) T.b_max (by decide +kernel) (pa_cons (pv 1) (pa_cons (pe_op op_add pe_int (pe_ix (r := rIxL K) ix_list (pv 2) pe_int (fun _ _ => rfl))) pa_nil))))) pss_nil)
        (pss_cons (ps_set (i := 3) sc_law.nd rfl (.inl rfl) (pe_lst pa_nil))
        (pss_cons (ps_for PassesOwn.never rfl (pi_range1 (by rfl) T.b_range (pa_cons (pe_ix (r := rIxL K) ix_list (pv 2) pe_int (fun _ _ => rfl)) pa_nil)) (pg_name (i := 4) sc_law.nd rfl (.inl rfl))
        (pss_one (ps_if (pt_cmpR op_ge (pv 1) pe_int (nomark _)) (pss_one (ps_expr (pe_bm PySem.F.plainAttrs_list PySem.F.slot_list_append PySem.F.type_list_append mt_append (pv 3) (pa_cons (pe_call G_e (hr.mono (by decide)) (by rfl) D_e.g D_e.F.kp D_e.b .nil pass0 (pa_cons (pe_call G_c (hr.mono (by decide)) (by rfl) D_c.g D_c.F.kp D_c.b .nil pass0 (pa_cons (pv 0) (pa_cons (pe_op op_add pe_int (pv 4)) pa_nil))) (pa_cons (pv 1) (pa_cons (pv 3) pa_nil)))) pa_nil)))) pss_nil)))
        (C8.pss_cut (ps_if (PW.pt (pw_and (pt_cmpR op_ge (pv 1) pe_int (nomark _)) (pw_and1 (pt_cmpR op_eq (pe_ix (r := rIxL K) ix_list (pv 2) pe_int (fun _ _ => rfl)) pe_int (nomark _))))) (pss_cons (ps_set (i := 11) sc_law.nd rfl (.inl rfl) (pe_call G_d (hr.mono (by decide)) (by rfl) D_d.g D_d.F.kp D_d.b .nil pass0 (pa_cons (pe_call G_c (hr.mono (by decide)) (by rfl) D_c.g D_c.F.kp D_c.b .nil pass0 (pa_cons (pv 0) (pa_cons pe_int pa_nil))) (pa_cons (pe_op op_rep (pe_lst (pa_cons (pv 1) (pa_cons (pe_op op_sub (pv 1) pe_int) (pa_cons pe_int pa_nil)))) pe_int) pa_nil))))
        (pss_one (ps_for PassesOwn.never rfl (pi_range1 (by rfl) T.b_range (pa_cons pe_int pa_nil)) (pg_name (i := 4) sc_law.nd rfl (.inl rfl))
        (pss_one (ps_expr (pe_bm PySem.F.plainAttrs_list PySem.F.slot_list_append PySem.F.type_list_append mt_append (pv 3) (pa_cons (pe_tup (pa_cons (pe_ix (r := rIxL K) ix_list (pv 11) (pe_op op_mul pe_int (pv 4)) (fun _ _ => rfl)) (pa_cons (pe_op op_modN (pe_callTy call_int1 (by rfl) T.b_int (by decide +kernel) (pa_cons (pe_op op_add (pe_op op_add (pe_ix (r := rIxL K) ix_list (pv 11) (pe_op op_mul pe_int (pv 4)) (fun _ _ => rfl)) pe_int) (pe_ix (r := rIxL K) ix_list (pv 11) (pe_op op_add (pe_op op_mul pe_int (pv 4)) pe_int) (fun _ _ => rfl))) pa_nil)) (pv 1)) (pa_cons (pe_op op_add pe_int (pe_ix (r := rIxL K) ix_list (pv 11) (pe_op op_add (pe_op op_mul pe_int (pv 4)) pe_int) (fun _ _ => rfl))) pa_nil)))) pa_nil))))))) pss_nil)
        (pss_cons (ps_set (i := 5) sc_law.nd rfl (.inl rfl) (pe_call G_n (hr.mono (by decide)) (by rfl) D_n.g D_n.F.kp D_n.b .nil pass0 (pa_cons (pv 3) pa_nil)))
        hPb))))))), ?_⟩
    refine ⟨_, rfl, z, ns, 0, rfl, hs, by decide, hn, fun c0_ => ⟨c0_, rfl, fun H1 n s1 n0 n40 => ?_⟩⟩
    refine ⟨_, rfl, z, ns, 1, rfl, s1.seq hs, by decide, hn, fun c1 => ⟨by show 3 ≤ sizeLine; decide, fun l nl => ⟨c1, l, [10, 6, 32], rfl, .inl (.inl upd_same), by decide, by decide, fun H2 mr dg s2 _ emr hdg => ?_⟩⟩⟩
    obtain ⟨m0, m1, m2, rfl, b0, b2⟩ := digs3 hdg
    have S2 := s1.trans ((same_upd nl).trans s2)
    have sq : SqL K H2 mr [.int m0, .int m1, .int m2] := .inl (.inl emr)
    generalize hst : H2 = Hx at *
    clear hst
    refine ⟨fun σ' H' => ∃ n2 : Int, σ' = [some (.ref z), some (.int n2), some (.ref mr), none, none, none, none, none, none, none, none, none] ∧ H' = Hx ∧ 0 ≤ n2 ∧ n2 ≤ 100, ?_, fun σ' H' m => ?_⟩
    · refine ⟨_, rfl, _, _, rfl, rfl, _, rfl, ite2 (fun _ => ?_) (fun _ => ?_)⟩
      · refine ⟨_, rfl, mr, _, _, _, rfl, rfl, sq, at_of (j := 1) rfl rfl, rfl, _, rfl, ite2 (fun _ => ?_) (fun _ => ?_)⟩
        · refine ⟨_, rfl, _, rfl, mr, _, _, _, rfl, rfl, sq, at_of (j := 2) rfl rfl, _, _, rfl, rfl, _, _, rfl, _, rfl, rfl, ?_, ?_⟩
          · split <;> omega
          · split <;> omega
        · exact ⟨n, rfl, rfl, n0, by omega⟩
      · exact ⟨n, rfl, rfl, n0, by omega⟩
    obtain ⟨n2, rfl, rfl, n20, n2b⟩ := m
    clear n0 n40
    refine ⟨by show 0 ≤ sizeLine; decide, fun e ne_ => ?_⟩
    have s3 := same_upd (o := .lst []) ne_
    refine ⟨_, rfl, mr, _, _, _, rfl, rfl, s3.seq sq, at_of (j := 0) rfl rfl, m0, rfl, by omega, by omega, for_range (lo := 0) (n := m0.toNat) (fun i σ H3 => ∃ (us : List V) (es : List Tr) (y4 : Option V), σ = [some (.ref z), some (.int n2), some (.ref mr), some (.ref e), y4, none, none, none, none, none, none, none] ∧ H3 e = some (.lst us) ∧ TrV H3 us es ∧ (∀ t ∈ es, Vld n2 t) ∧ (∀ t ∈ es, t.2.2 ≤ 100000000) ∧ es.length ≤ i ∧ Same H' (hole H3 e)) ⟨[], [], _, rfl, upd_same, TrV.nil, fun t h => (nomatch h), fun t h => (nomatch h), Nat.le_refl _, same_hole ne_ s3⟩ (fun i σ H3 hi pv => ?_) (fun σ H3 pv => ?_)⟩
    · obtain ⟨us, es, y4, rfl, he, tv_, ok, bd, le, sm⟩ := pv
      refine ⟨_, rfl, _, _, rfl, rfl, _, rfl, ite2 (fun c => ?_) (fun c => ?_)⟩
      · have n2ge : 2 ≤ n2 := of_decide_eq_true c
        refine ⟨_, rfl, .inl ⟨rfl, _, .inl (.inl he)⟩, _, rfl, _, rfl, _, _, rfl, rfl, z, ns, 5 + i, by show [V.ref z, V.int (5 + (0 + (i : Int)))] = _; rw [show (5 + (0 + (i : Int))) = ((5 + i : Nat) : Int) by omega], (S2.trans (unhole sm)).seq hs, by omega, hn, fun c4 => ⟨_, rfl, _, rfl, c4, n2, e, es, rfl, n2ge, by omega, ⟨us, he, tv_⟩, by omega, ok, fun H4 p t s4 np ep vt bt => ?_⟩⟩
        refine ⟨e, _, _, rfl, rfl, s4 _ _ he, by rw [tv_.1]; exact small1000 (by omega), us ++ [.ref p], es ++ [t], _, rfl, upd_same, put_tv (s4 _ _ he) (tv_.same s4) ep, fun u hu => ?_, fun u hu => ?_, by rw [List.length_append, List.length_cons, List.length_nil]; omega, by rw [hole_upd]; exact same_hole ne_ ((unhole sm).trans s4)⟩
        · rcases List.mem_append.mp hu with h | h
          · exact ok u h
          · rw [List.mem_singleton.mp h]
            exact vt
        · rcases List.mem_append.mp hu with h | h
          · exact bd u h
          · rw [List.mem_singleton.mp h]
            exact bt
      · exact ⟨us, es, _, rfl, he, tv_, ok, bd, by omega, sm⟩
    obtain ⟨us, es, y4, rfl, he, tv_, ok, bd, le, sm⟩ := pv
    have le9 : es.length ≤ 9 := by omega
    clear le
    refine ⟨fun σ' H5 => ∃ (us : List V) (es : List Tr) (y4 y11 : Option V), σ' = [some (.ref z), some (.int n2), some (.ref mr), some (.ref e), y4, none, none, none, none, none, none, y11] ∧ H5 e = some (.lst us) ∧ TrV H5 us es ∧ (∀ t ∈ es, Vld n2 t) ∧ (∀ t ∈ es, t.2.2 ≤ 100000000) ∧ es.length ≤ 50 ∧ Same H' (hole H5 e), ?_, fun σ' H5 m => ?_⟩
    · have stay : ∃ (us' : List V) (es' : List Tr) (y4' y11' : Option V), [some (V.ref z), some (.int n2), some (.ref mr), some (.ref e), y4, none, none, none, none, none, none, none] = [some (.ref z), some (.int n2), some (.ref mr), some (.ref e), y4', none, none, none, none, none, none, y11'] ∧ H3 e = some (.lst us') ∧ TrV H3 us' es' ∧ (∀ t ∈ es', Vld n2 t) ∧ (∀ t ∈ es', t.2.2 ≤ 100000000) ∧ es'.length ≤ 50 ∧ Same H' (hole H3 e) := ⟨us, es, y4, none, rfl, he, tv_, ok, bd, by omega, sm⟩
      refine ⟨_, rfl, _, _, rfl, rfl, _, rfl, ite2 (fun c => ?_) (fun _ => stay)⟩
      have n2ge : 2 ≤ n2 := of_decide_eq_true c
      refine ⟨_, rfl, mr, _, _, _, rfl, rfl, (unhole sm).seq sq, at_of (j := 1) rfl rfl, rfl, _, rfl, ite2 (fun _ => ?_) (fun _ => stay)⟩
      clear stay
      refine ⟨_, rfl, z, ns, 14, rfl, (S2.trans (unhole sm)).seq hs, by decide, hn, fun c5 => ⟨_, rfl, _, rfl, _, _, rfl, rfl, by show 3 ≤ sizeLine; decide, fun l1 nl1 => ⟨l1, 40, _, rfl, rfl, upd_same, by decide, by decide, by show 3 * 40 ≤ sizeLine; decide, fun l2 nl2 => ?_⟩⟩⟩
      have s5 := (same_upd (o := .lst [.int n2, .int (n2 - 1), .int 1000]) nl1).trans (same_upd (o := .lst (List.replicate (40 : Int).toNat [V.int n2, V.int (n2 - 1), V.int 1000]).flatten) nl2)
      refine ⟨c5, l2, rep3 n2 40, rfl, .inl (.inl (upd_same.trans (congrArg (fun l => some (HO.lst l)) (rep3_map n2 40)))), by rw [rep3_len]; decide, fun s hs => ?_, fun H6 rr dg s6 _ err hdg => ?_⟩
      · rcases rep3_mem _ _ s hs with e | e | e <;> rw [e] <;> omega
      have s56 := s5.trans s6
      have sm6 : Same H' (hole H6 e) := same_hole ne_ ((unhole sm).trans s56)
      refine ⟨40, rfl, by omega, by omega, for_range (lo := 0) (n := 40) (fun i σ H7 => ∃ (us : List V) (es : List Tr) (y4 : Option V), σ = [some (.ref z), some (.int n2), some (.ref mr), some (.ref e), y4, none, none, none, none, none, none, some (.ref rr)] ∧ H7 e = some (.lst us) ∧ TrV H7 us es ∧ (∀ t ∈ es, Vld n2 t) ∧ (∀ t ∈ es, t.2.2 ≤ 100000000) ∧ es.length ≤ 9 + i ∧ Same H' (hole H7 e) ∧ H7 rr = some (.lst (dg.map V.int)) ∧ rr ≠ e) ⟨us, es, _, rfl, s56 _ _ he, tv_.same s56, ok, bd, by omega, sm6, err, fun z => ?_⟩ (fun i σ H7 hi pv => ?_) (fun σ H7 pv => ?_)⟩
      · have h1 := s56 _ _ he
        rw [← z, err] at h1
        have h2 := congrArg (fun o : Option HO => match o with | some (.lst l) => l | _ => []) h1
        have h3 : dg.map V.int = us := h2
        have hd0 := hdg.2 0
        have hl := hdg.1
        rw [rep3_len] at hl
        have := tv_.1
        have l9 : us.length ≤ 9 := by rw [this]; exact le9
        rw [← h3, List.length_map] at l9
        omega
      · obtain ⟨us, es, y4, rfl, he, tv_, ok, bd, le, sm, err, nre⟩ := pv
        rw [Int.zero_add]
        obtain ⟨a, b, c, ha, hb, hc, ra, rb, rc⟩ := digs_row3 hdg hi
        have sqr : SqL K H7 rr (dg.map V.int) := .inl (.inl err)
        have CM : CMul 3 (i : Int) := .inl ⟨by decide, by decide⟩
        have hoth : 0 ≤ (a + 1 + b).fmod n2 ∧ (a + 1 + b).fmod n2 < n2 ∧ a ≠ (a + 1 + b).fmod n2 := by
          have hm := fmod_in (a + 1 + b) (show 0 < n2 by omega)
          refine ⟨hm.1, hm.2, ?_⟩
          by_cases hx : a + 1 + b < n2
          · rw [fmod_lo (by omega) hx]
            omega
          · rw [fmod_hi (by omega) (by omega)]
            omega
        refine ⟨_, rfl, .inl ⟨rfl, _, .inl (.inl he)⟩, _, rfl, _, rfl, _, _, rfl, rfl, CM, rr, _, _, _, rfl, rfl, sqr, ha, _, rfl, _, rfl, _, _, rfl, rfl, CM, rr, _, _, _, rfl, rfl, sqr, ha, _, _, rfl, rfl, _, rfl, _, rfl, _, _, rfl, rfl, CM, _, _, rfl, rfl, rr, _, _, _, rfl, rfl, sqr, hb, _, _, rfl, rfl, .inl ⟨_, rfl, _, rfl, _, _, rfl, rfl, by omega, _, rfl, _, rfl, _, _, rfl, rfl, CM, _, _, rfl, rfl, rr, _, _, _, rfl, rfl, sqr, hc, _, _, rfl, rfl, by show 3 ≤ sizeLine; decide, fun p np => ?_⟩⟩
        have sp_ := same_upd (o := .tup [.int a, .int ((a + 1 + b).fmod n2), .int (1 + c)]) np
        refine ⟨e, _, _, rfl, rfl, sp_ _ _ he, by rw [tv_.1]; exact small1000 (by omega), us ++ [.ref p], es ++ [(a, (a + 1 + b).fmod n2, 1 + c)], _, rfl, upd_same, put_tv (sp_ _ _ he) (tv_.same sp_) upd_same, fun u hu => ?_, fun u hu => ?_, by rw [List.length_append, List.length_cons, List.length_nil]; omega, by rw [hole_upd]; exact same_hole ne_ ((unhole sm).trans sp_), by rw [upd_ne nre]; exact sp_ _ _ err, nre⟩
        · rcases List.mem_append.mp hu with h | h
          · exact ok u h
          · rw [List.mem_singleton.mp h]
            exact ⟨ra.1, ra.2, hoth.1, hoth.2.1, hoth.2.2, by show 1 ≤ 1 + c; omega⟩
        · rcases List.mem_append.mp hu with h | h
          · exact bd u h
          · rw [List.mem_singleton.mp h]
            show 1 + c ≤ 100000000
            omega
      · obtain ⟨us, es, y4, rfl, he, tv_, ok, bd, le, sm, _⟩ := pv
        exact ⟨us, es, _, _, rfl, he, tv_, ok, bd, by omega, sm⟩
    obtain ⟨us, es, y4, y11, rfl, he, tv_, ok, bd, le, sm⟩ := m
    refine ⟨_, rfl, e, us, es, rfl, .inl (.inl (.inl he)), tv_, by omega, fun H8 b5 cs s8 tc gn => ?_⟩
    exact qPb n2 _ e us es b5 cs _ _ _ _ _ _ _ H8 ⟨⟨((S2.trans (unhole sm)).trans s8).seq hs, s8 _ _ he, tv_.same s8, ok, bd, n20, n2b⟩, le, tc, gn.norm fun t ht => (ok t ht).2.2.2.2.2⟩

end
end Own

namespace Own
open PySem PySem.Spec PyProof.Rows L2
/-! ### an own error's class and its base -/
theorem sup_of {K : PySem.W.Frag} {D R N M : Addr} {n1 n2 n3 n4 : Str} {b1 b2 s1 s2 bm : List Value} {h1 h2 a1 a2 : Bool} {l1 l2 : List Str} {c1 c2 : Option Bool} {d1 d2 : Option Addr} {k0 k1 k2 k3 k5 j0 j1 j2 j3 j5 : Option Value} {i1 i2 : String} {v : Option Value}
    (lD : K.lookup D = some (excClassObj n1 n2 D N b1 (.ref R :: bm) h1 l1 s1 a1 c1 d1 k0 k1 k2 k3 k5 i1)) (lR : K.lookup R = some (excClassObj n3 n4 R M b2 bm h2 l2 s2 a2 c2 d2 j0 j1 j2 j3 j5 i2)) (iR : PySem.W.findIn K (.ref R) "__init__" = some v) : PySem.W.ks_superIn K D D "__init__" = some v := by
  have iR : (match K.lookup R with
      | some ⟨_, _, .cls cd, _⟩ => PySem.W.alongIn K "__init__" cd.mro
      | _ => none) = some v := iR
  rw [lR] at iR
  unfold PySem.W.ks_superIn PySem.W.clsIn
  rw [lD]
  have e : ((Value.ref D :: .ref R :: bm).dropWhile (· != .ref D)).drop 1 = .ref R :: bm := by simp [List.dropWhile]
  show PySem.W.alongIn K "__init__" (((Value.ref D :: .ref R :: bm).dropWhile (· != .ref D)).drop 1) = some v
  rw [e]
  exact iR
theorem kit_ref {K : PySem.W.Frag} {D c : Addr} {b : Bool} (hd : PySem.W.subIn K (.ref D) (.ref D) = some true) (h1 : PySem.W.isClsIn K c = true) (h2 : PySem.W.typeIn K (.ref c) = some (.type "type")) (h3 : PySem.W.subIn K (.ref D) (.ref c) = some b) : PySem.W.kitOne K (.ref D) (.ref c) = some b := by
  unfold PySem.W.kitOne
  by_cases h : (Value.ref D == Value.ref c) = true
  · rw [if_pos h]
    have e : D = c := Value.ref.inj (beq_iff_eq.mp h)
    subst e
    exact hd.symm.trans h3
  · rw [if_neg h]
    show (if ((PySem.W.clsIn K c).isSome && PySem.W.typeIn K (.ref c) == some (.type "type")) = true then PySem.W.subIn K (.ref D) (.ref c) else none) = some b
    have e : ((PySem.W.clsIn K c).isSome && PySem.W.typeIn K (.ref c) == some (.type "type")) = true := by
      have h1 : (PySem.W.clsIn K c).isSome = true := h1
      rw [h1, h2]
      rfl
    rw [if_pos e]
    exact h3
theorem kit_ve {K : PySem.W.Frag} {D : Addr} {b : Bool} (h : PySem.W.subIn K (.ref D) (.type "ValueError") = some b) : PySem.W.kitOne K (.ref D) (.type "ValueError") = some b := by
  unfold PySem.W.kitOne
  rw [if_neg fun z : (Value.ref D == Value.type "ValueError") = true => by cases beq_iff_eq.mp z]
  show (if PySem.W.kitMeta "ValueError" = true then PySem.W.subIn K (.ref D) (.type "ValueError") else none) = some b
  rw [if_pos (by decide +kernel)]
  exact h
/-- a def of one parameter, called by its keyword -/
theorem kb_one {K : PySem.W.Frag} {x qual : Str} {st : Stmt} {f : Addr} {fd : FuncData} {a : Str} (F : Fun K x qual st f fd)
    (h : ∀ (kV doc pm : Value) (an : Option Addr) (cdv ct u : Value), bindArgs (PySem.W.fnOf x qual (defArgs st) (defBody st) (defScope st) .none kV doc pm an cdv ct) ⟨[], [(a, u)]⟩ = pure [(a, u)]) :
    KBn K fd [a] 0 [a] (fun _ ws => ws) (fun _ zs => zs) := by
  obtain ⟨oc, od, kV, doc, pm, an, cdv, ct, osl, rfl, lk, hcd⟩ := F.ex
  refine ⟨fun s us ws _ hu hw => ?_, fun _ r2 => r2⟩
  match us, hu, ws, hw with
  | [], _, [u], _ => exact .of_eq (h kV doc pm an cdv ct u)
/-! ### what the top has left -/
theorem df_mk {K : PySem.W.Frag} {mg : Str → Option Value} {x : Str} {st : Stmt} {ps : List Str} {h : Heap} {f : Addr} {oc : Value} {od an : Option Addr} {osl : Array (Option Value)} {kV doc pm cdv ct : Value} (X : K.In h) (G : h.Ns mainGlobals mg)
    (a : PySem.W.nsIn K mainGlobals x = some (some (.ref f))) (l : K.lookup f = some ⟨oc, od, .func (PySem.W.fnOf x x (defArgs st) (defBody st) (defScope st) .none kV doc pm an cdv ct), osl⟩) (c : PySem.W.codeIn K cdv x = true) (k : PySem.W.keepIn K (.ref f) = true)
    (b : ∀ (kV doc pm : Value) (an : Option Addr) (cdv ct : Value) (us : List Value), us.length = ps.length → bindArgs (PySem.W.fnOf x x (defArgs st) (defBody st) (defScope st) .none kV doc pm an cdv ct) ⟨us, []⟩ = pure (ps.zip us)) :
    Df K mg x st ps f (PySem.W.fnOf x x (defArgs st) (defBody st) (defScope st) .none kV doc pm an cdv ct) :=
  ⟨fun_mk l c k, PySem.W.mg_of X G a, (fun_mk l c k).binds b⟩
set_option maxHeartbeats 0 in
theorem all_mk {lw : PySem.W.OpenLaw} {w : World} {K : PySem.W.Frag} {h : Heap} {mg : Str → Option Value} {fa f1 f2 f3 f4 f5 f6 f7 f8 f9 f10 f11 f12 f13 f14 f15 f16 f17 f18 f19 f20 f21 f22 f23 f24 f25 f26 f27 f28 f29 f30 f31 f32 f33 f34 f35 f36 f37 f38 C f39 f40 f41 zdC TdC f42 DN ccN cdaN fuN NN DA ccA cdaA fuA NA DB ccB cdaB fuB NB x0 x1 x2 NR : Addr} (X : K.In h) (G : h.Ns mainGlobals mg) (hfa : mg "law" = some (.ref fa))
    {od1 an1 : Option Addr} {sl1 : Array (Option Value)} {oc1 kV1 dc1 pm1 cd1 ct1 : Value} {od2 an2 : Option Addr} {sl2 : Array (Option Value)} {oc2 kV2 dc2 pm2 cd2 ct2 : Value} {od3 an3 : Option Addr} {sl3 : Array (Option Value)} {oc3 kV3 dc3 pm3 cd3 ct3 : Value} {od4 an4 : Option Addr} {sl4 : Array (Option Value)} {oc4 kV4 dc4 pm4 cd4 ct4 : Value} {od5 an5 : Option Addr} {sl5 : Array (Option Value)} {oc5 kV5 dc5 pm5 cd5 ct5 : Value} {od6 an6 : Option Addr} {sl6 : Array (Option Value)} {oc6 kV6 dc6 pm6 cd6 ct6 : Value} {od7 an7 : Option Addr} {sl7 : Array (Option Value)} {oc7 kV7 dc7 pm7 cd7 ct7 : Value} {od8 an8 : Option Addr} {sl8 : Array (Option Value)} {oc8 kV8 dc8 pm8 cd8 ct8 : Value} {od9 an9 : Option Addr} {sl9 : Array (Option Value)} {oc9 kV9 dc9 pm9 cd9 ct9 : Value} {od10 an10 : Option Addr} {sl10 : Array (Option Value)} {oc10 kV10 dc10 pm10 cd10 ct10 : Value} {od11 an11 : Option Addr} {sl11 : Array (Option Value)} {oc11 kV11 dc11 pm11 cd11 ct11 : Value} {od12 an12 : Option Addr} {sl12 : Array (Option Value)} {oc12 kV12 dc12 pm12 cd12 ct12 : Value} {od13 an13 : Option Addr} {sl13 : Array (Option Value)} {oc13 kV13 dc13 pm13 cd13 ct13 : Value} {od14 an14 : Option Addr} {sl14 : Array (Option Value)} {oc14 kV14 dc14 pm14 cd14 ct14 : Value} {od15 an15 : Option Addr} {sl15 : Array (Option Value)} {oc15 kV15 dc15 pm15 cd15 ct15 : Value} {od16 an16 : Option Addr} {sl16 : Array (Option Value)} {oc16 kV16 dc16 pm16 cd16 ct16 : Value} {od17 an17 : Option Addr} {sl17 : Array (Option Value)} {oc17 kV17 dc17 pm17 cd17 ct17 : Value} {od18 an18 : Option Addr} {sl18 : Array (Option Value)} {oc18 kV18 dc18 pm18 cd18 ct18 : Value} {od19 an19 : Option Addr} {sl19 : Array (Option Value)} {oc19 kV19 dc19 pm19 cd19 ct19 : Value} {od20 an20 : Option Addr} {sl20 : Array (Option Value)} {oc20 kV20 dc20 pm20 cd20 ct20 : Value} {od21 an21 : Option Addr} {sl21 : Array (Option Value)} {oc21 kV21 dc21 pm21 cd21 ct21 : Value} {od22 an22 : Option Addr} {sl22 : Array (Option Value)} {oc22 kV22 dc22 pm22 cd22 ct22 : Value} {od23 an23 : Option Addr} {sl23 : Array (Option Value)} {oc23 kV23 dc23 pm23 cd23 ct23 : Value} {od24 an24 : Option Addr} {sl24 : Array (Option Value)} {oc24 kV24 dc24 pm24 cd24 ct24 : Value} {od25 an25 : Option Addr} {sl25 : Array (Option Value)} {oc25 kV25 dc25 pm25 cd25 ct25 : Value} {od26 an26 : Option Addr} {sl26 : Array (Option Value)} {oc26 kV26 dc26 pm26 cd26 ct26 : Value} {od27 an27 : Option Addr} {sl27 : Array (Option Value)} {oc27 kV27 dc27 pm27 cd27 ct27 : Value} {od28 an28 : Option Addr} {sl28 : Array (Option Value)} {oc28 kV28 dc28 pm28 cd28 ct28 : Value} {od29 an29 : Option Addr} {sl29 : Array (Option Value)} {oc29 kV29 dc29 pm29 cd29 ct29 : Value} {od30 an30 : Option Addr} {sl30 : Array (Option Value)} {oc30 kV30 dc30 pm30 cd30 ct30 : Value} {od31 an31 : Option Addr} {sl31 : Array (Option Value)} {oc31 kV31 dc31 pm31 cd31 ct31 : Value} {od32 an32 : Option Addr} {sl32 : Array (Option Value)} {oc32 kV32 dc32 pm32 cd32 ct32 : Value} {od33 an33 : Option Addr} {sl33 : Array (Option Value)} {oc33 kV33 dc33 pm33 cd33 ct33 : Value} {od34 an34 : Option Addr} {sl34 : Array (Option Value)} {oc34 kV34 dc34 pm34 cd34 ct34 : Value} {od35 an35 : Option Addr} {sl35 : Array (Option Value)} {oc35 kV35 dc35 pm35 cd35 ct35 : Value} {od36 an36 : Option Addr} {sl36 : Array (Option Value)} {oc36 kV36 dc36 pm36 cd36 ct36 : Value} {od37 an37 : Option Addr} {sl37 : Array (Option Value)} {oc37 kV37 dc37 pm37 cd37 ct37 : Value} {od38 an38 : Option Addr} {sl38 : Array (Option Value)} {oc38 kV38 dc38 pm38 cd38 ct38 : Value} {od39 an39 : Option Addr} {sl39 : Array (Option Value)} {oc39 kV39 dc39 pm39 cd39 ct39 : Value} {od40 an40 : Option Addr} {sl40 : Array (Option Value)} {oc40 kV40 dc40 pm40 cd40 ct40 : Value} {od41 an41 : Option Addr} {sl41 : Array (Option Value)} {oc41 kV41 dc41 pm41 cd41 ct41 : Value} {odTC : Option Addr} {slTC : Array (Option Value)} {ocTC : Value} {nTC : Nat} {od42 an42 : Option Addr} {sl42 : Array (Option Value)} {oc42 kV42 dc42 pm42 cd42 ct42 : Value} {nmR qR : Str} {niR : String} {bsR subR : List Value} {snR : List Str} {abR hdR : Bool} {colR : Option Bool} {ddR : Option Addr} {m0r m1r m2r m3r m5r : Option Value} {nmN qN fileN : Str} {bsN subN : List Value} {snN : List Str} {abN : Bool} {colN : Option Bool} {ddN odN anN cldN cddN : Option Addr} {m0N m1N m2N m3N m5N : Option Value} {ocN kVN dcN pmN ctN clN cclN : Value} {slN cslN ccsN : Array (Option Value)} {vsN : Array Value} {tfN : Tok} {nmA qA fileA : Str} {bsA subA : List Value} {snA : List Str} {abA : Bool} {colA : Option Bool} {ddA odA anA cldA cddA : Option Addr} {m0A m1A m2A m3A m5A : Option Value} {ocA kVA dcA pmA ctA clA cclA : Value} {slA cslA ccsA : Array (Option Value)} {vsA : Array Value} {tfA : Tok} {nmB qB fileB : Str} {bsB subB : List Value} {snB : List Str} {abB : Bool} {colB : Option Bool} {ddB odB anB cldB cddB : Option Addr} {m0B m1B m2B m3B m5B : Option Value} {ocB kVB dcB pmB ctB clB cclB : Value} {slB cslB ccsB : Array (Option Value)} {vsB : Array Value} {tfB : Tok}
    (iN : PySem.W.specialIn K (.builtin "object.__class__") "__get__" = some (some (.builtin "getset_descriptor.__get__")))
    (iT : PySem.W.takesIn K (.builtin "object.__class__") = some true)
    (a1 : PySem.W.nsIn K mainGlobals "is_whole" = some (some (.ref f1)))
    (l1 : K.lookup f1 = some ⟨oc1, od1, .func (PySem.W.fnOf "is_whole" "is_whole" (defArgs s_is_whole) (defBody s_is_whole) (defScope s_is_whole) .none kV1 dc1 pm1 an1 cd1 ct1), sl1⟩)
    (c1 : PySem.W.codeIn K cd1 "is_whole" = true)
    (k1 : PySem.W.keepIn K (.ref f1) = true)
    (a2 : PySem.W.nsIn K mainGlobals "is_sequence" = some (some (.ref f2)))
    (l2 : K.lookup f2 = some ⟨oc2, od2, .func (PySem.W.fnOf "is_sequence" "is_sequence" (defArgs s_is_sequence) (defBody s_is_sequence) (defScope s_is_sequence) .none kV2 dc2 pm2 an2 cd2 ct2), sl2⟩)
    (c2 : PySem.W.codeIn K cd2 "is_sequence" = true)
    (k2 : PySem.W.keepIn K (.ref f2) = true)
    (a3 : PySem.W.nsIn K mainGlobals "is_below" = some (some (.ref f3)))
    (l3 : K.lookup f3 = some ⟨oc3, od3, .func (PySem.W.fnOf "is_below" "is_below" (defArgs s_is_below) (defBody s_is_below) (defScope s_is_below) .none kV3 dc3 pm3 an3 cd3 ct3), sl3⟩)
    (c3 : PySem.W.codeIn K cd3 "is_below" = true)
    (k3 : PySem.W.keepIn K (.ref f3) = true)
    (a4 : PySem.W.nsIn K mainGlobals "check_pins" = some (some (.ref f4)))
    (l4 : K.lookup f4 = some ⟨oc4, od4, .func (PySem.W.fnOf "check_pins" "check_pins" (defArgs s_check_pins) (defBody s_check_pins) (defScope s_check_pins) .none kV4 dc4 pm4 an4 cd4 ct4), sl4⟩)
    (c4 : PySem.W.codeIn K cd4 "check_pins" = true)
    (k4 : PySem.W.keepIn K (.ref f4) = true)
    (a5 : PySem.W.nsIn K mainGlobals "check_pin" = some (some (.ref f5)))
    (l5 : K.lookup f5 = some ⟨oc5, od5, .func (PySem.W.fnOf "check_pin" "check_pin" (defArgs s_check_pin) (defBody s_check_pin) (defScope s_check_pin) .none kV5 dc5 pm5 an5 cd5 ct5), sl5⟩)
    (c5 : PySem.W.codeIn K cd5 "check_pin" = true)
    (k5 : PySem.W.keepIn K (.ref f5) = true)
    (a6 : PySem.W.nsIn K mainGlobals "is_entry" = some (some (.ref f6)))
    (l6 : K.lookup f6 = some ⟨oc6, od6, .func (PySem.W.fnOf "is_entry" "is_entry" (defArgs s_is_entry) (defBody s_is_entry) (defScope s_is_entry) .none kV6 dc6 pm6 an6 cd6 ct6), sl6⟩)
    (c6 : PySem.W.codeIn K cd6 "is_entry" = true)
    (k6 : PySem.W.keepIn K (.ref f6) = true)
    (a7 : PySem.W.nsIn K mainGlobals "gathered" = some (some (.ref f7)))
    (l7 : K.lookup f7 = some ⟨oc7, od7, .func (PySem.W.fnOf "gathered" "gathered" (defArgs s_gathered) (defBody s_gathered) (defScope s_gathered) .none kV7 dc7 pm7 an7 cd7 ct7), sl7⟩)
    (c7 : PySem.W.codeIn K cd7 "gathered" = true)
    (k7 : PySem.W.keepIn K (.ref f7) = true)
    (a8 : PySem.W.nsIn K mainGlobals "ends_at_pins" = some (some (.ref f8)))
    (l8 : K.lookup f8 = some ⟨oc8, od8, .func (PySem.W.fnOf "ends_at_pins" "ends_at_pins" (defArgs s_ends_at_pins) (defBody s_ends_at_pins) (defScope s_ends_at_pins) .none kV8 dc8 pm8 an8 cd8 ct8), sl8⟩)
    (c8 : PySem.W.codeIn K cd8 "ends_at_pins" = true)
    (k8 : PySem.W.keepIn K (.ref f8) = true)
    (a9 : PySem.W.nsIn K mainGlobals "written" = some (some (.ref f9)))
    (l9 : K.lookup f9 = some ⟨oc9, od9, .func (PySem.W.fnOf "written" "written" (defArgs s_written) (defBody s_written) (defScope s_written) .none kV9 dc9 pm9 an9 cd9 ct9), sl9⟩)
    (c9 : PySem.W.codeIn K cd9 "written" = true)
    (k9 : PySem.W.keepIn K (.ref f9) = true)
    (a10 : PySem.W.nsIn K mainGlobals "is_number" = some (some (.ref f10)))
    (l10 : K.lookup f10 = some ⟨oc10, od10, .func (PySem.W.fnOf "is_number" "is_number" (defArgs s_is_number) (defBody s_is_number) (defScope s_is_number) .none kV10 dc10 pm10 an10 cd10 ct10), sl10⟩)
    (c10 : PySem.W.codeIn K cd10 "is_number" = true)
    (k10 : PySem.W.keepIn K (.ref f10) = true)
    (a11 : PySem.W.nsIn K mainGlobals "numbers_of" = some (some (.ref f11)))
    (l11 : K.lookup f11 = some ⟨oc11, od11, .func (PySem.W.fnOf "numbers_of" "numbers_of" (defArgs s_numbers_of) (defBody s_numbers_of) (defScope s_numbers_of) .none kV11 dc11 pm11 an11 cd11 ct11), sl11⟩)
    (c11 : PySem.W.codeIn K cd11 "numbers_of" = true)
    (k11 : PySem.W.keepIn K (.ref f11) = true)
    (a12 : PySem.W.nsIn K mainGlobals "words_at" = some (some (.ref f12)))
    (l12 : K.lookup f12 = some ⟨oc12, od12, .func (PySem.W.fnOf "words_at" "words_at" (defArgs s_words_at) (defBody s_words_at) (defScope s_words_at) .none kV12 dc12 pm12 an12 cd12 ct12), sl12⟩)
    (c12 : PySem.W.codeIn K cd12 "words_at" = true)
    (k12 : PySem.W.keepIn K (.ref f12) = true)
    (a13 : PySem.W.nsIn K mainGlobals "read_line" = some (some (.ref f13)))
    (l13 : K.lookup f13 = some ⟨oc13, od13, .func (PySem.W.fnOf "read_line" "read_line" (defArgs s_read_line) (defBody s_read_line) (defScope s_read_line) .none kV13 dc13 pm13 an13 cd13 ct13), sl13⟩)
    (c13 : PySem.W.codeIn K cd13 "read_line" = true)
    (k13 : PySem.W.keepIn K (.ref f13) = true)
    (a14 : PySem.W.nsIn K mainGlobals "read_numbers" = some (some (.ref f14)))
    (l14 : K.lookup f14 = some ⟨oc14, od14, .func (PySem.W.fnOf "read_numbers" "read_numbers" (defArgs s_read_numbers) (defBody s_read_numbers) (defScope s_read_numbers) .none kV14 dc14 pm14 an14 cd14 ct14), sl14⟩)
    (c14 : PySem.W.codeIn K cd14 "read_numbers" = true)
    (k14 : PySem.W.keepIn K (.ref f14) = true)
    (a15 : PySem.W.nsIn K mainGlobals "format_lot" = some (some (.ref f15)))
    (l15 : K.lookup f15 = some ⟨oc15, od15, .func (PySem.W.fnOf "format_lot" "format_lot" (defArgs s_format_lot) (defBody s_format_lot) (defScope s_format_lot) .none kV15 dc15 pm15 an15 cd15 ct15), sl15⟩)
    (c15 : PySem.W.codeIn K cd15 "format_lot" = true)
    (k15 : PySem.W.keepIn K (.ref f15) = true)
    (a16 : PySem.W.nsIn K mainGlobals "parse_lot" = some (some (.ref f16)))
    (l16 : K.lookup f16 = some ⟨oc16, od16, .func (PySem.W.fnOf "parse_lot" "parse_lot" (defArgs s_parse_lot) (defBody s_parse_lot) (defScope s_parse_lot) .none kV16 dc16 pm16 an16 cd16 ct16), sl16⟩)
    (c16 : PySem.W.codeIn K cd16 "parse_lot" = true)
    (k16 : PySem.W.keepIn K (.ref f16) = true)
    (a17 : PySem.W.nsIn K mainGlobals "_law_whole" = some (some (.ref f17)))
    (l17 : K.lookup f17 = some ⟨oc17, od17, .func (PySem.W.fnOf "_law_whole" "_law_whole" (defArgs s__law_whole) (defBody s__law_whole) (defScope s__law_whole) .none kV17 dc17 pm17 an17 cd17 ct17), sl17⟩)
    (c17 : PySem.W.codeIn K cd17 "_law_whole" = true)
    (k17 : PySem.W.keepIn K (.ref f17) = true)
    (a18 : PySem.W.nsIn K mainGlobals "_law_cell" = some (some (.ref f18)))
    (l18 : K.lookup f18 = some ⟨oc18, od18, .func (PySem.W.fnOf "_law_cell" "_law_cell" (defArgs s__law_cell) (defBody s__law_cell) (defScope s__law_cell) .none kV18 dc18 pm18 an18 cd18 ct18), sl18⟩)
    (c18 : PySem.W.codeIn K cd18 "_law_cell" = true)
    (k18 : PySem.W.keepIn K (.ref f18) = true)
    (a19 : PySem.W.nsIn K mainGlobals "_law_digits" = some (some (.ref f19)))
    (l19 : K.lookup f19 = some ⟨oc19, od19, .func (PySem.W.fnOf "_law_digits" "_law_digits" (defArgs s__law_digits) (defBody s__law_digits) (defScope s__law_digits) .none kV19 dc19 pm19 an19 cd19 ct19), sl19⟩)
    (c19 : PySem.W.codeIn K cd19 "_law_digits" = true)
    (k19 : PySem.W.keepIn K (.ref f19) = true)
    (a20 : PySem.W.nsIn K mainGlobals "_law_same" = some (some (.ref f20)))
    (l20 : K.lookup f20 = some ⟨oc20, od20, .func (PySem.W.fnOf "_law_same" "_law_same" (defArgs s__law_same) (defBody s__law_same) (defScope s__law_same) .none kV20 dc20 pm20 an20 cd20 ct20), sl20⟩)
    (c20 : PySem.W.codeIn K cd20 "_law_same" = true)
    (k20 : PySem.W.keepIn K (.ref f20) = true)
    (a21 : PySem.W.nsIn K mainGlobals "_law_norm" = some (some (.ref f21)))
    (l21 : K.lookup f21 = some ⟨oc21, od21, .func (PySem.W.fnOf "_law_norm" "_law_norm" (defArgs s__law_norm) (defBody s__law_norm) (defScope s__law_norm) .none kV21 dc21 pm21 an21 cd21 ct21), sl21⟩)
    (c21 : PySem.W.codeIn K cd21 "_law_norm" = true)
    (k21 : PySem.W.keepIn K (.ref f21) = true)
    (a22 : PySem.W.nsIn K mainGlobals "_law_lot_is" = some (some (.ref f22)))
    (l22 : K.lookup f22 = some ⟨oc22, od22, .func (PySem.W.fnOf "_law_lot_is" "_law_lot_is" (defArgs s__law_lot_is) (defBody s__law_lot_is) (defScope s__law_lot_is) .none kV22 dc22 pm22 an22 cd22 ct22), sl22⟩)
    (c22 : PySem.W.codeIn K cd22 "_law_lot_is" = true)
    (k22 : PySem.W.keepIn K (.ref f22) = true)
    (a23 : PySem.W.nsIn K mainGlobals "_law_counts" = some (some (.ref f23)))
    (l23 : K.lookup f23 = some ⟨oc23, od23, .func (PySem.W.fnOf "_law_counts" "_law_counts" (defArgs s__law_counts) (defBody s__law_counts) (defScope s__law_counts) .none kV23 dc23 pm23 an23 cd23 ct23), sl23⟩)
    (c23 : PySem.W.codeIn K cd23 "_law_counts" = true)
    (k23 : PySem.W.keepIn K (.ref f23) = true)
    (a24 : PySem.W.nsIn K mainGlobals "_law_pins" = some (some (.ref f24)))
    (l24 : K.lookup f24 = some ⟨oc24, od24, .func (PySem.W.fnOf "_law_pins" "_law_pins" (defArgs s__law_pins) (defBody s__law_pins) (defScope s__law_pins) .none kV24 dc24 pm24 an24 cd24 ct24), sl24⟩)
    (c24 : PySem.W.codeIn K cd24 "_law_pins" = true)
    (k24 : PySem.W.keepIn K (.ref f24) = true)
    (a25 : PySem.W.nsIn K mainGlobals "_law_entry" = some (some (.ref f25)))
    (l25 : K.lookup f25 = some ⟨oc25, od25, .func (PySem.W.fnOf "_law_entry" "_law_entry" (defArgs s__law_entry) (defBody s__law_entry) (defScope s__law_entry) .none kV25 dc25 pm25 an25 cd25 ct25), sl25⟩)
    (c25 : PySem.W.codeIn K cd25 "_law_entry" = true)
    (k25 : PySem.W.keepIn K (.ref f25) = true)
    (a26 : PySem.W.nsIn K mainGlobals "_law_note" = some (some (.ref f26)))
    (l26 : K.lookup f26 = some ⟨oc26, od26, .func (PySem.W.fnOf "_law_note" "_law_note" (defArgs s__law_note) (defBody s__law_note) (defScope s__law_note) .none kV26 dc26 pm26 an26 cd26 ct26), sl26⟩)
    (c26 : PySem.W.codeIn K cd26 "_law_note" = true)
    (k26 : PySem.W.keepIn K (.ref f26) = true)
    (a27 : PySem.W.nsIn K mainGlobals "_law_number" = some (some (.ref f27)))
    (l27 : K.lookup f27 = some ⟨oc27, od27, .func (PySem.W.fnOf "_law_number" "_law_number" (defArgs s__law_number) (defBody s__law_number) (defScope s__law_number) .none kV27 dc27 pm27 an27 cd27 ct27), sl27⟩)
    (c27 : PySem.W.codeIn K cd27 "_law_number" = true)
    (k27 : PySem.W.keepIn K (.ref f27) = true)
    (a28 : PySem.W.nsIn K mainGlobals "_law_read" = some (some (.ref f28)))
    (l28 : K.lookup f28 = some ⟨oc28, od28, .func (PySem.W.fnOf "_law_read" "_law_read" (defArgs s__law_read) (defBody s__law_read) (defScope s__law_read) .none kV28 dc28 pm28 an28 cd28 ct28), sl28⟩)
    (c28 : PySem.W.codeIn K cd28 "_law_read" = true)
    (k28 : PySem.W.keepIn K (.ref f28) = true)
    (a29 : PySem.W.nsIn K mainGlobals "_law_heads" = some (some (.ref f29)))
    (l29 : K.lookup f29 = some ⟨oc29, od29, .func (PySem.W.fnOf "_law_heads" "_law_heads" (defArgs s__law_heads) (defBody s__law_heads) (defScope s__law_heads) .none kV29 dc29 pm29 an29 cd29 ct29), sl29⟩)
    (c29 : PySem.W.codeIn K cd29 "_law_heads" = true)
    (k29 : PySem.W.keepIn K (.ref f29) = true)
    (a30 : PySem.W.nsIn K mainGlobals "_law_words" = some (some (.ref f30)))
    (l30 : K.lookup f30 = some ⟨oc30, od30, .func (PySem.W.fnOf "_law_words" "_law_words" (defArgs s__law_words) (defBody s__law_words) (defScope s__law_words) .none kV30 dc30 pm30 an30 cd30 ct30), sl30⟩)
    (c30 : PySem.W.codeIn K cd30 "_law_words" = true)
    (k30 : PySem.W.keepIn K (.ref f30) = true)
    (a31 : PySem.W.nsIn K mainGlobals "_law_forms" = some (some (.ref f31)))
    (l31 : K.lookup f31 = some ⟨oc31, od31, .func (PySem.W.fnOf "_law_forms" "_law_forms" (defArgs s__law_forms) (defBody s__law_forms) (defScope s__law_forms) .none kV31 dc31 pm31 an31 cd31 ct31), sl31⟩)
    (c31 : PySem.W.codeIn K cd31 "_law_forms" = true)
    (k31 : PySem.W.keepIn K (.ref f31) = true)
    (a32 : PySem.W.nsIn K mainGlobals "_law_wrong_line" = some (some (.ref f32)))
    (l32 : K.lookup f32 = some ⟨oc32, od32, .func (PySem.W.fnOf "_law_wrong_line" "_law_wrong_line" (defArgs s__law_wrong_line) (defBody s__law_wrong_line) (defScope s__law_wrong_line) .none kV32 dc32 pm32 an32 cd32 ct32), sl32⟩)
    (c32 : PySem.W.codeIn K cd32 "_law_wrong_line" = true)
    (k32 : PySem.W.keepIn K (.ref f32) = true)
    (a33 : PySem.W.nsIn K mainGlobals "_law_spoilt" = some (some (.ref f33)))
    (l33 : K.lookup f33 = some ⟨oc33, od33, .func (PySem.W.fnOf "_law_spoilt" "_law_spoilt" (defArgs s__law_spoilt) (defBody s__law_spoilt) (defScope s__law_spoilt) .none kV33 dc33 pm33 an33 cd33 ct33), sl33⟩)
    (c33 : PySem.W.codeIn K cd33 "_law_spoilt" = true)
    (k33 : PySem.W.keepIn K (.ref f33) = true)
    (a34 : PySem.W.nsIn K mainGlobals "_law_outcome" = some (some (.ref f34)))
    (l34 : K.lookup f34 = some ⟨oc34, od34, .func (PySem.W.fnOf "_law_outcome" "_law_outcome" (defArgs s__law_outcome) (defBody s__law_outcome) (defScope s__law_outcome) .none kV34 dc34 pm34 an34 cd34 ct34), sl34⟩)
    (c34 : PySem.W.codeIn K cd34 "_law_outcome" = true)
    (k34 : PySem.W.keepIn K (.ref f34) = true)
    (a35 : PySem.W.nsIn K mainGlobals "_law_asked" = some (some (.ref f35)))
    (l35 : K.lookup f35 = some ⟨oc35, od35, .func (PySem.W.fnOf "_law_asked" "_law_asked" (defArgs s__law_asked) (defBody s__law_asked) (defScope s__law_asked) .none kV35 dc35 pm35 an35 cd35 ct35), sl35⟩)
    (c35 : PySem.W.codeIn K cd35 "_law_asked" = true)
    (k35 : PySem.W.keepIn K (.ref f35) = true)
    (a36 : PySem.W.nsIn K mainGlobals "_law_forms_asked" = some (some (.ref f36)))
    (l36 : K.lookup f36 = some ⟨oc36, od36, .func (PySem.W.fnOf "_law_forms_asked" "_law_forms_asked" (defArgs s__law_forms_asked) (defBody s__law_forms_asked) (defScope s__law_forms_asked) .none kV36 dc36 pm36 an36 cd36 ct36), sl36⟩)
    (c36 : PySem.W.codeIn K cd36 "_law_forms_asked" = true)
    (k36 : PySem.W.keepIn K (.ref f36) = true)
    (a37 : PySem.W.nsIn K mainGlobals "_law_texts_asked" = some (some (.ref f37)))
    (l37 : K.lookup f37 = some ⟨oc37, od37, .func (PySem.W.fnOf "_law_texts_asked" "_law_texts_asked" (defArgs s__law_texts_asked) (defBody s__law_texts_asked) (defScope s__law_texts_asked) .none kV37 dc37 pm37 an37 cd37 ct37), sl37⟩)
    (c37 : PySem.W.codeIn K cd37 "_law_texts_asked" = true)
    (k37 : PySem.W.keepIn K (.ref f37) = true)
    (a38 : PySem.W.nsIn K mainGlobals "law" = some (some (.ref f38)))
    (l38 : K.lookup f38 = some ⟨oc38, od38, .func (PySem.W.fnOf "law" "law" (defArgs s_law) (defBody s_law) (defScope s_law) .none kV38 dc38 pm38 an38 cd38 ct38), sl38⟩)
    (c38 : PySem.W.codeIn K cd38 "law" = true)
    (k38 : PySem.W.keepIn K (.ref f38) = true)
    (z0 : PySem.W.nsIn K mainGlobals "max" = some none)
    (z1 : PySem.W.nsIn K mainGlobals "min" = some none)
    (z2 : PySem.W.nsIn K mainGlobals "tuple" = some none)
    (z3 : PySem.W.nsIn K mainGlobals "range" = some none)
    (z4 : PySem.W.nsIn K mainGlobals "isinstance" = some none)
    (z5 : PySem.W.nsIn K mainGlobals "int" = some none)
    (z6 : PySem.W.nsIn K mainGlobals "bool" = some none)
    (z7 : PySem.W.nsIn K mainGlobals "len" = some none)
    (z8 : PySem.W.nsIn K mainGlobals "list" = some none)
    (z9 : PySem.W.nsIn K mainGlobals "str" = some none)
    (z10 : PySem.W.nsIn K mainGlobals "sorted" = some none)
    (z11 : PySem.W.nsIn K mainGlobals "sum" = some none)
    (aC : PySem.W.nsIn K mainGlobals "Lot" = some (some (.ref C)))
    (pgC : PySem.W.plainGet K C Str.empty = true)
    (hdC : PySem.W.hasDictIn K C = true)
    (poC : PySem.W.plainOver K C = true)
    (saC : PySem.W.findIn K (.ref C) "__setattr__" = some (some (.builtin "object.__setattr__")))
    (mkC : PySem.W.makesIn K C = true)
    (kcC : PySem.W.keepIn K (.ref C) = true)
    (nfC_pins : PySem.W.findIn K (.ref C) "pins" = some none)
    (nfC_cords : PySem.W.findIn K (.ref C) "cords" = some none)
    (iAC : PySem.W.findIn K (.ref C) "__class__" = some (some (.builtin "object.__class__")))
    (iMC : PySem.W.mroIn K C (.type "object") = some true)
    (i39 : PySem.W.findIn K (.ref C) "ends" = some (some (.ref f39)))
    (n39 : PySem.W.isFn K (.ref f39) = true)
    (l39 : K.lookup f39 = some ⟨oc39, od39, .func (PySem.W.fnOf "ends" "Lot.ends" (defArgs s_Lot_ends) (defBody s_Lot_ends) (defScope s_Lot_ends) .none kV39 dc39 pm39 an39 cd39 ct39), sl39⟩)
    (c39 : PySem.W.codeIn K cd39 "Lot.ends" = true)
    (k39 : PySem.W.keepIn K (.ref f39) = true)
    (i40 : PySem.W.findIn K (.ref C) "total" = some (some (.ref f40)))
    (n40 : PySem.W.isFn K (.ref f40) = true)
    (l40 : K.lookup f40 = some ⟨oc40, od40, .func (PySem.W.fnOf "total" "Lot.total" (defArgs s_Lot_total) (defBody s_Lot_total) (defScope s_Lot_total) .none kV40 dc40 pm40 an40 cd40 ct40), sl40⟩)
    (c40 : PySem.W.codeIn K cd40 "Lot.total" = true)
    (k40 : PySem.W.keepIn K (.ref f40) = true)
    (i41 : PySem.W.findIn K (.ref C) "__eq__" = some (some (.ref f41)))
    (n41 : PySem.W.isFn K (.ref f41) = true)
    (l41 : K.lookup f41 = some ⟨oc41, od41, .func (PySem.W.fnOf "__eq__" "Lot.__eq__" (defArgs s_Lot_eq) (defBody s_Lot_eq) (defScope s_Lot_eq) .none kV41 dc41 pm41 an41 cd41 ct41), sl41⟩)
    (c41 : PySem.W.codeIn K cd41 "Lot.__eq__" = true)
    (k41 : PySem.W.keepIn K (.ref f41) = true)
    (i42 : PySem.W.findIn K (.ref C) "__init__" = some (some (.ref f42)))
    (n42 : PySem.W.isFn K (.ref f42) = true)
    (l42 : K.lookup f42 = some ⟨oc42, od42, .func (PySem.W.fnOf "__init__" "Lot.__init__" (defArgs s_Lot_init) (defBody s_Lot_init) (defScope s_Lot_init) (.ref TdC) kV42 dc42 pm42 an42 cd42 ct42), sl42⟩)
    (c42 : PySem.W.codeIn K cd42 "Lot.__init__" = true)
    (k42 : PySem.W.keepIn K (.ref f42) = true)
    (lTC : K.lookup TdC = some ⟨ocTC, odTC, .seq #[.ref zdC] nTC, slTC⟩)
    (aN : PySem.W.nsIn K mainGlobals "NoteError" = some (some (.ref DN)))
    (aA : PySem.W.nsIn K mainGlobals "BadPins" = some (some (.ref DA)))
    (aB : PySem.W.nsIn K mainGlobals "BadCord" = some (some (.ref DB)))
    (a_x0 : PySem.W.nsIn K mainGlobals "RimError" = some (some (.ref x0)))
    (a_x1 : PySem.W.nsIn K mainGlobals "BadPin" = some (some (.ref x1)))
    (a_x2 : PySem.W.nsIn K mainGlobals "BadNumber" = some (some (.ref x2)))
    (lRe : K.lookup x0 = some (excClassObj nmR qR x0 NR bsR [.type "ValueError", .type "Exception", .type "BaseException", .type "object"] hdR snR subR abR colR ddR m0r m1r m2r m3r m5r niR))
    (iRe : PySem.W.findIn K (.ref x0) "__init__" = some (some (.builtin "ValueError.__init__")))
    (opD : PySem.W.nsIn K cStatics "thirdparty.any" = some none)
    (tpD : (lw.prog.main.scope.names.lookup ("super" : Str)).isSome = false)
    (zS : PySem.W.nsIn K mainGlobals "super" = some none)
    (zV : PySem.W.nsIn K mainGlobals "ValueError" = some none)
    (lN : K.lookup DN = some (excClassObj nmN qN DN NN bsN [.ref x0, .type "ValueError", .type "Exception", .type "BaseException", .type "object"] true snN subN abN colN ddN m0N m1N m2N m3N m5N "ValueError.__new__"))
    (saN : PySem.W.findIn K (.ref DN) "__setattr__" = some (some (.builtin "object.__setattr__")))
    (eN : PySem.W.subIn K (.ref DN) (.type "BaseException") = some true)
    (tN : PySem.W.typeIn K (.ref DN) = some (.type "type"))
    (kN : PySem.W.keepIn K (.ref DN) = true)
    (iuN : PySem.W.findIn K (.ref DN) "__init__" = some (some (.ref fuN)))
    (tuN : PySem.W.typeIn K (.ref fuN) = some (.type "function"))
    (luN : K.lookup fuN = some ⟨ocN, odN, .func (PySem.W.fnX "__init__" "NoteError.__init__" (defArgs s_NoteError_init) (defBody s_NoteError_init) (defScope s_NoteError_init) [("__class__", ccN)] .none kVN dcN pmN anN (.ref cdaN) ctN), slN⟩)
    (cuN : PySem.W.codeIn K (.ref cdaN) "NoteError.__init__" = true)
    (lcN : K.lookup ccN = some ⟨clN, cldN, .cell (some (.ref DN)), cslN⟩)
    (ldN : K.lookup cdaN = some ⟨cclN, cddN, .fields vsN, ccsN⟩)
    (cvN : vsN[2]? = some (.str fileN tfN))
    (cfN : ((lw.prog.main.file : Str) == fileN) = true)
    (veN : PySem.W.subIn K (.ref DN) (.type "ValueError") = some true)
    (meN : PySem.W.mroIn K DN (.ref DN) = some true)
    (gaN : PySem.W.findIn K (.ref DN) "__getattribute__" = some (some (.builtin "BaseException.__getattribute__")))
    (ggN : PySem.W.findIn K (.ref DN) "__getattr__" = some none)
    (hN : PySem.W.hasDictIn K DN = true)
    (caN : PySem.W.findIn K (.ref DN) "__class__" = some (some (.builtin "object.__class__")))
    (moN : PySem.W.mroIn K DN (.type "object") = some true)
    (sdN : PySem.W.subIn K (.ref DN) (.ref DN) = some true)
    (n0N : PySem.W.findIn K (.ref DN) "line" = some none)
    (qNDA : PySem.W.subIn K (.ref DN) (.ref DA) = some false)
    (qNDB : PySem.W.subIn K (.ref DN) (.ref DB) = some false)
    (qNx1 : PySem.W.subIn K (.ref DN) (.ref x1) = some false)
    (qNx2 : PySem.W.subIn K (.ref DN) (.ref x2) = some false)
    (qNx0 : PySem.W.subIn K (.ref DN) (.ref x0) = some true)
    (lA : K.lookup DA = some (excClassObj nmA qA DA NA bsA [.ref x0, .type "ValueError", .type "Exception", .type "BaseException", .type "object"] true snA subA abA colA ddA m0A m1A m2A m3A m5A "ValueError.__new__"))
    (saA : PySem.W.findIn K (.ref DA) "__setattr__" = some (some (.builtin "object.__setattr__")))
    (eA : PySem.W.subIn K (.ref DA) (.type "BaseException") = some true)
    (tA : PySem.W.typeIn K (.ref DA) = some (.type "type"))
    (kA : PySem.W.keepIn K (.ref DA) = true)
    (iuA : PySem.W.findIn K (.ref DA) "__init__" = some (some (.ref fuA)))
    (tuA : PySem.W.typeIn K (.ref fuA) = some (.type "function"))
    (luA : K.lookup fuA = some ⟨ocA, odA, .func (PySem.W.fnX "__init__" "BadPins.__init__" (defArgs s_BadPins_init) (defBody s_BadPins_init) (defScope s_BadPins_init) [("__class__", ccA)] .none kVA dcA pmA anA (.ref cdaA) ctA), slA⟩)
    (cuA : PySem.W.codeIn K (.ref cdaA) "BadPins.__init__" = true)
    (lcA : K.lookup ccA = some ⟨clA, cldA, .cell (some (.ref DA)), cslA⟩)
    (ldA : K.lookup cdaA = some ⟨cclA, cddA, .fields vsA, ccsA⟩)
    (cvA : vsA[2]? = some (.str fileA tfA))
    (cfA : ((lw.prog.main.file : Str) == fileA) = true)
    (veA : PySem.W.subIn K (.ref DA) (.type "ValueError") = some true)
    (meA : PySem.W.mroIn K DA (.ref DA) = some true)
    (gaA : PySem.W.findIn K (.ref DA) "__getattribute__" = some (some (.builtin "BaseException.__getattribute__")))
    (ggA : PySem.W.findIn K (.ref DA) "__getattr__" = some none)
    (hA : PySem.W.hasDictIn K DA = true)
    (caA : PySem.W.findIn K (.ref DA) "__class__" = some (some (.builtin "object.__class__")))
    (moA : PySem.W.mroIn K DA (.type "object") = some true)
    (sdA : PySem.W.subIn K (.ref DA) (.ref DA) = some true)
    (n0A : PySem.W.findIn K (.ref DA) "pins" = some none)
    (qADN : PySem.W.subIn K (.ref DA) (.ref DN) = some false)
    (qADB : PySem.W.subIn K (.ref DA) (.ref DB) = some false)
    (qAx1 : PySem.W.subIn K (.ref DA) (.ref x1) = some false)
    (qAx2 : PySem.W.subIn K (.ref DA) (.ref x2) = some false)
    (qAx0 : PySem.W.subIn K (.ref DA) (.ref x0) = some true)
    (lB : K.lookup DB = some (excClassObj nmB qB DB NB bsB [.ref x0, .type "ValueError", .type "Exception", .type "BaseException", .type "object"] true snB subB abB colB ddB m0B m1B m2B m3B m5B "ValueError.__new__"))
    (saB : PySem.W.findIn K (.ref DB) "__setattr__" = some (some (.builtin "object.__setattr__")))
    (eB : PySem.W.subIn K (.ref DB) (.type "BaseException") = some true)
    (tB : PySem.W.typeIn K (.ref DB) = some (.type "type"))
    (kB : PySem.W.keepIn K (.ref DB) = true)
    (iuB : PySem.W.findIn K (.ref DB) "__init__" = some (some (.ref fuB)))
    (tuB : PySem.W.typeIn K (.ref fuB) = some (.type "function"))
    (luB : K.lookup fuB = some ⟨ocB, odB, .func (PySem.W.fnX "__init__" "BadCord.__init__" (defArgs s_BadCord_init) (defBody s_BadCord_init) (defScope s_BadCord_init) [("__class__", ccB)] .none kVB dcB pmB anB (.ref cdaB) ctB), slB⟩)
    (cuB : PySem.W.codeIn K (.ref cdaB) "BadCord.__init__" = true)
    (lcB : K.lookup ccB = some ⟨clB, cldB, .cell (some (.ref DB)), cslB⟩)
    (ldB : K.lookup cdaB = some ⟨cclB, cddB, .fields vsB, ccsB⟩)
    (cvB : vsB[2]? = some (.str fileB tfB))
    (cfB : ((lw.prog.main.file : Str) == fileB) = true)
    (veB : PySem.W.subIn K (.ref DB) (.type "ValueError") = some true)
    (meB : PySem.W.mroIn K DB (.ref DB) = some true)
    (gaB : PySem.W.findIn K (.ref DB) "__getattribute__" = some (some (.builtin "BaseException.__getattribute__")))
    (ggB : PySem.W.findIn K (.ref DB) "__getattr__" = some none)
    (hB : PySem.W.hasDictIn K DB = true)
    (caB : PySem.W.findIn K (.ref DB) "__class__" = some (some (.builtin "object.__class__")))
    (moB : PySem.W.mroIn K DB (.type "object") = some true)
    (sdB : PySem.W.subIn K (.ref DB) (.ref DB) = some true)
    (n0B : PySem.W.findIn K (.ref DB) "entry" = some none)
    (qBDN : PySem.W.subIn K (.ref DB) (.ref DN) = some false)
    (qBDA : PySem.W.subIn K (.ref DB) (.ref DA) = some false)
    (qBx1 : PySem.W.subIn K (.ref DB) (.ref x1) = some false)
    (qBx2 : PySem.W.subIn K (.ref DB) (.ref x2) = some false)
    (qBx0 : PySem.W.subIn K (.ref DB) (.ref x0) = some true)
    (ic_DN : PySem.W.isClsIn K DN = true)
    (tc_DN : PySem.W.typeIn K (.ref DN) = some (.type "type"))
    (ic_DA : PySem.W.isClsIn K DA = true)
    (tc_DA : PySem.W.typeIn K (.ref DA) = some (.type "type"))
    (ic_DB : PySem.W.isClsIn K DB = true)
    (tc_DB : PySem.W.typeIn K (.ref DB) = some (.type "type"))
    (ic_x0 : PySem.W.isClsIn K x0 = true)
    (tc_x0 : PySem.W.typeIn K (.ref x0) = some (.type "type"))
    (ic_x1 : PySem.W.isClsIn K x1 = true)
    (tc_x1 : PySem.W.typeIn K (.ref x1) = some (.type "type"))
    (ic_x2 : PySem.W.isClsIn K x2 = true)
    (tc_x2 : PySem.W.typeIn K (.ref x2) = some (.type "type")) :
    ∃ fd : FuncData, (∀ (s : Shared) (v : Value), BindsTo s fd ⟨[v], []⟩ [("_law_script", v)]) ∧ ∀ base : Heap, K.In base → base.Ns mainGlobals mg → FnOk lw.prog w K mg base CX0 12 fa fd ["_law_script"] (spLaw K) := by
  have e := hfa.symm.trans (PySem.W.mg_of X G a38)
  cases e
  have D_is_whole := df_mk (ps := ["value"]) (st := s_is_whole) X G a1 l1 c1 k1 fun _ _ _ _ _ _ us hl => match us, hl with | [_], _ => rfl
  have D_is_sequence := df_mk (ps := ["value"]) (st := s_is_sequence) X G a2 l2 c2 k2 fun _ _ _ _ _ _ us hl => match us, hl with | [_], _ => rfl
  have D_is_below := df_mk (ps := ["value", "bound"]) (st := s_is_below) X G a3 l3 c3 k3 fun _ _ _ _ _ _ us hl => match us, hl with | [_, _], _ => rfl
  have D_check_pins := df_mk (ps := ["pins"]) (st := s_check_pins) X G a4 l4 c4 k4 fun _ _ _ _ _ _ us hl => match us, hl with | [_], _ => rfl
  have D_check_pin := df_mk (ps := ["pins", "pin"]) (st := s_check_pin) X G a5 l5 c5 k5 fun _ _ _ _ _ _ us hl => match us, hl with | [_, _], _ => rfl
  have D_is_entry := df_mk (ps := ["pins", "entry"]) (st := s_is_entry) X G a6 l6 c6 k6 fun _ _ _ _ _ _ us hl => match us, hl with | [_, _], _ => rfl
  have D_gathered := df_mk (ps := ["pins", "entries"]) (st := s_gathered) X G a7 l7 c7 k7 fun _ _ _ _ _ _ us hl => match us, hl with | [_, _], _ => rfl
  have D_ends_at_pins := df_mk (ps := ["pins", "cords"]) (st := s_ends_at_pins) X G a8 l8 c8 k8 fun _ _ _ _ _ _ us hl => match us, hl with | [_, _], _ => rfl
  have D_written := df_mk (ps := ["lines"]) (st := s_written) X G a9 l9 c9 k9 fun _ _ _ _ _ _ us hl => match us, hl with | [_], _ => rfl
  have D_is_number := df_mk (ps := ["word"]) (st := s_is_number) X G a10 l10 c10 k10 fun _ _ _ _ _ _ us hl => match us, hl with | [_], _ => rfl
  have D_numbers_of := df_mk (ps := ["words", "place"]) (st := s_numbers_of) X G a11 l11 c11 k11 fun _ _ _ _ _ _ us hl => match us, hl with | [_, _], _ => rfl
  have D_words_at := df_mk (ps := ["lines", "place"]) (st := s_words_at) X G a12 l12 c12 k12 fun _ _ _ _ _ _ us hl => match us, hl with | [_, _], _ => rfl
  have D_read_line := df_mk (ps := ["lines", "place", "counts"]) (st := s_read_line) X G a13 l13 c13 k13 fun _ _ _ _ _ _ us hl => match us, hl with | [_, _, _], _ => rfl
  have D_read_numbers := df_mk (ps := ["lines", "place", "due"]) (st := s_read_numbers) X G a14 l14 c14 k14 fun _ _ _ _ _ _ us hl => match us, hl with | [_, _, _], _ => rfl
  have D_format_lot := df_mk (ps := ["lot"]) (st := s_format_lot) X G a15 l15 c15 k15 fun _ _ _ _ _ _ us hl => match us, hl with | [_], _ => rfl
  have D_parse_lot := df_mk (ps := ["text"]) (st := s_parse_lot) X G a16 l16 c16 k16 fun _ _ _ _ _ _ us hl => match us, hl with | [_], _ => rfl
  have D__law_whole := df_mk (ps := ["_law_value"]) (st := s__law_whole) X G a17 l17 c17 k17 fun _ _ _ _ _ _ us hl => match us, hl with | [_], _ => rfl
  have D__law_cell := df_mk (ps := ["_law_script", "_law_k"]) (st := s__law_cell) X G a18 l18 c18 k18 fun _ _ _ _ _ _ us hl => match us, hl with | [_, _], _ => rfl
  have D__law_digits := df_mk (ps := ["_law_cell_here", "_law_sizes"]) (st := s__law_digits) X G a19 l19 c19 k19 fun _ _ _ _ _ _ us hl => match us, hl with | [_, _], _ => rfl
  have D__law_same := df_mk (ps := ["_law_value", "_law_due"]) (st := s__law_same) X G a20 l20 c20 k20 fun _ _ _ _ _ _ us hl => match us, hl with | [_, _], _ => rfl
  have D__law_norm := df_mk (ps := ["_law_triples"]) (st := s__law_norm) X G a21 l21 c21 k21 fun _ _ _ _ _ _ us hl => match us, hl with | [_], _ => rfl
  have D__law_lot_is := df_mk (ps := ["_law_thing", "_law_pins_here", "_law_bunch"]) (st := s__law_lot_is) X G a22 l22 c22 k22 fun _ _ _ _ _ _ us hl => match us, hl with | [_, _, _], _ => rfl
  have D__law_counts := df_mk (ps := ["_law_thing", "_law_pins_here", "_law_bunch"]) (st := s__law_counts) X G a23 l23 c23 k23 fun _ _ _ _ _ _ us hl => match us, hl with | [_, _, _], _ => rfl
  have D__law_pins := df_mk (ps := ["_law_cell_here"]) (st := s__law_pins) X G a24 l24 c24 k24 fun _ _ _ _ _ _ us hl => match us, hl with | [_], _ => rfl
  have D__law_entry := df_mk (ps := ["_law_cell_here", "_law_pins_here", "_law_earlier"]) (st := s__law_entry) X G a25 l25 c25 k25 fun _ _ _ _ _ _ us hl => match us, hl with | [_, _, _], _ => rfl
  have D__law_note := df_mk (ps := ["_law_pins_here", "_law_entries"]) (st := s__law_note) X G a26 l26 c26 k26 fun _ _ _ _ _ _ us hl => match us, hl with | [_, _], _ => rfl
  have D__law_number := df_mk (ps := ["_law_word"]) (st := s__law_number) X G a27 l27 c27 k27 fun _ _ _ _ _ _ us hl => match us, hl with | [_], _ => rfl
  have D__law_read := df_mk (ps := ["_law_note_here"]) (st := s__law_read) X G a28 l28 c28 k28 fun _ _ _ _ _ _ us hl => match us, hl with | [_], _ => rfl
  have D__law_heads := df_mk (ps := ["_law_pins_here"]) (st := s__law_heads) X G a29 l29 c29 k29 fun _ _ _ _ _ _ us hl => match us, hl with | [_], _ => rfl
  have D__law_words := df_mk (ps := ["_law_word"]) (st := s__law_words) X G a30 l30 c30 k30 fun _ _ _ _ _ _ us hl => match us, hl with | [_], _ => rfl
  have D__law_forms := df_mk (ps := ["_law_line", "_law_at"]) (st := s__law_forms) X G a31 l31 c31 k31 fun _ _ _ _ _ _ us hl => match us, hl with | [_, _], _ => rfl
  have D__law_wrong_line := df_mk (ps := ["_law_pins_here", "_law_draw"]) (st := s__law_wrong_line) X G a32 l32 c32 k32 fun _ _ _ _ _ _ us hl => match us, hl with | [_, _], _ => rfl
  have D__law_spoilt := df_mk (ps := ["_law_lines", "_law_kind", "_law_cell_here", "_law_pins_here"]) (st := s__law_spoilt) X G a33 l33 c33 k33 fun _ _ _ _ _ _ us hl => match us, hl with | [_, _, _, _], _ => rfl
  have D__law_outcome := df_mk (ps := ["_law_note_here", "_law_due"]) (st := s__law_outcome) X G a34 l34 c34 k34 fun _ _ _ _ _ _ us hl => match us, hl with | [_, _], _ => rfl
  have D__law_asked := df_mk (ps := ["_law_lines"]) (st := s__law_asked) X G a35 l35 c35 k35 fun _ _ _ _ _ _ us hl => match us, hl with | [_], _ => rfl
  have D__law_forms_asked := df_mk (ps := ["_law_lines", "_law_cell_here", "_law_pins_here"]) (st := s__law_forms_asked) X G a36 l36 c36 k36 fun _ _ _ _ _ _ us hl => match us, hl with | [_, _, _], _ => rfl
  have D__law_texts_asked := df_mk (ps := ["_law_script", "_law_lines", "_law_pins_here"]) (st := s__law_texts_asked) X G a37 l37 c37 k37 fun _ _ _ _ _ _ us hl => match us, hl with | [_, _, _], _ => rfl
  have T : Bi mg := ⟨PySem.W.mg_none_of X G z0, PySem.W.mg_none_of X G z1, PySem.W.mg_none_of X G z2, PySem.W.mg_none_of X G z3, PySem.W.mg_none_of X G z4, PySem.W.mg_none_of X G z5, PySem.W.mg_none_of X G z6, PySem.W.mg_none_of X G z7, PySem.W.mg_none_of X G z8, PySem.W.mg_none_of X G z9, PySem.W.mg_none_of X G z10, PySem.W.mg_none_of X G z11⟩
  have clC : Cls K C := ⟨pgC, hdC, poC, saC⟩
  have IC : C8.InsC K C := ⟨clC, iAC, iN, iT, iMC, kitTrue⟩
  have F_Lot_ends : Fun K "ends" "Lot.ends" s_Lot_ends f39 _ := fun_mk l39 c39 k39
  have B_Lot_ends := F_Lot_ends.binds (ps := ["self", "pin"]) fun _ _ _ _ _ _ us hl => match us, hl with | [_, _], _ => rfl
  have MT_Lot_ends : Meth K C "ends" f39 := ⟨i39, n39, k39⟩
  have F_Lot_total : Fun K "total" "Lot.total" s_Lot_total f40 _ := fun_mk l40 c40 k40
  have B_Lot_total := F_Lot_total.binds (ps := ["self"]) fun _ _ _ _ _ _ us hl => match us, hl with | [_], _ => rfl
  have MT_Lot_total : Meth K C "total" f40 := ⟨i40, n40, k40⟩
  have F_Lot_eq : Fun K "__eq__" "Lot.__eq__" s_Lot_eq f41 _ := fun_mk l41 c41 k41
  have B_Lot_eq := F_Lot_eq.binds (ps := ["self", "other"]) fun _ _ _ _ _ _ us hl => match us, hl with | [_, _], _ => rfl
  have MT_Lot_eq : Meth K C "__eq__" f41 := ⟨i41, n41, k41⟩
  have FIC : FunD K "__init__" "Lot.__init__" (defArgs s_Lot_init) (defBody s_Lot_init) (defScope s_Lot_init) [.ref zdC] [] f42 _ := ⟨⟨_, _, _, _, _, _, _, _, _, _, rfl, l42, c42, .inr ⟨by simp, TdC, _, [.ref zdC], nTC, rfl, lTC, rfl, .cons rfl .nil⟩, .inl rfl⟩, k42⟩
  obtain ⟨dsC, vdsC, BIC⟩ := FIC.binds1 (ps := ["self", "pins", "cords"]) 3 1 (by simp) rfl fun T kV doc pm an cdv ct us its h1 h2 => match us, h1, its, h2 with | [_, _, _], _, [_], _ => ⟨_, rfl, rfl⟩
  have edsC : dsC = [] := by cases vdsC; rfl
  subst edsC
  have MIC : Mk K C f42 := ⟨mkC, i42, n42, kcC⟩
  have OXN : OexC K DN := ⟨⟨_, _, _, _, _, _, _, _, _, _, _, _, _, _, _, lN, rfl⟩, saN, eN, tN, kN⟩
  have EKN : ErrK lw.prog K mg DN ccN cdaN := ⟨OXN, ⟨_, _, _, lcN⟩, ⟨_, _, _, _, _, _, ldN, cvN, cfN⟩, sup_of lN lRe iRe, veN, meN, opD, PySem.W.mg_none_of X G zS, tpD⟩
  have BUN : Binds K (PySem.W.fnX "__init__" "NoteError.__init__" (defArgs s_NoteError_init) (defBody s_NoteError_init) (defScope s_NoteError_init) [("__class__", ccN)] .none kVN dcN pmN anN (.ref cdaN) ctN) ["self", "line"] [] := Binds.all fun us hl => match us, hl with | [_, _], _ => rfl
  have ETN : ErrT K mg "NoteError" DN fuN := ⟨PySem.W.mg_of X G aN, iuN, tuN⟩
  have OXA : OexC K DA := ⟨⟨_, _, _, _, _, _, _, _, _, _, _, _, _, _, _, lA, rfl⟩, saA, eA, tA, kA⟩
  have EKA : ErrK lw.prog K mg DA ccA cdaA := ⟨OXA, ⟨_, _, _, lcA⟩, ⟨_, _, _, _, _, _, ldA, cvA, cfA⟩, sup_of lA lRe iRe, veA, meA, opD, PySem.W.mg_none_of X G zS, tpD⟩
  have BUA : Binds K (PySem.W.fnX "__init__" "BadPins.__init__" (defArgs s_BadPins_init) (defBody s_BadPins_init) (defScope s_BadPins_init) [("__class__", ccA)] .none kVA dcA pmA anA (.ref cdaA) ctA) ["self", "pins"] [] := Binds.all fun us hl => match us, hl with | [_, _], _ => rfl
  have ETA : ErrT K mg "BadPins" DA fuA := ⟨PySem.W.mg_of X G aA, iuA, tuA⟩
  have OXB : OexC K DB := ⟨⟨_, _, _, _, _, _, _, _, _, _, _, _, _, _, _, lB, rfl⟩, saB, eB, tB, kB⟩
  have EKB : ErrK lw.prog K mg DB ccB cdaB := ⟨OXB, ⟨_, _, _, lcB⟩, ⟨_, _, _, _, _, _, ldB, cvB, cfB⟩, sup_of lB lRe iRe, veB, meB, opD, PySem.W.mg_none_of X G zS, tpD⟩
  have BUB : Binds K (PySem.W.fnX "__init__" "BadCord.__init__" (defArgs s_BadCord_init) (defBody s_BadCord_init) (defScope s_BadCord_init) [("__class__", ccB)] .none kVB dcB pmB anB (.ref cdaB) ctB) ["self", "entry"] [] := Binds.all fun us hl => match us, hl with | [_, _], _ => rfl
  have ETB : ErrT K mg "BadCord" DB fuB := ⟨PySem.W.mg_of X G aB, iuB, tuB⟩
  have L : LotC K mg C := ⟨clC, nfC_pins, nfC_cords, (PySem.W.mg_of X G aC)⟩
  have UN : NErC K mg DN fuN _ := ⟨OXN, ETN, BUN⟩
  have UA : ErrU K mg "BadPins" DA fuA _ ["self", "pins"] := ⟨OXA, ETA, BUA⟩
  have UB : ErrU K mg "BadCord" DB fuB _ ["self", "entry"] := ⟨OXB, ETB, BUB⟩
  have XC : XcL K DN DA DB x1 x2 x0 := ⟨⟨gaN, ggN, eN, hN, caN, iN, iT, moN⟩, ⟨gaA, ggA, eA, hA, caA, iN, iT, moA⟩, ⟨gaB, ggB, eB, hB, caB, iN, iT, moB⟩, ⟨gaN, ggN, eN, hN⟩, ⟨gaA, ggA, eA, hA⟩, ⟨gaB, ggB, eB, hB⟩, n0N, n0A, n0B, kit_ref sdN ic_DA tc_DA qNDA, kit_ref sdN ic_DB tc_DB qNDB, kit_ref sdN ic_x1 tc_x1 qNx1, kit_ref sdN ic_x2 tc_x2 qNx2, kit_ref sdN ic_x0 tc_x0 qNx0, kit_ref sdA ic_DN tc_DN qADN, kit_ref sdA ic_DB tc_DB qADB, kit_ref sdA ic_x1 tc_x1 qAx1, kit_ref sdA ic_x2 tc_x2 qAx2, kit_ref sdA ic_x0 tc_x0 qAx0, kit_ref sdB ic_DN tc_DN qBDN, kit_ref sdB ic_DA tc_DA qBDA, kit_ref sdB ic_x1 tc_x1 qBx1, kit_ref sdB ic_x2 tc_x2 qBx2, kit_ref sdB ic_x0 tc_x0 qBx0, kit_ve veN, kit_ve veA, kit_ve veB, PySem.W.exm_ref eN hN tc_DN sdN, PySem.W.exm_ref eN hN tc_DN qADN, PySem.W.exm_ref eA hA tc_DA sdA, PySem.W.exm_ref eN hN tc_DN qBDN, PySem.W.exm_ref eA hA tc_DA qBDA, PySem.W.exm_ref eB hB tc_DB sdB⟩
  have Me : Mt K C "ends" "Lot.ends" s_Lot_ends ["self", "pin"] _ _ := ⟨F_Lot_ends, MT_Lot_ends, B_Lot_ends⟩
  have Mto : Mt K C "total" "Lot.total" s_Lot_total ["self"] _ _ := ⟨F_Lot_total, MT_Lot_total, B_Lot_total⟩
  have kb_p := kb_one D_parse_lot.F (a := "text") fun kV doc pm an cdv ct u => by kernel_rfl
  have kb_f := kb_one D_format_lot.F (a := "lot") fun kV doc pm an cdv ct u => by kernel_rfl
  have nfC : PySem.W.notFirst K C (.ref C) = true := by
    unfold PySem.W.notFirst
    rw [beq_self_eq_true]
    rfl
  refine ⟨PySem.W.fnOf "law" "law" (defArgs s_law) (defBody s_law) (defScope s_law) .none kV38 dc38 pm38 an38 cd38 ct38, fun s v => .of_eq rfl, fun base _ _ => ?_⟩
  have GeN := ok_NoteError (P := lw.prog) (w := w) (mg := mg) (base := base) EKN luN cuN n0N
  have GeA := ok_BadPins (P := lw.prog) (w := w) (mg := mg) (base := base) EKA luA cuA n0A
  have GeB := ok_BadCord (P := lw.prog) (w := w) (mg := mg) (base := base) EKB luB cuB n0B
  have Gwy := ok_wholeY (P := lw.prog) (w := w) (mg := mg) (base := base) D_is_whole.F T
  have Gsy := ok_seqY (P := lw.prog) (w := w) (mg := mg) (base := base) D_is_sequence.F T
  have Gby := ok_belowY (P := lw.prog) (w := w) (mg := mg) (base := base) D_is_below.F D_is_whole Gwy
  have Gck := ok_ckpinsY (P := lw.prog) (w := w) (mg := mg) (base := base) D_check_pins.F D_is_whole Gwy UA GeA
  have Gent := ok_entryY (P := lw.prog) (w := w) (mg := mg) (base := base) D_is_entry.F T D_is_whole Gwy D_is_below Gby D_is_sequence Gsy
  have Ggath := ok_gathY (P := lw.prog) (w := w) (mg := mg) (base := base) D_gathered.F T D_is_entry Gent UB GeB
  have Ginit := ok_initY (P := lw.prog) (w := w) (mg := mg) (base := base) FIC L D_check_pins Gck D_gathered Ggath
  have Gckpin := ok_ckpin (P := lw.prog) (w := w) (mg := mg) (base := base) D_check_pin.F T D_is_whole D_is_below
  have Geap := ok_eap (P := lw.prog) (w := w) (mg := mg) (base := base) D_ends_at_pins.F T
  have Gends := ok_ends (P := lw.prog) (w := w) (mg := mg) (base := base) F_Lot_ends T L D_check_pin Gckpin D_ends_at_pins Geap
  have Gtotal := ok_total (P := lw.prog) (w := w) (mg := mg) (base := base) F_Lot_total T L
  have Geq := ok_leq (P := lw.prog) (w := w) (mg := mg) (base := base) F_Lot_eq T L IC
  have Gwr := ok_written (P := lw.prog) (w := w) (mg := mg) (base := base) D_written.F T
  have Gnum := ok_number (P := lw.prog) (w := w) (mg := mg) (base := base) D_is_number.F T
  have Gns := ok_nums (P := lw.prog) (w := w) (mg := mg) (base := base) D_numbers_of.F T UN GeN D_is_number Gnum
  have Gwd := ok_words (P := lw.prog) (w := w) (mg := mg) (base := base) D_words_at.F T UN GeN
  have Gln := ok_line (P := lw.prog) (w := w) (mg := mg) (base := base) D_read_line.F T UN GeN D_words_at Gwd D_numbers_of Gns
  have Grn := ok_rdn (P := lw.prog) (w := w) (mg := mg) (base := base) D_read_numbers.F T UN GeN D_words_at Gwd D_numbers_of Gns
  have Gfmt := ok_fmt (P := lw.prog) (w := w) (mg := mg) (base := base) D_format_lot.F T L D_written Gwr
  have Gpa := ok_parse (P := lw.prog) (w := w) (mg := mg) (base := base) D_parse_lot.F T L D_read_line Gln D_read_numbers Grn MIC Ginit BIC
  have Glw := ok_lwhole (P := lw.prog) (w := w) (mg := mg) (base := base) D__law_whole.F T
  have Hlw := okH_lwhole (P := lw.prog) (w := w) (mg := mg) (base := base) D__law_whole.F T
  have Gcell := ok_cell (P := lw.prog) (w := w) (mg := mg) (base := base) D__law_cell.F T
  have Gdig := ok_digits (P := lw.prog) (w := w) (mg := mg) (base := base) D__law_digits.F T
  have Gsame := ok_same (P := lw.prog) (w := w) (mg := mg) (base := base) D__law_same T D__law_whole Glw
  have Hsame := okH_same (P := lw.prog) (w := w) (mg := mg) (base := base) D__law_same T D__law_whole Hlw
  have Gnorm := ok_norm (P := lw.prog) (w := w) (mg := mg) (base := base) D__law_norm.F T
  have Gpins := ok_pins (P := lw.prog) (w := w) (mg := mg) (base := base) D__law_pins.F T D__law_digits Gdig
  have Glent := ok_ent (P := lw.prog) (w := w) (mg := mg) (base := base) D__law_entry.F T D__law_digits Gdig
  have Glno := ok_lnote (P := lw.prog) (w := w) (mg := mg) (base := base) D__law_note.F T
  have Gli := ok_lotis (P := lw.prog) (w := w) (mg := mg) (base := base) D__law_lot_is.F T L IC D__law_same (Gsame 2)
  have Gco := ok_counts (P := lw.prog) (w := w) (mg := mg) (base := base) D__law_counts.F T L D__law_same (Gsame 0) Me Gends Mto Gtotal
  have Gnb := ok_lnum (P := lw.prog) (w := w) (mg := mg) (base := base) D__law_number.F T
  have Goc := ok_outc (P := lw.prog) (w := w) (mg := mg) (base := base) D__law_read.F T D__law_number Gnb D__law_norm Gnorm
  have Ghd := ok_heads (P := lw.prog) (w := w) (mg := mg) (base := base) D__law_heads.F T
  have Gw28 := ok_words28 (P := lw.prog) (w := w) (mg := mg) (base := base) D__law_words.F T
  have Gfo := ok_forms (P := lw.prog) (w := w) (mg := mg) (base := base) D__law_forms.F T D__law_words Gw28
  have Gwg := ok_wrong (P := lw.prog) (w := w) (mg := mg) (base := base) D__law_wrong_line.F T
  have Gsp := ok_spoilt (P := lw.prog) (w := w) (mg := mg) (base := base) D__law_spoilt.F T D__law_digits Gdig D__law_forms Gfo D__law_wrong_line Gwg
  have Gou := ok_out (P := lw.prog) (w := w) (mg := mg) (base := base) D__law_outcome.F T (PySem.W.mg_none_of X G zV) (PySem.W.mg_of X G aN) (PySem.W.mg_of X G aA) (PySem.W.mg_of X G aB) (PySem.W.mg_of X G a_x1) (PySem.W.mg_of X G a_x2) (PySem.W.mg_of X G a_x0) XC D_parse_lot Gpa D__law_lot_is Gli D__law_same (Hsame 1)
  have Gas := ok_asked (P := lw.prog) (w := w) (mg := mg) (base := base) D__law_asked.F T D__law_outcome Gou D__law_read Goc
  have Gfa := ok_foa (P := lw.prog) (w := w) (mg := mg) (base := base) D__law_forms_asked.F T D__law_digits Gdig D__law_heads Ghd D__law_forms Gfo D__law_asked Gas
  have Gta := ok_txa (P := lw.prog) (w := w) (mg := mg) (base := base) D__law_texts_asked.F T D__law_digits Gdig D__law_cell Gcell D__law_spoilt Gsp D__law_asked Gas
  exact ok_law (fun_mk l38 c38 k38) T L D__law_pins Gpins D__law_cell Gcell D__law_digits Gdig D__law_entry Glent D__law_norm Gnorm D__law_note Glno D__law_lot_is Gli D__law_counts Gco D__law_forms_asked Gfa D__law_texts_asked Gta D__law_same (Gsame 2) D_parse_lot Gpa D_format_lot Gfmt kb_f kb_p MIC Ginit BIC i41 n41 Geq B_Lot_eq nfC
end Own

open PySem PySem.W PyProof.Rows
set_option maxRecDepth 100000 in
set_option maxHeartbeats 0 in
theorem PySem.Challenge.cw_rimcords_k07_lot_notes_holds : PySem.Challenge.rw_rimcords_k07_lot_notes.Holds := by
  w_on; o_law; k_head; (case hw => w_witness2)
  k_fill
  refine L2.walk_of (l := PySem.Challenge.rw_rimcords_k07_lot_notes) (n := 63) (k := 12) (x := "_law_script") (CX := fun _ => L2.CX0) (sp := fun w => Own.spLaw _) rfl (by decide) rfl ⟨rfl, by decide, by decide⟩ (fun w h Y => PySem.W.kIn_of Y) ?F (fun _ _ a ns hl _ hS => ⟨a, ns, rfl, hS, Nat.le_trans hl (by decide), fun _ => rfl⟩) (fun _ _ _ _ _ h => h)
  case F =>
    intro w mg fa h KX G hmg
    refine' Own.all_mk KX G hmg ?iN ?iT ?a1 ?l1 ?c1 ?k1 ?a2 ?l2 ?c2 ?k2 ?a3 ?l3 ?c3 ?k3 ?a4 ?l4 ?c4 ?k4 ?a5 ?l5 ?c5 ?k5 ?a6 ?l6 ?c6 ?k6 ?a7 ?l7 ?c7 ?k7 ?a8 ?l8 ?c8 ?k8 ?a9 ?l9 ?c9 ?k9 ?a10 ?l10 ?c10 ?k10 ?a11 ?l11 ?c11 ?k11 ?a12 ?l12 ?c12 ?k12 ?a13 ?l13 ?c13 ?k13 ?a14 ?l14 ?c14 ?k14 ?a15 ?l15 ?c15 ?k15 ?a16 ?l16 ?c16 ?k16 ?a17 ?l17 ?c17 ?k17 ?a18 ?l18 ?c18 ?k18 ?a19 ?l19 ?c19 ?k19 ?a20 ?l20 ?c20 ?k20 ?a21 ?l21 ?c21 ?k21 ?a22 ?l22 ?c22 ?k22 ?a23 ?l23 ?c23 ?k23 ?a24 ?l24 ?c24 ?k24 ?a25 ?l25 ?c25 ?k25 ?a26 ?l26 ?c26 ?k26 ?a27 ?l27 ?c27 ?k27 ?a28 ?l28 ?c28 ?k28 ?a29 ?l29 ?c29 ?k29 ?a30 ?l30 ?c30 ?k30 ?a31 ?l31 ?c31 ?k31 ?a32 ?l32 ?c32 ?k32 ?a33 ?l33 ?c33 ?k33 ?a34 ?l34 ?c34 ?k34 ?a35 ?l35 ?c35 ?k35 ?a36 ?l36 ?c36 ?k36 ?a37 ?l37 ?c37 ?k37 ?a38 ?l38 ?c38 ?k38 ?z0 ?z1 ?z2 ?z3 ?z4 ?z5 ?z6 ?z7 ?z8 ?z9 ?z10 ?z11 ?aC ?pgC ?hdC ?poC ?saC ?mkC ?kcC ?nfC_pins ?nfC_cords ?iAC ?iMC ?i39 ?n39 ?l39 ?c39 ?k39 ?i40 ?n40 ?l40 ?c40 ?k40 ?i41 ?n41 ?l41 ?c41 ?k41 ?i42 ?n42 ?l42 ?c42 ?k42 ?lTC ?aN ?aA ?aB ?a_x0 ?a_x1 ?a_x2 ?lRe ?iRe ?opD ?tpD ?zS ?zV ?lN ?saN ?eN ?tN ?kN ?iuN ?tuN ?luN ?cuN ?lcN ?ldN ?cvN ?cfN ?veN ?meN ?gaN ?ggN ?hN ?caN ?moN ?sdN ?n0N ?qNDA ?qNDB ?qNx1 ?qNx2 ?qNx0 ?lA ?saA ?eA ?tA ?kA ?iuA ?tuA ?luA ?cuA ?lcA ?ldA ?cvA ?cfA ?veA ?meA ?gaA ?ggA ?hA ?caA ?moA ?sdA ?n0A ?qADN ?qADB ?qAx1 ?qAx2 ?qAx0 ?lB ?saB ?eB ?tB ?kB ?iuB ?tuB ?luB ?cuB ?lcB ?ldB ?cvB ?cfB ?veB ?meB ?gaB ?ggB ?hB ?caB ?moB ?sdB ?n0B ?qBDN ?qBDA ?qBx1 ?qBx2 ?qBx0 ?ic_DN ?tc_DN ?ic_DA ?tc_DA ?ic_DB ?tc_DB ?ic_x0 ?tc_x0 ?ic_x1 ?tc_x1 ?ic_x2 ?tc_x2
    (case iN => k_is)
    (case iT => k_is)
    (case a1 => k_is)
    (case l1 => k_is)
    (case c1 => k_is)
    (case k1 => k_is)
    (case a2 => k_is)
    (case l2 => k_is)
    (case c2 => k_is)
    (case k2 => k_is)
    (case a3 => k_is)
    (case l3 => k_is)
    (case c3 => k_is)
    (case k3 => k_is)
    (case a4 => k_is)
    (case l4 => k_is)
    (case c4 => k_is)
    (case k4 => k_is)
    (case a5 => k_is)
    (case l5 => k_is)
    (case c5 => k_is)
    (case k5 => k_is)
    (case a6 => k_is)
    (case l6 => k_is)
    (case c6 => k_is)
    (case k6 => k_is)
    (case a7 => k_is)
    (case l7 => k_is)
    (case c7 => k_is)
    (case k7 => k_is)
    (case a8 => k_is)
    (case l8 => k_is)
    (case c8 => k_is)
    (case k8 => k_is)
    (case a9 => k_is)
    (case l9 => k_is)
    (case c9 => k_is)
    (case k9 => k_is)
    (case a10 => k_is)
    (case l10 => k_is)
    (case c10 => k_is)
    (case k10 => k_is)
    (case a11 => k_is)
    (case l11 => k_is)
    (case c11 => k_is)
    (case k11 => k_is)
    (case a12 => k_is)
    (case l12 => k_is)
    (case c12 => k_is)
    (case k12 => k_is)
    (case a13 => k_is)
    (case l13 => k_is)
    (case c13 => k_is)
    (case k13 => k_is)
    (case a14 => k_is)
    (case l14 => k_is)
    (case c14 => k_is)
    (case k14 => k_is)
    (case a15 => k_is)
    (case l15 => k_is)
    (case c15 => k_is)
    (case k15 => k_is)
    (case a16 => k_is)
    (case l16 => k_is)
    (case c16 => k_is)
    (case k16 => k_is)
    (case a17 => k_is)
    (case l17 => k_is)
    (case c17 => k_is)
    (case k17 => k_is)
    (case a18 => k_is)
    (case l18 => k_is)
    (case c18 => k_is)
    (case k18 => k_is)
    (case a19 => k_is)
    (case l19 => k_is)
    (case c19 => k_is)
    (case k19 => k_is)
    (case a20 => k_is)
    (case l20 => k_is)
    (case c20 => k_is)
    (case k20 => k_is)
    (case a21 => k_is)
    (case l21 => k_is)
    (case c21 => k_is)
    (case k21 => k_is)
    (case a22 => k_is)
    (case l22 => k_is)
    (case c22 => k_is)
    (case k22 => k_is)
    (case a23 => k_is)
    (case l23 => k_is)
    (case c23 => k_is)
    (case k23 => k_is)
    (case a24 => k_is)
    (case l24 => k_is)
    (case c24 => k_is)
    (case k24 => k_is)
    (case a25 => k_is)
    (case l25 => k_is)
    (case c25 => k_is)
    (case k25 => k_is)
    (case a26 => k_is)
    (case l26 => k_is)
    (case c26 => k_is)
    (case k26 => k_is)
    (case a27 => k_is)
    (case l27 => k_is)
    (case c27 => k_is)
    (case k27 => k_is)
    (case a28 => k_is)
    (case l28 => k_is)
    (case c28 => k_is)
    (case k28 => k_is)
    (case a29 => k_is)
    (case l29 => k_is)
    (case c29 => k_is)
    (case k29 => k_is)
    (case a30 => k_is)
    (case l30 => k_is)
    (case c30 => k_is)
    (case k30 => k_is)
    (case a31 => k_is)
    (case l31 => k_is)
    (case c31 => k_is)
    (case k31 => k_is)
    (case a32 => k_is)
    (case l32 => k_is)
    (case c32 => k_is)
    (case k32 => k_is)
    (case a33 => k_is)
    (case l33 => k_is)
    (case c33 => k_is)
    (case k33 => k_is)
    (case a34 => k_is)
    (case l34 => k_is)
    (case c34 => k_is)
    (case k34 => k_is)
    (case a35 => k_is)
    (case l35 => k_is)
    (case c35 => k_is)
    (case k35 => k_is)
    (case a36 => k_is)
    (case l36 => k_is)
    (case c36 => k_is)
    (case k36 => k_is)
    (case a37 => k_is)
    (case l37 => k_is)
    (case c37 => k_is)
    (case k37 => k_is)
    (case a38 => k_is)
    (case l38 => k_is)
    (case c38 => k_is)
    (case k38 => k_is)
    (case z0 => k_is)
    (case z1 => k_is)
    (case z2 => k_is)
    (case z3 => k_is)
    (case z4 => k_is)
    (case z5 => k_is)
    (case z6 => k_is)
    (case z7 => k_is)
    (case z8 => k_is)
    (case z9 => k_is)
    (case z10 => k_is)
    (case z11 => k_is)
    (case aC => k_is)
    (case pgC => k_is)
    (case hdC => k_is)
    (case poC => k_is)
    (case saC => k_is)
    (case mkC => k_is)
    (case kcC => k_is)
    (case nfC_pins => k_is)
    (case nfC_cords => k_is)
    (case iAC => k_is)
    (case iMC => k_is)
    (case i39 => k_is)
    (case n39 => k_is)
    (case l39 => k_is)
    (case c39 => k_is)
    (case k39 => k_is)
    (case i40 => k_is)
    (case n40 => k_is)
    (case l40 => k_is)
    (case c40 => k_is)
    (case k40 => k_is)
    (case i41 => k_is)
    (case n41 => k_is)
    (case l41 => k_is)
    (case c41 => k_is)
    (case k41 => k_is)
    (case i42 => k_is)
    (case n42 => k_is)
    (case l42 => k_is)
    (case c42 => k_is)
    (case k42 => k_is)
    (case lTC => k_is)
    (case aN => k_is)
    (case aA => k_is)
    (case aB => k_is)
    (case a_x0 => k_is)
    (case a_x1 => k_is)
    (case a_x2 => k_is)
    (case lRe => k_is)
    (case iRe => k_is)
    (case opD => k_is)
    (case tpD => first | rfl | decide +kernel)
    (case zS => k_is)
    (case zV => k_is)
    (case lN => k_is)
    (case saN => k_is)
    (case eN => k_is)
    (case tN => k_is)
    (case kN => k_is)
    (case iuN => k_is)
    (case tuN => k_is)
    (case luN => k_is)
    (case cuN => k_is)
    (case lcN => k_is)
    (case ldN => k_is)
    (case cvN => first | rfl | decide +kernel)
    (case cfN => first | rfl | decide +kernel)
    (case veN => k_is)
    (case meN => k_is)
    (case gaN => k_is)
    (case ggN => k_is)
    (case hN => k_is)
    (case caN => k_is)
    (case moN => k_is)
    (case sdN => k_is)
    (case n0N => k_is)
    (case qNDA => k_is)
    (case qNDB => k_is)
    (case qNx1 => k_is)
    (case qNx2 => k_is)
    (case qNx0 => k_is)
    (case lA => k_is)
    (case saA => k_is)
    (case eA => k_is)
    (case tA => k_is)
    (case kA => k_is)
    (case iuA => k_is)
    (case tuA => k_is)
    (case luA => k_is)
    (case cuA => k_is)
    (case lcA => k_is)
    (case ldA => k_is)
    (case cvA => first | rfl | decide +kernel)
    (case cfA => first | rfl | decide +kernel)
    (case veA => k_is)
    (case meA => k_is)
    (case gaA => k_is)
    (case ggA => k_is)
    (case hA => k_is)
    (case caA => k_is)
    (case moA => k_is)
    (case sdA => k_is)
    (case n0A => k_is)
    (case qADN => k_is)
    (case qADB => k_is)
    (case qAx1 => k_is)
    (case qAx2 => k_is)
    (case qAx0 => k_is)
    (case lB => k_is)
    (case saB => k_is)
    (case eB => k_is)
    (case tB => k_is)
    (case kB => k_is)
    (case iuB => k_is)
    (case tuB => k_is)
    (case luB => k_is)
    (case cuB => k_is)
    (case lcB => k_is)
    (case ldB => k_is)
    (case cvB => first | rfl | decide +kernel)
    (case cfB => first | rfl | decide +kernel)
    (case veB => k_is)
    (case meB => k_is)
    (case gaB => k_is)
    (case ggB => k_is)
    (case hB => k_is)
    (case caB => k_is)
    (case moB => k_is)
    (case sdB => k_is)
    (case n0B => k_is)
    (case qBDN => k_is)
    (case qBDA => k_is)
    (case qBx1 => k_is)
    (case qBx2 => k_is)
    (case qBx0 => k_is)
    (case ic_DN => k_is)
    (case tc_DN => k_is)
    (case ic_DA => k_is)
    (case tc_DA => k_is)
    (case ic_DB => k_is)
    (case tc_DB => k_is)
    (case ic_x0 => k_is)
    (case tc_x0 => k_is)
    (case ic_x1 => k_is)
    (case tc_x1 => k_is)
    (case ic_x2 => k_is)
    (case tc_x2 => k_is)
