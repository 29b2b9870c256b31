import PyProof.Rows.All
import Wide.All
import OpenK.AllK
import Wide.FinOn
import HandS.ForMost
import HandS.IsInst
import HandS.Style
import HandS.Defaults
import HandS.MakeKwOnly
import HandS.Conv
import HandS.Sort
import HandS.SortRule
import HandS.Deep
import HandS.Property
import HandS.TupSets
import HandS.Codes
import HandS.ExcCtx
import HandS.Comp
import HandS.Exc
import HandS.ExcInit
import HandS.ExcField
import HandS.ExcIs
import HandS.TryOnly
import HandS.Nested
import HandS.FStr
import KE.KExcSuper
import HandS.SetFor
import HandS.ExcOwn
import KE.KExcIs
import KE.DataFind
import HandS.HotCalls
import HandS.WordsExc
import HandS.Text
import HandS.StrMore
import HandS.TupAny
import PyProof.Rows.StrAscii
import HandS.More
import HandS.WrittenGet
import KE.GoesMore
import PyProof.EnumMake
import HandS.Iter
import HandS.Walk
import HandS.RaiseMore
import KE.DataEq
import HandS.ReplaceLit
import HandS.ReplaceList
import HandS.SlotsOwn
import KE.KOpsOwn
import HandS.Small
import HandS.MakeKw
import PySem.Challenge.RW_rimcords_k45_course_notes
set_option Elab.async false
set_option linter.all false
set_option maxRecDepth 100000
/-! Rules of my own for the hand layer. -/
namespace Own
open PySem PySem.Spec PyProof.Rows L2
/-- the two ints of a pair that stands in the heap -/
def kOf (H : Hp) (v : V) : Int × Int := match v with
  | .ref a => match H a with
    | some (.tup [.int i, .int j]) => (i, j)
    | _ => (0, 0)
  | _ => (0, 0)
theorem kOf_at {H : Hp} {a : Addr} {i j : Int} (h : H a = some (.tup [.int i, .int j])) : kOf H (.ref a) = (i, j) := by
  show (match H a with | some (.tup [.int i, .int j]) => (i, j) | _ => (0, 0)) = (i, j)
  rw [h]
def rSortedDT : List V → Hp → VK → Prop := fun vs H Q => ∃ (d : Addr) (kvs : List (List Key × V)), vs = [V.ref d] ∧ Rd H d (.dT kvs) ∧ (∀ kv ∈ kvs, ∃ i j : Int, kv.1 = [Sum.inl i, Sum.inl j]) ∧
  ∀ (bs : List Addr) (ys : List V) (p : Addr), IsKeys H kvs bs → SrtO.Srtd (ltP (kOf H)) ys → SrtO.Stb (ltP (kOf H)) ys (bs.map V.ref) → H p = none → Q (.ref p) (upd H p (.lst ys))
section
variable {X : Cx}
theorem paired_right {α β : Type} {R : α → β → Prop} {xs : List α} {ys : List β} (h : Paired R xs ys) : ∀ y ∈ ys, ∃ x ∈ xs, R x y := by
  induction h with
  | nil => intro y hy; cases hy
  | cons h t ih =>
    intro y hy
    rcases List.mem_cons.mp hy with e | e
    · subst e
      exact ⟨_, List.mem_cons_self, h⟩
    · obtain ⟨x, hx, hr⟩ := ih y e
      exact ⟨x, List.mem_cons_of_mem _ hx, hr⟩
theorem cr_sortedDT (hc : X.calm = true) : CallR X (.builtin "sorted") rSortedDT := by
  intro pins s σ H xs us Q I r h
  obtain ⟨d, kvs, rfl, hd, hkv, q⟩ := h
  obtain ⟨u, rfl, rx⟩ := r.one
  cases rx
  obtain ⟨z, hs, ks, pr, o, es, ep, ho, hx, hdt, he, hn⟩ := (show ObjOk X.prog X.w H s.heap d (.dT kvs) from hd.ok I.hok)
  have l1 : es.size = ks.length := size_of_entries he
  have l2 : kvs.length = ks.length := Paired.length pr
  refine Calls.call_function_entry PyProof.Rows.kind_sorted PyProof.Rows.plain_sorted PyProof.Rows.entry_sorted (PyProof.Rows.args_sorted1 _) ?_
  unfold Builtin.«sorted»
  refine wpAny_bind (m := checkCount "sorted" 1 1 _) (wpAny_pure ?_)
  refine wpAny_bind (PySem.W.kdu_collect (A := X.A.in1) (kdl_raw hs hx hdt) (I.ok.hd hc) ho (by omega) fun h' tk acc' kp it => ?_)
  have ea : acc'.toList = ks.map fun x => Value.ref x.2.1 := by
    have hl : acc'.toList.length = ks.length := by rw [Array.length_toList, it.1]; exact l1
    apply List.ext_getElem?
    intro j
    rw [List.getElem?_map]
    cases hj : acc'.toList[j]? with
    | none =>
      have h1 := List.getElem?_eq_none_iff.mp hj
      rw [List.getElem?_eq_none (by omega)]
      all_goals rfl
    | some v =>
      obtain ⟨en, hen, hv⟩ := it.2 j v (by rw [← Array.getElem?_toList]; exact hj)
      have qe := entry_at he j
      rw [hen] at qe
      cases hb : ks[j]? with
      | none =>
        rw [hb] at qe
        exact nomatch (show some en = none from qe)
      | some b =>
        rw [hb] at qe
        have e2 : en = entryOfKey (tupleKind (mixKind X.prog X.w)) b := Option.some.inj qe
        rw [hv, e2]
        all_goals rfl
  have hal : acc'.toList.length ≤ sizeLine := by rw [ea, List.length_map]; omega
  have I1 : Inv X pins σ H { s with heap := h', toks := tk } := I.kept kp
  have keys := isKeys_of pr
  have hpair : ∀ v ∈ acc'.toList, ∃ t i j, v = Value.ref t ∧ H t = some (.tup [.int i, .int j]) := fun v hv => by
    rw [ea] at hv
    obtain ⟨x, hx, rfl⟩ := List.mem_map.mp hv
    obtain ⟨kv, hkm, hb⟩ := paired_right keys x.2.1 (List.mem_map.mpr ⟨x, hx, rfl⟩)
    obtain ⟨i, j, e⟩ := hkv kv hkm
    rw [e] at hb
    exact ⟨_, i, j, rfl, hb⟩
  refine wpAny_bind (wpAny_newList ?_ hal)
  have hoL : (h'.push (seqObj "list" acc'.toList.toArray 0)).get? h'.objs.size = some (seqObj "list" acc'.toList.toArray 0) := Heap.get?_push_size _ rfl
  have hp : ∀ v ∈ acc'.toList, Srt.IsPair (h'.push (seqObj "list" acc'.toList.toArray 0)) v (kOf H (backV v)).1 (kOf H (backV v)).2 := fun v hv => by
    obtain ⟨t, i, j, rfl, ht⟩ := hpair v hv
    obtain ⟨_, its2, r2, o, ho2, hc2, n2, hd2⟩ := I1.hok _ _ ht
    obtain ⟨u1, u2, rfl, ri, rj⟩ := vals2 r2
    obtain ⟨t1, rfl⟩ := ri
    obtain ⟨t2, rfl⟩ := rj
    rw [show backV (Value.ref t) = V.ref t from rfl, kOf_at ht]
    exact ⟨t, o, t1, t2, n2, rfl, Heap.get?_push_of_some _ ho2, hc2, hd2⟩
  show wpAny _ _ _ _ _ { s with heap := h'.push (seqObj "list" acc'.toList.toArray 0), toks := tk }
  refine wpAny_bind (wpAny_holding (wpAny_call_entry PyProof.Rows.slot_list_sort ⟨_, hoL, rfl⟩ PyProof.Rows.entry_list_sort
    (SrtO.list_sort_ord (s := { s with heap := h'.push (seqObj "list" acc'.toList.toArray 0), toks := tk }) (SrtO.swo_lex fun v => kOf H (backV v)) hoL hal (fun h2 => ?_) fun out hs hb => ⟨_, rfl, ?_⟩) (PyProof.Rows.args_list_sort _)))
  · refine SrtO.pairs_sortableO (s := { s with heap := h'.push (seqObj "list" acc'.toList.toArray 0), toks := tk }) (by omega) hp fun o e => ?_
    have e' : some o = some (seqObj "list" acc'.toList.toArray 0) := e.symm.trans hoL
    cases e'
    intro c
    exact absurd (Value.type.inj c) (by decide)
  · obtain ⟨e', he'⟩ := PyProof.Rows.sortedHeap_at (vs := acc'.toList) (out := out.toArray) hoL
    have hrefs : ∀ u ∈ out, ∃ a, u = Value.ref a := fun u hu => by
      obtain ⟨t, i, j, e, _⟩ := hpair u (hb.perm.mem_iff.mp hu)
      exact ⟨t, e⟩
    have hb2 : SrtO.Stb (ltP (kOf H)) (out.map backV) ((ks.map fun x => x.2.1).map V.ref) := by
      have e1 : ((ks.map fun x => x.2.1).map V.ref) = acc'.toList.map backV := by
        rw [ea, List.map_map, List.map_map]
        rfl
      rw [e1]
      exact SrtO.Stb.map (ltP_swo (kOf H)) backV hb
    have hlen : (out.map backV).length ≤ sizeLine := by
      rw [List.length_map, hb.perm.length_eq]
      exact hal
    refine wpAny_pure ⟨_, rfl, .ref h'.objs.size, upd H h'.objs.size (.lst (out.map backV)), I1.laid (t' := tk) (fun b u e => ?_) (Nat.le_refl _)
      (show ObjOk X.prog X.w _ _ _ (.lst (out.map backV)) from ⟨hlen, out, e', vals_back hrefs, by exact he'⟩), rfl, q _ _ _ keys (SrtO.srtd_map hs) hb2 (I1.hok.fresh (Nat.le_refl _))⟩
    have hbn : b < h'.objs.size := Heap.lt_size e
    rw [PyProof.Rows.sortedHeap_old (Nat.ne_of_lt hbn) (by rw [size_push']; exact Nat.lt_succ_of_lt hbn)]
    exact Heap.get?_push_of_some _ e
/-- len(o), o an instance of an own class with a __len__ -/
def rLenOwn (C : Addr) (sp : Sp) (E : XK) : List V → Hp → VK → Prop := fun vs H Q => ∃ (a dx : Addr) (fs : List (Str × V)), vs = [V.ref a] ∧ H a = some (.ins C dx fs) ∧ sp [V.ref a] H (fun v H' => ∃ n : Nat, v = .int (n : Int) ∧ n ≤ sizeLine ∧ Q (.int (n : Int)) H') E
theorem cr_lenOwn {CX : CXT} {k : Nat} {C f : Addr} {fd : FuncData} {ps : List Str} {sp : Sp} {E : XK} (hm : Meth X.K C "__len__" f) (F : FnOk X.prog X.w X.K X.mg X.base CX k f fd ps sp) (hr : Room (k + 1) X.A) (hb : Binds X.K fd ps []) (hx : Passes CX X.nox E) :
    CallR X (.builtin "len") (rLenOwn C sp E) := by
  intro pins s σ H xs us Q I r h
  obtain ⟨a, dx, fs, rfl, ea, q⟩ := h
  obtain ⟨u, rfl, rx⟩ := vals1 r
  cases rx
  obtain ⟨mA, O, _, _, _, _⟩ := ins_get I.hok ea
  obtain ⟨od, J, _⟩ := O.look
  have hl : [Value.ref a].length = ps.length := (F.len _ _ _ _ q : _)
  apply Calls.call_function_entry kind_len plain_len entry_len (args_len1 _)
  show wpAny _ _ (Builtin.«len» _) _ _ _
  unfold Builtin.«len»
  apply wpAny_bind (m := oneArg "len" _)
  apply wpAny_pure
  apply wpAny_bind (m := callSpecial? (.ref a) (Str.ofString "__len__"))
  apply PySem.W.special_fn I.kIn J hm.at_ (beq_iff_eq.mp hm.fn)
  apply wpAny_call
  refine codeAny_mono (F.run X.A.in1 X.stack s H ⟨[.ref a], []⟩ [.ref a] [V.ref a] _ E hr.in1 I.env0.in1 (hb s [.ref a] I.kIn hl) (.cons rfl .nil) q) fun r s' hq => ?_
  rcases r with e | fl
  · exact False.elim (hx pins σ H s e s' (I.wish _) hq)
  · cases fl <;> first | exact False.elim hq | skip
    rename_i u
    obtain ⟨v, H', I3, rv, n, ev, hn, q3⟩ := I.after hq
    subst ev
    obtain ⟨t, et⟩ := rv
    subst et
    have h63 : sizeLine < 2 ^ 63 := by decide
    apply wpAny_bind
    apply wpAny_holding
    apply wpAny_pure
    apply wpAny_bind
    apply wpAny_letGo
    show wpAny _ _ (if (n : Int) < 0 then _ else _) _ _ _
    rw [if_neg (by omega)]
    show wpAny _ _ (if (n : Int) ≥ 2 ^ 63 then _ else _) _ _ _
    rw [if_neg (by omega)]
    apply wpAny_bind
    apply wpAny_mkInt
    exact wpAny_pure ⟨_, rfl, .int (n : Int), H', I3.tok _, ⟨_, rfl⟩, q3⟩
/-- for x in xs, xs a list or a tuple -/
def iSeq (K : PySem.W.Frag) (ta : TE) : TI := fun σ H R => ta σ H fun x H1 => ∃ a, x = .ref a ∧ (((∃ xs, SqL K H1 a xs) ∧ R (Itl K a) H1) ∨ ((∃ xs, SqT K H1 a xs) ∧ R (Itt K a) H1))
theorem pi_seq {tg l : Expr} {tl : TE} (hl : PE X l tl) : PI X tg l (iSeq X.K tl) := by
  refine ⟨fun pins s σ H R I h => thn (hl.run pins s σ H _ I h) ?_⟩
  rintro v s1 ⟨x, H1, I1, r1, a, rfl, q | q⟩
  all_goals
    obtain ⟨⟨xs, hq⟩, q⟩ := q
    obtain rfl : v = Value.ref a := r1
    have fresh := I1.fpOk (Nat.le_refl s1.heap.objs.size) (I1.hok.fresh (Nat.le_refl _))
    have older : ∀ {u : Obj}, Inv X pins σ H1 { s1 with heap := s1.heap.push u, toks := s1.toks } := fun {u} => I1.kept (t' := s1.toks) fun b o e => Heap.get?_push_of_some _ e
  · obtain ⟨its, rv, p, hz⟩ := I1.list hq
    exact wpAny_pyIter_list p.isList ⟨_, [s1.heap.objs.size], _, _, H1, rfl, older, turn_list a _, ⟨_, Heap.get?_push_size _ rfl, rfl, rfl⟩, fun b hb => by rw [List.mem_singleton.mp hb]; exact fresh, q⟩
  · obtain ⟨its, rv, p, hz⟩ := I1.tuple hq
    exact wpAny_pyIter_tuple (show s1.heap.IsTuple a its.toArray from p) ⟨_, [s1.heap.objs.size], _, _, H1, rfl, older, turn_tuple a _, ⟨_, Heap.get?_push_size _ rfl, rfl, rfl⟩, fun b hb => by rw [List.mem_singleton.mp hb]; exact fresh, q⟩
/-- the loop's rule for both -/
def SqB (K : PySem.W.Frag) (H : Hp) (a : Addr) (xs : List V) : Prop := SqL K H a xs ∨ SqT K H a xs
end
end Own

namespace Own
open PySem PySem.Spec PyProof.Rows L2
/-! ### a list comprehension whose element may raise -/
def cEnd (M : Model) (A : Around) (E : Value → Shared → Prop) (use : Option (Value → Sem Unit)) (Q : Value → Shared → Prop) (acc : Value) (C : Addr) (fr : Option Addr) : Result → Shared → Prop
  | .ok f, t => compPost M A E use Q acc C (.ok f) t
  | .error u, t => ∃ m, t.heap.Ns C m ∧ ∀ g, Heap.SameBut C t.heap g → ∀ c1 : Env, c1.locals = C → c1.frame = fr →
      wpAny M A (passOn "comprehension.variables-let-go" u c1 : Sem Value) (fun _ _ => False) E { t with heap := g }
section
variable {M : Model} {A : Around} {E : Value → Shared → Prop} {s : Shared} {env : Env}
theorem wpAny_compE {e : Expr} {scope : Scope} {pos : Pos} {mk first : Sem Value} {g : Comprehension} {gs : List Comprehension} {cl : List (Str × Addr)} {use : Option (Value → Sem Unit)} {Q : Value → Shared → Prop}
    (h1 : clausesOf e = g :: gs) (h2 : ∀ y, foldedSetIterable g.iter env y = pure y) (h3 : closureFor scope env = pure cl) (h4 : scope.kind = .function) (h5 : ∀ y ∈ scope.names, y.2 = .local → scope.names.lookup y.1 = some .local)
    (run : wpAny M A first (fun y t1 => wpAny M A (pyIter y) (fun it t2 => wpAny M A mk (fun acc t3 => wpAny M A (newFunctionEnv scope env.globals cl [] env.qual none .none (some env))
      (fun ce t4 => codeAny M A (.compStart e 0 it acc { ce with scope := relabel scope env }) (cEnd M A E use Q acc ce.locals ce.frame) t4) E t3) E t2) E t1) E s) :
    wpAny M A (comprehension e scope env pos mk false first use) Q E s := by
  unfold comprehension
  rw [h3, h1]
  refine wpAny_bind (wpAny_mono run (fun y t1 r1 => ?_) fun _ _ z => z)
  refine wpAny_bind (wpAny_standAt (wpAny_bind (wpAny_of_eq (h2 y) (wpAny_bind (wpAny_holding (wpAny_mono r1 (fun it t2 r2 => ?_) fun _ _ z => z))))))
  refine wpAny_standIf (wpAny_bind (wpAny_mono r2 (fun acc t3 r3 => ?_) fun _ _ z => z))
  refine wpAny_bind (wpAny_pure (wpAny_bind (wpAny_mono r3 (fun ce t4 r4 => ?_) fun _ _ z => z)))
  dsimp only
  generalize hL : (scope.names.filter fun y => (y.2 == .local || y.2 == .cell) && y.1 != (".0" : Str)).reverse = vl
  have k1 : ∀ y ∈ vl, y.2 = .local → Env.kindOf { ce with scope := relabel scope env } y.1 = some .local := fun y hy hl => by
    rw [← hL] at hy
    exact lookup_relabel_local (h5 y (List.mem_filter.mp (List.mem_reverse.mp hy)).1 hl)
  have k2 : ∀ y ∈ vl.drop 1 ++ vl.take 1, y.2 = .local → Env.kindOf { ce with scope := relabel scope env } y.1 = some .local := fun y hy hl =>
    (List.mem_append.mp hy).elim (fun z => k1 y (List.mem_of_mem_drop z) hl) fun z => k1 y (List.mem_of_mem_take z) hl
  refine wpAny_holding (wpAny_bind (wpAny_attempt (wpAny_holding (wpAny_run (codeAny_mono r4 fun r t hr => ?_)))))
  cases r with
  | ok f =>
    cases use with
    | none =>
      obtain ⟨m, hn, hr⟩ := hr
      exact wpAny_bind (wpAny_holding (wpAny_comp_letGo (cenv := { ce with scope := relabel scope env }) h4 _ t m k1 hn fun g m2 _ sb => wpAny_pure (hr g sb)))
    | some u =>
      refine wpAny_bind (wpAny_rule (wpAny_bind (wpAny_holding (wpAny_mono hr (fun _ t5 hr5 => ?_) fun _ _ z => z))))
      obtain ⟨m, hn, hr5⟩ := hr5
      exact wpAny_bind (wpAny_comp_letGo (cenv := { ce with scope := relabel scope env }) h4 _ t5 m k2 hn fun g m2 _ sb => wpAny_pure (hr5 g sb))
  | error u =>
    obtain ⟨m, hn, hr⟩ := hr
    exact wpAny_bind (wpAny_holding (wpAny_comp_letGo (cenv := { ce with scope := relabel scope env }) h4 _ t m k1 hn fun g m2 _ sb => wpAny_mono (hr g sb _ rfl rfl) (fun _ _ z => z.elim) fun _ _ z => z))
end
theorem frames_same {C : Addr} {B h h' : Heap} (sb : Heap.SameBut C h h') : ∀ {l : List Env}, h.FunFrames B l → C ∉ frs l → h'.FunFrames B l
  | [], _, _ => trivial
  | env :: l, hl, hn => by
    obtain ⟨hk, ⟨L, o, hf, hb, ho, hd⟩, hr⟩ := hl
    have nL : L ≠ C := fun z => hn (by rw [← z]; exact List.mem_filterMap.mpr ⟨env, List.mem_cons_self, hf⟩)
    refine ⟨hk, ⟨L, o, hf, hb, (sb.2 L nL).trans ho, hd⟩, frames_same sb hr fun z => hn ?_⟩
    obtain ⟨e, he, q⟩ := List.mem_filterMap.mp z
    exact List.mem_filterMap.mpr ⟨e, List.mem_cons_of_mem _ he, q⟩
theorem noteFrame_same {u : Value} {e1 e2 : Env} (h : e1.frame = e2.frame) : noteFrame u e1 = noteFrame u e2 := by
  unfold noteFrame PySem.frameOf
  rw [h]
/-- an exception of a call within a block whose locals stand at C -/
def XC (X : Cx) (E : XK) (pins : List (Addr × Obj)) (σ : L2.St) (C : Addr) (u : Value) (t : Shared) : Prop :=
  ∃ (a : Addr) (B : Heap) (sI : Shared) (H : Hp) (cls : Value) (d : Option Addr), u = .ref a ∧ Inv X pins σ H sI ∧ (∀ b o, sI.heap.get? b = some o → b ∉ frs X.stack → B.get? b = some o) ∧ sI.heap.UpToSlots t.heap ∧
    HandSPX.FlyingZ B X.stack a (L2N.Zn cls d) t.heap ∧ H a = none ∧ t.os = sI.os ∧ AllBare t.gens ∧ E cls d H ∧ B.get? C = none ∧ sI.heap.get? C = none ∧ C ∉ frs X.stack ∧ ∃ m, t.heap.Ns C m
section
variable {X : Cx} {pins : List (Addr × Obj)} {σ : L2.St} {H : Hp} {s t : Shared} {C : Addr} {E : XK} {m : Str → Option Value} {u : Value}
theorem xc_call (I : Inv X pins σ H s) (f : FpOk X pins H C) (nS : C ∉ frs X.stack) (hn : s.heap.Ns C m) (c : L2N.CX X.prog X.w X.stack H s E u t) : XC X E pins σ C u t := by
  obtain ⟨a, B, H', cls, d, rfl, fl, hok, ub, na, os, ag, hE⟩ := c
  obtain ⟨G, g1, g2⟩ := restrict t.heap fun b => ((B.get? b).isSome || decide (b ∈ frs X.stack)) && decide (b ≠ C)
  obtain ⟨B1, b1, b2⟩ := restrict B fun b => decide (b ≠ C)
  have st : B.StaysIn t.heap := fl.1
  have hC0 : ∃ o, s.heap.get? C = some o := let ⟨o, _, _, e, _⟩ := hn; ⟨o, e⟩
  obtain ⟨oC, eC⟩ := hC0
  have hC1 : H' C = none := ub.free C oC eC f.1
  have gB : ∀ b o, b ≠ C → B.get? b = some o → G.get? b = some o := fun b o n e => by
    rw [g1 b (by simp [e, n])]
    exact st b o e
  have gF : ∀ b, b ≠ C → b ∈ frs X.stack → G.get? b = t.heap.get? b := fun b n hb => g1 b (by simp [hb, n])
  have og : ∀ b o, G.get? b = some o → t.heap.get? b = some o ∧ b ≠ C ∧ ((B.get? b).isSome = true ∨ b ∈ frs X.stack) := fun b o e => by
    cases q : (((B.get? b).isSome || decide (b ∈ frs X.stack)) && decide (b ≠ C)) with
    | false => rw [g2 b q] at e; cases e
    | true =>
      rw [g1 b q] at e
      simp only [Bool.and_eq_true, Bool.or_eq_true, decide_eq_true_eq] at q
      exact ⟨e, q.2, q.1⟩
  have bn : B1.get? C = none := b2 C (by simp)
  have b1' : ∀ b, b ≠ C → B1.get? b = B.get? b := fun b n => b1 b (by simp [n])
  have bo : ∀ b o, B1.get? b = some o → B.get? b = some o := fun b o e => by
    by_cases n : b = C
    · rw [n, bn] at e; cases e
    · rw [← b1' b n]; exact e
  have gn : G.get? C = none := g2 C (by simp)
  refine ⟨a, B1, { s with heap := G, gens := t.gens, drawn := t.drawn, toks := t.toks }, H', cls, d, rfl, ?_, fun b o e hb => ?_, Heap.UpToSlots.of_keeps fun b o e => (og b o e).1, ?_, na, os, ag, hE, bn, gn, nS, ?_⟩
  · refine I.call (ch := [C]) ⟨fun b o e n hb hc => gB b o (fun z => hc (by simp [z])) (ub.keep b o e n hb), fun b o e n hb hc => ?_, fun b o e n _ => ub.free b o e n, fun b o e hc => ?_, ub.tups, ub.frzs, ub.tbls⟩
      (fun b w e => (hok b w e).stay (fun c v hc q => gB c v (fun z => ?_) q) (fun _ q => q) fun _ _ q => q) ag (fun b hb => ?_)
    · have n : b ≠ C := fun z => hc (by simp [z])
      obtain ⟨sl, q⟩ := ub.slot b o e hb
      exact ⟨sl, by rw [gF b n hb]; exact q⟩
    · have n : b ≠ C := fun z => hc (by simp [z])
      by_cases hb : b ∈ frs X.stack
      · obtain ⟨sl, q⟩ := ub.slot b o e hb
        exact ⟨_, by rw [gF b n hb]; exact q⟩
      · obtain ⟨o', q⟩ := ub.there b o e hb
        exact ⟨o', gB b o' n q⟩
    · rw [z] at hc
      rcases hc with y | y
      · rw [← y, hC1] at e; cases e
      · rw [hC1] at y; cases y
    · have e : b = C := by simpa using hb
      rw [e]
      exact ⟨f.2.2.2.1, f.2.1, f.2.2.2.2.1, f.2.2.2.2.2⟩
  · obtain ⟨e', n, h⟩ := og b o e
    rcases h with h | h
    · obtain ⟨o', q⟩ := Option.isSome_iff_exists.mp h
      have z := st b o' q
      rw [e'] at z; cases z
      rw [b1' b n]
      exact q
    · exact absurd h hb
  · obtain ⟨f1, f2, f3, f4⟩ := fl
    have aC : B1.get? a = none := by
      cases q : B1.get? a with
      | none => rfl
      | some o => have z := bo a o q; rw [f2] at z; cases z
    refine ⟨fun b o e => f1 b o (bo b o e), aC, funFrames_none f3 fun L hL => ?_, ?_⟩
    · cases q : B1.get? L with
      | none => rfl
      | some o =>
        have z := bo L o q
        rw [(f3.mem hL).1] at z; cases z
    · obtain ⟨oe, vs, T, oT, ts, he, hz, hd, h1, hnT, r⟩ := f4
      refine ⟨oe, vs, T, oT, ts, he, hz, hd, h1, ?_, r⟩
      cases q : B1.get? T with
      | none => rfl
      | some o => have z := bo T o q; rw [hnT] at z; cases z
  · -- the block's dict
    obtain ⟨o, es, ep, e, hd, r⟩ := hn
    rw [eC] at e; cases e
    exact ⟨m, oC, es, ep, st C _ (ub.keep C oC eC f.1 nS), hd, r⟩
theorem xc_note {ce : Env} {acc : Value} {use : Option (Value → Sem Unit)} {Qf : Value → Shared → Prop} (hs : X.stack = X.env :: X.outer) (hf : X.env.frame = some X.env.locals) (tk : L2N.Takes X fun cls d _ H => E cls d H)
    (hfr : ce.frame = X.env.frame) (x : XC X E pins σ C u t) : notedBy (model X.prog X.w) X.A ce (fun e t1 => cEnd (model X.prog X.w) X.A X.xe use Qf acc C X.env.frame (.error e) t1) u t := by
  obtain ⟨a, B, sI, H, cls, d, rfl, I, nb, up, fl, na, os, ag, hE, bC, iC, nS, m, hn⟩ := x
  show wpAny _ _ (noteFrame _ ce) _ _ _
  rw [noteFrame_same hfr]
  have fr : X.A.frames = some (X.env :: X.outer) := by rw [I.ok.frames, hs]
  rw [hs] at fl
  refine PXN.looks_onZ L2N.Zn.steady fr hf fl fun h1 hh up1 => ?_
  rw [← hs] at hh
  refine ⟨m, up1.ns hn, fun g sb c1 e1 e2 => ?_⟩
  obtain ⟨k1, k2, k3, k4⟩ := hh
  have sb2 : ∀ b, b ≠ C → g.get? b = h1.get? b := sb.2
  have g1 : B.StaysIn g := fun b o e => (sb2 b fun z => by rw [z, bC] at e; cases e).trans (k1 b o e)
  have g3 : g.FunFrames B X.stack := frames_same sb k3 nS
  obtain ⟨oC, esC, epC, eC, dC, _⟩ := up1.ns hn
  have g4 : HandSPX.TracedZ g B a (L2N.Zn cls d) (rawInt X.env.locals) := by
    obtain ⟨oe, vs, T, oT, ts, he, hz, hd, h1', hnT, hTe, hT, hdT, h3⟩ := k4
    have eC' : h1.get? C = some oC := eC
    refine ⟨oe, vs, T, oT, ts, (sb2 a fun z => ?_).trans he, hz, hd, h1', hnT, hTe, (sb2 T fun z => ?_).trans hT, hdT, h3⟩
    · rw [z, eC'] at he; cases he; rw [dC] at hd; cases hd
    · rw [z, eC'] at hT; cases hT; rw [dC] at hdT; cases hdT
  unfold PySem.passOn
  obtain ⟨oe, vs, T, oT, ts, he, hz, hd, h1', r⟩ := id g4
  refine wpAny_bind (wpAny_field he hd h1' ?_)
  rw [if_neg (by simp)]
  refine wpAny_bind ?_
  refine HandSPX.setFlight_anyZ g1 g3 g4 fun h2 w1 w3 w4 up2 => wpAny_throw (tk _ _ ?_)
  rw [e2, hf] at w4
  refine ⟨a, B, sI, pins, σ, H, cls, d, rfl, I, nb, ?_, .inr (.inr ⟨w1, k2, w3, w4⟩), na, os, ag, hE⟩
  have up3 : sI.heap.UpToSlots g := fun b o e nf => by
    obtain ⟨sl, q⟩ := up.trans up1 b o e nf
    exact ⟨sl, (sb2 b fun z => by rw [z, iC] at e; cases e).trans q⟩
  exact up3.trans up2
end
section
variable {X : Cx} {E : XK}
/-- the block's context, its errors going out of the def -/
abbrev blkX (X : Cx) (s : Shared) (H : Hp) (scope : Scope) (ce : Env) (fp : List Addr) (xe : Value → Shared → Prop) : Cx := (X.blk s H scope ce fp).tr [] xe
theorem inv_blkX {X : Cx} {pins : List (Addr × Obj)} {σ : L2.St} {H G : Hp} {s t : Shared} {scope : Scope} {ce : Env} {fp : List Addr} (xe : Value → Shared → Prop) (I : Inv (X.blk s G scope ce fp) pins σ H t) : Inv (blkX X s G scope ce fp xe) pins σ H t :=
  ⟨I.ok.toTry _ _, I.os, I.bare, I.base, I.loc, I.cell, I.free, I.freeC, I.pin, I.hok, I.len⟩
theorem thnX {α : Type} {x : Sem α} {Q Q' : α → Shared → Prop} {M : Model} {A : Around} {E E' : Value → Shared → Prop} {s : Shared} (h : wpAny M A x Q E s) (hE : ∀ e s, E e s → E' e s) (hQ : ∀ a s, Q a s → Q' a s) : wpAny M A x Q' E' s := wpAny_mono h hQ hE
theorem lcX_core {pins : List (Addr × Obj)} {s : Shared} {σ : L2.St} {H : Hp} {Q : VK} {elt tg iter : Expr} {ifs : List Expr} {scope : Scope} {own : List (Str × Nat)} {pos pos' : Pos} {wi : TI} {g : TG} {tt : TT} {te : TE} {use : Option (Value → Sem Unit)} {Qf : Value → Shared → Prop}
    (hs : X.stack = X.env :: X.outer) (hf : X.env.frame = some X.env.locals) (tk : L2N.Takes X fun cls d _ H => E cls d H) (hc : X.calm = true) (hN : X.N.Nodup) (I : Inv X pins σ H s) (hi : PI X tg iter wi) (ok : BlkOk X.N X.env.scope scope own)
    (hg : ∀ s H C cl fp xe, PG (blkX X s H scope (compEnvC scope cl C X.env) fp xe) tg g) (ht : ∀ s H C cl fp xe, PTs (blkX X s H scope (compEnvC scope cl C X.env) fp xe) ifs tt)
    (he : ∀ s H C cl fp xe, (∀ σ, PassesAt (L2N.CX X.prog X.w) (blkX X s H scope (compEnvC scope cl C X.env) fp xe) σ E) → PE (blkX X s H scope (compEnvC scope cl C X.env) fp xe) elt te) (hsi : ∀ x, foldedSetIterable iter X.env x = pure x)
    (h : tLc wi g tt te (own.map (·.2)) σ H Q)
    (fin0 : ∀ D C s' m H', Inv X pins σ H' s' → Q (.ref D) H' → s'.heap.Ns C m → FpOk X pins H' C → compPost (model X.prog X.w) X.A X.xe use Qf (.ref D) C (.ok .next) s') :
    wpAny (model X.prog X.w) X.A (comprehension (.ListComp elt [⟨tg, iter, ifs, 0⟩] scope pos) scope X.env pos' (newList []) false (eval iter X.env) use) Qf X.xe s := by
  have fre : ∀ y ∈ scope.names, y.2 = .free → ∃ c, X.env.cells.lookup y.1 = some c := fun y hy e => (ok.free y hy e).elim (fun k => I.ok.has _ (.inl k)) fun k => I.ok.has _ (.inr k)
  refine wpAny_compE (use := use) rfl hsi (closure_ok fre) ok.kind (fun y hy e => by rw [ok.uniq y hy, e]) ?_
  refine thn (hi.run pins s σ H _ I h) fun xv s1 hx => thn hx fun itv s2 h2 => ?_
  obtain ⟨it, fp, tn, J, H2, e, I2, T, st2, f2, q⟩ := h2
  subst e
  refine wpAny_newObj_type (newEnv_comp ?_) (by show 0 ≤ sizeLine; decide)
  generalize hD : s2.heap.objs.size = D
  have hDn : H2 D = none := I2.hok.fresh (Nat.le_of_eq hD)
  obtain ⟨W, ⟨m0, w0⟩, turn⟩ := q D hDn
  generalize hs3 : ({ s2 with heap := s2.heap.push { cls := .type "list", data := .seq ([] : List Value).toArray } } : Shared) = s3
  have h3 : s3.heap = s2.heap.push { cls := .type "list", data := .seq ([] : List Value).toArray } := by rw [← hs3]
  have I3 : Inv X pins σ (upd H2 D (.lst [])) s3 := by
    rw [← hs3]
    exact I2.laid (t' := s2.toks) (fun b o e => Heap.get?_push_of_some _ e) (Nat.le_of_eq hD) ⟨Nat.zero_le _, [], 0, .nil, by rw [← hD]; exact Heap.get?_push_size _ rfl⟩
  have f3 : ∀ b ∈ fp, FpOk X pins (upd H2 D (.lst [])) b ∧ b < s3.heap.objs.size := fun b hb => by
    obtain ⟨o, e, _⟩ := T.obj _ _ st2 b hb
    have lt := Heap.lt_size e
    refine ⟨⟨?_, (f2 b hb).2⟩, by rw [h3, Heap.size_push]; exact Nat.lt_succ_of_lt lt⟩
    rw [upd_ne (by rw [← hD]; exact Nat.ne_of_lt lt)]
    exact (f2 b hb).1
  have st3 : tn 0 s3.heap := T.keep _ _ _ st2 fun b _ o e => by rw [h3]; exact Heap.get?_push_of_some _ e
  have I4 := block_start I3 ok hN f3
  generalize hcl : cellsFrom (s3.heap.objs.size + 1) scope.names (cloFrom X.env.cells scope.names []) = cl at I4
  have fC := I3.fpOk (Nat.le_refl _) (I3.hok.fresh (Nat.le_refl _))
  have nS : s3.heap.objs.size ∉ frs X.stack := fun z => by
    rcases List.mem_cons.mp (I3.stkSub _ z) with w | w
    · exact fC.2.1 w
    · exact fC.2.2.1 w
  generalize hxe : XC X E pins σ s3.heap.objs.size = xe
  generalize hH3 : upd H2 D (.lst []) = H3 at I3 I4 w0 f3 fC
  have pg := hg s3 H3 s3.heap.objs.size cl fp xe
  have pt := ht s3 H3 s3.heap.objs.size cl fp xe
  have back : ∀ {pY : List (Addr × Obj)} {σ' : L2.St} {H' : Hp} {s' : Shared}, Inv (blkX X s3 H3 scope (compEnvC scope cl s3.heap.objs.size X.env) fp xe) pY σ' H' s' → Inv X pins σ H' s' := fun {pY σ' H' s'} I' =>
    I3.call' (ch := fp) I'.os I'.base I'.hok I'.bare fun b hb => ⟨(f3 b hb).1.2.2.2.1, (f3 b hb).1.2.1, (f3 b hb).1.2.2.2.2.1, (f3 b hb).1.2.2.2.2.2⟩
  have pe := he s3 H3 s3.heap.objs.size cl fp xe fun σ' pY H' s' u t I' c => by
    rw [← hxe]
    obtain ⟨m, hn, _⟩ := I'.loc
    exact xc_call (back I') (I3.fpOk (Nat.le_refl _) I'.free) nS hn c
  show codeAny _ _ (.compStart (.ListComp elt [⟨tg, iter, ifs, 0⟩] scope pos) 0 (.ref it) (.ref D) (compEnvC scope cl s3.heap.objs.size X.env))
    (cEnd (model X.prog X.w) X.A X.xe use Qf (.ref D) s3.heap.objs.size X.env.frame) { s3 with heap := pushCells (s3.heap.push { cls := .type "dict", data := .dict #[] }) scope.names }
  have nfp : ∀ b ∈ fp, H3 b = none := fun b hb => (f3 b hb).1.1
  generalize hce : compEnvC scope cl s3.heap.objs.size X.env = ce at I4 pg pt pe back ⊢
  have cL : ce.locals = s3.heap.objs.size := by subst hce; rfl
  have cF : ce.frame = X.env.frame := by subst hce; rfl
  generalize hs4 : ({ s3 with heap := pushCells (s3.heap.push { cls := .type "dict", data := .dict #[] }) scope.names } : Shared) = s4 at I4 ⊢
  have st4 : tn 0 s4.heap := T.keep _ _ _ st3 fun b _ o e => by rw [← hs4]; exact pushCells_keeps _ _ _ _ (Heap.get?_push_of_some _ e)
  have out : ∀ u t, xe u t → notedBy (model X.prog X.w) X.A ce (fun e t1 => cEnd (model X.prog X.w) X.A X.xe use Qf (.ref D) s3.heap.objs.size X.env.frame (.error e) t1) u t := fun u t z => by
    rw [← hxe] at z
    exact xc_note hs hf tk cF z
  have I4' := inv_blkX xe I4
  have stat : ∀ {σ' : L2.St} {H' : Hp} {s' : Shared}, Inv (blkX X s3 H3 scope ce fp xe) [] σ' H' s' → (∀ b ∈ fp, H' b = none) → ∀ b ∈ fp, FpOk (blkX X s3 H3 scope ce fp xe) [] H' b := fun {σ' H' s'} I' hn b hb =>
    ⟨hn b hb, (I'.ok.exf b hb).1, I'.ok.exfs b hb, .inl hb, fun x c e => (I'.ok.exf b hb).2 x c e, fun p hp => nomatch hp⟩
  have loop : codeAny (model X.prog X.w) X.A (.compLoop (.ListComp elt [⟨tg, iter, ifs, 0⟩] scope pos) 0 (.ref it) (.ref D) ce) (cEnd (model X.prog X.w) X.A X.xe use Qf (.ref D) s3.heap.objs.size X.env.frame) s4 := by
    refine compLoop_any (fun n s' => ∃ i H', Inv (blkX X s3 H3 scope ce fp xe) [] (wipe σ (own.map (·.2))) H' s' ∧ tn i s'.heap ∧ (∀ b ∈ fp, H' b = none) ∧ W i n H') ?_ m0 ⟨0, H3, I4', st4, nfp, w0⟩
    rintro n s5 ⟨i, H5, I5, st5, n5, w5⟩
    rcases turn i n H5 w5 with ⟨stop, qq⟩ | ⟨go, Nx, hNx, step⟩
    · refine thnF (T.done (blkX X s3 H3 scope ce fp xe) rfl rfl rfl hc i [] s5 _ H5 (fun _ _ => False) I5 (stat I5 n5) st5 stop) fun r s6 ⟨hr, I6⟩ => ?_
      subst hr
      have nC : H5 s3.heap.objs.size = none := by
        have z : H5 ce.locals = none := I6.free
        rw [cL] at z
        exact z
      obtain ⟨m, hn, _⟩ := I6.loc
      have hn : s6.heap.Ns ce.locals m := hn
      rw [cL] at hn
      exact fin0 D s3.heap.objs.size s6 m H5 (back I6) qq hn (I3.fpOk (Nat.le_refl _) nC)
    · refine thnF (T.item (blkX X s3 H3 scope ce fp xe) rfl rfl rfl hc i [] s5 _ H5 (fun _ _ => False) I5 (stat I5 n5) st5 go) fun r s6 ⟨u, hr, h6⟩ => ?_
      subst hr
      refine thnF h6 fun _ s7 ⟨x, H7, I7, r7, y7, st7, n7⟩ => ?_
      have I7' := I7.pinned (stat I7 n7) (T.obj _ _ st7)
      refine thnX (pg.run _ s7 _ H7 x u _ I7' r7 (step x H7 y7)) out fun _ s8 ⟨σ8, H8, I8, hw8, q8⟩ => ?_
      refine thnX (pt.run _ s8 σ8 H8 _ I8 q8) out fun b s9 ⟨H9, I9, q9⟩ => ?_
      have fin : ∀ {s' : Shared} {H' : Hp}, Inv (blkX X s3 H3 scope ce fp xe) ([] ++ pinsAt fp s7.heap) σ8 H' s' → Nx H' → ∃ m, m < n ∧ ∃ i H', Inv (blkX X s3 H3 scope ce fp xe) [] (wipe σ (own.map (·.2))) H' s' ∧ tn i s'.heap ∧ (∀ b ∈ fp, H' b = none) ∧ W i m H' := fun {s' H'} I' nx => by
        obtain ⟨m', hm, w'⟩ := hNx H' nx
        have pin' : ∀ b ∈ fp, ∀ o, s7.heap.get? b = some o → s'.heap.get? b = some o ∧ H' b = none := fun b hb o e =>
          let z := I'.pin (b, o) (List.mem_append_right _ (List.mem_append_right _ (mem_pinsAt hb e)))
          ⟨z.1, z.2.1⟩
        refine ⟨m', hm, i + 1, H', (I'.unpinned (pins := [])).weak (by rw [← hw8, wipe_length]) (fun j v e => by rw [← hw8] at e; exact (wipe_some e).1), T.keep _ _ _ st7 fun b hb o e => (pin' b hb o e).1, fun b hb => ?_, w'⟩
        obtain ⟨o, e, _⟩ := T.obj _ _ st7 b hb
        exact (pin' b hb o e).2
      cases b with
      | false =>
        simp only [Bool.false_eq_true, if_false] at q9 ⊢
        exact fin I9 q9
      | true =>
        simp only [if_true] at q9 ⊢
        refine thnX (pe.run _ s9 σ8 H9 _ I9 q9) out fun z s10 ⟨yv, H10, I10, r10, acc, hD10, hz10, nx⟩ => ?_
        exact app_ok (X := blkX X s3 H3 scope ce fp xe) I10 hD10 hz10 r10 fun s11 I11 => fin I11 nx
  exact codeAny_compStart_list loop (T.self X.A 0 _ _ _ st4 loop)
/-- as a value -/
theorem pe_lcX {elt tg iter : Expr} {ifs : List Expr} {scope : Scope} {own : List (Str × Nat)} {pos : Pos} {wi : TI} {g : TG} {tt : TT} {te : TE}
    (hs : X.stack = X.env :: X.outer) (hf : X.env.frame = some X.env.locals) (tk : L2N.Takes X fun cls d _ H => E cls d H) (hc : X.calm = true) (hN : X.N.Nodup) (hi : PI X tg iter wi) (ok : BlkOk X.N X.env.scope scope own)
    (hg : ∀ s H C cl fp xe, PG (blkX X s H scope (compEnvC scope cl C X.env) fp xe) tg g) (ht : ∀ s H C cl fp xe, PTs (blkX X s H scope (compEnvC scope cl C X.env) fp xe) ifs tt)
    (he : ∀ s H C cl fp xe, (∀ σ, PassesAt (L2N.CX X.prog X.w) (blkX X s H scope (compEnvC scope cl C X.env) fp xe) σ E) → PE (blkX X s H scope (compEnvC scope cl C X.env) fp xe) elt te) (hsi : ∀ x, foldedSetIterable iter X.env x = pure x := by intro _; rfl) :
    PE X (.ListComp elt [⟨tg, iter, ifs, 0⟩] scope pos) (tLc wi g tt te (own.map (·.2))) := by
  constructor
  intro pins s σ H Q I h
  rw [eval_ListComp]
  refine lcX_core hs hf tk hc hN I hi ok hg ht he hsi h fun D C s' m H' I' q hn f => ⟨m, hn, fun g sb => ?_⟩
  exact ⟨.ref D, H', I'.turned (t' := s'.toks) (fun b o n e => (sb.2 b n).trans e) f.1 f.2.1 f.2.2.2.1 f.2.2.2.2.1 f.2.2.2.2.2, rfl, q⟩
end
end Own

/-! An own error class whose __init__ begins with super().__init__(text) and then stores its fields. -/
namespace Own
open PySem PySem.Spec PyProof.Rows L2 NdefX
abbrev supS (p0 p1 p2 p3 p4 : Pos) (e : Expr) (es : List Expr) : Stmt := .Expr (.Call (.Attribute (.Call (.Name "super" p0) [] [] p1) "__init__" p2) (e :: es) [] p3) p4
abbrev supF (name qual : Str) (params : Arguments) (body : List Stmt) (scope : Scope) (cc cda : Addr) : NF := ⟨name, qual, params, body, scope, [("__class__", cc)], cda⟩
section
variable {CX : CXT} {P : Program} {w : World} {K : PySem.W.Frag} {mg : Str → Option Value} {base : Heap} {k : Nat} {f cc cda D : Addr}
/-- what is known of the class, of its cell and of the code -/
structure ErrK (P : Program) (K : PySem.W.Frag) (mg : Str → Option Value) (D cc cda : Addr) : Prop where
  oex : OexC K D
  cell : ∃ cl cld csl, K.lookup cc = some ⟨cl, cld, .cell (some (.ref D)), csl⟩
  code : ∃ ccl cdd vs ccs file tf, K.lookup cda = some ⟨ccl, cdd, .fields vs, ccs⟩ ∧ vs[2]? = some (.str file tf) ∧ ((P.main.file : Str) == file) = true
  sup : PySem.W.ks_superIn K D D "__init__" = some (some (.builtin "ValueError.__init__"))
  ve : PySem.W.subIn K (.ref D) (.type "ValueError") = some true
  self : PySem.W.mroIn K D (.ref D) = some true
  opq : PySem.W.nsIn K cStatics "thirdparty.any" = some none
  mgs : mg "super" = none
  top : (P.main.scope.names.lookup ("super" : Str)).isSome = false
theorem one_look {cc c : Addr} {y : Str} (hy : List.lookup y [(("__class__" : Str), cc)] = some c) : y = "__class__" ∧ c = cc := by
  simp only [List.lookup] at hy
  split at hy
  · rename_i q
    exact ⟨eq_of_beq q, (Option.some.inj hy).symm⟩
  · cases hy
theorem exo_self {H : Hp} {a D : Addr} (e : H a = some (exo a D none)) : upd H a (exo a D none) = H := by
  funext b
  by_cases hb : b = a
  · rw [hb, upd_same, e]
  · rw [upd_ne hb]
theorem fn_err {N ps : List Str} {sp : Sp} {name qual : Str} {params : Arguments} {scope : Scope} {rest : List Stmt} {p0 p1 p2 p3 p4 : Pos} {e : Expr} {es : List Expr} {ar : Arg} {dV kV doc pm ct oc : Value} {an od : Option Addr} {osl : Array (Option Value)} (T : ErrK P K mg D cc cda)
    (lk : K.lookup f = some ⟨oc, od, .func (PySem.W.fnX name qual params (supS p0 p1 p2 p3 p4 e es :: rest) scope [("__class__", cc)] dV kV doc pm an (.ref cda) ct), osl⟩) (hcd : PySem.W.codeIn K (.ref cda) qual = true)
    (S : NScope N ps ["__class__"] scope) (hp : (params.posonlyargs ++ params.args).head? = some ar) (hps : ps[0]? = some ar.arg) (hks : scope.names.lookup ("super" : Str) = some .globalImplicit)
    (len : ∀ vs H Q E, sp vs H Q E → vs.length = ps.length)
    (hbody : ∀ (A : Around) (outer : List Env) (s : Shared) (H : Hp) (vs : List V) (Q : VK) (E : XK), Room k (A.deeper (envF (supF name qual params (supS p0 p1 p2 p3 p4 e es :: rest) scope cc cda) f s.heap.objs.size)) → sp vs H Q E →
      ∃ (a : Addr) (ta : TA) (t : TS), vs[0]? = some (.ref a) ∧ H a = some (exo a D none) ∧
        PA (ncx CX P w K mg base N (supF name qual params (supS p0 p1 p2 p3 p4 e es :: rest) scope cc cda) f A outer s H E) (e :: es) ta ∧
        PSs (ncx CX P w K mg base N (supF name qual params (supS p0 p1 p2 p3 p4 e es :: rest) scope cc cda) f A outer s H E) rest t ∧
        ta (startF N vs [none]) H fun ws H1 => ws.length ≤ 1000 ∧ H1 a = some (exo a D none) ∧ t { nx := fun _ H' => Q .non H', rt := Q } (startF N vs [none]) H1)
    (he : ∀ env : Env, starEach (e :: es) env = (false, eval e env) :: starEach es env := by intro _; rfl) (hpl : ∀ env : Env, (backTo p3 (starEach es env)).any (·.1) = false := by intro _; rfl) {pl : Sem Bool}
    (hev : ∀ env : Env, eval (.Call (.Attribute (.Call (.Name "super" p0) [] [] p1) "__init__" p2) (e :: es) [] p3) env = (do
      let ov ← attributeBase (.Call (.Name "super" p0) [] [] p1) "__init__" env (eval (.Call (.Name "super" p0) [] [] p1) env)
      standAt p2.atName
      let (f, first) ← holding [ov] (getMethod ov "__init__" pl)
      callWith p3 f first (backTo p3 (starEach (e :: es) env)) []) := by intro _; rfl) :
    FnOk P w K mg base CX (k + 1) f (PySem.W.fnX name qual params (supS p0 p1 p2 p3 p4 e es :: rest) scope [("__class__", cc)] dV kV doc pm an (.ref cda) ct) ps sp := by
  refine ⟨len, fun A outer s H args us vs Q E hr e0 hb r hsp => ?_⟩
  have hl := len _ _ _ _ hsp
  have kpb : ∀ b o, base.get? b = some o → s.heap.get? b = some o := fun b o e => (e0.bs b o e).1
  have KX : K.In s.heap := e0.mod.kin.keeps kpb
  have lim : s.heap.NoLimit := e0.mod.nolimit.keeps kpb
  obtain ⟨cl, cld, csl, hcell⟩ := T.cell
  obtain ⟨ccl, cdd, cvs, ccs, file, tf, hcode, hvs, hfile⟩ := T.code
  have hcc : H cc = none := (e0.bs _ _ (e0.mod.kin _ _ hcell)).2
  refine PySem.ks_codeAny_call_defAt (binds := ps.zip us) hr.depth (KX _ _ lk) rfl lim (PySem.W.codeRec_of KX hcd) rfl hb S.nocell (fun ⟨n, _⟩ hy => S.par n (List.of_mem_zip hy).1) (fun h₁ hns kp => ?_) S.co S.gen S.kind
  show PySem.wpAt (model P w) (A.deeper (envF (supF name qual params (supS p0 p1 p2 p3 p4 e es :: rest) scope cc cda) f s.heap.objs.size)) (.func (supS p0 p1 p2 p3 p4 e es :: rest) (envF (supF name qual params (supS p0 p1 p2 p3 p4 e es :: rest) scope cc cda) f s.heap.objs.size)) (execs (supS p0 p1 p2 p3 p4 e es :: rest) (envF (supF name qual params (supS p0 p1 p2 p3 p4 e es :: rest) scope cc cda) f s.heap.objs.size)) _ _ _
  obtain ⟨a, ta, t, ea, eHa, ha, ht, hq⟩ := hbody A outer s H vs Q E (hr.deeper _) hsp
  have C : CellsAt [(("__class__" : Str), cc)] ["__class__"] [none] s.heap H := by
    refine ⟨rfl, fun y c hy => ?_, fun x y c h1 h2 => ?_, fun i y hi => ?_⟩
    · obtain ⟨rfl, rfl⟩ := one_look hy
      exact ⟨hcc, _, ⟨_, KX _ _ hcell, rfl⟩⟩
    · rw [(one_look h1).1, (one_look h2).1]
    · have : y = "__class__" ∧ i = 0 := by
        cases i with
        | zero => exact ⟨(Option.some.inj hi).symm, rfl⟩
        | succ i => simp at hi
      obtain ⟨rfl, rfl⟩ := this
      exact ⟨cc, by simp [List.lookup], fun v hv => by cases hv⟩
  have I := inv_startN (CX := CX) (E := E) (F := supF name qual params (supS p0 p1 p2 p3 p4 e es :: rest) scope cc cda) (f := f) (tk := s.toks + (ps.zip us).length) S hr.hd e0 hl r C hns kp
  have kc : (envF (supF name qual params (supS p0 p1 p2 p3 p4 e es :: rest) scope cc cda) f s.heap.objs.size).kindOf "__class__" = some .free := S.frk _ List.mem_cons_self
  obtain ⟨nm, qq, NN, bs, bm, sn, sub, ab, col, dd, k0, k1, k2, k3, k5, hC, hbm⟩ := T.oex.cls
  have hcl : PySem.W.clsIn K D = some { name := nm, bases := bs, mro := .ref D :: bm, ns := NN, qualname := qq, hasDict := true, slotNames := sn, subclasses := sub, abstract := ab, collection := col, hasDel := false } := by unfold PySem.W.clsIn; rw [hC] <;> rfl
  have K1 : K.In h₁ := KX.keeps kp
  obtain ⟨t1, hoa⟩ := exo_at I.hok eHa
  have hoa : h₁.get? a = some ({ cls := .ref D, dict := none, data := .fields #[.ref t1, .none, .none, .none, .bool false, .none] } : Obj) := hoa
  have IA : PySem.W.InstAt h₁ a { cls := .ref D, dict := none, data := .fields #[.ref t1, .none, .none, .none, .bool false, .none] } D none := ⟨hoa, rfl, rfl, trivial⟩
  have u0 : us[0]? = some (.ref a) := by
    obtain ⟨u, hu, ru⟩ := r.get ea
    rw [hu]
    exact congrArg some ru
  have ndP : ps.Nodup := by
    have q := S.nd.sublist (List.take_sublist (ps.length + (["__class__"] : List Str).length) N)
    rw [S.pre] at q
    exact (List.nodup_append.mp q).1
  have hself : (fun y => (ps.zip us).reverse.lookup y) ar.arg = some (.ref a) := zip_look ndP hps u0
  refine PySem.ks_wpAt_execs_cons (PySem.ks_wpAt_Expr_any (PySem.ks_wpAt_MethodCall (pl := pl) ?_ (hev _)) ?hi)
  case hi =>
    unfold interactive
    simp [S.kind]
  refine PySem.ks_wpAt_super_base hks kc (by decide) rfl (kp _ _ (KX _ _ lk)) rfl hp rfl (kp _ _ (KX _ _ hcode)) rfl hvs hfile T.top ?_
  obtain ⟨mb, b1, b2⟩ := I.mod.blt
  refine PySem.W.ks_loadName_global S.kind hks (Calls.loadGlobal_builtin (show Heap.Ns _ mainGlobals mg from I.mod.glob.keeps I.bk) T.mgs (show Heap.Ns _ builtinsNs mb from b1.keeps I.bk) ((b2 "super" (by decide)).trans PyProof.Rows.Boot.«super») ⟨rfl, ?_⟩)
  refine wpAny_loadName_free S.kind kc rfl ⟨_, kp _ _ (KX _ _ hcell), rfl⟩ ?_
  refine wpAny_loadName_local S.kind (S.par _ (List.mem_of_getElem? hps)) hns hself ?_
  refine PySem.ks_wpAny_isType_cls (K1 _ _ hC) rfl ⟨rfl, ?_⟩
  refine PySem.ks_wpAny_call_super (K1 _ _ hC) rfl hoa rfl (fun c z => nomatch z) (PySem.W.looks_mroIn K1 T.self) (fun h2 e2 kk2 => ?_)
  have K2 : K.In h2 := K1.keeps kk2
  have hm := T.sup
  unfold PySem.W.ks_superIn at hm
  rw [hcl] at hm
  have IA2 : PySem.W.InstAt h2 a { cls := .ref D, dict := none, data := .fields #[.ref t1, .none, .none, .none, .bool false, .none] } D none := ⟨kk2 _ _ hoa, rfl, rfl, trivial⟩
  refine PySem.W.kxs_getMethod PySem.W.kxs_ValueError e2 (PySem.W.looks_opaque K2 T.opq) (l₀ := .ref D :: bm) (fun A Q E s k q => wpAny_bind ((PySem.W.looks_clsIn K2 hcl) A _ E s k (wpAny_pure q))) rfl K2 hm (IA2.type.andThen (PySem.W.looks_subIn K2 T.ve)) (PySem.W.ks_ne K2 IA2 hcl) (by decide) ?_
  have nu : H h2.objs.size = none := (I.kept (h' := h2) (t' := s.toks + (ps.zip us).length) kk2).hok.fresh (Nat.le_refl _)
  have I2 : Inv (ncx CX P w K mg base N (supF name qual params (supS p0 p1 p2 p3 p4 e es :: rest) scope cc cda) f A outer s H E) [] (startF N vs [none]) H { heap := h2, gens := s.gens, drawn := s.drawn, toks := s.toks + (ps.zip us).length, os := s.os } := I.kept kk2
  have hmw : (h2.push (PySem.W.kxs_mw "ValueError.__init__" a)).get? h2.objs.size = some (PySem.W.kxs_mw "ValueError.__init__" a) := Heap.get?_push_at rfl rfl
  have I3 : Inv (ncx CX P w K mg base N (supF name qual params (supS p0 p1 p2 p3 p4 e es :: rest) scope cc cda) f A outer s H E) [] (startF N vs [none]) H { heap := h2.push (PySem.W.kxs_mw "ValueError.__init__" a), gens := s.gens, drawn := s.drawn, toks := s.toks + (ps.zip us).length + 1, os := s.os } := I2.kept fun _ _ z => Heap.get?_push_of_some _ z
  have F2 := I2.fpOk (Nat.le_refl _) nu
  have I4 := I3.pinned (fp := [h2.objs.size]) (fun b hb => by rw [List.mem_singleton.mp hb]; exact F2) (fun b hb => by rw [List.mem_singleton.mp hb]; exact ⟨_, hmw, fun v z => nomatch z⟩)
  show wpAny _ _ (callWith p3 (.ref h2.objs.size) [] (backTo p3 (starEach (e :: es) _)) []) _ _ _
  refine PySem.W.kxs_callWith (i := "ValueError.__init__") (x := a) (by rw [he]; show (false || (backTo p3 (starEach es _)).any (·.1)) = false; rw [hpl]; rfl) ?_
  have run := ha.run p3 _ _ (startF N vs [none]) H _ I4 hq
  rw [he] at run ⊢
  refine Calls.evalArgs_plain (thn run fun ws s5 ⟨zs, H5, I5, r5, lz, e5, q5⟩ => ?_)
  have hu5 : s5.heap.get? h2.objs.size = some (PySem.W.kxs_mw "ValueError.__init__" a) := (I5.pin (h2.objs.size, PySem.W.kxs_mw "ValueError.__init__" a) (List.mem_append_right _ (List.mem_append_right _ (mem_pinsAt List.mem_cons_self hmw)))).1
  refine ⟨hu5, ?_⟩
  obtain ⟨t5, ho5⟩ := exo_at I5.hok e5
  have K5 := I5.kIn
  have lw : ws.length ≤ sizeLine := by
    rw [← Paired.length r5]
    exact Nat.le_of_lt (small1000 lz)
  refine wpAny_call (codeAny_of_tree ?_)
  show wpAny _ _ (callAny (.ref h2.objs.size) ⟨ws, []⟩) _ _ _
  simp only [callAny]
  obtain ⟨hh, g5, d5, tk5, os5⟩ := s5
  refine wpAny_bind (wpAny_load hu5 ?_)
  simp only [PySem.W.kxs_mw, show (Value.type "method-wrapper" == Value.type "method" || Value.type "method-wrapper" == Value.type "builtin_function_or_method" || Value.type "method-wrapper" == Value.type "method-wrapper") = true by decide, if_true]
  refine PySem.W.KFB.if_so (by decide) ?_
  refine wpAny_bind (PySem.W.check_bound_init F.excBase_ValueError.toExcCallFacts (K5 _ _ hC) ho5 rfl ?_)
  refine wpAny_bind (wpAny_pure (wpAny_pure ?_))
  refine ⟨plainId_quiet F.excBase_ValueError.init.plain _, codeAny_builtin F.excBase_ValueError.initEntry ?_⟩
  refine PySem.W.exc_init_tree (cls := .ref D) (t0 := t5) (dv := none) (c2 := .none) (c3 := .none) (b4 := .bool false) ho5 lw (fun h6 k6 e6 _ => ?_)
  have J := I5.write (t' := tk5) (h' := h6) (x := a) (e := a) (o := exo a D none) (by rw [e5]; exact True.intro) (.inl rfl) k6 ⟨_, e6⟩ (exo_ok e6)
  rw [exo_self e5] at J
  have J := J.unpinned
  refine PySem.wpAt_of_wpAny ?_
  refine wpAny_mono (ht.run [] _ (startF N vs [none]) H5 _ J q5) (fun fl s' hs => ?_) fun e s' hs => hs
  have fin : ∀ {σ' : L2.St} {H' : Hp} {v : V} {u : Value}, Inv (ncx CX P w K mg base N (supF name qual params (supS p0 p1 p2 p3 p4 e es :: rest) scope cc cda) f A outer s H E) [] σ' H' s' → L2.RelV v u → Q v H' → CE outer P w H s Q u s' :=
    fun {σ' H' v u} J rv q => ⟨v, H', J.os, J.bare, J.base, J.hok, rv, q⟩
  cases fl with
  | ret u =>
    obtain ⟨v, σ', H', J, rv, q⟩ := hs
    exact fin J rv q
  | next =>
    obtain ⟨σ', H', J, q⟩ := hs
    exact fin (v := V.non) (u := Value.none) J rfl q
  | brk =>
    obtain ⟨_, _, _, q⟩ := hs
    exact False.elim q
  | cont =>
    obtain ⟨_, _, _, q⟩ := hs
    exact False.elim q
end
end Own

/-! The promise of an own error's __init__; raising it. -/
namespace Own
open PySem PySem.Spec PyProof.Rows L2 NdefX
/-- an int that is written in a text -/
def Shw (v : V) : Prop := ∃ i : Int, v = .int i ∧ i.natAbs.log2 < 1000
theorem log_lt {i : Int} {k : Nat} (hk : 0 < k) (h : i.natAbs < 2 ^ k) : i.natAbs.log2 < k := by
  by_cases h0 : i.natAbs = 0
  · rw [h0, Nat.log2_zero]
    exact hk
  · exact (Nat.log2_lt h0).mpr h
theorem Shw.of {i : Int} (h0 : -(2 ^ 64) < i) (h1 : i < 2 ^ 64) : Shw (.int i) := ⟨i, rfl, Nat.lt_of_lt_of_le (log_lt (k := 64) (by decide) (by omega)) (by decide)⟩
theorem txt_len {i : Int} (h : i.natAbs.log2 < 1000) : (Str.ofString (toString i)).length ≤ 1001 := by
  rw [PySem.ofString_length]
  exact int_text_length_le (by decide) h
/-- the error's own dict by its fields -/
def flE (nm : List Str) (ys : List V) : List (Str × V) := (nm.zip ys).reverse
def spErr (D : Addr) (nm : List Str) : Sp := fun vs H Q _ => ∃ (a : Addr) (ys : List V), vs = .ref a :: ys ∧ ys.length = nm.length ∧ (∀ y ∈ ys, Shw y) ∧ H a = some (exo a D none) ∧
  ∀ d H', H d = none → d ≠ a → (∀ b, H' b = if b = d then some (exd d (flE nm ys)) else if b = a then some (exo a D (some d)) else H b) → Q .non H'
/-- what the class must say besides, that its instances can be raised -/
structure ErrT (K : PySem.W.Frag) (mg : Str → Option Value) (x : Str) (D f : Addr) : Prop where
  g : mg x = some (.ref D)
  i : PySem.W.findIn K (.ref D) "__init__" = some (some (.ref f))
  t : PySem.W.typeIn K (.ref f) = some (.type "function")
section
variable {P : Program} {w : World} {K : PySem.W.Frag} {mg : Str → Option Value} {base : Heap} {X : Cx}
/-- the reading of X(..) that is raised -/
theorem rd_err {D : Addr} {nm : List Str} {ys : List V} {H : Hp} {Q : XK} (hl : ys.length = nm.length) (hz : nm.length ≤ 1000) (hs : ∀ y ∈ ys, Shw y) (q : ∀ d, H d = none → Q (.ref D) (some d) (upd H d (.xd (flE nm ys)))) :
    ys.length ≤ 1000 ∧ ∀ a, H a = none → spErr D nm (.ref a :: (ys ++ [])) (upd H a (exo a D none)) (fun v H2 => v = .non ∧ ∃ (d : Addr) (fs : List (Str × V)), H2 a = some (exo a D (some d)) ∧ H2 d = some (exd d fs) ∧ H d = none ∧ Q (.ref D) (some d) (upd (del H2 a) d (.xd fs))) (fun _ _ _ => False) := by
  refine ⟨by omega, fun a na => ⟨a, ys, by rw [List.append_nil], hl, hs, upd_same, fun d H' nd ne h => ⟨rfl, d, flE nm ys, ?_, ?_, ?_, ?_⟩⟩⟩
  · rw [h, if_neg ne.symm, if_pos rfl]
  · rw [h, if_pos rfl]
  · rw [upd_ne ne] at nd
    exact nd
  · have : upd (del H' a) d (.xd (flE nm ys)) = upd H d (.xd (flE nm ys)) := by
      funext b
      by_cases hb : b = d
      · rw [hb, upd_same, upd_same]
      · rw [upd_ne hb, upd_ne hb]
        by_cases ha : b = a
        · rw [ha, del_same, na]
        · rw [del_ne ha, h, if_neg hb, if_neg ha, upd_ne ha]
    rw [this]
    rw [upd_ne ne] at nd
    exact q d nd
/-- raise X(e, ..) -/
theorem ps_err {W : WX} {x : Str} {D f : Addr} {k : Nat} {fd : FuncData} {ps nm : List Str} {e : Expr} {es : List Expr} {ta : TA} {p pos pos' : Pos} (hc : X.calm = true) (tk : Takes X W) (T : OexC X.K D) (R : ErrT X.K X.mg x D f) (F1 : FnOk X.prog X.w X.K X.mg X.base CX0 k f fd ps (spErr D nm)) (hr : Room (k + 1) X.A)
    (hb : Binds X.K fd ps []) (hg : Gl X x) (ha : PA X (e :: es) ta) (hdb : (x == ("__debug__" : Str)) = false := by decide) (he : starEach (e :: es) X.env = (false, eval e X.env) :: starEach es X.env := by rfl) (hpl : (backTo pos (starEach es X.env)).any (·.1) = false := by rfl) :
    PS X (.Raise (some (.Call (.Name x p) (e :: es) [] pos)) none pos') (fun _ σ H => tMkO D (spErr D nm) [] ta σ H fun cls d H' => W cls d σ H') :=
  ps_raise hc tk (pmk_oex T R.i R.t F1 hr hb .nil pass0 hg R.g ha hdb he hpl)
end
/-- the text of an error's __init__ -/
abbrev inErr (st : Stmt) : Stmt := inClass st 0
section
variable {P : Program} {w : World} {K : PySem.W.Frag} {mg : Str → Option Value} {base : Heap} {D cc cda f : Addr}
theorem upd2 {H : Hp} {a d : Addr} {o u : HO} (b : Addr) (ne : d ≠ a) : (upd (upd H d o) a u) b = if b = d then some o else if b = a then some u else H b := by
  by_cases hb : b = d
  · rw [if_pos hb, hb, upd_ne ne, upd_same]
  · rw [if_neg hb]
    by_cases ha : b = a
    · rw [if_pos ha, ha, upd_same]
    · rw [if_neg ha, upd_ne ha, upd_ne hb]
end
end Own

/-! More rules: list.count of data, the operator in by an own class, isinstance of a caught error that has fields. -/
namespace Own
open PySem PySem.Spec PyProof.Rows L2
section
variable {X : Cx}
/-- xs.count(x), items that are plain data: some number -/
def rCntD (K : PySem.W.Frag) : V → List V → Hp → VK → Prop := fun x xs H Q => ∃ (a : Addr) (y : V) (d : PyData) (ds : List PyData), x = V.ref a ∧ xs = [y] ∧ Dp K H (V.ref a) (.list ds) ∧ Dp K H y d ∧ PyData.plainAll ds = true ∧ d.plain = true ∧ d.depth ≤ 60 ∧ ∀ n : Nat, Q (.int (n : Int)) H
theorem mt_lcountD (room : X.A.units + 65 < cLine) : MtR X "list.count" (rCntD X.K) := by
  intro pins s σ H whole args u us Q inv rw_ ra ask
  obtain ⟨a, y, d, ds, rfl, rfl, lis, one, pl, pd, few, q⟩ := ask
  cases rw_
  obtain ⟨w, rfl, rw1⟩ := vals1 ra
  obtain ⟨bs, rd⟩ := Dp.reads inv d y w one rw1
  cases lis with
  | lst seq all =>
    obtain ⟨its, vals, obj, _⟩ := inv.list seq
    obtain ⟨as, rds⟩ := Dp.readsAll inv ds _ its all vals
    refine PySem.SeqAt.count_list_data obj.isList rds rd pl pd (by omega) ?_
    exact ⟨.int (_ : Nat), H, inv.tok _, ⟨_, rfl⟩, q _⟩
/-- x in o, o of an own class with its own rule for it -/
def tOwnIn (C : Addr) (sp : Sp) (E : L2.St → XK) (ta tb : TE) : TE := fun σ H Q => ta σ H fun x H1 => tb σ H1 fun y H2 => ∃ a dx fs, y = .ref a ∧ H2 a = some (.ins C dx fs) ∧ sp [.ref a, x] H2 (fun v H3 => ∃ b, v = .bl b ∧ Q (.bl b) H3) (E σ)
theorem pe_ownIn {CX : CXT} {k : Nat} {C g : Addr} {fd : FuncData} {ps : List Str} {sp : Sp} {E : L2.St → XK} {a b : Expr} {ta tb : TE} {pos : Pos} (hs : PySem.W.findIn X.K (.ref C) "__contains__" = some (some (.ref g))) (hf : PySem.W.isFn X.K (.ref g) = true)
    (F : FnOk X.prog X.w X.K X.mg X.base CX k g fd ps sp) (hr : Room k X.A) (hb : Binds X.K fd ps []) (hx : ∀ σ, PassesAt CX X σ (E σ)) (ha : PE X a ta) (hb' : PE X b tb) (hm : behindInMarks .In b = false := by rfl) : PE X (.Compare a [.In] [b] pos) (tOwnIn C sp E ta tb) := by
  refine ⟨fun pins s σ H Q I h => ?_⟩
  refine wpAny_Compare1 (binT (R := fun x y H2 => ∃ a dx fs, y = .ref a ∧ H2 a = some (.ins C dx fs) ∧ sp [.ref a, x] H2 (fun v H3 => ∃ b, v = .bl b ∧ Q (.bl b) H3) (E σ)) ha hb' I h fun v u s2 x y H2 I2 rx ry q => ?_) hm
  obtain ⟨p, dx, fs, rfl, hp, q⟩ := q
  cases (show u = Value.ref p from ry)
  obtain ⟨mA, O, _, _, _, _⟩ := ins_get I2.hok hp
  obtain ⟨od, J, _⟩ := O.look
  obtain ⟨m, hF⟩ := I2.fr
  refine PySem.W.in_K hF I2.ok.mod.kin J hs hf ?_
  refine wpAny_mono (run_fnS (us := [.ref p, v]) (vs := [.ref p, x]) F hr hb (hx σ) I2 (.cons rfl (.cons rx .nil)) q) (fun w s' z => ?_) fun _ _ x => x
  obtain ⟨z', H', I', rz, b, rfl, qz⟩ := z
  cases rz
  exact wpAny_truthy_bool ⟨.bl b, H', I', rfl, qz⟩
end
end Own
namespace Own
open PySem PySem.Spec PyProof.Rows L2
/-- isinstance(e, c), e the caught error of the class D, its dict at d -/
def rIsD (K : PySem.W.Frag) (D a d : Addr) : List V → Hp → VK → Prop := fun xs H Q => ∃ (c : V) (cv : Value) (b : Bool) (fs : List (Str × V)), xs = [.ref a, c] ∧ H d = some (.xd fs) ∧ (∀ u, RelV c u → u = cv) ∧ PySem.W.kitOne K (.ref D) cv = some b ∧ Q (.bl b) H
theorem call_isD {X : Cx} {a D d : Addr} {oe : Obj} {pn : List (Addr × Obj)} (C : ExcC X.K D) (hz : Zc (.ref D) (some d) oe) (hf : ∃ vs, oe.data = .fields vs) : CallR (X.suite a ((a, oe) :: pn)) (.builtin "isinstance") (rIsD X.K D a d) := by
  intro pins s σ H xs us Q I r h
  obtain ⟨c, cv, b, fs, rfl, hd, hcv, e, q⟩ := h
  cases r with
  | cons rx rr =>
    cases rr with
    | cons rt rr =>
      cases rr
      cases rx
      have ec := hcv _ rt
      subst ec
      obtain ⟨hget, _⟩ := I.pin (a, oe) (List.mem_append.mpr (.inl List.mem_cons_self))
      obtain ⟨vs, hv⟩ := hf
      have hx : ObjOk X.prog X.w H s.heap d (.xd fs) := I.hok d _ hd
      obtain ⟨mA, hns, _⟩ := hx
      obtain ⟨od, ho, _⟩ := lookIn_ns hns
      have J : PySem.W.InstAt s.heap a oe D (some od) := ⟨hget, hz.1, by unfold PySem.W.notCls; rw [hv] <;> rfl, by rw [hz.2]; exact ho⟩
      exact PySem.W.kia_one (PySem.W.kitx_exc (ox := oe) (od := some od) (by obtain ⟨cd, hc, _⟩ := PySem.W.any_some C.hd; rw [hc]; rfl) C.hg C.hk C.hs C.ha C.hn C.ht C.hm) I.kIn J e (fun z => nomatch z) fun tk => ⟨.bl b, H, I.kept (t' := tk) fun _ _ z => z, rfl, q⟩
end Own

/-! Own errors raised where nothing is handled (their context is None), so that defs may be called where they are caught. -/
namespace Own
open PySem PySem.Spec PyProof.Rows L2 NdefX
section
variable {X : Cx} {pins : List (Addr × Obj)} {σ : L2.St} {H : Hp} {s : Shared} {Q : XK} {D f : Addr} {k : Nat} {fd : FuncData} {ps nm : List Str} {ys : List V} {us : List Value} {x : Str}
/-- the call of the class -/
theorem err_made (T : OexC X.K D) (R : ErrT X.K X.mg x D f) (F1 : FnOk X.prog X.w X.K X.mg X.base CX0 k f fd ps (spErr D nm)) (hr : Room (k + 1) X.A) (hb : Binds X.K fd ps []) (I : Inv X pins σ H s) (r : Vals ys us) (hl : ys.length = nm.length) (hz : nm.length ≤ 1000)
    (hs : ∀ y ∈ ys, Shw y) (q : ∀ d, H d = none → Q (.ref D) (some d) (upd H d (.xd (flE nm ys)))) : wpAny (model X.prog X.w) X.A (call (.ref D) us) (L2N.MkP X pins σ Q) X.xe s := by
  obtain ⟨nn, qq, N, bs, bm, sn, sub, ab, col, dd, k0, k1, k2, k3, k5, hC, hbm⟩ := T.cls
  obtain ⟨hp, g, dr, tk, os⟩ := s
  -- where the error comes to stand
  have far : hp.objs.size ≤ hp.objs.size + 1 := Nat.le_succ _
  have free : H (hp.objs.size + 1) = none := I.hok.fresh far
  obtain ⟨_, ask⟩ := rd_err (D := D) hl hz hs q
  have ask := ask _ free
  rw [List.append_nil] at ask
  have old : ∀ b o, hp.get? b = some o → ((hp.push (PySem.W.kdv_tup us)).push (PySem.HandSPX.excO D hp.objs.size)).get? b = some o := fun b o e => Heap.get?_push_of_some _ (Heap.get?_push_of_some _ e)
  have here : ((hp.push (PySem.W.kdv_tup us)).push (PySem.HandSPX.excO D hp.objs.size)).get? (hp.objs.size + 1) = some (PySem.HandSPX.excO D hp.objs.size) := by heap_get
  have J : Inv X pins σ (upd H (hp.objs.size + 1) (exo (hp.objs.size + 1) D none)) ⟨(hp.push (PySem.W.kdv_tup us)).push (PySem.HandSPX.excO D hp.objs.size), g, dr, tk, os⟩ := I.laid (t' := tk) (a := hp.objs.size + 1) (o := exo (hp.objs.size + 1) D none) old far (exo_ok here)
  have vals : Vals (V.ref (hp.objs.size + 1) :: ys) (Value.ref (hp.objs.size + 1) :: us) := .cons rfl r
  have len : (Value.ref (hp.objs.size + 1) :: us).length = ps.length := by
    rw [← vals.length]
    exact F1.len _ _ _ _ ask
  have few : us.length ≤ sizeLine := by
    rw [← Paired.length r, hl]
    exact Nat.le_trans hz (by decide)
  have bind := hb _ (Value.ref (hp.objs.size + 1) :: us) J.kIn (by rw [List.append_nil]; exact len)
  rw [List.append_nil] at bind
  have run := F1.run _ X.stack _ _ ⟨Value.ref (hp.objs.size + 1) :: us, []⟩ _ _ _ (fun _ _ _ => False) (hr.make D us []) (J.env0.make D us []) bind vals ask
  refine wpAny_call (PySem.HandSPX.call_own F.excBase_ValueError (fun Y => PySem.HandSPX.refsVE_contains Y bm hbm) (I.kIn _ _ hC) (PySem.W.looks_findIn I.kIn R.i) (fun self => PySem.W.bind_fn I.kIn self R.t) few (codeAny_mono run fun res s' back => ?_))
  cases res with
  | error er => exact back.elim
  | ok fl =>
    cases fl with
    | ret u =>
      obtain ⟨v, H2, os2, bare2, un2, hok2, rv, ev, d, fs, ea, ed, hd1, q2⟩ := back
      subst ev
      obtain ⟨h2, g2, d2, t2, os'⟩ := s'
      obtain ⟨t0, G, K1, kG, ge, hoe, na⟩ := mk_end0 (d2 := d2) (t2 := t2) I far old un2 hok2 os2 bare2 ea ed hd1
      exact ⟨rv, hp.objs.size + 1, _, _, ⟨G, g2, d2, t2, os'⟩, _, .ref D, some d, rfl, K1, kG, ge, hoe, ⟨rfl, rfl, fun vs e => by cases e; rfl⟩, rfl, rfl, na, rfl, bare2, raises_own T.exC T.tyC, q2⟩
    | next => exact back.elim
    | brk => exact back.elim
    | cont => exact back.elim
end
/-- raise X(e, ..): the fields are shown -/
def tErr (D : Addr) (nm : List Str) (ta : TA) : L2.St → Hp → XK → Prop := fun σ H Q => ta σ H fun ys H1 => ys.length = nm.length ∧ nm.length ≤ 1000 ∧ (∀ y ∈ ys, Shw y) ∧ ∀ d, H1 d = none → Q (.ref D) (some d) (upd H1 d (.xd (flE nm ys)))
section
variable {X : Cx} {W : WX} {x : Str} {D f : Addr} {k : Nat} {fd : FuncData} {ps nm : List Str} {e : Expr} {es : List Expr} {ta : TA} {p pos pos' : Pos}
theorem pmk_err (T : OexC X.K D) (R : ErrT X.K X.mg x D f) (F1 : FnOk X.prog X.w X.K X.mg X.base CX0 k f fd ps (spErr D nm)) (hr : Room (k + 1) X.A) (hb : Binds X.K fd ps []) (hg : Gl X x) (ha : PA X (e :: es) ta)
    (hdb : (x == ("__debug__" : Str)) = false := by decide)
    (he : starEach (e :: es) X.env = (false, eval e X.env) :: starEach es X.env := by rfl)
    (hpl : (backTo pos (starEach es X.env)).any (·.1) = false := by rfl) :
    L2N.PMk X (.Call (.Name x p) (e :: es) [] pos) (tErr D nm ta) := by
  intro pins s σ H Q I h
  refine wpAny_Call_Name_kw (ld_glob I hg R.g ?_ hdb)
  refine PySem.W.callWith_K (h₀ := X.base) I.ok.mod.kin T.kC (thn (ha.run pos pins s σ H _ I h) fun us s1 ⟨ys, H1, I1, r, hl, hz, hs, q⟩ => ⟨I1.kIn, ?_⟩) he hpl
  exact err_made T R F1 hr hb I1 r hl hz hs q
theorem ps_errN (hc : X.calm = true) (tk : L2N.Takes X W) (T : OexC X.K D) (R : ErrT X.K X.mg x D f) (F1 : FnOk X.prog X.w X.K X.mg X.base CX0 k f fd ps (spErr D nm)) (hr : Room (k + 1) X.A) (hb : Binds X.K fd ps []) (hg : Gl X x) (ha : PA X (e :: es) ta)
    (hdb : (x == ("__debug__" : Str)) = false := by decide)
    (he : starEach (e :: es) X.env = (false, eval e X.env) :: starEach es X.env := by rfl)
    (hpl : (backTo pos (starEach es X.env)).any (·.1) = false := by rfl) :
    PS X (.Raise (some (.Call (.Name x p) (e :: es) [] pos)) none pos') (fun _ σ H => tErr D nm ta σ H fun cls d H' => W cls d σ H') :=
  L2N.ps_raise hc tk (pmk_err T R F1 hr hb hg ha hdb he hpl)
/-- nothing is let out -/
theorem passN : Passes (L2N.CX X.prog X.w) X E0 := fun _ _ _ _ _ _ _ ⟨_, _, _, _, _, _, _, _, _, _, _, _, z⟩ => z.elim
theorem takesN : L2N.Takes X (fun _ _ _ _ => False) := fun _ _ ⟨_, _, _, _, _, _, _, _, _, _, _, _, _, _, _, _, z⟩ => z.elim
theorem pass0A {σ : L2.St} : PassesAt CX0 X σ E0 := fun pins H s e s' I h => pass0 pins σ H s e s' I h
end
section
variable {P : Program} {w : World} {K : PySem.W.Frag} {mg : Str → Option Value} {base : Heap}
/-- a def that may raise, by its body -/
theorem okN {x qual : Str} {st : Stmt} {f : Addr} {fd : FuncData} {N ps : List Str} {k : Nat} {sp : Sp} (F : Fun K x qual st f fd) (S : FnScope N ps (defScope st)) (len : ∀ vs H Q E, sp vs H Q E → vs.length = ps.length)
    (hbody : ∀ (cdv : Value) (A : Around) (outer : List Env) (s : Shared) (H : Hp) (vs : List V) (Q : VK) (E : XK), Room k (A.deeper (envOfC qual (defScope st) s.heap.objs.size f cdv)) → sp vs H Q E →
      ∃ t, PSs (cxOf (L2N.CX P w) P w K mg base N qual (defScope st) f cdv A outer s H E) (defBody st) t ∧ t { nx := fun _ H' => Q .non H', rt := Q } (start N vs) H) : FnOk P w K mg base (L2N.CX P w) (k + 1) f fd ps sp := by
  obtain ⟨_, _, _, _, _, _, cdv, _, _, rfl, lk, hcd⟩ := F.ex
  exact fn_of lk hcd S len (hbody cdv)
/-- a def called where an error is handled, by its body; it raises nothing -/
theorem okH {x qual : Str} {st : Stmt} {f : Addr} {fd : FuncData} {N ps : List Str} {k : Nat} {sp : Sp} (F : Fun K x qual st f fd) (S : FnScope N ps (defScope st)) (len : ∀ vs H Q E, sp vs H Q E → vs.length = ps.length)
    (hbody : ∀ (cdv : Value) (A : Around) (outer : List Env) (s : Shared) (H : Hp) (vs : List V) (Q : VK) (E : XK) (p : Addr × Obj), L2H.HotC (L2H.cxH CX0 P w K mg base N qual (defScope st) f cdv A outer s H E p).nox → L2H.RoomH k (A.deeper (envOfC qual (defScope st) s.heap.objs.size f cdv)) → sp vs H Q E →
      ∃ t, PSs (L2H.cxH CX0 P w K mg base N qual (defScope st) f cdv A outer s H E p).nox (defBody st) t ∧ t { nx := fun _ H' => Q .non H', rt := Q } (start N vs) H) : L2H.FnH P w K mg base CX0 (k + 1) f fd ps sp := by
  obtain ⟨_, _, _, _, _, _, cdv, _, _, rfl, lk, hcd⟩ := F.ex
  refine L2H.fn_ofH lk hcd S len fun A outer s H vs Q E p hot hr h => ?_
  obtain ⟨t, ht, q⟩ := hbody cdv A outer s H vs Q E p ⟨p, hot, List.mem_cons_self⟩ hr h
  exact ⟨t, ht.nox, q⟩
end
/-- isinstance(e, c), e the caught error -/
def rIsX (K : PySem.W.Frag) (D a : Addr) (cls : Value) (d : Option Addr) : List V → Hp → VK → Prop := fun xs H Q => cls = .ref D ∧ ∃ (dd : Addr) (c : V) (cv : Value) (b : Bool) (fs : List (Str × V)), d = some dd ∧ xs = [.ref a, c] ∧ H dd = some (.xd fs) ∧ (∀ u, RelV c u → u = cv) ∧ PySem.W.kitOne K (.ref D) cv = some b ∧ Q (.bl b) H
theorem call_isX {X : Cx} {a D : Addr} {oe : Obj} {cls : Value} {d : Option Addr} {pn : List (Addr × Obj)} (C : ExcC X.K D) (hz : Zc cls d oe) (hf : ∃ vs, oe.data = .fields vs) : CallR (X.suite a ((a, oe) :: pn)) (.builtin "isinstance") (rIsX X.K D a cls d) := by
  intro pins s σ H xs us Q I r h
  obtain ⟨ec, dd, c, cv, b, fs, ed, ex, hd, hcv, e, q⟩ := h
  subst ec ed
  exact call_isD C hz hf pins s σ H xs us Q I r ⟨c, cv, b, fs, ex, hd, hcv, e, q⟩
/-- the suite's context bears the handled error -/
theorem hotS {X : Cx} {a : Addr} {oe : Obj} {cls : Value} {d : Option Addr} {pn : List (Addr × Obj)} (hz : L2N.Zn cls d oe) (hf : ∃ vs, oe.data = .fields vs) : L2H.HotC (X.suite a ((a, oe) :: pn)) := by
  obtain ⟨vs, e⟩ := hf
  exact ⟨(a, oe), ⟨rfl, vs, e, hz.2.2 vs e⟩, List.mem_cons_self⟩
end Own

namespace Own
open PySem PySem.Spec PyProof.Rows L2
/-! ### the text by places -/
def top (i : Nat) : Stmt := PySem.Challenge.pw_rimcords_k45_course_notes.main.body.getD i (.Pass ⟨0, 0, 0, 0⟩)
abbrev s__wall : Stmt := top 0
theorem sc__wall : FnScope ["k"] ["k"] (defScope s__wall) := ⟨rfl, rfl, rfl, by decide +kernel, rfl, by decide +kernel, by decide +kernel⟩
abbrev s__settled : Stmt := top 3
theorem sc__settled : FnScope ["value"] ["value"] (defScope s__settled) := ⟨rfl, rfl, rfl, by decide +kernel, rfl, by decide +kernel, by decide +kernel⟩
abbrev s_is_whole : Stmt := top 10
theorem sc_is_whole : FnScope ["value"] ["value"] (defScope s_is_whole) := ⟨rfl, rfl, rfl, by decide +kernel, rfl, by decide +kernel, by decide +kernel⟩
abbrev s_is_sequence : Stmt := top 11
theorem sc_is_sequence : FnScope ["value"] ["value"] (defScope s_is_sequence) := ⟨rfl, rfl, rfl, by decide +kernel, rfl, by decide +kernel, by decide +kernel⟩
abbrev s_Course_init : Stmt := inClass (top 14) 0
theorem sc_Course_init : FnScope ["self", "deeds", "place", "deed"] ["self", "deeds"] (defScope s_Course_init) := ⟨rfl, rfl, rfl, by decide +kernel, rfl, by decide +kernel, by decide +kernel⟩
abbrev s_Course_add : Stmt := inClass (top 14) 3
theorem sc_Course_add : FnScope ["self", "other"] ["self", "other"] (defScope s_Course_add) := ⟨rfl, rfl, rfl, by decide +kernel, rfl, by decide +kernel, by decide +kernel⟩
abbrev s_Course_len : Stmt := inClass (top 14) 4
theorem sc_Course_len : FnScope ["self"] ["self"] (defScope s_Course_len) := ⟨rfl, rfl, rfl, by decide +kernel, rfl, by decide +kernel, by decide +kernel⟩
abbrev s_Course_iter : Stmt := inClass (top 14) 5
theorem sc_Course_iter : FnScope ["self"] ["self"] (defScope s_Course_iter) := ⟨rfl, rfl, rfl, by decide +kernel, rfl, by decide +kernel, by decide +kernel⟩
abbrev s_Course_eq : Stmt := inClass (top 14) 6
theorem sc_Course_eq : FnScope ["self", "other"] ["self", "other"] (defScope s_Course_eq) := ⟨rfl, rfl, rfl, by decide +kernel, rfl, by decide +kernel, by decide +kernel⟩
abbrev s_is_deed : Stmt := top 15
theorem sc_is_deed : FnScope ["deed", "number"] ["deed"] (defScope s_is_deed) := ⟨rfl, rfl, rfl, by decide +kernel, rfl, by decide +kernel, by decide +kernel⟩
abbrev s_stage_behind : Stmt := top 16
theorem sc_stage_behind : FnScope ["stage", "place", "deed"] ["stage", "place", "deed"] (defScope s_stage_behind) := ⟨rfl, rfl, rfl, by decide +kernel, rfl, by decide +kernel, by decide +kernel⟩
abbrev s_done : Stmt := top 17
theorem sc_done : FnScope ["stage", "deed", "word"] ["stage", "deed"] (defScope s_done) := ⟨rfl, rfl, rfl, by decide +kernel, rfl, by decide +kernel, by decide +kernel⟩
abbrev s_written : Stmt := top 19
theorem sc_written : FnScope ["lines", "words", "word"] ["lines"] (defScope s_written) := ⟨rfl, rfl, rfl, by decide +kernel, rfl, by decide +kernel, by decide +kernel⟩
abbrev s_is_number : Stmt := top 20
theorem sc_is_number : FnScope ["word", "digits"] ["word"] (defScope s_is_number) := ⟨rfl, rfl, rfl, by decide +kernel, rfl, by decide +kernel, by decide +kernel⟩
abbrev s_numbers_of : Stmt := top 21
theorem sc_numbers_of : FnScope ["words", "place", "word"] ["words", "place"] (defScope s_numbers_of) := ⟨rfl, rfl, rfl, by decide +kernel, rfl, by decide +kernel, by decide +kernel⟩
abbrev s_words_at : Stmt := top 22
theorem sc_words_at : FnScope ["lines", "place"] ["lines", "place"] (defScope s_words_at) := ⟨rfl, rfl, rfl, by decide +kernel, rfl, by decide +kernel, by decide +kernel⟩
abbrev s_read_line : Stmt := top 23
theorem sc_read_line : FnScope ["lines", "place", "counts", "words", "numbers", "due"] ["lines", "place", "counts"] (defScope s_read_line) := ⟨rfl, rfl, rfl, by decide +kernel, rfl, by decide +kernel, by decide +kernel⟩
abbrev s_format_course : Stmt := top 25
theorem sc_format_course : FnScope ["course"] ["course"] (defScope s_format_course) := ⟨rfl, rfl, rfl, by decide +kernel, rfl, by decide +kernel, by decide +kernel⟩
abbrev s_parse_course : Stmt := top 26
theorem sc_parse_course : FnScope ["text", "lines", "counts", "place"] ["text"] (defScope s_parse_course) := ⟨rfl, rfl, rfl, by decide +kernel, rfl, by decide +kernel, by decide +kernel⟩
abbrev s__law_whole : Stmt := top 28
theorem sc__law_whole : FnScope ["_law_value"] ["_law_value"] (defScope s__law_whole) := ⟨rfl, rfl, rfl, by decide +kernel, rfl, by decide +kernel, by decide +kernel⟩
abbrev s__law_cell : Stmt := top 29
theorem sc__law_cell : FnScope ["_law_script", "_law_k", "_law_seed", "_law_cell_here"] ["_law_script", "_law_k"] (defScope s__law_cell) := ⟨rfl, rfl, rfl, by decide +kernel, rfl, by decide +kernel, by decide +kernel⟩
abbrev s__law_digits : Stmt := top 30
theorem sc__law_digits : FnScope ["_law_cell_here", "_law_sizes", "_law_row", "_law_rest", "_law_seed", "_law_k", "_law_size", "_law_twice"] ["_law_cell_here", "_law_sizes"] (defScope s__law_digits) := ⟨rfl, rfl, rfl, by decide +kernel, rfl, by decide +kernel, by decide +kernel⟩
abbrev s__law_number : Stmt := top 31
theorem sc__law_number : FnScope ["_law_kind", "_law_great", "_law_many", "_law_small", "_law_wide"] ["_law_kind", "_law_great", "_law_many"] (defScope s__law_number) := ⟨rfl, rfl, rfl, by decide +kernel, rfl, by decide +kernel, by decide +kernel⟩
abbrev s__law_deed : Stmt := top 32
theorem sc__law_deed : FnScope ["_law_row", "_law_word"] ["_law_row"] (defScope s__law_deed) := ⟨rfl, rfl, rfl, by decide +kernel, rfl, by decide +kernel, by decide +kernel⟩
abbrev s__law_lines : Stmt := top 33
theorem sc__law_lines : FnScope ["_law_deeds", "_law_lines_here", "_law_deed_here", "_law_line", "_law_number_here"] ["_law_deeds"] (defScope s__law_lines) := ⟨rfl, rfl, rfl, by decide +kernel, rfl, by decide +kernel, by decide +kernel⟩
abbrev s__law_is_number : Stmt := top 34
theorem sc__law_is_number : FnScope ["_law_word", "_law_digits_here", "_law_sign"] ["_law_word"] (defScope s__law_is_number) := ⟨rfl, rfl, rfl, by decide +kernel, rfl, by decide +kernel, by decide +kernel⟩
abbrev s__law_read : Stmt := top 35
theorem sc__law_read : FnScope ["_law_note", "_law_sizes", "_law_lines_here", "_law_deeds", "_law_k", "_law_words", "_law_numbers", "_law_word"] ["_law_note"] (defScope s__law_read) := ⟨rfl, rfl, rfl, by decide +kernel, rfl, by decide +kernel, by decide +kernel⟩
abbrev s__law_longer : Stmt := top 36
theorem sc__law_longer : FnScope ["_law_word"] ["_law_word"] (defScope s__law_longer) := ⟨rfl, rfl, rfl, by decide +kernel, rfl, by decide +kernel, by decide +kernel⟩
abbrev s__law_writings : Stmt := top 37
theorem sc__law_writings : FnScope ["_law_word", "_law_great", "_law_good"] ["_law_word"] (defScope s__law_writings) := ⟨rfl, rfl, rfl, by decide +kernel, rfl, by decide +kernel, by decide +kernel⟩
abbrev s__law_rewritten : Stmt := top 38
theorem sc__law_rewritten : FnScope ["_law_line", "_law_part", "_law_words", "_law_others"] ["_law_line", "_law_part"] (defScope s__law_rewritten) := ⟨rfl, rfl, rfl, by decide +kernel, rfl, by decide +kernel, by decide +kernel⟩
abbrev s__law_spoilt : Stmt := top 39
theorem sc__law_spoilt : FnScope ["_law_lines_here", "_law_row", "_law_k", "_law_line", "_law_longer_here", "_law_put"] ["_law_lines_here", "_law_row"] (defScope s__law_spoilt) := ⟨rfl, rfl, rfl, by decide +kernel, rfl, by decide +kernel, by decide +kernel⟩
abbrev s__law_told : Stmt := top 40
theorem sc__law_told : FnScope ["_law_note", "_law_deed_here", "_law_given", "_law_number_here"] ["_law_note"] (defScope s__law_told) := ⟨rfl, rfl, rfl, by decide +kernel, rfl, by decide +kernel, by decide +kernel⟩
abbrev s_law : Stmt := top 41
theorem sc_law : FnScope ["_law_script", "_law_plan", "_law_sizes", "_law_many", "_law_deeds", "_law_lines_here", "_law_note", "_law_given", "_law_told_here", "_law_both", "_law_row", "_law_words", "_law_at", "_law_line", "_law_puts", "_law_put", "_law_first", "_law_wrong", "_law_spoilt_here", "_law_k", "_law_other", "_law_deed_here"] ["_law_script"] (defScope s_law) := ⟨rfl, rfl, rfl, by decide +kernel, rfl, by decide +kernel, by decide +kernel⟩
end Own

namespace Own
open PySem PySem.Spec PyProof.Rows L2
theorem same_upd {H : Hp} {p : Addr} {o : HO} (h : H p = none) : Same H (upd H p o) := fun b x e => by
  rw [upd_ne (ne_of_none e h)]
  exact e
theorem SqB.same {K : PySem.W.Frag} {H H' : Hp} {a : Addr} {xs : List V} (s : Same H H') (h : SqB K H a xs) : SqB K H' a xs := by
  rcases h with h | ((h | ⟨o, h⟩) | h)
  · exact .inl (s.seq h)
  · exact .inr (.inl (.inl (s _ _ h)))
  · exact .inr (.inl (.inr ⟨o, s _ _ h⟩))
  · exact .inr (.inr h)
/-- a loop over a list or a tuple: what stood in Hb stands in each turn -/
theorem for_same {K : PySem.W.Frag} {a : Addr} {xs : List V} {g : TG} {tb : TS} {D : Ends} {σ : L2.St} {H Hb : Hp} (hB : SqB K Hb a xs) (Pv : Nat → L2.St → Hp → Prop) (h0 : Pv 0 σ H) (hk : ∀ i σ' H', Pv i σ' H' → Same Hb H')
    (hs : ∀ i x σ H, xs[i]? = some x → Pv i σ H → g x σ H fun σ2 H2 => tb { D with nx := Pv (i + 1), ct := Pv (i + 1), bk := D.nx } σ2 H2) (hd : ∀ σ H, Pv xs.length σ H → D.nx σ H) :
    ((∃ xs, SqL K H a xs) ∧ ∃ W : Nat → Nat → L2.St → Hp → Prop, (∃ m, W 0 m σ H) ∧ ∀ i m σ H, W i m σ H →
      ((Itl K a).stop i H ∧ D.nx σ H) ∨ ((Itl K a).go i H ∧ ∃ N : L2.St → Hp → Prop, (∀ σ' H', N σ' H' → ∃ m', m' < m ∧ W (i + 1) m' σ' H') ∧ ∀ x H', (Itl K a).yld i H x H' → g x σ H' fun σ2 H2 => tb { D with nx := N, ct := N, bk := D.nx } σ2 H2)) ∨
    ((∃ xs, SqT K H a xs) ∧ ∃ W : Nat → Nat → L2.St → Hp → Prop, (∃ m, W 0 m σ H) ∧ ∀ i m σ H, W i m σ H →
      ((Itt K a).stop i H ∧ D.nx σ H) ∨ ((Itt K a).go i H ∧ ∃ N : L2.St → Hp → Prop, (∀ σ' H', N σ' H' → ∃ m', m' < m ∧ W (i + 1) m' σ' H') ∧ ∀ x H', (Itt K a).yld i H x H' → g x σ H' fun σ2 H2 => tb { D with nx := N, ct := N, bk := D.nx } σ2 H2)) := by
  have tup : ∀ {H'}, SqT K Hb a xs → Same Hb H' → SqT K H' a xs := fun h s => by
    rcases h with (h | ⟨o, h⟩) | h
    · exact .inl (.inl (s _ _ h))
    · exact .inl (.inr ⟨o, s _ _ h⟩)
    · exact .inr h
  rcases hB with h | h
  · exact .inl ⟨⟨xs, (hk 0 σ H h0).seq h⟩, for_list Pv h0 (fun i σ' H' _ p => (hk i σ' H' p).seq h) hs hd⟩
  · exact .inr ⟨⟨xs, tup h (hk 0 σ H h0)⟩, for_tup Pv h0 (fun i σ' H' _ p => tup h (hk i σ' H' p)) hs hd⟩
theorem kitTrue {K : PySem.W.Frag} {t : Value} : PySem.W.kitOne K t t = some true := by
  unfold PySem.W.kitOne
  rw [if_pos (beq_self_eq_true t)]
section
variable {P : Program} {w : World} {K : PySem.W.Frag} {mg : Str → Option Value} {base : Heap}
structure Df (K : PySem.W.Frag) (mg : Str → Option Value) (x : Str) (st : Stmt) (ps : List Str) (f : Addr) (fd : FuncData) : Prop where
  F : Fun K x x st f fd
  g : mg x = some (.ref f)
  b : Binds K fd ps []
/-- the built-ins that the text calls -/
structure Bi (mg : Str → Option Value) : Prop where
  b_max : mg "max" = none
  b_min : mg "min" = none
  b_tuple : mg "tuple" = none
  b_range : mg "range" = none
  b_isinstance : mg "isinstance" = none
  b_int : mg "int" = none
  b_bool : mg "bool" = none
  b_len : mg "len" = none
  b_list : mg "list" = none
  b_str : mg "str" = none
  b_sorted : mg "sorted" = none
  b_sum : mg "sum" = none
/-! ### kinds -/
def spWhole : Sp := fun vs H Q _ => ∃ i : Int, vs = [.int i] ∧ Q (.bl true) H
theorem ok_whole {f : Addr} {fd : FuncData} (F : Fun K "is_whole" "is_whole" s_is_whole f fd) (T : Bi mg) : FnOk P w K mg base CX0 1 f fd ["value"] spWhole := by
  refine F.ok sc_is_whole (fun vs H Q E h => ?_) (fun cdv A outer s H vs Q E hr h => ?_)
  · obtain ⟨i, rfl, _⟩ := h
    rfl
  · obtain ⟨i, rfl, q⟩ := h
    refine ⟨_, (pss_one (ps_ret (pe_and (pe_callB call_isi (by rfl) T.b_isinstance (by decide +kernel) (pa_cons (pv 0) (pa_cons (pe_bltn (v := .ty "int") (by rfl) T.b_int (by decide +kernel) rfl) pa_nil))) (pe_one (pe_not (pe_callB call_isi (by rfl) T.b_isinstance (by decide +kernel) (pa_cons (pv 0) (pa_cons (pe_bltn (v := .ty "bool") (by rfl) T.b_bool (by decide +kernel) rfl) pa_nil)))))))), ?_⟩
    refine ⟨_, rfl, _, _, _, _, true, rfl, .ty "int", .base (.int i), kit_ty (by decide +kernel), true, rfl, ?_⟩
    exact ⟨_, rfl, _, _, _, _, false, rfl, .ty "bool", .base (.int i), kit_ty (by decide +kernel), false, rfl, q⟩
end
theorem fmod_in (x : Int) {n : Int} (h : 0 < n) : 0 ≤ x.fmod n ∧ x.fmod n < n := by
  rw [Int.fmod_eq_emod_of_nonneg _ (Int.le_of_lt h)]
  exact ⟨Int.emod_nonneg _ (by omega), Int.emod_lt_of_pos _ h⟩
section
variable {P : Program} {w : World} {K : PySem.W.Frag} {mg : Str → Option Value} {base : Heap} {C : Addr}
/-! ### the law's helpers: kinds, cells, digits -/
theorem ok_lwhole {f : Addr} {fd : FuncData} (F : Fun K "_law_whole" "_law_whole" s__law_whole f fd) (T : Bi mg) : FnOk P w K mg base CX0 1 f fd ["_law_value"] spWhole := by
  refine F.ok sc__law_whole (fun vs H Q E h => ?_) (fun cdv A outer s H vs Q E hr h => ?_)
  · obtain ⟨i, rfl, _⟩ := h
    rfl
  · obtain ⟨i, rfl, q⟩ := h
    refine ⟨_, (pss_one (ps_ret (pe_and (pe_callB call_isi (by rfl) T.b_isinstance (by decide +kernel) (pa_cons (pv 0) (pa_cons (pe_bltn (v := .ty "int") (by rfl) T.b_int (by decide +kernel) rfl) pa_nil))) (pe_one (pe_not (pe_callB call_isi (by rfl) T.b_isinstance (by decide +kernel) (pa_cons (pv 0) (pa_cons (pe_bltn (v := .ty "bool") (by rfl) T.b_bool (by decide +kernel) rfl) pa_nil)))))))), ?_⟩
    refine ⟨_, rfl, _, _, _, _, true, rfl, .ty "int", .base (.int i), kit_ty (by decide +kernel), true, rfl, ?_⟩
    exact ⟨_, rfl, _, _, _, _, false, rfl, .ty "bool", .base (.int i), kit_ty (by decide +kernel), false, rfl, q⟩
def spCell (K : PySem.W.Frag) : Sp := fun vs H Q _ => ∃ (l : Addr) (ns : List Int) (j : Nat), vs = [.ref l, .int (j : Int)] ∧ SqL K H l (ns.map V.int) ∧ j ≤ 100000 ∧ ns.length ≤ 1000 ∧ ∀ c : Int, Q (.int c) H
theorem ok_cell {f : Addr} {fd : FuncData} (F : Fun K "_law_cell" "_law_cell" s__law_cell f fd) (T : Bi mg) : FnOk P w K mg base CX0 1 f fd ["_law_script", "_law_k"] (spCell K) := by
  refine F.ok sc__law_cell (fun vs H Q E h => ?_) (fun cdv A outer s H vs Q E hr h => ?_)
  · obtain ⟨l, ns, j, rfl, _⟩ := h
    rfl
  · obtain ⟨l, ns, j, rfl, hs, hj, hn, q⟩ := h
    refine ⟨_, (pss_cons (ps_if (pt_cmpR op_lt (pv 1) (pe_callB call_len_seq (by rfl) T.b_len PySem.boot_len (pa_cons (pv 0) pa_nil)) (nomark _)) (pss_one (ps_ret (pe_ix (r := rIxL K) ix_list (pv 0) (pv 1) (fun _ _ => rfl)))) pss_nil)
        (pss_cons (ps_set (i := 2) sc__law_cell.nd rfl (.inl rfl) pe_int)
        (pss_cons (ps_for PassesOwn.never rfl (pi_list (pv 0)) (pg_name (i := 3) sc__law_cell.nd rfl (.inl rfl))
        (pss_one (ps_set (i := 2) sc__law_cell.nd rfl (.inl rfl) (pe_op op_mod (pe_callTy call_int1 (by rfl) T.b_int (by decide +kernel) (pa_cons (pe_op op_add (pe_op op_mul (pv 2) pe_int) (pe_op op_mod (pe_callTy call_int1 (by rfl) T.b_int (by decide +kernel) (pa_cons (pv 3) pa_nil)) pe_int)) pa_nil)) pe_int))))
        (pss_one (ps_ret (pe_op op_mod (pe_callTy call_int1 (by rfl) T.b_int (by decide +kernel) (pa_cons (pe_op op_mul (pe_op op_mul (pe_op op_add (pv 2) pe_int) (pe_op op_add (pv 1) pe_int)) pe_int) pa_nil)) pe_int)))))), ?_⟩
    refine ⟨_, rfl, _, rfl, l, _, rfl, .inl hs, _, _, rfl, rfl, _, rfl, ite2 (fun e => ?_) (fun e => ?_)⟩
    · have e1 : (j : Int) < ((ns.map V.int).length : Int) := of_decide_eq_true e
      rw [List.length_map] at e1
      have hj2 : j < ns.length := by omega
      have g : (ns.map V.int)[j]? = some (.int ns[j]) := by
        rw [List.getElem?_map, List.getElem?_eq_getElem hj2]
        rfl
      exact ⟨_, rfl, _, rfl, _, _, _, _, rfl, rfl, hs, atI_nat g, q _⟩
    · refine ⟨_, rfl, l, rfl, ⟨_, hs⟩, for_list (xs := ns.map V.int) (fun i σ H' => (∃ (z : Int) (y : Option V), 0 ≤ z ∧ z < 1000003 ∧ σ = [some (.ref l), some (.int (j : Int)), some (.int z), y]) ∧ H' = H) ⟨⟨17, none, by decide, by decide, rfl⟩, rfl⟩ (fun i σ H' _ p => by rw [p.2]; exact hs) (fun i x σ H' hx p => ?_) (fun σ H' p => ?_)⟩
      · obtain ⟨⟨z, y, z0, z1, rfl⟩, rfl⟩ := p
        obtain ⟨c, rfl⟩ : ∃ c, x = .int c := by
          rw [List.getElem?_map] at hx
          cases e2 : ns[i]? with
          | none => rw [e2] at hx; cases hx
          | some c =>
            rw [e2] at hx
            exact ⟨c, (Option.some.inj hx).symm⟩
        refine ⟨_, rfl, _, _, rfl, rfl, .inl ⟨by omega, by omega⟩, _, rfl, .inl ⟨_, rfl, _, _, rfl, rfl, by show (0 : Int) < 1000003; decide, _, _, rfl, rfl, .inl ⟨_, rfl, _, _, rfl, rfl, by show (0 : Int) < 1000003; decide, ?_⟩⟩⟩
        exact ⟨⟨_, _, Int.emod_nonneg _ (by decide), Int.emod_lt_of_pos _ (by decide), rfl⟩, rfl⟩
      · obtain ⟨⟨z, y, z0, z1, rfl⟩, rfl⟩ := p
        have hp : (z + 7) * ((j : Int) + 3) < 2 ^ 64 ∧ -(2 ^ 64) < (z + 7) * ((j : Int) + 3) := by
          have a1 : 0 ≤ z + 7 := by omega
          have a2 : z + 7 ≤ 1000010 := by omega
          have b1 : 0 ≤ (j : Int) + 3 := by omega
          have b2 : (j : Int) + 3 ≤ 100003 := by omega
          have c1 : (z + 7) * ((j : Int) + 3) ≤ 1000010 * 100003 := Int.mul_le_mul a2 b2 b1 (by decide)
          have c2 : 0 ≤ (z + 7) * ((j : Int) + 3) := Int.mul_nonneg a1 b1
          omega
        exact ⟨_, rfl, _, _, rfl, rfl, _, rfl, _, _, rfl, rfl, _, _, rfl, rfl, .inl ⟨by omega, by omega⟩, _, _, rfl, rfl, .inl ⟨hp.2, hp.1⟩, .inl ⟨_, rfl, _, _, rfl, rfl, by show (0 : Int) < 2147483647; decide, q _⟩⟩
/-- each digit lies below its size -/
def Digs (ds szs : List Int) : Prop := ds.length = szs.length ∧ ∀ (i : Nat) (d s : Int), ds[i]? = some d → szs[i]? = some s → 0 ≤ d ∧ d < s
theorem Digs.snoc {ds szs : List Int} {i : Nat} {d s : Int} (h : Digs ds (szs.take i)) (e : szs[i]? = some s) (h0 : 0 ≤ d) (h1 : d < s) : Digs (ds ++ [d]) (szs.take (i + 1)) := by
  have hi : i < szs.length := (List.getElem?_eq_some_iff.mp e).1
  have hl : ds.length = i := by
    rw [h.1, List.length_take]
    omega
  rw [List.take_add_one, e]
  refine ⟨by rw [List.length_append, List.length_append, h.1]; rfl, fun j x y hx hy => ?_⟩
  by_cases hj : j < i
  · rw [List.getElem?_append_left (by omega)] at hx
    rw [List.getElem?_append_left (by rw [List.length_take]; omega)] at hy
    exact h.2 j x y hx hy
  · rw [List.getElem?_append_right (by omega)] at hx
    rw [List.getElem?_append_right (by rw [List.length_take]; omega), List.length_take] at hy
    have hk : j - ds.length = 0 := by
      cases hk : j - ds.length with
      | zero => rfl
      | succ k =>
        rw [hk] at hx
        simp at hx
    rw [hk] at hx
    rw [show j - min i szs.length = 0 by omega] at hy
    obtain rfl : d = x := Option.some.inj hx
    obtain rfl : s = y := Option.some.inj hy
    exact ⟨h0, h1⟩
def spDigs (K : PySem.W.Frag) : Sp := fun vs H Q _ => ∃ (c : Int) (b : Addr) (szs : List Int), vs = [.int c, .ref b] ∧ SqL K H b (szs.map V.int) ∧ szs.length ≤ 1000 ∧ (∀ s ∈ szs, 0 < s ∧ s < 1073741824) ∧ ∀ H' p ds, Same H H' → H p = none → H' p = some (.lst (ds.map V.int)) → Digs ds szs → Q (.ref p) H'
theorem int_at {ns : List Int} {i : Nat} {x : V} (h : (ns.map V.int)[i]? = some x) : ∃ c, x = .int c ∧ ns[i]? = some c := by
  rw [List.getElem?_map] at h
  cases e : ns[i]? with
  | none => rw [e] at h; cases h
  | some c =>
    rw [e] at h
    exact ⟨c, (Option.some.inj h).symm, rfl⟩
theorem ok_digits {f : Addr} {fd : FuncData} (F : Fun K "_law_digits" "_law_digits" s__law_digits f fd) (T : Bi mg) : FnOk P w K mg base CX0 1 f fd ["_law_cell_here", "_law_sizes"] (spDigs K) := by
  refine F.ok sc__law_digits (fun vs H Q E h => ?_) (fun cdv A outer s H vs Q E hr h => ?_)
  · obtain ⟨c, b, szs, rfl, _⟩ := h
    rfl
  · obtain ⟨c, b, szs, rfl, hb, hl, hsz, q⟩ := h
    refine ⟨_, (pss_cons (ps_set (i := 2) sc__law_digits.nd rfl (.inl rfl) (pe_lst pa_nil))
        (pss_cons (ps_set (i := 3) sc__law_digits.nd rfl (.inl rfl) (pe_callTy call_int1 (by rfl) T.b_int (by decide +kernel) (pa_cons (pv 0) pa_nil)))
        (pss_cons (ps_if (pt_cmpR op_ge (pv 3) (pe_op op_pow pe_int pe_int) (nomark _)) (pss_cons (ps_set (i := 3) sc__law_digits.nd rfl (.inl rfl) (pe_op op_sub (pv 3) (pe_op op_pow pe_int pe_int)))
        (pss_cons (ps_for PassesOwn.never rfl (pi_list (pv 1)) (pg_name (i := 6) sc__law_digits.nd rfl (.inl rfl))
        (pss_cons (ps_expr (pe_bm PySem.F.plainAttrs_list PySem.F.slot_list_append PySem.F.type_list_append mt_append (pv 2) (pa_cons (pe_op op_modN (pe_callTy call_int1 (by rfl) T.b_int (by decide +kernel) (pa_cons (pv 3) pa_nil)) (pv 6)) pa_nil)))
        (pss_one (ps_set (i := 3) sc__law_digits.nd rfl (.inl rfl) (pe_op op_fdivN (pe_callTy call_int1 (by rfl) T.b_int (by decide +kernel) (pa_cons (pv 3) pa_nil)) (pv 6))))))
        (pss_one (ps_ret (pv 2))))) pss_nil)
        (pss_cons (ps_set (i := 4) sc__law_digits.nd rfl (.inl rfl) (pe_op op_mod (pe_callTy call_int1 (by rfl) T.b_int (by decide +kernel) (pa_cons (pv 3) pa_nil)) pe_int))
        (pss_cons (ps_for PassesOwn.never rfl (pi_range1 (by rfl) T.b_range (pa_cons (pe_callB call_len_seq (by rfl) T.b_len PySem.boot_len (pa_cons (pv 1) pa_nil)) pa_nil)) (pg_name (i := 5) sc__law_digits.nd rfl (.inl rfl))
        (pss_cons (ps_set (i := 4) sc__law_digits.nd rfl (.inl rfl) (pe_op op_mod (pe_callTy call_int1 (by rfl) T.b_int (by decide +kernel) (pa_cons (pe_op op_add (pe_op op_add (pe_op op_mul (pv 4) pe_int) (pe_op op_mul pe_int (pv 5))) pe_int) pa_nil)) pe_int))
        (pss_cons (ps_set (i := 7) sc__law_digits.nd rfl (.inl rfl) (pe_op op_mod (pe_callTy call_int1 (by rfl) T.b_int (by decide +kernel) (pa_cons (pe_op op_mul (pv 4) (pe_op op_add (pe_op op_fdiv (pv 4) pe_int) pe_int)) pa_nil)) pe_int))
        (pss_one (ps_expr (pe_bm PySem.F.plainAttrs_list PySem.F.slot_list_append PySem.F.type_list_append mt_append (pv 2) (pa_cons (pe_op op_modN (pe_op op_fdiv (pv 7) pe_int) (pe_ix (r := rIxL K) ix_list (pv 1) (pv 5) (fun _ _ => rfl))) pa_nil)))))))
        (pss_one (ps_ret (pv 2)))))))), ?_⟩
    refine ⟨Nat.zero_le _, fun p np => ?_⟩
    have sp : Same H (upd H p (.lst [])) := same_upd np
    refine ⟨_, rfl, .inl ⟨_, rfl, ?_⟩⟩
    refine ⟨_, rfl, _, _, rfl, rfl, ⟨by decide, by decide, by decide⟩, _, _, rfl, rfl, _, rfl, ite2 (fun e => ?_) (fun e => ?_)⟩
    · refine ⟨_, rfl, _, _, rfl, rfl, ⟨by decide, by decide, by decide⟩, _, _, rfl, rfl, ?_⟩
      refine ⟨_, rfl, b, rfl, ⟨_, sp.seq hb⟩, for_list (xs := szs.map V.int) (fun i σ H' => (∃ (z : Int) (ds : List Int) (y4 y5 y6 y7 : Option V), σ = [some (.int c), some (.ref b), some (.ref p), some (.int z), y4, y5, y6, y7] ∧ H' = upd H p (.lst (ds.map V.int)) ∧ Digs ds (szs.take i))) ⟨_, [], _, _, _, _, rfl, rfl, rfl, fun j d s h => by simp at h⟩ (fun i σ H' _ p => by obtain ⟨_, _, _, _, _, _, _, rfl, _⟩ := p; exact (same_upd np).seq hb) (fun i x σ H' hx pv => ?_) (fun σ H' pv => ?_)⟩
      · obtain ⟨z, ds, y4, y5, y6, y7, rfl, rfl, dg⟩ := pv
        obtain ⟨sz, rfl, hsi⟩ := int_at hx
        have hs := hsz sz (List.mem_of_getElem? hsi)
        have hi : i < szs.length := (List.getElem?_eq_some_iff.mp hsi).1
        refine ⟨_, rfl, .inl ⟨rfl, _, .inl (.inl upd_same)⟩, _, rfl, .inl ⟨_, rfl, _, rfl, _, _, rfl, rfl, by omega, p, _, _, rfl, rfl, upd_same, ?_, ?_⟩⟩
        · rw [List.length_map, dg.1, List.length_take]
          exact Nat.lt_of_le_of_lt (Nat.min_le_right _ _) (small1000 hl)
        refine ⟨_, rfl, .inl ⟨_, rfl, _, rfl, _, _, rfl, rfl, ⟨by omega, by omega⟩, ?_⟩⟩
        have hm := fmod_in z hs.1
        refine ⟨_, ds ++ [z.fmod sz], _, _, _, _, rfl, ?_, dg.snoc hsi hm.1 hm.2⟩
        rw [upd_upd, List.map_append]
        rfl
      · obtain ⟨z, ds, y4, y5, y6, y7, rfl, rfl, dg⟩ := pv
        rw [List.length_map, List.take_length] at dg
        exact ⟨_, rfl, q _ p ds (same_upd np) np upd_same dg⟩
    · refine ⟨_, rfl, .inl ⟨_, rfl, _, _, rfl, rfl, by show (0 : Int) < 2147483629; decide, ?_⟩⟩
      refine ⟨_, rfl, b, _, rfl, .inl (sp.seq hb), _, rfl, by omega, by rw [List.length_map]; omega, ?_⟩
      rw [show ((szs.map V.int).length : Int).toNat = szs.length by rw [List.length_map]; omega]
      refine for_range (lo := 0) (n := szs.length) (fun i σ H' => (∃ (z : Int) (ds : List Int) (y3 y4 y6 y7 : Option V), 0 ≤ z ∧ z < 2147483647 ∧ σ = [some (.int c), some (.ref b), some (.ref p), y3, some (.int z), y4, y6, y7] ∧ H' = upd H p (.lst (ds.map V.int)) ∧ Digs ds (szs.take i))) ⟨_, [], _, _, _, _, Int.emod_nonneg _ (by decide), Int.lt_of_lt_of_le (Int.emod_lt_of_pos _ (by decide)) (by decide), rfl, rfl, rfl, fun j d s h => by simp at h⟩ (fun i σ H' hi pv => ?_) (fun σ H' pv => ?_)
      · obtain ⟨z, ds, y3, y4, y6, y7, z0, z1, rfl, rfl, dg⟩ := pv
        have hsi : szs[i]? = some szs[i] := List.getElem?_eq_getElem hi
        have hs := hsz szs[i] (List.mem_of_getElem? hsi)
        generalize szs[i] = sz at hsi hs
        refine ⟨_, rfl, _, _, rfl, rfl, .inl ⟨by omega, by omega⟩, _, rfl, _, _, rfl, rfl, .inl ⟨by decide, by decide⟩, _, _, rfl, rfl, _, _, rfl, rfl, .inl ⟨_, rfl, _, _, rfl, rfl, by show (0 : Int) < 2147483647; decide, ?_⟩⟩
        generalize hz : (z * 48271 + 974711 * (0 + (i : Int)) + 12345) % 2147483647 = z2
        have z20 : 0 ≤ z2 := by rw [← hz]; exact Int.emod_nonneg _ (by decide)
        have z21 : z2 < 2147483647 := by rw [← hz]; exact Int.emod_lt_of_pos _ (by decide)
        refine ⟨_, rfl, _, rfl, _, _, rfl, rfl, ⟨by decide, by decide⟩, _, _, rfl, rfl, _, _, rfl, rfl, .inl ⟨?_, ?_⟩, .inl ⟨_, rfl, _, _, rfl, rfl, by show (0 : Int) < 2147483629; decide, ?_⟩⟩
        · show -(2 ^ 64) < (z * 48271 + 974711 * (0 + (i : Int)) + 12345) % 2147483647
          rw [hz]
          omega
        · show (z * 48271 + 974711 * (0 + (i : Int)) + 12345) % 2147483647 < 2 ^ 64
          rw [hz]
          omega
        refine ⟨_, rfl, .inl ⟨rfl, _, .inl (.inl upd_same)⟩, _, rfl, _, _, rfl, rfl, ⟨by decide, by decide⟩, _, rfl, _, rfl, b, _, _, _, rfl, rfl, (same_upd np).seq hb, at_of (j := i) (by omega) (by rw [List.getElem?_map, hsi]; rfl), _, _, rfl, rfl, by omega, p, _, _, rfl, rfl, upd_same, ?_, ?_⟩
        · rw [List.length_map, dg.1, List.length_take]
          exact Nat.lt_of_le_of_lt (Nat.min_le_right _ _) (small1000 hl)
        have hm := fun x : Int => fmod_in x hs.1
        refine ⟨_, ds ++ [((((z * 48271 + 974711 * (0 + (i : Int)) + 12345) % 2147483647) * (((z * 48271 + 974711 * (0 + (i : Int)) + 12345) % 2147483647) / 65537 + 3)) % 2147483629 / 19).fmod sz], _, _, _, _, ?_, ?_, rfl, ?_, dg.snoc hsi (hm _).1 (hm _).2⟩
        · exact Int.emod_nonneg _ (by decide)
        · exact Int.emod_lt_of_pos _ (by decide)
        · rw [upd_upd, List.map_append]
          rfl
      · obtain ⟨z, ds, y3, y4, y6, y7, z0, z1, rfl, rfl, dg⟩ := pv
        rw [List.take_length] at dg
        exact ⟨_, rfl, q _ p ds (same_upd np) np upd_same dg⟩
end
end Own

namespace Own
open PySem PySem.Spec PyProof.Rows L2 TL
/-! ### words that are numbers -/
/-- the signs behind a minus -/
def bodyL (w : List Nat) : List Nat := if w.head? = some 45 then w.tail else w
def dgL (d : List Nat) : Bool := decide (d ≠ []) && d.all fun c => decide (48 ≤ c) && decide (c ≤ 57)
def isNum (w : List Nat) : Bool := dgL (bodyL w) && (decide (w = [48]) || !decide ((bodyL w).head? = some 48))
theorem dgL_all {d : List Nat} (h : dgL d = true) : d ≠ [] ∧ NumText.AllDigits d := by
  unfold dgL at h
  rw [Bool.and_eq_true, decide_eq_true_eq] at h
  refine ⟨h.1, fun c hc => ?_⟩
  have := List.all_eq_true.mp h.2 c hc
  rw [Bool.and_eq_true, decide_eq_true_eq, decide_eq_true_eq] at this
  exact this
theorem dgL_of {d : List Nat} (h : d ≠ []) (a : NumText.AllDigits d) : dgL d = true := by
  unfold dgL
  rw [Bool.and_eq_true, decide_eq_true_eq]
  refine ⟨h, List.all_eq_true.mpr fun c hc => ?_⟩
  rw [Bool.and_eq_true, decide_eq_true_eq, decide_eq_true_eq]
  exact a c hc
theorem body_neg {w : List Nat} (h : w.head? = some 45) : w = 45 :: bodyL w := by
  unfold bodyL
  rw [if_pos h]
  cases w with
  | nil => cases h
  | cons c r =>
    obtain rfl : c = 45 := Option.some.inj h
    rfl
theorem body_pos {w : List Nat} (h : ¬ w.head? = some 45) : bodyL w = w := by
  unfold bodyL
  rw [if_neg h]
def numV (w : Str) : Int := (PySem.intText? w).getD 0
theorem num_read {w : Str} (h : isNum (tl w) = true) (hl : w.length ≤ 4300) : PySem.intText? w = some (numV w) := by
  unfold isNum at h
  rw [Bool.and_eq_true] at h
  obtain ⟨h1, h2⟩ := dgL_all h.1
  have : ∃ n, PySem.intText? w = some n := by
    by_cases hn : (tl w).head? = some 45
    · exact ⟨_, intText_neg (body_neg hn) h2 h1 hl⟩
    · rw [body_pos hn] at h1 h2
      exact ⟨_, intText_digits h2 h1 hl⟩
  obtain ⟨n, e⟩ := this
  unfold numV
  rw [e]
  rfl
/-! ### the texts of numbers -/
theorem numL_head (n : Nat) : (numL n).head? = some 48 → n = 0 := by
  induction n using Nat.strongRecOn with
  | _ n ih =>
    intro h
    by_cases hn : n < 10
    · rw [numL_lt hn] at h
      have : 48 + n = 48 := Option.some.inj h
      omega
    · rw [numL_step (by omega)] at h
      have := ih (n / 10) (by omega) (by
        cases e : numL (n / 10) with
        | nil => exact absurd e (numL_ne _)
        | cons c r => rw [e] at h; exact h)
      omega
theorem tl_neg (m : Nat) : tl (Str.ofString (toString (Int.negSucc m))) = 45 :: numL (m + 1) := by
  have e : toString (Int.negSucc m) = "-" ++ toString (((m + 1 : Nat)) : Int) := rfl
  have h := tl_num (m + 1)
  rw [tl_ofString] at h ⊢
  rw [e, String.toList_append, List.map_append, h]
  rfl
/-- the signs of a whole number -/
def intL : Int → List Nat
  | .ofNat n => numL n
  | .negSucc m => 45 :: numL (m + 1)
theorem tl_int (i : Int) : tl (Str.ofString (toString i)) = intL i := by
  cases i with
  | ofNat n => exact tl_num n
  | negSucc m => exact tl_neg m
theorem head_num (n : Nat) : ¬ (numL n).head? = some 45 := fun h => by
  cases e : numL n with
  | nil => exact numL_ne _ e
  | cons c r =>
    rw [e] at h
    obtain rfl : c = 45 := Option.some.inj h
    have := numL_digits n 45 (by rw [e]; exact List.mem_cons_self)
    omega
theorem isNum_int (i : Int) : isNum (intL i) = true := by
  cases i with
  | ofNat n =>
    unfold isNum intL
    simp only [body_pos (head_num n)]
    rw [Bool.and_eq_true]
    refine ⟨dgL_of (numL_ne n) (numL_digits n), ?_⟩
    rw [Bool.or_eq_true]
    by_cases h : (numL n).head? = some 48
    · left
      rw [numL_head n h]
      decide
    · right
      rw [decide_eq_false h]
      rfl
  | negSucc m =>
    have hb : bodyL (45 :: numL (m + 1)) = numL (m + 1) := by
      unfold bodyL
      rw [if_pos (show (45 :: numL (m + 1)).head? = some 45 from rfl)]
      rfl
    unfold isNum intL
    simp only [hb]
    rw [Bool.and_eq_true]
    refine ⟨dgL_of (numL_ne _) (numL_digits _), ?_⟩
    rw [Bool.or_eq_true]
    right
    rw [decide_eq_false (fun h => by have := numL_head _ h; omega)]
    rfl
theorem numV_int {i : Int} (hl : (intL i).length ≤ 4300) : numV (Str.ofString (toString i)) = i := by
  have hz : (Str.ofString (toString i)).length = (intL i).length := by rw [len_tl, tl_int]
  unfold numV
  cases i with
  | ofNat n =>
    have e := int_num (n := n) hl
    show (PySem.intText? (Str.ofString (toString ((n : Nat) : Int)))).getD 0 = _
    rw [e]
    rfl
  | negSucc m =>
    have e := intText_neg (x := Str.ofString (toString (Int.negSucc m))) (cs := numL (m + 1)) (tl_neg m) (numL_digits _) (numL_ne _) (by rw [hz]; exact hl)
    rw [e, numL_val]
    rfl
/-- signs that a number has not -/
theorem intL_free {i : Int} {c : Nat} (h : c < 45 ∨ 57 < c) : c ∉ intL i := fun hm => by
  cases i with
  | ofNat n => exact numL_free (by omega) hm
  | negSucc m =>
    rcases List.mem_cons.mp hm with e | e
    · omega
    · exact numL_free (by omega) e
end Own

namespace Own
open PySem PySem.Spec PyProof.Rows L2 TL
theorem starts_one (x y : Str) (c : Nat) (hy : tl y = [c]) : Txt.startswith x y = decide ((tl x).head? = some c) := by
  have h1 : (Txt.startswith x y = true) ↔ StrLaws.At x y x.length 0 := by
    unfold Txt.startswith StrLaws.At
    rw [Bool.and_eq_true, decide_eq_true_eq]
  have h2 := at_iff (x := x) (y := y) (by rw [hy]; simp) 0
  rw [hy, List.drop_zero] at h2
  have h3 : pre [c] (tl x) = true ↔ (tl x).head? = some c := by
    unfold pre
    cases tl x with
    | nil => simp
    | cons d r => simp
  rw [Bool.eq_iff_iff, decide_eq_true_eq]
  exact h1.trans (h2.trans h3)
theorem tl_cut1 (x : Str) : tl (cutS x (some 1) none) = (tl x).tail := by
  show ((tl x).drop (HT.sIx x.length 0 (some 1))).take (HT.sIx x.length x.length none - HT.sIx x.length 0 (some 1)) = _
  rw [show HT.sIx x.length 0 (some 1) = min 1 x.length from HT.sIx_nat _ _ 1, HT.sIx_none, len_tl]
  cases tl x with
  | nil => rfl
  | cons c r =>
    have e : min 1 (c :: r).length = 1 := by simp
    rw [e]
    simp
theorem digs_ok (z : Str) : (Txt.isascii z && Txt.isdigit z) = dgL (tl z) := by
  unfold Txt.isascii Txt.isdigit dgL
  rw [Bool.eq_iff_iff]
  simp only [Bool.and_eq_true, decide_eq_true_eq, Array.all_eq_true_iff_forall_mem, List.all_eq_true]
  have hm : ∀ c, c ∈ z.cps ↔ c ∈ tl z := fun c => by simp [tl]
  have hin : ∀ c, c < 128 → (Unicode.isDigit c = true ↔ (48 ≤ c ∧ c ≤ 57)) := by
    intro c hc
    have all : ∀ c, c < 128 → (Unicode.isDigit c = (decide (48 ≤ c) && decide (c ≤ 57))) := by decide +kernel
    rw [all c hc, Bool.and_eq_true, decide_eq_true_eq, decide_eq_true_eq]
  constructor
  · rintro ⟨a, b, d⟩
    refine ⟨fun e => ?_, fun c hc => ?_⟩
    · rw [len_tl, e] at b
      exact absurd b (by simp)
    · exact (hin c (a c ((hm c).mpr hc))).mp (d c ((hm c).mpr hc))
  · rintro ⟨a, b⟩
    have lo : ∀ c ∈ z.cps, 48 ≤ c ∧ c ≤ 57 := fun c hc => b c ((hm c).mp hc)
    refine ⟨fun c hc => ?_, ?_, fun c hc => ?_⟩
    · have := lo c hc
      omega
    · rw [len_tl]
      exact List.length_pos_iff.mpr a
    · have := lo c hc
      exact (hin c (by omega)).mpr this
theorem str_eq {x y : Str} : decide (V.str x = V.str y) = decide (tl x = tl y) := by
  rw [Bool.eq_iff_iff, decide_eq_true_eq, decide_eq_true_eq]
  exact ⟨fun e => by rw [V.str.inj e], fun e => by rw [ext_tl e]⟩
section
variable {P : Program} {w : World} {K : PySem.W.Frag} {mg : Str → Option Value} {base : Heap}
def spNum : Sp := fun vs H Q _ => ∃ x : Str, vs = [.str x] ∧ x.length ≤ 100000 ∧ Q (.bl (isNum (tl x))) H
theorem ok_number {f : Addr} {fd : FuncData} (F : Fun K "is_number" "is_number" s_is_number f fd) (T : Bi mg) : FnOk P w K mg base CX0 1 f fd ["word"] spNum := by
  refine F.ok sc_is_number (fun vs H Q E h => ?_) (fun cdv A outer s H vs Q E hr h => ?_)
  · obtain ⟨x, rfl, _⟩ := h
    rfl
  · obtain ⟨x, rfl, hx, q⟩ := h
    refine ⟨_, (pss_cons (ps_set (i := 1) sc_is_number.nd rfl (.inl rfl) (pe_ifExp (pt_val (pe_m1 PySem.F.slot_str_startswith PySem.F.type_str_startswith mt_startswith (pv 0) pe_str)) (pe_slice sl_str (pv 0) (po_some pe_int) po_none) (pv 0)))
        (pss_cons (ps_if (PW.pt (pw_or (pt_not (pt_val (pe_m0 PySem.F.slot_str_isascii PySem.F.type_str_isascii mt_isascii (pv 1)))) (pw_or1 (pt_not (pt_val (pe_m0 PySem.F.slot_str_isdigit PySem.F.type_str_isdigit mt_isdigit (pv 1))))))) (pss_one (ps_ret pe_bl)) pss_nil)
        (pss_one (ps_ret (pe_or (pe_cmpR op_eq (pv 0) pe_str (nomark _)) (pe_one (pe_not (pe_m1 PySem.F.slot_str_startswith PySem.F.type_str_startswith mt_startswith (pv 1) pe_str)))))))), ?_⟩
    have main : ∀ z : Str, tl z = bodyL (tl x) → (tSeq (tIfS (tOr (tNot (tB (tM0 (fun x xs H Q => ∃ a, x = V.str a ∧ xs = [] ∧ True ∧ Q (V.bl (Txt.isascii a)) H) (tVar 1)))) (tNot (tB (tM0 (fun x xs H Q => ∃ a, x = V.str a ∧ xs = [] ∧ True ∧ Q (V.bl (Txt.isdigit a)) H) (tVar 1)))))
        (tRet (tC (V.bl false))) tNext) (tRet (tOrV (tOp rEq (tVar 0) (tC (V.str "0"))) (tNotV (tM1 (fun x xs H Q => ∃ a b, x = V.str a ∧ xs = [V.str b] ∧ Q (V.bl (Txt.startswith a b)) H) (tVar 1) (tC (V.str "0")))))))
        { nx := fun x H' => Q V.non H', rt := Q } [some (.str x), some (.str z)] H := fun z hz => by
      have hd := digs_ok z
      rw [hz] at hd
      unfold isNum at q
      rw [← hd] at q
      refine ⟨_, rfl, ⟨_, rfl⟩, z, rfl, rfl, trivial, _, rfl, ?_⟩
      cases ha : Txt.isascii z with
      | false =>
        rw [ha] at q
        exact q
      | true =>
        rw [ha] at q
        refine ⟨_, rfl, ⟨_, rfl⟩, z, rfl, rfl, trivial, _, rfl, ?_⟩
        cases hb : Txt.isdigit z with
        | false =>
          rw [hb] at q
          exact q
        | true =>
          rw [hb] at q
          refine ⟨_, rfl, rfl, _, rfl, ?_⟩
          rw [str_eq, show tl ("0" : Str) = [48] from rfl]
          rw [Bool.true_and, Bool.true_and] at q
          cases hc : decide (tl x = [48]) with
          | true =>
            rw [hc, Bool.true_or] at q
            exact q
          | false =>
            rw [hc, Bool.false_or] at q
            refine ⟨_, rfl, ⟨_, rfl⟩, z, _, rfl, rfl, _, rfl, ?_⟩
            rw [starts_one z "0" 48 rfl, hz]
            exact q
    refine ⟨_, rfl, ⟨_, rfl⟩, x, _, rfl, rfl, _, rfl, ?_⟩
    rw [starts_one x "-" 45 rfl]
    refine ite2 (fun e => ?_) (fun e => ?_)
    · have e := of_decide_eq_true e
      refine ⟨_, rfl, _, rfl, x, rfl, Nat.le_trans hx (by decide), main _ ?_⟩
      rw [tl_cut1]
      unfold bodyL
      rw [if_pos e]
    · have e : ¬ (tl x).head? = some 45 := fun z => e (decide_eq_true z)
      exact ⟨_, rfl, main _ (body_pos e).symm⟩
end
end Own

namespace Own
open PySem PySem.Spec PyProof.Rows L2 NdefX
section
variable {P : Program} {w : World} {K : PySem.W.Frag} {mg : Str → Option Value} {base : Heap} {D cc cda f : Addr}
abbrev s_NoteError_init : Stmt := inClass (top 8) 0
theorem sn_NoteError : NScope ["self", "line", "__class__"] ["self", "line"] ["__class__"] (defScope s_NoteError_init) := nscope_by (by decide +kernel)
theorem ok_NoteError {oc kV dc pm ct : Value} {an od : Option Addr} {sl : Array (Option Value)} (T : ErrK P K mg D cc cda)
    (lk : K.lookup f = some ⟨oc, od, .func (PySem.W.fnX "__init__" "NoteError.__init__" (defArgs s_NoteError_init) (defBody s_NoteError_init) (defScope s_NoteError_init) [("__class__", cc)] .none kV dc pm an (.ref cda) ct), sl⟩) (hcd : PySem.W.codeIn K (.ref cda) "NoteError.__init__" = true)
    (n1 : PySem.W.findIn K (.ref D) "line" = some none) :
    FnOk P w K mg base CX0 1 f (PySem.W.fnX "__init__" "NoteError.__init__" (defArgs s_NoteError_init) (defBody s_NoteError_init) (defScope s_NoteError_init) [("__class__", cc)] .none kV dc pm an (.ref cda) ct) ["self", "line"] (spErr D ["line"]) := by
  refine fn_err (N := ["self", "line", "__class__"]) (ps := ["self", "line"]) T lk hcd sn_NoteError rfl rfl rfl (fun vs H Q E h => ?_) (fun A outer s H vs Q E hr h => ?_)
  · obtain ⟨a, ys, rfl, hl, _⟩ := h
    show ys.length + 1 = _
    rw [hl]
    rfl
  · obtain ⟨a, ys, rfl, hl, hs, ha, q⟩ := h
    match ys, hl with
    | [y1], _ =>
      obtain ⟨i1, rfl, h1⟩ := hs y1 (by simp)
      have l1 := txt_len h1
      refine ⟨a, _, _, rfl, ha, pa_cons (pe_joined (PJ.cons pe_str (PJ.cons (pe_fmtR (pv 1)) PJ.nil))) pa_nil, (pss_one (ps_ost (pv 0) (pv 1))), ?_⟩
      have e0 : (Str.empty).length = 0 := rfl
      have c1 : (Str.ofString "line ").length ≤ 100 := by decide +kernel
      refine ⟨_, rfl, ?_, _, rfl, .inr ⟨i1, rfl, by omega, _, rfl, ?_, ⟨by show 1 ≤ 1000; decide, ha, ?_⟩⟩⟩
      all_goals first | (simp only [strLen_append, sizeLine_eq, e0] at *; (first | omega | (show _ ≤ _; omega))) | skip
      refine ⟨_, rfl, _, rfl, a, D, rfl, T.oex, n1, .inl ⟨ha, fun dx nd ne => ?_⟩⟩
      refine q dx _ nd ne fun b => ?_
      by_cases hb : b = dx
      · subst hb
        rw [if_pos rfl]
        first | (rw [upd_ne ne, upd_same]; rfl) | (rw [upd_same]; rfl)
      · rw [if_neg hb]
        by_cases hb2 : b = a
        · subst hb2
          rw [if_pos rfl]
          first | (rw [upd_same]) | (rw [upd_ne hb, upd_same]) | (rw [upd_ne hb, upd_ne hb, upd_same])
        · rw [if_neg hb2]
          repeat (first | rw [upd_ne hb] | rw [upd_ne hb2])
end
end Own

namespace Own
open PySem PySem.Spec PyProof.Rows L2 TL
section
variable {P : Program} {w : World} {K : PySem.W.Frag} {mg : Str → Option Value} {base : Heap} {D : Addr}
theorem str_at {ws : List Str} {i : Nat} {v : V} (h : (ws.map V.str)[i]? = some v) : ∃ x, v = .str x ∧ ws[i]? = some x := by
  rw [List.getElem?_map] at h
  cases e : ws[i]? with
  | none => rw [e] at h; cases h
  | some c =>
    rw [e] at h
    exact ⟨c, (Option.some.inj h).symm, rfl⟩
/-- what must be known of NoteError -/
structure NErC (K : PySem.W.Frag) (mg : Str → Option Value) (D f_e : Addr) (d_e : FuncData) : Prop where
  T : OexC K D
  R : ErrT K mg "NoteError" D f_e
  b : Binds K d_e ["self", "line"] []
abbrev GE (P : Program) (w : World) (K : PySem.W.Frag) (mg : Str → Option Value) (base : Heap) (D f_e : Addr) (d_e : FuncData) : Prop := FnOk P w K mg base CX0 1 f_e d_e ["self", "line"] (spErr D ["line"])
/-- the error of line p -/
def NEx (D : Addr) (p : Int) (H : Hp) (E : XK) : Prop := ∀ H' d, Same H H' → H' d = none → E (.ref D) (some d) (upd H' d (.xd (flE ["line"] [.int p])))
theorem NEx.same {p : Int} {H H' : Hp} {E : XK} (h : NEx D p H E) (s : Same H H') : NEx D p H' E := fun H2 d s2 n => h H2 d (s.trans s2) n
theorem nex_err {p : Int} {H : Hp} {E : XK} (h : NEx D p H E) (h0 : -100000 ≤ p) (h1 : p ≤ 100000) : ([V.int p].length = ["line"].length ∧ ["line"].length ≤ 1000 ∧ (∀ y ∈ [V.int p], Shw y) ∧ ∀ d, H d = none → E (.ref D) (some d) (upd H d (.xd (flE ["line"] [V.int p])))) := by
  refine ⟨rfl, by decide, fun y hy => ?_, fun d nd => h H d (Same.refl H) nd⟩
  rw [List.mem_singleton.mp hy]
  exact Shw.of (by omega) (by omega)
def spNums (K : PySem.W.Frag) (D : Addr) : Sp := fun vs H Q E => ∃ (a : Addr) (ws : List Str) (p : Int), vs = [.ref a, .int p] ∧ SqL K H a (ws.map V.str) ∧ ws.length ≤ 1000 ∧ (∀ x ∈ ws, x.length ≤ 600) ∧ 0 ≤ p ∧ p ≤ 1000 ∧
  ((∀ x ∈ ws, isNum (tl x) = true) → ∀ H' b, Same H H' → H' b = some (.tup ((ws.map numV).map V.int)) → Q (.ref b) H') ∧ ((∃ x ∈ ws, isNum (tl x) = false) → NEx D (p + 1) H E)
theorem ok_nums {f f_e : Addr} {fd d_e : FuncData} (F : Fun K "numbers_of" "numbers_of" s_numbers_of f fd) (T : Bi mg) (U : NErC K mg D f_e d_e) (G_e : GE P w K mg base D f_e d_e) {f_n : Addr} {d_n : FuncData} (D_n : Df K mg "is_number" s_is_number ["word"] f_n d_n) (G_n : FnOk P w K mg base CX0 1 f_n d_n ["word"] spNum) :
    FnOk P w K mg base (L2N.CX P w) 3 f fd ["words", "place"] (spNums K D) := by
  refine okN F sc_numbers_of (fun vs H Q E h => ?_) (fun cdv A outer s H vs Q E hr h => ?_)
  · obtain ⟨a, ws, p, rfl, _⟩ := h
    rfl
  · obtain ⟨a, ws, p, rfl, hs, hl, hw, p0, p1, q, e⟩ := h
    refine ⟨_, (pss_cons (ps_for PassesOwn.leaving rfl (pi_list (pv 0)) (pg_name (i := 2) sc_numbers_of.nd rfl (.inl rfl))
        (pss_one (ps_if (pt_not (pt_val (pe_call G_n (hr.mono (by decide)) (by rfl) D_n.g D_n.F.kp D_n.b .nil pass0 (pa_cons (pv 2) pa_nil)))) (pss_one (ps_errN rfl (L2N.takes_of rfl rfl rfl rfl) U.T U.R G_e (hr.mono (by decide)) U.b (by rfl) (pa_cons (pe_op op_add (pv 1) pe_int) pa_nil))) pss_nil)))
        (pss_one (ps_ret (pe_callTy call_tuple_of (by rfl) T.b_tuple (by decide +kernel) (pa_cons (pe_lc (own := [("word", 2)]) (g := gName 2) (tt := tYes) rfl sc_numbers_of.nd (pi_list (pv 0)) (blkOk_by (own := [("word", 2)]) (N := ["words", "place", "word"]) (sc := defScope s_numbers_of) (by decide +kernel)) (fun _ _ _ _ _ => (pg_name (i := 2) sc_numbers_of.nd rfl (.inl rfl))) (fun _ _ _ _ _ => pts_nil) (fun _ _ _ _ _ => (pe_callTy call_int_str (by rfl) T.b_int (by decide +kernel) (pa_cons (pv 2) pa_nil)))) pa_nil))))), ?_⟩
    refine ⟨_, rfl, a, rfl, ⟨_, hs⟩, for_list (xs := ws.map V.str) (fun i σ H' => ((∃ y, σ = [some (.ref a), some (.int p), y]) ∧ H' = H) ∧ ∀ x ∈ ws.take i, isNum (tl x) = true) ⟨⟨⟨none, rfl⟩, rfl⟩, fun x hx => nomatch hx⟩ (fun i σ H' _ p => by rw [p.1.2]; exact hs) (fun i v σ H' hx pv => ?_) fun σ H' pv => ?_⟩
    · obtain ⟨⟨⟨y, rfl⟩, rfl⟩, done⟩ := pv
      obtain ⟨x, rfl, hw1⟩ := str_at hx
      have hm := List.mem_of_getElem? hw1
      refine ⟨_, rfl, x, rfl, Nat.le_trans (hw x hm) (by decide), _, rfl, ?_⟩
      cases hn : isNum (tl x) with
      | true =>
        refine ⟨⟨_, rfl⟩, rfl⟩ |> fun z => ⟨z, fun y hy => ?_⟩
        rw [List.take_add_one, hw1] at hy
        rcases List.mem_append.mp hy with hy | hy
        · exact done y hy
        · rw [List.mem_singleton.mp hy]
          exact hn
      | false =>
        exact ⟨_, rfl, _, _, rfl, rfl, nex_err (e ⟨x, hm, hn⟩) (by omega) (by omega)⟩
    · obtain ⟨⟨⟨y, rfl⟩, rfl⟩, done⟩ := pv
      rw [List.length_map, List.take_length] at done
      refine ⟨_, rfl, a, rfl, ⟨_, hs⟩, fun M nM => lc_list (K := K) (a := a) (xs := ws.map V.str) (fun i Hi => Hi = upd H' M (.lst (((ws.take i).map numV).map V.int))) rfl (fun i Hi _ e => ?_) (fun i v Hi hx pv => ?_) fun Hi pv => ?_⟩
      · rw [e]
        exact (same_upd nM).seq hs
      · subst pv
        obtain ⟨x, rfl, hw1⟩ := str_at hx
        have hm := List.mem_of_getElem? hw1
        have hz := hw x hm
        refine ⟨rfl, ?_⟩
        refine ⟨_, rfl, x, numV x, rfl, num_read (done x hm) (by omega), by omega, _, upd_same, ?_, ?_⟩
        · rw [List.length_map, List.length_map, List.length_take]
          exact Nat.lt_of_le_of_lt (Nat.min_le_right _ _) (small1000 hl)
        · rw [upd_upd, List.take_add_one, hw1]
          simp
      · subst pv
        rw [List.length_map, List.take_length]
        refine ⟨M, _, rfl, .inl ⟨.inl (.inl upd_same), fun l nl => ?_⟩⟩
        exact q done _ l ((same_upd nM).trans (same_upd nl)) upd_same
/-- the words of a line -/
def wdsOf (x : Str) : List Str := Txt.split x " "
def spWords (K : PySem.W.Frag) (D : Addr) : Sp := fun vs H Q E => ∃ (a : Addr) (ls : List Str) (p : Nat), vs = [.ref a, .int (p : Int)] ∧ SqL K H a (ls.map V.str) ∧ p ≤ 1000 ∧ (∀ x, ls[p]? = some x → x.length ≤ 1000 ∧ ∀ H' b, Same H H' → H' b = some (.lst ((wdsOf x).map V.str)) → Q (.ref b) H') ∧ (ls.length ≤ p → NEx D ((p : Int) + 1) H E)
theorem ok_words {f f_e : Addr} {fd d_e : FuncData} (F : Fun K "words_at" "words_at" s_words_at f fd) (T : Bi mg) (U : NErC K mg D f_e d_e) (G_e : GE P w K mg base D f_e d_e) : FnOk P w K mg base (L2N.CX P w) 3 f fd ["lines", "place"] (spWords K D) := by
  refine okN F sc_words_at (fun vs H Q E h => ?_) (fun cdv A outer s H vs Q E hr h => ?_)
  · obtain ⟨a, ls, p, rfl, _⟩ := h
    rfl
  · obtain ⟨a, ls, p, rfl, hs, hp, q, e⟩ := h
    refine ⟨_, (pss_cons (ps_if (pt_cmpR op_ge (pv 1) (pe_callB call_len_seq (by rfl) T.b_len PySem.boot_len (pa_cons (pv 0) pa_nil)) (nomark _)) (pss_one (ps_errN rfl (L2N.takes_of rfl rfl rfl rfl) U.T U.R G_e (hr.mono (by decide)) U.b (by rfl) (pa_cons (pe_op op_add (pv 1) pe_int) pa_nil))) pss_nil)
        (pss_one (ps_ret (pe_split (pe_ix (r := rIxL K) ix_list (pv 0) (pv 1) (fun _ _ => rfl)) pe_str)))), ?_⟩
    refine ⟨_, rfl, _, rfl, a, _, rfl, .inl hs, _, _, rfl, rfl, _, rfl, ite2 (fun c => ?_) (fun c => ?_)⟩
    · have c1 : ((ls.map V.str).length : Int) ≤ (p : Int) := of_decide_eq_true c
      rw [List.length_map] at c1
      exact ⟨_, rfl, _, _, rfl, rfl, nex_err (e (by omega)) (by omega) (by omega)⟩
    · have c1 : ¬ ((ls.map V.str).length : Int) ≤ (p : Int) := fun z => c (decide_eq_true z)
      rw [List.length_map] at c1
      have hx : ls[p]? = some ls[p] := List.getElem?_eq_getElem (by omega)
      obtain ⟨hz, q⟩ := q _ hx
      generalize ls[p] = x at hx hz q
      refine ⟨_, rfl, _, rfl, a, _, _, _, rfl, rfl, hs, at_of (j := p) rfl (by rw [List.getElem?_map, hx]; rfl), ⟨_, rfl⟩, x, _, rfl, rfl, rfl, Nat.le_trans (Nat.add_le_add_right hz 2) (by decide), fun b nb => q _ b (same_upd nb) upd_same⟩
end
end Own

namespace Own
open PySem PySem.Spec PyProof.Rows L2 TL
theorem spl_ne (S : List Nat) : ∀ (l : List Nat) (k : Nat) (acc : List Nat), spl S k acc l ≠ []
  | [], k, acc => by rw [spl_nil]; simp
  | c :: r, 0, acc => by
    unfold spl
    split
    · simp
    · exact spl_ne S r 0 _
  | c :: r, k + 1, acc => by
    unfold spl
    exact spl_ne S r k acc
theorem spl_len (S : List Nat) : ∀ (l : List Nat) (k : Nat) (acc : List Nat), (spl S k acc l).length ≤ l.length + 1
  | [], k, acc => by rw [spl_nil]; simp
  | c :: r, 0, acc => by
    unfold spl
    split
    · have := spl_len S r (S.length - 1) []
      simp only [List.length_cons]
      omega
    · have := spl_len S r 0 (acc ++ [c])
      simp only [List.length_cons]
      omega
  | c :: r, k + 1, acc => by
    unfold spl
    have := spl_len S r k acc
    simp only [List.length_cons]
    omega
theorem spl_part (S : List Nat) : ∀ (l : List Nat) (k : Nat) (acc : List Nat), ∀ p ∈ spl S k acc l, p.length ≤ acc.length + l.length
  | [], k, acc => by
    rw [spl_nil]
    intro p hp
    rw [List.mem_singleton.mp hp]
    simp
  | c :: r, 0, acc => by
    unfold spl
    intro p hp
    split at hp
    · rcases List.mem_cons.mp hp with e | e
      · rw [e]
        omega
      · have := spl_part S r (S.length - 1) [] p e
        simp only [List.length_cons, List.length_nil] at *
        omega
    · have := spl_part S r 0 (acc ++ [c]) p hp
      simp only [List.length_cons, List.length_append, List.length_nil] at *
      omega
  | c :: r, k + 1, acc => by
    unfold spl
    intro p hp
    have := spl_part S r k acc p hp
    simp only [List.length_cons]
    omega
theorem split_tl (x y : Str) (c : Nat) (hy : tl y = [c]) (hc : c < 256) : (Txt.split x y).map tl = spl [c] 0 [] (tl x) := by
  have hk : y.cps.all (· < 256) = true := by
    rw [← Array.all_toList]
    show (tl y).all _ = true
    rw [hy]
    simp [hc]
  rw [split_spl x y (by rw [hy]; simp) (kind_ok hk), hy]
theorem split_facts (x y : Str) (c : Nat) (hy : tl y = [c]) (hc : c < 256) : Txt.split x y ≠ [] ∧ (Txt.split x y).length ≤ x.length + 1 ∧ ∀ p ∈ Txt.split x y, p.length ≤ x.length := by
  have e := split_tl x y c hy hc
  refine ⟨fun z => ?_, ?_, fun p hp => ?_⟩
  · rw [z] at e
    exact spl_ne _ _ _ _ e.symm
  · have := congrArg List.length e
    rw [List.length_map] at this
    rw [this, len_tl]
    exact spl_len _ _ _ _
  · have := spl_part [c] (tl x) 0 [] (tl p) (by rw [← e]; exact List.mem_map.mpr ⟨p, hp, rfl⟩)
    rw [len_tl, len_tl]
    simpa using this
theorem wds_facts (x : Str) : wdsOf x ≠ [] ∧ (wdsOf x).length ≤ x.length + 1 ∧ ∀ p ∈ wdsOf x, p.length ≤ x.length := split_facts x " " 32 rfl (by decide)
theorem cut_tail (ws : List Str) : cutV (ws.map V.str) (some 1) none = ws.tail.map V.str := by
  unfold cutV
  rw [show HT.sIx (ws.map V.str).length 0 (some 1) = min 1 (ws.map V.str).length from HT.sIx_nat _ _ 1, HT.sIx_none]
  cases ws with
  | nil => rfl
  | cons c r =>
    have e : min 1 ((c :: r).map V.str).length = 1 := by simp
    rw [e]
    show List.take ((r.map V.str).length + 1 - 1) (r.map V.str) = r.map V.str
    rw [Nat.add_sub_cancel, List.take_length]
/-- how many numbers stand behind each word -/
def CntAt (H : Hp) (c : Addr) (cnt : Str → Option Nat) : Prop := ∃ kvs : List (Key × V), H c = some (.dK kvs) ∧ ∀ x : Str, valV kvs (Sum.inr x) = (cnt x).map fun k => V.int (k : Nat)
theorem CntAt.same {H H' : Hp} {c : Addr} {cnt : Str → Option Nat} (s : Same H H') (h : CntAt H c cnt) : CntAt H' c cnt := let ⟨k, e, f⟩ := h; ⟨k, s _ _ e, f⟩
theorem CntAt.get {H : Hp} {c : Addr} {cnt : Str → Option Nat} (h : CntAt H c cnt) (x : Str) : DGet H c (.str x) ((cnt x).map fun k => V.int (k : Nat)) := by
  obtain ⟨k, e, f⟩ := h
  rw [← f x]
  exact DGet.k (k := Sum.inr x) e
/-- the word and the numbers of a line -/
def rdL (cnt : Str → Option Nat) (x : Str) : Option (Str × List Int) :=
  match wdsOf x with
  | [] => none
  | y :: r => match cnt y with
    | none => none
    | some k => if (r.all fun z => isNum (tl z)) = true ∧ r.length = k then some (y, r.map numV) else none
section
variable {P : Program} {w : World} {K : PySem.W.Frag} {mg : Str → Option Value} {base : Heap} {D : Addr}
def LineR (D : Addr) (o : Option (Str × List Int)) (p : Nat) (H : Hp) (Q : VK) (E : XK) : Prop := match o with
  | some d => ∀ H' b, Same H H' → H' b = some (.tup (.str d.1 :: d.2.map V.int)) → Q (.ref b) H'
  | none => NEx D ((p : Int) + 1) H E
def spLine (K : PySem.W.Frag) (D : Addr) : Sp := fun vs H Q E => ∃ (a c : Addr) (ls : List Str) (p : Nat) (cnt : Str → Option Nat), vs = [.ref a, .int (p : Int), .ref c] ∧ SqL K H a (ls.map V.str) ∧ CntAt H c cnt ∧ p ≤ 900 ∧ (∀ x, ls[p]? = some x → x.length ≤ 500 ∧ LineR D (rdL cnt x) p H Q E) ∧ (ls.length ≤ p → NEx D ((p : Int) + 1) H E)
theorem ok_line {f f_e : Addr} {fd d_e : FuncData} (F : Fun K "read_line" "read_line" s_read_line f fd) (T : Bi mg) (U : NErC K mg D f_e d_e) (G_e : GE P w K mg base D f_e d_e)
    {f_w : Addr} {d_w : FuncData} (D_w : Df K mg "words_at" s_words_at ["lines", "place"] f_w d_w) (G_w : FnOk P w K mg base (L2N.CX P w) 3 f_w d_w ["lines", "place"] (spWords K D))
    {f_n : Addr} {d_n : FuncData} (D_n : Df K mg "numbers_of" s_numbers_of ["words", "place"] f_n d_n) (G_n : FnOk P w K mg base (L2N.CX P w) 3 f_n d_n ["words", "place"] (spNums K D)) :
    FnOk P w K mg base (L2N.CX P w) 4 f fd ["lines", "place", "counts"] (spLine K D) := by
  refine okN F sc_read_line (fun vs H Q E h => ?_) (fun cdv A outer s H vs Q E hr h => ?_)
  · obtain ⟨a, c, ls, p, cnt, rfl, _⟩ := h
    rfl
  · obtain ⟨a, c, ls, p, cnt, rfl, hs, hc, hp, q, e⟩ := h
    refine ⟨_, (pss_cons (ps_set (i := 3) sc_read_line.nd rfl (.inl rfl) (pe_call G_w (hr.mono (by decide)) (by rfl) D_w.g D_w.F.kp D_w.b .nil (L2N.passes_call (L2N.takes_of rfl rfl rfl rfl) (fun _ _ _ _ h => h)) (pa_cons (pv 0) (pa_cons (pv 1) pa_nil))))
        (pss_cons (ps_if (pt_cmp (pc_dnotin (hu_of hr) (pe_ix (r := rIxL K) ix_list (pv 3) pe_int (fun _ _ => rfl)) (pv 2))) (pss_one (ps_errN rfl (L2N.takes_of rfl rfl rfl rfl) U.T U.R G_e (hr.mono (by decide)) U.b (by rfl) (pa_cons (pe_op op_add (pv 1) pe_int) pa_nil))) pss_nil)
        (pss_cons (ps_set (i := 4) sc_read_line.nd rfl (.inl rfl) (pe_call G_n (hr.mono (by decide)) (by rfl) D_n.g D_n.F.kp D_n.b .nil (L2N.passes_call (L2N.takes_of rfl rfl rfl rfl) (fun _ _ _ _ h => h)) (pa_cons (pe_slice sl_list (pv 3) (po_some pe_int) po_none) (pa_cons (pv 1) pa_nil))))
        (pss_cons (ps_set (i := 5) sc_read_line.nd rfl (.inl rfl) (pe_dget (hu_of hr) (pv 2) (pe_ix (r := rIxL K) ix_list (pv 3) pe_int (fun _ _ => rfl)) (fun _ _ => rfl)))
        (pss_cons (ps_if (PW.pt (pw_and (pt_cmpR op_notN (pv 5) pe_non (nomark _)) (pw_and1 (pt_cmpR op_ne (pe_callB call_len_seq (by rfl) T.b_len PySem.boot_len (pa_cons (pv 4) pa_nil)) (pv 5) (nomark _))))) (pss_one (ps_errN rfl (L2N.takes_of rfl rfl rfl rfl) U.T U.R G_e (hr.mono (by decide)) U.b (by rfl) (pa_cons (pe_op op_add (pv 1) pe_int) pa_nil))) pss_nil)
        (pss_one (ps_ret (pe_op op_catT (pe_tup (pa_cons (pe_ix (r := rIxL K) ix_list (pv 3) pe_int (fun _ _ => rfl)) pa_nil)) (pv 4))))))))), ?_⟩
    refine ⟨_, rfl, _, rfl, a, ls, p, rfl, hs, by omega, fun x hx => ?_, fun z => e z⟩
    obtain ⟨hz, q⟩ := q x hx
    refine ⟨by omega, fun H1 b s1 hb => ?_⟩
    obtain ⟨w0, wl, wp⟩ := wds_facts x
    unfold rdL at q
    cases hwd : wdsOf x with
    | nil => exact absurd hwd w0
    | cons y r =>
      rw [hwd] at hb wl wp q
      dsimp only at q
      have hB : SqL K H1 b ((y :: r).map V.str) := .inl (.inl hb)
      have hc1 := hc.same s1
      refine ⟨_, rfl, _, _, _, _, rfl, rfl, hB, at_of (j := 0) rfl rfl, _, rfl, c, _, rfl, hc1.get y, ?_⟩
      cases hcy : cnt y with
      | none =>
        rw [hcy] at q
        exact ⟨_, rfl, _, rfl, _, _, rfl, rfl, nex_err (NEx.same q s1) (by omega) (by omega)⟩
      | some k =>
        rw [hcy] at q
        dsimp only at q
        refine ⟨_, rfl, ?_⟩
        refine ⟨_, rfl, _, rfl, b, _, rfl, hB, fun t nt => ?_⟩
        rw [cut_tail]
        have s2 : Same H (upd H1 t (.lst (r.map V.str))) := s1.trans (same_upd nt)
        have hlr : r.length ≤ 500 := by simp only [List.length_cons] at wl; omega
        refine ⟨_, rfl, t, r, (p : Int), rfl, .inl (.inl upd_same), by omega, fun z hz2 => ?_, by omega, by omega, fun hall H3 n s3 hn => ?_, fun ⟨z, hzm, hzn⟩ => ?_⟩
        · have := wp z (List.mem_cons_of_mem _ hz2)
          omega
        · have s13 : Same H1 H3 := (same_upd nt).trans s3
          have hall2 : (r.all fun z => isNum (tl z)) = true := List.all_eq_true.mpr hall
          have hB3 : SqL K H3 b ((y :: r).map V.str) := .inl (.inl (s13 _ _ hb))
          have hn2 : SqT K H3 n ((r.map numV).map V.int) := .inl (.inl hn)
          have g3 := (hc.same (s1.trans s13)).get y
          rw [hcy] at g3
          refine ⟨_, rfl, _, rfl, _, _, _, _, rfl, rfl, hB3, at_of (j := 0) rfl rfl, c, _, rfl, g3, ?_⟩
          refine ⟨_, rfl, rfl, _, rfl, ?_⟩
          rw [show (!decide (V.int ((k : Nat) : Int) = V.non)) = true by rw [decide_eq_false (fun z => V.noConfusion z)]; rfl]
          refine ⟨_, rfl, n, _, rfl, .inr hn2, _, rfl, rfl, _, rfl, ?_⟩
          rw [List.length_map, List.length_map]
          by_cases hk : r.length = k
          · rw [if_pos ⟨hall2, hk⟩] at q
            rw [show (!decide (V.int ((r.length : Nat) : Int) = V.int ((k : Nat) : Int))) = false by rw [hk, decide_eq_true rfl]; rfl]
            refine ⟨_, rfl, _, _, _, _, rfl, rfl, hB3, at_of (j := 0) rfl rfl, by show 1 ≤ sizeLine; decide, fun m nm => ?_⟩
            have s4 : Same H3 (upd H3 m (.tup [.str y])) := same_upd nm
            have s5 := (s1.trans s13).trans s4
            refine ⟨_, rfl, m, n, [.str y], (r.map numV).map V.int, rfl, rfl, .inl (.inl upd_same), .inl (.inl (s4 _ _ hn)), by simp, ?_, fun e0 => ?_, fun e0 o no => ?_⟩
            · rw [List.length_map, List.length_map]
              show 1 + r.length ≤ sizeLine
              exact Nat.le_trans (by omega) (by decide : 600 ≤ sizeLine)
            · refine q _ m s5 ?_
              rw [show (y, r.map numV).2.map V.int = [] from e0]
              exact upd_same
            · exact q _ o (s5.trans (same_upd no)) upd_same
          · rw [if_neg (fun z => hk z.2)] at q
            rw [show (!decide (V.int ((r.length : Nat) : Int) = V.int ((k : Nat) : Int))) = true by rw [decide_eq_false (fun z => hk (Int.ofNat_inj.mp (V.int.inj z)))]; rfl]
            exact ⟨_, rfl, _, _, rfl, rfl, nex_err (NEx.same q (s1.trans s13)) (by omega) (by omega)⟩
        · rw [if_neg (fun w => by have := List.all_eq_true.mp w.1 z hzm; rw [hzn] at this; cases this)] at q
          exact NEx.same q s2
end
end Own

namespace Own
open PySem PySem.Spec PyProof.Rows L2
/-! ### a dict of the module's own top: texts to whole numbers -/
def KLit (P : Params) : List DictEntry → List (Str × Int) → Prop
  | [], [] => True
  | e :: r, p :: q => (∃ t u, e.key = .str p.1 t ∧ e.hash = PyData.keyHash P p.1 ∧ e.val = .int p.2 u) ∧ KLit P r q
  | _, _ => False
/-- the dict's entries -/
def kvsOf (ps : List (Str × Int)) : List (Key × V) := ps.map fun p => (Sum.inr p.1, V.int p.2)
/-- a is such a dict -/
structure KTab (K : PySem.W.Frag) (w : World) (a : Addr) (ps : List (Str × Int)) : Prop where
  look : ∃ es n, K.lookup a = some ⟨.type "dict", none, .dict es n, #[]⟩ ∧ KLit w.params es.toList ps
  low : (a == sysModules) = false
  nd : (ps.map (·.1)).Nodup
  few : ps.length ≤ 1000
theorem klit_keys {prog : Program} {w : World} : ∀ {l : List DictEntry} {ps : List (Str × Int)}, KLit w.params l ps → (∀ e ∈ l, ∃ k, (mixKind prog w).is k e.key = true ∧ e.hash = (mixKind prog w).hash k) ∧
    ∃ vs, Pairs (mixKind prog w) l vs ∧ KV (kvsOf ps) vs ∧ vs.map (·.1) = ps.map fun p => Sum.inr p.1
  | [], [], _ => ⟨(fun e h => nomatch h), [], .nil, .nil, rfl⟩
  | e :: r, p :: q, h => by
    obtain ⟨⟨t, u, h1, h2, h3⟩, h4⟩ := h
    obtain ⟨a, vs, b, c, d⟩ := klit_keys (prog := prog) h4
    refine ⟨fun e' he => ?_, (Sum.inr p.1, .int p.2 u) :: vs, .cons ?_ h3 b, .cons ⟨rfl, ⟨u, rfl⟩⟩ c, ?_⟩
    · rcases List.mem_cons.mp he with rfl | he
      · exact ⟨Sum.inr p.1, by rw [h1]; exact keyIs_str p.1 t, h2⟩
      · exact a e' he
    · rw [h1]
      exact keyIs_str p.1 t
    · show Sum.inr p.1 :: vs.map (·.1) = Sum.inr p.1 :: q.map _
      rw [d]
  | [], _ :: _, h => h.elim
  | _ :: _, [], h => h.elim
theorem KTab.dict {prog : Program} {K : PySem.W.Frag} {w : World} {a : Addr} {ps : List (Str × Int)} {h : Heap} (T : KTab K w a ps) (X : K.In h) : ∃ vs, KV (kvsOf ps) vs ∧ h.DictOf (mixKind prog w) a vs := by
  obtain ⟨es, n, hl, hk⟩ := T.look
  obtain ⟨k, vs, p, r, m⟩ := klit_keys (prog := prog) hk
  refine ⟨vs, r, _, es, n, X _ _ hl, ⟨rfl, rfl, rfl⟩, rfl, fun e he => k e (Array.mem_toList_iff.mpr he), p, ?_⟩
  rw [m]
  exact List.pairwise_map.mpr ((List.pairwise_map.mp T.nd).imp fun h e => h (Sum.inr.inj e))
def valN (ps : List (Str × Int)) (x : Str) : Option Int := (ps.find? fun p => decide (p.1 = x)).map (·.2)
theorem valN_eq (ps : List (Str × Int)) (x : Str) : valV (kvsOf ps) (Sum.inr x) = (valN ps x).map V.int := by
  unfold valV valN kvsOf
  induction ps with
  | nil => rfl
  | cons p r ih =>
    rw [List.map_cons, List.find?_cons, List.find?_cons]
    show Option.map _ (match decide ((Sum.inr p.1 : Key) = Sum.inr x) with | true => _ | false => _) = _
    rw [key_rr]
    cases decide (p.1 = x) with
    | true => rfl
    | false => exact ih
section
variable {X : Cx}
/-- x not in D, D a dict of the top -/
def tNotInK (K : PySem.W.Frag) (w : World) (ty td : TE) : TE := fun σ H Q => ty σ H fun y H1 => td σ H1 fun x H2 => ∃ (a : Addr) (ps : List (Str × Int)) (z : Str), x = .ref a ∧ y = .str z ∧ KTab K w a ps ∧ Q (.bl (!(valN ps z).isSome)) H2
theorem pc_knotin {i o : Expr} {ty td : TE} (hi : PE X i ty) (ho : PE X o td) : PC X .NotIn i o (tNotInK X.K X.w ty td) := by
  constructor
  intro pins s σ H Q I h
  refine thn (hi.run pins s σ H _ I h) fun iv s1 ⟨y, H1, I1, ry, q1⟩ => thn (ho.run pins s1 σ H1 _ I1 q1) fun u s2 ⟨x, H2, I2, rx, a, ps, z, ex, ey, T, q2⟩ => ?_
  subst ex
  subst ey
  obtain rfl : u = Value.ref a := rx
  obtain ⟨vs, rel, dd⟩ := T.dict (prog := X.prog) I2.kIn
  refine wpAny_notIn_of (kV_is (k := Sum.inr z) ry) T.low dd.mapOf ?_
  rw [← (rel.val (Sum.inr z)).isSome_eq, valN_eq, Option.isSome_map]
  exact ⟨.bl (!(valN ps z).isSome), H2, I2.tok _, rfl, q2⟩
/-- D[x] -/
theorem ktab_dct {K : PySem.W.Frag} {w : World} {a : Addr} {ps : List (Str × Int)} (T : KTab K w a ps) {z : Str} {i : Int} (h : valN ps z = some i) : KDct K w a z (.int i) := by
  obtain ⟨es, n, hl, hk⟩ := T.look
  have keys : ∀ {l : List DictEntry} {ps : List (Str × Int)}, KLit w.params l ps → PySem.W.KeysLit w.params l ∧ (valN ps z = some i → ∃ t, (l.find? fun d => d.key.isStr z).map (·.val) = some (.int i t)) := by
    intro l
    induction l with
    | nil =>
      intro ps h
      cases ps with
      | nil => exact ⟨trivial, fun z => by cases z⟩
      | cons _ _ => exact h.elim
    | cons e r ih =>
      intro ps h
      cases ps with
      | nil => exact h.elim
      | cons p q =>
        obtain ⟨⟨t, u, h1, h2, h3⟩, h4⟩ := h
        obtain ⟨k1, k2⟩ := ih h4
        refine ⟨⟨⟨p.1, t, h1, h2⟩, k1⟩, fun hv => ?_⟩
        unfold valN at hv k2
        rw [List.find?_cons] at hv ⊢
        have e1 : e.key.isStr z = decide (p.1 = z) := by
          rw [h1]
          show (p.1 == z) = _
          by_cases hz : p.1 = z
          · rw [decide_eq_true hz, hz]
            exact beq_self_eq_true z
          · rw [decide_eq_false hz]
            exact beq_eq_false_iff_ne.mpr hz
        rw [e1]
        by_cases hz : p.1 = z
        · rw [decide_eq_true hz] at hv ⊢
          have : p.2 = i := Option.some.inj hv
          exact ⟨u, by rw [← this, ← h3]; rfl⟩
        · rw [decide_eq_false hz] at hv ⊢
          exact k2 hv
  obtain ⟨k1, k2⟩ := keys hk
  obtain ⟨t, k2⟩ := k2 h
  refine ⟨es, n, .int i t, hl, k1, ?_, ⟨t, rfl⟩⟩
  unfold PySem.W.nsIn
  rw [hl]
  dsimp only
  cases e : es.toList.find? fun d => d.key.isStr z with
  | none => rw [e] at k2; cases k2
  | some d =>
    rw [e] at k2
    simp only [Option.map_some, Option.some.injEq] at k2 ⊢
    first | rw [k2] | (simp [k2])
/-- dict(D) -/
theorem call_dictK : CallR X (.type "dict") (fun xs H Q => ∃ (a : Addr) (ps : List (Str × Int)), xs = [.ref a] ∧ KTab X.K X.w a ps ∧ ∀ p, H p = none → Q (.ref p) (upd H p (.dK (kvsOf ps)))) := by
  intro pins s σ H xs us Q I r h
  obtain ⟨a, ps, rfl, T, q⟩ := h
  obtain ⟨u, rfl, rx⟩ := vals1 r
  cases rx
  obtain ⟨vs, rel, dd⟩ := T.dict (prog := X.prog) I.kIn
  have few : vs.length ≤ sizeLine := by
    rw [← rel.length]
    unfold kvsOf
    rw [List.length_map]
    exact Nat.le_trans T.few (by decide)
  refine kt_call_dict T.low dd few fun h' d' hs => ?_
  have hm : (s.heap.objs.size == sysModules) = false := beq_eq_false_iff_ne.mpr (Nat.ne_of_gt I.big)
  have few2 : (kvsOf ps).length ≤ sizeLine := by rw [rel.length]; exact few
  exact ⟨.ref s.heap.objs.size, upd H s.heap.objs.size (.dK (kvsOf ps)), I.laid (t' := s.toks) (fun b u e => (hs.2 b (Nat.ne_of_lt (Heap.lt_size e))).trans (Heap.get?_push_of_some _ e)) (Nat.le_refl _)
    (show ObjOk X.prog X.w _ _ _ (.dK (kvsOf ps)) from ⟨few2, hm, vs, rel, d'⟩), rfl, q _ (I.hok.fresh (Nat.le_refl _))⟩
end
end Own

namespace PySem
/-! ### enumerate of a tuple -/
theorem meets_enum_tup (l : Addr) (items : Array Value) (n : Nat) (dct : Option Addr) (sl : Array (Option Value)) :
    Meets (Builtin.«enumerate.__new__» ⟨[.type "enumerate", .ref l], []⟩) (fun _ R t => t.heap.get? l = some { cls := .type "tuple", dict := dct, data := .seq items n, slots := sl } ∧
      R (.ok (.ret (.ref (t.heap.push { cls := .type "tuple_iterator", data := .fields #[.ref l, .int 0 0] }).objs.size)))
        { t with heap := (t.heap.push { cls := .type "tuple_iterator", data := .fields #[.ref l, .int 0 0] }).push { cls := .type "enumerate", data := .fields #[.none, .bool false, .ref t.heap.objs.size, rawInt 0, .none, .none] } }) :=
  .of_wp fun prog w A R s hyp => by
    obtain ⟨hp, g, d, tk, os⟩ := s
    obtain ⟨at_, go⟩ := hyp
    have sub := sub_enumerate
    have tup : Heap.IsTuple (Shared.heap ⟨hp, g, d, tk, os⟩) l items := ⟨_, at_, rfl, n, rfl⟩
    wp_walk using AutoSeq1.wpAny_loadPart' at_
    refine wpAny_stack_any fun st => wpAny_pure ?_
    split
    · rename_i c _ _ _ _ _
      cases (c == Value.type "enumerate") <;> (wp_walk using AutoSeq1.wpAny_loadPart' at_, wpAny_pyIter_tuple tup; exact ⟨_, rfl, go⟩)
    · wp_walk using AutoSeq1.wpAny_loadPart' at_, wpAny_pyIter_tuple tup
      exact ⟨_, rfl, go⟩
theorem call_enum_tup {prog : Program} {w : World} {A : Around} {E : Value → Shared → Prop} {s : Shared} {l : Addr} {items : Array Value} {Q : Value → Shared → Prop} (hL : s.heap.IsTuple l items)
    (h : ∀ g, IsEnum g (s.heap.objs.size + 1) s.heap.objs.size 0 .none → g.IsTupleIter s.heap.objs.size l 0 → g.objs.size = s.heap.objs.size + 2 →
      (∀ b o, s.heap.get? b = some o → g.get? b = some o) → Q (.ref (s.heap.objs.size + 1)) { s with heap := g }) :
    wpAny (model prog w) A (call (.type "enumerate") [.ref l]) Q E s := by
  obtain ⟨⟨c, dct, dt, sl⟩, hl, hc, n, hd⟩ := hL
  replace hc : c = .type "tuple" := hc
  replace hd : dt = .seq items n := hd
  subst hc hd
  refine callType_new F.called_enumerate (by decide) (F.typeCall_enumerate_1 _) (F.newCall_enumerate_1 _) (fun obj => F.args_object_init_2 obj _) F.entry_enumerate_new (meets_enum_tup l items n dct sl) ⟨hl, ?_⟩
  generalize hP : s.heap.push { cls := .type "tuple_iterator", data := .fields #[.ref l, .int 0 0] } = P
  have hz : P.objs.size = s.heap.objs.size + 1 := by rw [← hP]; exact Heap.size_push ..
  have hi : P.get? s.heap.objs.size = some { cls := .type "tuple_iterator", data := .fields #[.ref l, .int 0 0] } := by rw [← hP]; exact Heap.get?_push_size _ rfl
  have hk : ∀ b o, s.heap.get? b = some o → P.get? b = some o := fun b o e => by rw [← hP]; exact Heap.get?_push_of_some _ e
  show _ ∧ _
  rw [hz]
  have he : IsEnum (P.push { cls := .type "enumerate", data := .fields #[.none, .bool false, .ref s.heap.objs.size, rawInt 0, .none, .none] }) (s.heap.objs.size + 1) s.heap.objs.size 0 .none := by
    have q := Heap.get?_push_size P (o := { cls := .type "enumerate", data := .fields #[.none, .bool false, .ref s.heap.objs.size, rawInt 0, .none, .none] }) rfl
    rw [hz] at q
    exact q
  exact ⟨⟨_, he, rfl⟩, h _ he ⟨_, Heap.get?_push_of_some _ hi, rfl, rfl⟩ (by rw [Heap.size_push, hz]) fun b o x => Heap.get?_push_of_some _ (hk b o x)⟩
end PySem
namespace Own
open PySem PySem.Spec PyProof.Rows L2
/-- the items of the tuple at a, each in a new pair behind its place -/
def Itet (K : PySem.W.Frag) (a : Addr) : It :=
  ⟨fun i H => ∃ (xs : List V) (x : V), SqT K H a xs ∧ xs[i]? = some x, fun i H v H' => ∃ T x, v = .ref T ∧ H T = none ∧ H' = upd H T (.tup [.int (i : Nat), x]) ∧ ∀ xs, SqT K H a xs → xs[i]? = some x, fun i H => ∃ xs : List V, SqT K H a xs ∧ xs.length ≤ i⟩
theorem turn_enumT {P : Program} {w : World} {K : PySem.W.Frag} {elts : List Expr} {kk : Nat} {tpos : Pos} (a e it : Addr) :
    Turn P w K (.Tuple elts kk tpos) (Itet K a) [e, it] e (fun i g => (∃ old, IsEnum g e it ((i : Nat) : Int) old) ∧ g.IsTupleIter it a i ∧ e ≠ it) where
  mem := by simp
  obj := fun i g st b hb => by
    obtain ⟨⟨old, he⟩, ⟨o, ho, hc, hd⟩, _⟩ := st
    rcases (show b = e ∨ b = it by simpa using hb) with z | z
    · rw [z]; exact ⟨_, he, fun v q => nomatch q⟩
    · rw [z]; exact ⟨o, ho, fun v q => by rw [hd] at q; cases q⟩
  keep := fun i g g' st k => let ⟨⟨old, he⟩, hi, hne⟩ := st; ⟨⟨old, k e (by simp) _ he⟩, hi.at fun o q => k it (by simp) o q, hne⟩
  item := by
    intro X hP hw hK hc i pins s σ H E I hf st hg
    subst hP hw hK
    obtain ⟨⟨old, he⟩, hit, hne⟩ := st
    obtain ⟨xs, x, hq, hx⟩ := hg
    obtain ⟨its, rv, p, hz⟩ := I.tuple hq
    obtain ⟨u, hu, ru⟩ := rv.get hx
    have ht : s.heap.IsTuple a its.toArray := p
    have hel : e < s.heap.objs.size := Heap.lt_size he
    have hil : it < s.heap.objs.size := by obtain ⟨_, q, _⟩ := hit; exact Heap.lt_size q
    have nea : a ≠ it := fun z => by
      obtain ⟨o, e1, c1, _⟩ := hit
      obtain ⟨o2, e2, c2, _⟩ := ht
      rw [z, e1] at e2; cases e2
      rw [c1] at c2
      exact absurd (Value.type.inj c2) (by decide)
    have nee : e ∉ [it, a] := fun z => by
      rcases (show e = it ∨ e = a by simpa using z) with z | z
      · exact hne z
      · obtain ⟨o2, e2, c2, _⟩ := ht
        rw [← z, he] at e2; cases e2
        exact absurd (Value.type.inj c2) (by decide)
    have D := Draws.tuple (prog := X.prog) (w := X.w) (A := X.A.in1) (I.ok.hd hc) it a nea its.toArray
    have hlt : i < its.toArray.size := by
      have := (List.getElem?_eq_some_iff.mp hu).1
      simpa using this
    refine wpAny_pyNext_enum_itemD D he ⟨hit, ht⟩ hlt hne nee fun y h' tk hy ho hst hT hsz hk => ?_
    have ey : y = u := by
      have z : its.toArray[i]? = some u := by simpa using hu
      rw [z] at hy
      exact (Option.some.inj hy).symm
    subst ey
    refine ⟨_, rfl, wpAny_letOwnedTupleGo_enum (s := { s with heap := h', toks := tk + 1 }) ho fun h'' he' sb => ?_⟩
    have hT2 : h''.get? s.heap.objs.size = some { cls := .type "tuple", data := .seq #[.int i tk, y] } := (sb.2 _ (Nat.ne_of_gt hel)).trans hT
    have new : ObjOk X.prog X.w (upd H s.heap.objs.size (.tup [.int (i : Nat), x])) h'' s.heap.objs.size (.tup [.int (i : Nat), x]) :=
      ⟨by show 2 ≤ sizeLine; decide, [.int i tk, y], .cons ⟨_, rfl⟩ (.cons ru .nil), ⟨_, hT2, rfl, _, rfl⟩⟩
    have I1 : Inv X pins σ (upd H s.heap.objs.size (.tup [.int (i : Nat), x])) { s with heap := h'', toks := tk + 1 } :=
      I.turnedNew (ch := [e, it]) (fun b ob hb q => (sb.2 b (fun z => hb (by simp [z]))).trans (hk b ob (fun z => hb (by simp [z])) (fun z => hb (by simp [z])) q)) hf (Nat.le_refl _) new
    refine ⟨.ref s.heap.objs.size, _, I1, rfl, ⟨_, x, rfl, I.hok.fresh (Nat.le_refl _), rfl, fun ys hy2 => by rw [I.tuple_inj hy2 hq]; exact hx⟩, ⟨⟨y, ?_⟩, hst.1.at fun o q => (sb.2 it (Ne.symm hne)).trans q, hne⟩, fun b hb => ?_⟩
    · rw [show ((i + 1 : Nat) : Int) = (i : Int) + 1 by omega]
      exact he'
    · have hb' : b < s.heap.objs.size := by
        rcases (show b = e ∨ b = it by simpa using hb) with z | z
        · rw [z]; exact hel
        · rw [z]; exact hil
      rw [upd_ne (Nat.ne_of_lt hb')]
      exact (hf b hb).1
  done := by
    intro X hP hw hK hc i pins s σ H E I hf st hg
    subst hP hw hK
    obtain ⟨⟨old, he⟩, hit, hne⟩ := st
    obtain ⟨xs, hq, hx⟩ := hg
    obtain ⟨its, rv, p, hz⟩ := I.tuple hq
    obtain ⟨f0, f1, f2, f3, f4, f5⟩ := hf it (by simp)
    have hl := rv.length
    have ht : s.heap.IsTuple a its.toArray := p
    have hT : s.TypeIs (.ref e) "enumerate" := ⟨_, he, rfl⟩
    unfold pyNext
    refine wpAny_bind (wpAny_attempt (wpAny_callSpecial?_slot (name := Str.ofString "__next__") hT F.slot_enumerate_next
      (wpAny_call_entry F.slot_enumerate_next hT F.entry_enumerate_next ?_ (F.args_enumerate_next_1 _))))
    show wpAny _ _ (field (.ref e) 2 >>= _) _ _ _
    refine wpAny_bind (wpAny_field he rfl (x := .ref it) rfl ?_)
    refine wpAny_bind (wpAny_nextOf_tuple_end (I.ok.hd hc) hit ht (by simp; omega) fun h' x he' hx' => ?_)
    obtain ⟨o, ho, hcl⟩ := hx'
    refine wpAny_bind (wpAny_isInstance (T := "StopIteration") (b := true) ⟨o, ho, hcl⟩ isSubtype_stop ?_)
    exact wpAny_pure ⟨rfl, I.turned (t' := s.toks) (fun b o hb q => he' b o hb q) f0 f1 f3 f4 f5⟩
  self := fun A i s Q E st h => let ⟨⟨_, he⟩, _⟩ := st; wpAny_pyIter_enum he h
/-- enumerate of a list or a tuple -/
def iEnumB (K : PySem.W.Frag) (ta : TA) : TI := fun σ H R => ta σ H fun vs H1 => ∃ a xs, vs = [.ref a] ∧ ((SqL K H1 a xs ∧ R (Ite K a) H1) ∨ (SqT K H1 a xs ∧ R (Itet K a) H1))
theorem pi_enumB {X : Cx} {e : Expr} {ta : TA} {p pos tpos : Pos} {elts : List Expr} {kk : Nat} (hg : Gl X "enumerate") (hm : X.mg "enumerate" = none) (ha : PA X [e] ta) (hs : starEach [e] X.env = [(false, eval e X.env)] := by rfl) :
    PI X (.Tuple elts kk tpos) (.Call (.Name "enumerate" p) [e] [] pos) (iEnumB X.K ta) := by
  constructor
  intro pins s σ H R I h
  refine Call_ (ld_blt I hg hm boot_enumerate (PyProof.Rows.callWith_type1 (thn (ha.run pos pins s σ H _ I h) fun us s1 ⟨vs, H1, I1, r1, q1⟩ => ?_) hs rfl))
  obtain ⟨a, xs, ex, q⟩ := q1
  subst ex
  obtain ⟨v, rfl, rv⟩ := vals1 r1
  cases rv
  have fresh : ∀ b ∈ [s1.heap.objs.size + 1, s1.heap.objs.size], FpOk X pins H1 b := fun b hb => by
    have hle : s1.heap.objs.size ≤ b := by
      rcases (show b = s1.heap.objs.size + 1 ∨ b = s1.heap.objs.size by simpa using hb) with z | z
      · rw [z]; exact Nat.le_add_right _ _
      · rw [z]; exact Nat.le_refl _
    exact I1.fpOk hle (I1.hok.fresh hle)
  rcases q with ⟨hq, q⟩ | ⟨hq, q⟩
  · obtain ⟨its, rv, p', hz⟩ := I1.list hq
    refine call_enumerate_list p'.isList fun h' he hit hsz hk => wpAny_pyIter_enum he ?_
    exact ⟨s1.heap.objs.size + 1, [s1.heap.objs.size + 1, s1.heap.objs.size], _, _, H1, rfl, I1.kept (t' := s1.toks) hk, turn_enum a (s1.heap.objs.size + 1) s1.heap.objs.size, ⟨⟨.none, he⟩, hit, Nat.succ_ne_self _⟩, fresh, q⟩
  · obtain ⟨its, rv, p', hz⟩ := I1.tuple hq
    refine call_enum_tup (show s1.heap.IsTuple a its.toArray from p') fun h' he hit hsz hk => wpAny_pyIter_enum he ?_
    exact ⟨s1.heap.objs.size + 1, [s1.heap.objs.size + 1, s1.heap.objs.size], _, _, H1, rfl, I1.kept (t' := s1.toks) hk, turn_enumT a (s1.heap.objs.size + 1) s1.heap.objs.size, ⟨⟨.none, he⟩, hit, Nat.succ_ne_self _⟩, fresh, q⟩
end Own

namespace Own
open PySem PySem.Spec PyProof.Rows L2
/-! ### courses -/
/-- an item of a list or of a tuple -/
def rIxB (K : PySem.W.Frag) : R2 := fun x y H Q => ∃ p xs i v, x = .ref p ∧ y = .int i ∧ SqB K H p xs ∧ atI xs i = some v ∧ Q v H
theorem ix_seqB {X : Cx} : IxR X (rIxB X.K) := by
  intro value slice pins s σ H x y v u Q I rx ry h hs
  obtain ⟨p, xs, i, z, rfl, rfl, hB, ha, q⟩ := h
  rcases hB with hB | hB
  · exact ix_list value slice pins s σ H _ _ v u Q I rx ry ⟨p, xs, i, z, rfl, rfl, hB, ha, q⟩ hs
  · exact ix_tup value slice pins s σ H _ _ v u Q I rx ry ⟨p, xs, i, z, rfl, rfl, hB, ha, q⟩ hs
def SqH (H : Hp) (a : Addr) (xs : List V) : Prop := H a = some (.lst xs) ∨ H a = some (.tup xs)
theorem SqH.same {H H' : Hp} {a : Addr} {xs : List V} (s : Same H H') (h : SqH H a xs) : SqH H' a xs := h.elim (fun e => .inl (s _ _ e)) fun e => .inr (s _ _ e)
theorem SqH.b {K : PySem.W.Frag} {H : Hp} {a : Addr} {xs : List V} (h : SqH H a xs) : SqB K H a xs := h.elim (fun e => .inl (.inl (.inl e))) fun e => .inr (.inl (.inl e))
abbrev Deed := Str × List Int
abbrev dv (d : Deed) : List V := .str d.1 :: d.2.map V.int
def NUMB : List (Str × Int) := [("pin", 1), ("track", 2), ("merge", 1), ("drop", 1), ("turn", 1), ("mirror", 0)]
def GoodD (d : Deed) : Prop := valN NUMB d.1 = some (d.2.length : Int)
theorem valN_mem {ps : List (Str × Int)} {x : Str} {i : Int} (h : valN ps x = some i) : (x, i) ∈ ps := by
  unfold valN at h
  cases e : ps.find? fun p => decide (p.1 = x) with
  | none => rw [e] at h; cases h
  | some p =>
    rw [e] at h
    have h1 := List.mem_of_find?_eq_some e
    have h2 := List.find?_some e
    have h3 : p.2 = i := Option.some.inj h
    rw [← of_decide_eq_true h2, ← h3]
    exact h1
theorem GoodD.few {d : Deed} (h : GoodD d) : d.2.length ≤ 2 := by
  have := valN_mem h
  unfold NUMB at this
  simp only [List.mem_cons, List.not_mem_nil, or_false, Prod.mk.injEq] at this
  omega
theorem cut1 {v : V} {xs : List V} : cutV (v :: xs) (some 1) none = xs := by
  unfold cutV
  rw [show HT.sIx (v :: xs).length 0 (some 1) = min 1 (v :: xs).length from HT.sIx_nat _ _ 1, HT.sIx_none]
  have e : min 1 (v :: xs).length = 1 := by simp
  rw [e]
  show List.take (xs.length + 1 - 1) xs = xs
  rw [Nat.add_sub_cancel, List.take_length]
theorem cut1_part {v : V} {xs : List V} : ¬ (HT.sIx (v :: xs).length 0 (some 1) = 0 ∧ HT.sIx (v :: xs).length (v :: xs).length none = (v :: xs).length) := by
  rw [show HT.sIx (v :: xs).length 0 (some 1) = min 1 (v :: xs).length from HT.sIx_nat _ _ 1]
  have e : min 1 (v :: xs).length = 1 := by simp
  rw [e]
  exact fun z => absurd z.1 (by decide)
section
variable {P : Program} {w : World} {K : PySem.W.Frag} {mg : Str → Option Value} {base : Heap} {C dN : Addr}
def spSeqB : Sp := fun vs H Q _ => ∃ (a : Addr) (xs : List V), vs = [.ref a] ∧ SqH H a xs ∧ ∀ H', Same H H' → Q (.bl true) H'
theorem ok_seqB {f : Addr} {fd : FuncData} (F : Fun K "is_sequence" "is_sequence" s_is_sequence f fd) (T : Bi mg) : FnOk P w K mg base CX0 1 f fd ["value"] spSeqB := by
  refine F.ok sc_is_sequence (fun vs H Q E h => ?_) (fun cdv A outer s H vs Q E hr h => ?_)
  · obtain ⟨a, xs, rfl, _⟩ := h
    rfl
  · obtain ⟨a, xs, rfl, hs, q⟩ := h
    refine ⟨_, (pss_one (ps_ret (pe_callB call_isiT (by rfl) T.b_isinstance (by decide +kernel) (pa_cons (pv 0) (pa_cons (pe_tup (pa_cons (pe_bltn (v := .ty "list") (by rfl) T.b_list (by decide +kernel) rfl) (pa_cons (pe_bltn (v := .ty "tuple") (by rfl) T.b_tuple (by decide +kernel) rfl) pa_nil))) pa_nil))))), ?_⟩
    refine ⟨_, rfl, by show 2 ≤ sizeLine; decide, fun p np => ?_⟩
    have s1 : Same H (upd H p (.tup [.ty "list", .ty "tuple"])) := same_upd np
    rcases hs with hs | hs
    · exact ⟨_, p, _, _, _, true, rfl, upd_same, .cons (.ty "list") (.cons (.ty "tuple") .nil), .base (.lst (s1 _ _ hs)), kitAny_cons (b := true) (kit_ty (by decide +kernel)) (fun z => by cases z) (fun _ => rfl), q _ s1⟩
    · exact ⟨_, p, _, _, _, true, rfl, upd_same, .cons (.ty "list") (.cons (.ty "tuple") .nil), .base (.tup (s1 _ _ hs)), kitAny_cons (b := false) (kit_ty (by decide +kernel)) (fun _ => kitAny_cons (b := true) (kit_ty (by decide +kernel)) (fun z => by cases z) (fun _ => rfl)) (fun z => by cases z), q _ s1⟩
def spDeed : Sp := fun vs H Q _ => ∃ (b : Addr) (d : Deed), vs = [.ref b] ∧ SqH H b (dv d) ∧ GoodD d ∧ ∀ H', Same H H' → Q (.bl true) H'
set_option maxHeartbeats 1000000 in
theorem ok_deed {f : Addr} {fd : FuncData} (F : Fun K "is_deed" "is_deed" s_is_deed f fd) (T : Bi mg) (gN : mg "NUMBERS" = some (.ref dN)) (TN : KTab K w dN NUMB)
    {f_q : Addr} {d_q : FuncData} (D_q : Df K mg "is_sequence" s_is_sequence ["value"] f_q d_q) (G_q : FnOk P w K mg base CX0 1 f_q d_q ["value"] spSeqB)
    {f_w : Addr} {d_w : FuncData} (D_w : Df K mg "is_whole" s_is_whole ["value"] f_w d_w) (G_w : FnOk P w K mg base CX0 1 f_w d_w ["value"] spWhole) : FnOk P w K mg base CX0 2 f fd ["deed"] spDeed := by
  refine F.ok sc_is_deed (fun vs H Q E h => ?_) (fun cdv A outer s H vs Q E hr h => ?_)
  · obtain ⟨b, d, rfl, _⟩ := h
    rfl
  · obtain ⟨b, d, rfl, hb, hg, q⟩ := h
    refine ⟨_, (pss_cons (ps_if (PW.pt (pw_or (pt_not (pt_val (pe_call G_q (hr.mono (by decide)) (by rfl) D_q.g D_q.F.kp D_q.b .nil pass0 (pa_cons (pv 0) pa_nil)))) (pw_or (pt_cmpR op_eq (pe_callB call_len_seq (by rfl) T.b_len PySem.boot_len (pa_cons (pv 0) pa_nil)) pe_int (nomark _)) (pw_or1 (pt_not (pt_val (pe_callB call_isi (by rfl) T.b_isinstance (by decide +kernel) (pa_cons (pe_ix (r := rIxB K) ix_seqB (pv 0) pe_int (fun _ _ => rfl)) (pa_cons (pe_bltn (v := .ty "str") (by rfl) T.b_str (by decide +kernel) rfl) pa_nil))))))))) (pss_one (ps_ret pe_bl)) pss_nil)
        (pss_cons (ps_if (PW.pt (pw_or (pt_cmp (pc_knotin (pe_ix (r := rIxB K) ix_seqB (pv 0) pe_int (fun _ _ => rfl)) (pe_glob (v := .ref dN) (by rfl) gN rfl))) (pw_or1 (pt_cmpR op_ne (pe_callB call_len_seq (by rfl) T.b_len PySem.boot_len (pa_cons (pv 0) pa_nil)) (pe_op op_add pe_int (pe_ix (r := rIxD K w) ix_kdict (pe_glob (v := .ref dN) (by rfl) gN rfl) (pe_ix (r := rIxB K) ix_seqB (pv 0) pe_int (fun _ _ => rfl)) (fun _ _ => rfl))) (nomark _))))) (pss_one (ps_ret pe_bl)) pss_nil)
        (pss_cons (ps_for PassesOwn.never rfl (pi_seq (pe_slice (sl_list.or sl_tup) (pv 0) (po_some pe_int) po_none)) (pg_name (i := 1) sc_is_deed.nd rfl (.inl rfl))
        (pss_one (ps_if (pt_not (pt_val (pe_call G_w (hr.mono (by decide)) (by rfl) D_w.g D_w.F.kp D_w.b .nil pass0 (pa_cons (pv 1) pa_nil)))) (pss_one (ps_ret pe_bl)) pss_nil)))
        (pss_one (ps_ret pe_bl))))), ?_⟩
    refine ⟨_, rfl, b, _, rfl, hb, fun H1 s1 => ⟨true, rfl, ?_⟩⟩
    have hb1 : SqB K H1 b (dv d) := (hb.same s1).b
    refine ⟨_, rfl, b, _, rfl, hb1, rfl, _, rfl, ?_⟩
    rw [show decide (V.int (((dv d).length : Nat) : Int) = V.int 0) = false from decide_eq_false (fun z => by have := V.int.inj z; simp only [dv, List.length_cons] at this; omega)]
    refine ⟨_, rfl, b, _, _, _, rfl, rfl, hb1, at_of (j := 0) rfl rfl, _, _, _, _, true, rfl, .ty "str", .base (.str _), kit_ty (by decide +kernel), true, rfl, ?_⟩
    refine ⟨_, rfl, b, _, _, _, rfl, rfl, hb1, at_of (j := 0) rfl rfl, dN, NUMB, d.1, rfl, rfl, TN, _, rfl, ?_⟩
    have hg' : valN NUMB d.1 = some (d.2.length : Int) := hg
    rw [hg']
    refine ⟨_, rfl, b, _, rfl, hb1, _, rfl, b, _, _, _, rfl, rfl, hb1, at_of (j := 0) rfl rfl, dN, d.1, .int (d.2.length : Int), rfl, rfl, ktab_dct TN hg', _, _, rfl, rfl, rfl, _, rfl, ?_⟩
    rw [show (!decide (V.int (((dv d).length : Nat) : Int) = V.int (1 + (d.2.length : Int)))) = false by
      rw [decide_eq_true (by simp only [dv, List.length_cons, List.length_map]; congr 1; omega)]
      rfl]
    have walk : ∀ (p : Addr) (H2 : Hp), Same H H2 → SqB K H2 p (d.2.map V.int) → _ := fun p H2 s2 hp => for_same (K := K) (a := p) (xs := d.2.map V.int) (Hb := H2) (σ := [some (.ref b), none]) (H := H2) (g := gName 1)
      (tb := tIfS (tNot (tB (tCall spWhole [] E0 (tCons (tVar 1) tNil)))) (tRet (tC (V.bl false))) tNext) (D := { nx := tRet (tC (V.bl true)) { nx := fun x H' => Q V.non H', rt := Q }, rt := Q }) hp
      (fun i σ H' => (∃ y, σ = [some (.ref b), y]) ∧ H' = H2) ⟨⟨none, rfl⟩, rfl⟩ (fun i σ H' pv => by rw [pv.2]; exact Same.refl _) (fun i x σ H' hx pv => by
        obtain ⟨⟨y, rfl⟩, rfl⟩ := pv
        obtain ⟨c, rfl, _⟩ := int_at hx
        exact ⟨_, rfl, c, rfl, true, rfl, ⟨_, rfl⟩, rfl⟩) (fun σ H' pv => by
        obtain ⟨⟨y, rfl⟩, rfl⟩ := pv
        exact q _ s2)
    rcases hb.same s1 with hl | ht
    · refine ⟨_, rfl, _, rfl, .inl ⟨b, _, rfl, .inl (.inl hl), fun p np => ?_⟩⟩
      rw [cut1]
      exact ⟨p, rfl, walk p _ (s1.trans (same_upd np)) (.inl (.inl (.inl upd_same)))⟩
    · refine ⟨_, rfl, _, rfl, .inr ⟨b, _, rfl, .inl (.inl ht), cut1_part, fun p np => ?_⟩⟩
      rw [cut1]
      exact ⟨p, rfl, walk p _ (s1.trans (same_upd np)) (.inr (.inl (.inl upd_same)))⟩
end
end Own

namespace Own
open PySem PySem.Spec PyProof.Rows L2
/-- tuple(a list or a tuple), by the written part -/
def rTupOf (K : PySem.W.Frag) : List V → Hp → VK → Prop := fun xs H Q => ∃ p ys, xs = [.ref p] ∧ ((SqL K H p ys ∧ ∀ l, H l = none → Q (.ref l) (upd H l (.tup ys))) ∨ (SqT K H p ys ∧ Q (.ref p) H))
theorem call_tupK {X : Cx} {K : PySem.W.Frag} (h : X.K = K) : CallR X (.type "tuple") (rTupOf K) := by
  subst h
  exact call_tuple_of
structure BiE (mg : Str → Option Value) : Prop where
  b_enum : mg "enumerate" = none
/-- what must be known of Course -/
structure CrsC (K : PySem.W.Frag) (mg : Str → Option Value) (C : Addr) : Prop where
  cl : Cls K C
  nD : NoAttr K C "deeds"
  g : mg "Course" = some (.ref C)
abbrev FIC (K : PySem.W.Frag) (z : Addr) (f : Addr) (fd : FuncData) : Prop := FunD K "__init__" "Course.__init__" (defArgs s_Course_init) (defBody s_Course_init) (defScope s_Course_init) [.ref z] [] f fd
/-- deeds that stand in lists or tuples -/
def DsH (H : Hp) (vs : List V) (ds : List Deed) : Prop := vs.length = ds.length ∧ ∀ (i : Nat) (d : Deed), ds[i]? = some d → ∃ b, vs[i]? = some (.ref b) ∧ SqH H b (dv d)
/-- deeds that stand in tuples -/
def DsT (H : Hp) (vs : List V) (ds : List Deed) : Prop := vs.length = ds.length ∧ ∀ (i : Nat) (d : Deed), ds[i]? = some d → ∃ b, vs[i]? = some (.ref b) ∧ H b = some (.tup (dv d))
theorem DsT.h {H : Hp} {vs : List V} {ds : List Deed} (h : DsT H vs ds) : DsH H vs ds := ⟨h.1, fun i d e => let ⟨b, x, y⟩ := h.2 i d e; ⟨b, x, .inr y⟩⟩
theorem DsH.same {H H' : Hp} {vs : List V} {ds : List Deed} (s : Same H H') (h : DsH H vs ds) : DsH H' vs ds := ⟨h.1, fun i d e => let ⟨b, x, y⟩ := h.2 i d e; ⟨b, x, y.same s⟩⟩
theorem DsT.same {H H' : Hp} {vs : List V} {ds : List Deed} (s : Same H H') (h : DsT H vs ds) : DsT H' vs ds := ⟨h.1, fun i d e => let ⟨b, x, y⟩ := h.2 i d e; ⟨b, x, s _ _ y⟩⟩
theorem DsT.nil {H : Hp} : DsT H [] [] := ⟨rfl, fun i d e => by simp at e⟩
theorem DsT.snoc {H : Hp} {vs : List V} {ds : List Deed} {b : Addr} {d : Deed} (h : DsT H vs ds) (e : H b = some (.tup (dv d))) : DsT H (vs ++ [.ref b]) (ds ++ [d]) := by
  refine ⟨by rw [List.length_append, List.length_append, h.1]; rfl, fun i u hu => ?_⟩
  by_cases hi : i < ds.length
  · rw [List.getElem?_append_left hi] at hu
    obtain ⟨c, e1, e2⟩ := h.2 i u hu
    exact ⟨c, by rw [List.getElem?_append_left (by rw [h.1]; exact hi)]; exact e1, e2⟩
  · rw [List.getElem?_append_right (by omega)] at hu
    have hi2 : i - ds.length = 0 := by
      cases hk : i - ds.length with
      | zero => rfl
      | succ k => rw [hk] at hu; simp at hu
    rw [hi2] at hu
    obtain rfl : d = u := Option.some.inj hu
    exact ⟨b, by rw [List.getElem?_append_right (by rw [h.1]; omega), h.1, hi2]; rfl, e⟩
theorem DsH.at_ {H : Hp} {vs : List V} {ds : List Deed} (h : DsH H vs ds) {i : Nat} {x : V} (e : vs[i]? = some x) : ∃ b d, x = .ref b ∧ ds[i]? = some d ∧ SqH H b (dv d) := by
  have hi : i < ds.length := by
    rw [← h.1]
    exact (List.getElem?_eq_some_iff.mp e).1
  obtain ⟨b, e1, e2⟩ := h.2 i ds[i] (List.getElem?_eq_getElem hi)
  rw [e] at e1
  exact ⟨b, ds[i], Option.some.inj e1, List.getElem?_eq_getElem hi, e2⟩
def CrsAt (C : Addr) (H : Hp) (x : Addr) (ds : List Deed) : Prop := ∃ dx a vs, H x = some (.ins C dx [("deeds", .ref a)]) ∧ H a = some (.tup vs) ∧ DsT H vs ds
theorem CrsAt.same {C : Addr} {H H' : Hp} {x : Addr} {ds : List Deed} (s : Same H H') (h : CrsAt C H x ds) : CrsAt C H' x ds := let ⟨dx, a, vs, e, f, t⟩ := h; ⟨dx, a, vs, s _ _ e, s _ _ f, t.same s⟩
theorem walk_enumT {K : PySem.W.Frag} {a : Addr} {xs : List V} : Walk (Itet K a) xs.length (fun H => SqT K H a xs) (YPair (fun i => some (.int (i : Nat))) (fun i => xs[i]?)) where
  goes := fun i H hi h => ⟨xs, xs[i], h, List.getElem?_eq_getElem hi⟩
  stops := fun H h => ⟨xs, h, Nat.le_refl _⟩
  yields := fun i H v H' hi h y => by
    obtain ⟨T, x, e, nT, eH, hx⟩ := y
    exact ⟨T, _, x, e, nT, eH, rfl, hx xs h⟩
section
variable {P : Program} {w : World} {K : PySem.W.Frag} {mg : Str → Option Value} {base : Heap} {C dN : Addr}
def spCInit (C : Addr) : Sp := fun vs H Q _ => ∃ (p dx a : Addr) (xs : List V) (ds : List Deed) (H0 : Hp), vs = [.ref p, .ref a] ∧ H p = some (.ins C dx []) ∧ H0 p = none ∧ Same H0 H ∧ SqH H0 a xs ∧ DsH H0 xs ds ∧ (∀ d ∈ ds, GoodD d) ∧ ds.length ≤ 1000 ∧ ∀ H', Same H0 H' → CrsAt C H' p ds → Q .non H'
set_option maxHeartbeats 1000000 in
theorem ok_cinit {z f : Addr} {fd : FuncData} (F : FIC K z f fd) (T : Bi mg) (TE : BiE mg) (L : CrsC K mg C) {f_d : Addr} {d_d : FuncData} (D_d : Df K mg "is_deed" s_is_deed ["deed"] f_d d_d) (G_d : FnOk P w K mg base CX0 2 f_d d_d ["deed"] spDeed) : FnOk P w K mg base CX0 3 f fd ["self", "deeds"] (spCInit C) := by
  refine F.ok sc_Course_init (fun vs H Q E h => ?_) (fun cdv A outer s H vs Q E hr h => ?_)
  · obtain ⟨p, dx, a, xs, ds, H0, rfl, _⟩ := h
    rfl
  · obtain ⟨p, dx, a, xs, ds, H0, rfl, ep, np, s0, hs, hd, hg, hl, q⟩ := h
    refine ⟨_, (pss_cons (ps_for PassesOwn.leaving rfl (pi_enumB (by rfl) TE.b_enum (pa_cons (pv 1) pa_nil)) (pg_tup (by rfl) (pgs_cons (pg_name (i := 2) sc_Course_init.nd rfl (.inl rfl)) (pgs_cons (pg_name (i := 3) sc_Course_init.nd rfl (.inl rfl)) pgs_nil)))
        (pss_one (ps_if (pt_not (pt_val (pe_call G_d (hr.mono (by decide)) (by rfl) D_d.g D_d.F.kp D_d.b .nil pass0 (pa_cons (pv 3) pa_nil)))) (pss_one ps_never) pss_nil)))
        (pss_one (ps_fld (pv 0) (pe_callTy call_tuple_of (by rfl) T.b_tuple (by decide +kernel) (pa_cons (pe_lc (own := [("deed", 3)]) (g := gName 3) (tt := tYes) rfl sc_Course_init.nd (pi_seq (pv 1)) (blkOk_by (own := [("deed", 3)]) (N := ["self", "deeds", "place", "deed"]) (sc := defScope s_Course_init) (by decide +kernel)) (fun _ _ _ _ _ => (pg_name (i := 3) sc_Course_init.nd rfl (.inl rfl))) (fun _ _ _ _ _ => pts_nil) (fun _ _ _ _ _ => (pe_callTy (call_tupK (K := K) rfl) (by rfl) T.b_tuple (by decide +kernel) (pa_cons (pv 3) pa_nil)))) pa_nil)) rfl))), ?_⟩
    have hs1 := hs.same s0
    have hd1 := hd.same s0
    have lx : xs.length ≤ 1000 := by rw [hd.1]; exact hl
    -- behind the loop
    have after : ∀ (σ : L2.St) (H1 : Hp), ((∃ y2 y3, σ = [some (.ref p), some (.ref a), y2, y3]) ∧ Same H H1) → sFld K (tVar 0) (tCB (fun xs H_1 Q => ∃ p ys, xs = [V.ref p] ∧ ((SqL K H_1 p ys ∧ ∀ (l : Addr), H_1 l = none → Q (V.ref l) (upd H_1 l (HO.tup ys))) ∨ SqT K H_1 p ys ∧ Q (V.ref p) H_1))
        (tCons (tLc (iSeq K (tVar 1)) (gName 3) tYes (tCB (rTupOf K) (tCons (tVar 3) tNil)) [3]) tNil)) "deeds" { nx := fun x H' => Q V.non H', rt := Q } σ H1 := fun σ H1 pv => by
      obtain ⟨⟨y2, y3, rfl⟩, s1⟩ := pv
      have hs2 := hs1.same s1
      have hd2 := hd1.same s1
      -- one item
      have item : ∀ (D : Addr), H1 D = none → ∀ (i : Nat) (x : V) (Hi : Hp), xs[i]? = some x → (∃ Hc vs, Same H1 Hc ∧ Hc D = none ∧ Hi = upd Hc D (.lst vs) ∧ DsT Hc vs (ds.take i)) →
          gName 3 x (wipe [some (.ref p), some (.ref a), y2, y3] [3]) Hi fun σ2 H2 => wipe σ2 [3] = wipe [some (.ref p), some (.ref a), y2, y3] [3] ∧ tYes σ2 H2 fun b H3 =>
            if b = true then (tCB (rTupOf K) (tCons (tVar 3) tNil)) σ2 H3 fun y H4 => ∃ acc, H4 D = some (.lst acc) ∧ acc.length < sizeLine ∧ (∃ Hc vs, Same H1 Hc ∧ Hc D = none ∧ upd H4 D (.lst (acc ++ [y])) = upd Hc D (.lst vs) ∧ DsT Hc vs (ds.take (i + 1))) else (∃ Hc vs, Same H1 Hc ∧ Hc D = none ∧ H3 = upd Hc D (.lst vs) ∧ DsT Hc vs (ds.take (i + 1))) := fun D nD i x Hi hx pi => by
        obtain ⟨Hc, vs, sc, nDc, rfl, tc⟩ := pi
        obtain ⟨b, d, rfl, hdi, hb⟩ := hd2.at_ hx
        have hi : i < ds.length := (List.getElem?_eq_some_iff.mp hdi).1
        have lv : vs.length < sizeLine := by
          rw [tc.1, List.length_take]
          exact Nat.lt_of_le_of_lt (Nat.min_le_right _ _) (small1000 hl)
        have sD : Same Hc (upd Hc D (.lst vs)) := same_upd nDc
        have tk : ds.take (i + 1) = ds.take i ++ [d] := by rw [List.take_add_one, hdi]; rfl
        refine ⟨rfl, ?_⟩
        rcases (hb.same sc).same sD with e | e
        · refine ⟨_, rfl, b, _, rfl, .inl ⟨.inl (.inl e), fun l nl => ?_⟩⟩
          have nlD : l ≠ D := fun z => by rw [z, upd_same] at nl; cases nl
          have nlc : Hc l = none := by rw [upd_ne nlD] at nl; exact nl
          refine ⟨vs, by rw [upd_ne nlD.symm]; exact upd_same, lv, upd Hc l (.tup (dv d)), vs ++ [.ref l], sc.trans (same_upd nlc), by rw [upd_ne nlD.symm]; exact nDc, ?_, ?_⟩
          · funext c
            by_cases h1 : c = D
            · rw [h1, upd_same, upd_same]
            · rw [upd_ne h1, upd_ne h1]
              by_cases h2 : c = l
              · rw [h2, upd_same, upd_same]
              · rw [upd_ne h2, upd_ne h2, upd_ne h1]
          · rw [tk]
            exact (tc.same (same_upd nlc)).snoc upd_same
        · refine ⟨_, rfl, b, _, rfl, .inr ⟨.inl (.inl e), ?_⟩⟩
          refine ⟨vs, upd_same, lv, Hc, vs ++ [.ref b], sc, nDc, upd_upd, ?_⟩
          rw [tk]
          refine tc.snoc ?_
          have nbD : b ≠ D := fun z => by rw [z, upd_same] at e; cases e
          rw [upd_ne nbD] at e
          exact e
      have done : ∀ (D : Addr), H1 D = none → ∀ Hi, (∃ Hc vs, Same H1 Hc ∧ Hc D = none ∧ Hi = upd Hc D (.lst vs) ∧ DsT Hc vs (ds.take xs.length)) → rTupOf K [.ref D] Hi fun x H2 => (tVar 0) [some (.ref p), some (.ref a), y2, y3] H2 fun o H3 => ∃ a' C' dx' fs, o = .ref a' ∧ H3 a' = some (.ins C' dx' fs) ∧ Cls K C' ∧ NoAttr K C' "deeds" ∧ fs.length < 1000 ∧ Q .non (upd H3 a' (.ins C' dx' (putF "deeds" x fs))) := fun D nD Hi pi => by
        obtain ⟨Hc, vs, sc, nDc, rfl, tc⟩ := pi
        rw [hd.1, List.take_length] at tc
        refine ⟨D, vs, rfl, .inl ⟨.inl (.inl upd_same), fun l nl => ?_⟩⟩
        have s2 : Same Hc (upd Hc D (.lst vs)) := same_upd nDc
        have s3 : Same (upd Hc D (.lst vs)) (upd (upd Hc D (.lst vs)) l (.tup vs)) := same_upd nl
        have s4 : Same H (upd (upd Hc D (.lst vs)) l (.tup vs)) := ((s1.trans sc).trans s2).trans s3
        have e2 := s4 _ _ ep
        refine ⟨_, rfl, p, C, dx, [], rfl, e2, L.cl, L.nD, by show 0 < 1000; decide, ?_⟩
        have k : ∀ b o, (upd (upd Hc D (.lst vs)) l (.tup vs)) b = some o → b ≠ p → (upd (upd (upd Hc D (.lst vs)) l (.tup vs)) p (.ins C dx (putF "deeds" (.ref l) []))) b = some o := fun b o e nb => by
          rw [upd_ne nb]
          exact e
        have k0 : Same H0 (upd (upd (upd Hc D (.lst vs)) l (.tup vs)) p (.ins C dx (putF "deeds" (.ref l) []))) := fun b o e => k b o ((s0.trans s4) _ _ e) fun z => by rw [z, np] at e; cases e
        have nlp : l ≠ p := fun z => by
          have := (((s1.trans sc).trans s2) _ _ ep)
          rw [z, this] at nl
          cases nl
        refine q _ k0 ⟨dx, l, vs, upd_same, k _ _ upd_same nlp, ⟨tc.1, fun i d e => ?_⟩⟩
        obtain ⟨b, x, y⟩ := tc.2 i d e
        refine ⟨b, x, k _ _ (s3 _ _ (s2 _ _ y)) fun z => ?_⟩
        have := (((s1.trans sc).trans s2) _ _ ep)
        rw [z] at y
        rw [s2 _ _ y] at this
        cases this
      rcases hs2 with e | e
      · exact ⟨_, rfl, a, rfl, .inl ⟨⟨_, .inl (.inl e)⟩, fun D nD => lc_list (K := K) (a := a) (xs := xs) (fun i Hi => ∃ Hc vs, Same H1 Hc ∧ Hc D = none ∧ Hi = upd Hc D (.lst vs) ∧ DsT Hc vs (ds.take i)) ⟨H1, [], Same.refl _, nD, rfl, .nil⟩
          (fun i Hi _ ⟨Hc, vs, sc, nDc, ei, _⟩ => by rw [ei]; exact .inl (.inl (((sc.trans (same_upd nDc)) _ _ e)))) (fun i x Hi hx pi => item D nD i x Hi hx pi) fun Hi pi => done D nD Hi pi⟩⟩
      · exact ⟨_, rfl, a, rfl, .inr ⟨⟨_, .inl (.inl e)⟩, fun D nD => lc_tup (K := K) (a := a) (xs := xs) (fun i Hi => ∃ Hc vs, Same H1 Hc ∧ Hc D = none ∧ Hi = upd Hc D (.lst vs) ∧ DsT Hc vs (ds.take i)) ⟨H1, [], Same.refl _, nD, rfl, .nil⟩
          (fun i Hi _ ⟨Hc, vs, sc, nDc, ei, _⟩ => by rw [ei]; exact .inl (.inl (((sc.trans (same_upd nDc)) _ _ e)))) (fun i x Hi hx pi => item D nD i x Hi hx pi) fun Hi pi => done D nD Hi pi⟩⟩
    -- one turn of the loop
    have turn : ∀ (D : Ends) (i : Nat) (v : V) (σ : L2.St) (H1 H2 : Hp), i < xs.length → ((∃ y2 y3, σ = [some (.ref p), some (.ref a), y2, y3]) ∧ Same H H1) → YPair (fun i => some (.int (i : Nat))) (fun i => xs[i]?) i H1 v H2 →
        gTup K 2 (gCons (gName 2) (gCons (gName 3) gNil)) v σ H2 fun σ2 H3 => tIfS (tNot (tB (tCall spDeed [] E0 (tCons (tVar 3) tNil)))) tNever tNext { D with nx := fun σ' H' => ((∃ y2 y3, σ' = [some (.ref p), some (.ref a), y2, y3]) ∧ Same H H'), ct := fun σ' H' => ((∃ y2 y3, σ' = [some (.ref p), some (.ref a), y2, y3]) ∧ Same H H'), bk := D.nx } σ2 H3 := fun D i v σ H1 H2 hi pv y => by
      obtain ⟨⟨y2, y3, rfl⟩, s1⟩ := pv
      obtain ⟨T', x, y, rfl, nT, rfl, ex, ey⟩ := y
      obtain rfl : V.int (i : Nat) = x := Option.some.inj ex
      have s2 : Same H1 (upd H1 T' (.tup [.int (i : Nat), y])) := same_upd nT
      obtain ⟨b, d, rfl, hdi, hb⟩ := (hd1.same (s1.trans s2)).at_ ey
      exact ⟨T', _, rfl, .inl (.inl upd_same), rfl, _, _, rfl, _, _, rfl, rfl, _, rfl, b, d, rfl, hb, hg d (List.mem_of_getElem? hdi), fun H3 s3 => ⟨true, rfl, ⟨_, _, rfl⟩, (s1.trans s2).trans s3⟩⟩
    refine ⟨_, rfl, a, xs, rfl, ?_⟩
    rcases hs1 with e | e
    · refine .inl ⟨.inl (.inl e), ?_⟩
      exact for_it walk_enum (fun i σ H' => (∃ y2 y3, σ = [some (.ref p), some (.ref a), y2, y3]) ∧ Same H H') ⟨⟨none, none, rfl⟩, Same.refl _⟩ (fun i σ H' _ pv => .inl (.inl (pv.2 _ _ e))) (fun i x σ H1 H2 hi pv y => turn _ i x σ H1 H2 hi pv y) fun σ H' pv => after σ H' pv
    · refine .inr ⟨.inl (.inl e), ?_⟩
      exact for_it walk_enumT (fun i σ H' => (∃ y2 y3, σ = [some (.ref p), some (.ref a), y2, y3]) ∧ Same H H') ⟨⟨none, none, rfl⟩, Same.refl _⟩ (fun i σ H' _ pv => .inl (.inl (pv.2 _ _ e))) (fun i x σ H1 H2 hi pv y => turn _ i x σ H1 H2 hi pv y) fun σ H' pv => after σ H' pv
end
end Own

namespace Own
open PySem PySem.Spec PyProof.Rows L2 TL
/-- str of a text or of a whole number -/
def rStrX : List V → Hp → VK → Prop := fun xs H Q => (∃ a, xs = [.str a] ∧ Q (.str a) H) ∨ ∃ i : Int, xs = [.int i] ∧ i.natAbs.log2 < 1920 ∧ Q (.str (Str.ofString (toString i))) H
theorem call_strX {X : Cx} : CallR X (.type "str") rStrX := by
  intro pins s σ H xs us Q I r h
  rcases h with ⟨a, rfl, q⟩ | ⟨i, rfl, hi, q⟩
  · exact SkE.call_str_str pins s σ H _ us Q I r ⟨a, rfl, q⟩
  · exact call_str_int pins s σ H _ us Q I r ⟨i, rfl, hi, q⟩
theorem pi_seqK {X : Cx} {K : PySem.W.Frag} {tg l : Expr} {tl : TE} (hK : X.K = K) (hl : PE X l tl) : PI X tg l (iSeq K tl) := by
  subst hK
  exact pi_seq hl
def rJoin (K : PySem.W.Frag) : V → List V → Hp → VK → Prop := fun x xs H Q => ∃ a p, ∃ ys : List Str, x = .str a ∧ xs = [.ref p] ∧ (SqL K H p (ys.map V.str) ∨ SqT K H p (ys.map V.str)) ∧ (ys.map (·.length)).sum + ys.length * a.length ≤ 16777216 ∧ Q (.str (Txt.join a ys)) H
theorem pe_asJ {X : Cx} {K : PySem.W.Frag} {e : Expr} {to te : TE} (hK : X.K = K) (h : PE X e (tM1 (rJoin X.K) to te)) : PE X e (tM1 (rJoin K) to te) := by
  subst hK
  exact h
abbrev scW : Scope := { kind := .function, names := [(".0", .local), ("words", .local)], isGenerator := false, isCoroutine := false }
/-- the text of a number -/
def nt (i : Int) : Str := Str.ofString (toString i)
def wdsD (d : Deed) : List Str := d.1 :: d.2.map nt
/-- the line of a deed, the text of lines -/
def lineT (d : Deed) : Str := Txt.join " " (wdsD d)
def noteT (ds : List Deed) : Str := Txt.join "\n" (ds.map lineT)
/-- a deed that is short enough to be written -/
def Sml (d : Deed) : Prop := d.1.length ≤ 10 ∧ d.2.length ≤ 2 ∧ ∀ i ∈ d.2, i.natAbs < 2 ^ 64
theorem nt_len {i : Int} (h : i.natAbs < 2 ^ 64) : (nt i).length ≤ 65 := by
  unfold nt
  rw [PySem.ofString_length]
  exact int_text_length_le (by decide) (log_lt (by decide) h)
theorem sum_le : ∀ {l : List Nat} {k : Nat}, (∀ x ∈ l, x ≤ k) → l.sum ≤ l.length * k
  | [], k, _ => by simp
  | a :: l, k, h => by
    have h1 := h a List.mem_cons_self
    have h2 := sum_le (l := l) (k := k) fun x hx => h x (List.mem_cons_of_mem _ hx)
    rw [List.sum_cons, List.length_cons, Nat.succ_mul]
    omega
theorem wds_len {d : Deed} (h : Sml d) : ∀ x ∈ wdsD d, x.length ≤ 65 := fun x hx => by
  rcases List.mem_cons.mp hx with e | e
  · rw [e]
    have := h.1
    omega
  · obtain ⟨i, hi, rfl⟩ := List.mem_map.mp e
    exact nt_len (h.2.2 i hi)
theorem join_len (y : Str) : ∀ ps : List Str, (Txt.join y ps).length ≤ (ps.map (·.length)).sum + ps.length * y.length := fun ps => by
  rw [join_eq, len_tl, tl_join]
  have key : ∀ l : List Str, (joinL (tl y) (l.map tl)).length ≤ (l.map (·.length)).sum + l.length * y.length := by
    intro l
    induction l with
    | nil => simp [joinL]
    | cons p r ih =>
      cases r with
      | nil =>
        show (tl p).length ≤ _
        rw [← len_tl]
        simp
      | cons q r =>
        show (tl p ++ (tl y ++ joinL (tl y) (tl q :: r.map tl))).length ≤ _
        have ih : (joinL (tl y) (tl q :: r.map tl)).length ≤ _ := ih
        rw [List.length_append, List.length_append, ← len_tl, ← len_tl, List.map_cons, List.sum_cons, List.length_cons, Nat.succ_mul]
        omega
  exact key ps
theorem line_len {d : Deed} (h : Sml d) : (lineT d).length ≤ 200 := by
  have h1 := join_len " " (wdsD d)
  have h2 : ((wdsD d).map (·.length)).sum ≤ (wdsD d).length * 65 := by
    have := sum_le (l := (wdsD d).map (·.length)) (k := 65) fun x hx => by
      obtain ⟨z, hz, rfl⟩ := List.mem_map.mp hx
      exact wds_len h z hz
    rw [List.length_map] at this
    exact this
  have h3 : (wdsD d).length ≤ 3 := by
    unfold wdsD
    rw [List.length_cons, List.length_map]
    have := h.2.1
    omega
  have h4 : (" " : Str).length = 1 := rfl
  rw [h4] at h1
  unfold lineT
  omega
section
variable {P : Program} {w : World} {K : PySem.W.Frag} {mg : Str → Option Value} {base : Heap} {C : Addr}
def spWrit (K : PySem.W.Frag) : Sp := fun vs H Q _ => ∃ (a : Addr) (xs : List V) (ds : List Deed), vs = [.ref a] ∧ SqL K H a xs ∧ DsH H xs ds ∧ (∀ d ∈ ds, Sml d) ∧ ds.length ≤ 1000 ∧ ∀ H', Same H H' → Q (.str (noteT ds)) H'
set_option maxHeartbeats 1000000 in
theorem ok_written {f : Addr} {fd : FuncData} (F : Fun K "written" "written" s_written f fd) (T : Bi mg) : FnOk P w K mg base CX0 1 f fd ["lines"] (spWrit K) := by
  refine F.ok sc_written (fun vs H Q E h => ?_) (fun cdv A outer s H vs Q E hr h => ?_)
  · obtain ⟨a, xs, ds, rfl, _⟩ := h
    rfl
  · obtain ⟨a, xs, ds, rfl, hs, hd, hm, hl, q⟩ := h
    refine ⟨_, (pss_one (ps_ret (pe_join pe_str (pe_lc (own := [("words", 1)]) (g := gName 1) (tt := tYes) rfl sc_written.nd (pi_list (pv 0)) (blkOk_by (own := [("words", 1)]) (N := ["lines", "words", "word"]) (sc := defScope s_written) (by decide +kernel)) (fun _ _ _ _ _ => pg_name (i := 1) sc_written.nd rfl (Or.inl rfl)) (fun _ _ _ _ _ => pts_nil) (fun _ _ _ _ _ => (pe_asJ rfl (pe_join pe_str (show PE _ _ (tLc (iSeq K (tVar 1)) (gName 2) tYes (tCB rStrX (tCons (tVar 2) tNil)) [2]) from pe_lc (own := [("word", 2)]) (g := gName 2) (tt := tYes) rfl sc_written.nd (pi_seqK rfl (pv 1)) (blkOk_by (own := [("word", 2)]) (N := ["lines", "words", "word"]) (sc := scW) (by decide +kernel)) (fun _ _ _ _ _ => pg_name (i := 2) sc_written.nd rfl (Or.inl rfl)) (fun _ _ _ _ _ => pts_nil) (fun _ _ _ _ _ => pe_callTy call_strX (by rfl) T.b_str (by decide +kernel) (pa_cons (pv 2) pa_nil)))))))))), ?_⟩
    have lx : xs.length ≤ 1000 := by rw [hd.1]; exact hl
    -- the words of a line
    have inner : ∀ (b : Addr) (d : Deed) (Hi : Hp) (σ : L2.St) (R : VK), SqH Hi b (dv d) → Sml d → (∃ y2, σ = [some (.ref a), some (.ref b), y2]) → (∀ D2, Hi D2 = none → R (.str (lineT d)) (upd Hi D2 (.lst ((wdsD d).map V.str)))) →
        (tM1 (rJoin K) (tC (V.str " ")) (tLc (iSeq K (tVar 1)) (gName 2) tYes (tCB rStrX (tCons (tVar 2) tNil)) [2])) σ Hi R := fun b d Hi σ R hb sm hσ r => by
      obtain ⟨y2, rfl⟩ := hσ
      have lw : (wdsD d).length = (dv d).length := by simp [wdsD, dv]
      have lw3 : (wdsD d).length ≤ 3 := by
        unfold wdsD
        rw [List.length_cons, List.length_map]
        have := sm.2.1
        omega
      have step : ∀ (D2 : Addr) (j : Nat) (x : V) (Hj : Hp), (dv d)[j]? = some x → Hj = upd Hi D2 (.lst (((wdsD d).take j).map V.str)) → rStrX [x] Hj fun y H4 => ∃ acc, H4 D2 = some (.lst acc) ∧ acc.length < sizeLine ∧ upd H4 D2 (.lst (acc ++ [y])) = upd Hi D2 (.lst (((wdsD d).take (j + 1)).map V.str)) := fun D2 j x Hj hx e => by
        subst e
        have go : ∀ z : Str, (wdsD d)[j]? = some z → ∃ acc, (upd Hi D2 (.lst (((wdsD d).take j).map V.str))) D2 = some (.lst acc) ∧ acc.length < sizeLine ∧ upd (upd Hi D2 (.lst (((wdsD d).take j).map V.str))) D2 (.lst (acc ++ [.str z])) = upd Hi D2 (.lst (((wdsD d).take (j + 1)).map V.str)) := fun z hz => by
          refine ⟨_, upd_same, ?_, ?_⟩
          · rw [List.length_map, List.length_take]
            exact Nat.lt_of_le_of_lt (Nat.min_le_right _ _) (small1000 (by omega))
          · rw [upd_upd, List.take_add_one, hz]
            simp
        cases j with
        | zero =>
          obtain rfl : V.str d.1 = x := Option.some.inj hx
          exact .inl ⟨_, rfl, go d.1 rfl⟩
        | succ j =>
          have hx2 : (d.2.map V.int)[j]? = some x := hx
          obtain ⟨c, rfl, hc⟩ := int_at hx2
          have sm2 := sm.2.2 c (List.mem_of_getElem? hc)
          refine .inr ⟨c, rfl, Nat.lt_of_lt_of_le (log_lt (k := 64) (by decide) sm2) (by decide), go (nt c) ?_⟩
          show (d.2.map nt)[j]? = _
          rw [List.getElem?_map, hc]
          rfl
      have fin : ∀ (D2 : Addr), Hi D2 = none → ∀ Hj, Hj = upd Hi D2 (.lst (((wdsD d).take (dv d).length).map V.str)) → rJoin K (.str " ") [.ref D2] Hj R := fun D2 n2 Hj e => by
        subst e
        rw [← lw, List.take_length]
        refine ⟨" ", D2, wdsD d, rfl, rfl, .inl (.inl (.inl upd_same)), ?_, r D2 n2⟩
        have h2 : ((wdsD d).map (·.length)).sum ≤ (wdsD d).length * 65 := by
          have := sum_le (l := (wdsD d).map (·.length)) (k := 65) fun x hx => by
            obtain ⟨z, hz, rfl⟩ := List.mem_map.mp hx
            exact wds_len sm z hz
          rw [List.length_map] at this
          exact this
        have h4 : (" " : Str).length = 1 := rfl
        rw [h4]
        omega
      rcases hb with e | e
      · refine ⟨⟨_, rfl⟩, _, rfl, b, rfl, .inl ⟨⟨_, .inl (.inl e)⟩, fun D2 n2 => lc_list (K := K) (a := b) (xs := dv d) (fun j Hj => Hj = upd Hi D2 (.lst (((wdsD d).take j).map V.str))) rfl (fun j Hj _ ej => ?_) (fun j x Hj hx ej => ?_) fun Hj ej => fin D2 n2 Hj ej⟩⟩
        · rw [ej]
          exact .inl (.inl ((same_upd n2) _ _ e))
        · exact ⟨rfl, _, rfl, step D2 j x Hj hx ej⟩
      · refine ⟨⟨_, rfl⟩, _, rfl, b, rfl, .inr ⟨⟨_, .inl (.inl e)⟩, fun D2 n2 => lc_tup (K := K) (a := b) (xs := dv d) (fun j Hj => Hj = upd Hi D2 (.lst (((wdsD d).take j).map V.str))) rfl (fun j Hj _ ej => ?_) (fun j x Hj hx ej => ?_) fun Hj ej => fin D2 n2 Hj ej⟩⟩
        · rw [ej]
          exact .inl (.inl ((same_upd n2) _ _ e))
        · exact ⟨rfl, _, rfl, step D2 j x Hj hx ej⟩
    refine ⟨⟨_, rfl⟩, _, rfl, a, rfl, ⟨_, hs⟩, fun D nD => lc_list (K := K) (a := a) (xs := xs) (fun i Hi => ∃ Hc, Same H Hc ∧ Hc D = none ∧ Hi = upd Hc D (.lst (((ds.take i).map lineT).map V.str))) ⟨H, Same.refl _, nD, rfl⟩ (fun i Hi _ pv => ?_) (fun i x Hi hx pv => ?_) fun Hi pv => ?_⟩
    · obtain ⟨Hc, sc, nDc, rfl⟩ := pv
      exact (sc.trans (same_upd nDc)).seq hs
    · obtain ⟨Hc, sc, nDc, rfl⟩ := pv
      obtain ⟨b, d, rfl, hdi, hb⟩ := hd.at_ hx
      have sD : Same Hc (upd Hc D (.lst (((ds.take i).map lineT).map V.str))) := same_upd nDc
      refine ⟨rfl, ?_⟩
      refine inner b d _ _ _ ((hb.same sc).same sD) (hm d (List.mem_of_getElem? hdi)) ⟨_, rfl⟩ fun D2 n2 => ?_
      have n2D : D2 ≠ D := fun z => by rw [z, upd_same] at n2; cases n2
      have n2c : Hc D2 = none := by rw [upd_ne n2D] at n2; exact n2
      refine ⟨_, by rw [upd_ne n2D.symm]; exact upd_same, ?_, upd Hc D2 (.lst ((wdsD d).map V.str)), sc.trans (same_upd n2c), by rw [upd_ne n2D.symm]; exact nDc, ?_⟩
      · rw [List.length_map, List.length_map, List.length_take]
        exact Nat.lt_of_le_of_lt (Nat.min_le_right _ _) (small1000 hl)
      · rw [List.take_add_one, hdi]
        funext c
        by_cases h1 : c = D
        · rw [h1, upd_same, upd_same]
          simp
        · rw [upd_ne h1, upd_ne h1]
          by_cases h2 : c = D2
          · rw [h2, upd_same, upd_same]
          · rw [upd_ne h2, upd_ne h2, upd_ne h1]
    · obtain ⟨Hc, sc, nDc, rfl⟩ := pv
      rw [hd.1, List.take_length]
      refine ⟨_, D, ds.map lineT, rfl, rfl, .inl (.inl (.inl upd_same)), ?_, q _ (sc.trans (same_upd nDc))⟩
      have h2 : ((ds.map lineT).map (·.length)).sum ≤ (ds.map lineT).length * 200 := by
        have := sum_le (l := (ds.map lineT).map (·.length)) (k := 200) fun x hx => by
          obtain ⟨z, hz, rfl⟩ := List.mem_map.mp hx
          obtain ⟨d, hd2, rfl⟩ := List.mem_map.mp hz
          exact line_len (hm d hd2)
        rw [List.length_map] at this
        exact this
      have h4 : ("\n" : Str).length = 1 := rfl
      rw [h4]
      rw [List.length_map] at h2 ⊢
      omega
end
end Own

namespace Own
open PySem PySem.Spec PyProof.Rows L2
theorem op_eqDK {X : Cx} {K : PySem.W.Frag} (hK : X.K = K) (hu : X.A.units + 64 < cLine) : OpR X (compareOp .Eq) (rEqD K) := by
  subst hK
  exact op_eqD hu
/-! ### deeds as data -/
def dD (d : Deed) : PyData := .tuple (.str d.1 :: d.2.map PyData.int)
theorem ints_dp {K : PySem.W.Frag} {H : Hp} : ∀ l : List Int, DpAll K H (l.map V.int) (l.map PyData.int)
  | [] => .nil
  | i :: r => .cons (.int i) (ints_dp r)
theorem dD_dp {K : PySem.W.Frag} {H : Hp} {b : Addr} {d : Deed} (h : H b = some (.tup (dv d))) : Dp K H (.ref b) (dD d) := .tup (.inl (.inl h)) (.cons (.str _) (ints_dp _))
theorem DsT.dp {K : PySem.W.Frag} {H : Hp} : ∀ (ds : List Deed) (vs : List V), DsT H vs ds → DpAll K H vs (ds.map dD)
  | [], [], _ => .nil
  | [], _ :: _, h => absurd h.1 (by simp)
  | _ :: _, [], h => absurd h.1 (by simp)
  | t :: r, v :: vs, h => by
    obtain ⟨b, e1, e2⟩ := h.2 0 t rfl
    cases Option.some.inj e1
    exact .cons (dD_dp e2) (DsT.dp r vs ⟨Nat.succ.inj h.1, fun i u e => h.2 (i + 1) u e⟩)
theorem ints_lay : ∀ l : List Int, PyData.canLayAll0 (l.map PyData.int) = true ∧ PyData.depthAll (l.map PyData.int) ≤ 0
  | [] => ⟨rfl, Nat.le_refl _⟩
  | i :: r => by
    obtain ⟨h1, h2⟩ := ints_lay r
    refine ⟨?_, ?_⟩
    · show (true && PyData.canLayAll0 (r.map PyData.int)) = true
      rw [h1]
      rfl
    · show max (PyData.depth (.int i)) (PyData.depthAll (r.map PyData.int)) ≤ 0
      have : PyData.depth (.int i) = 0 := rfl
      omega
theorem GoodD.ok {d : Deed} (h : GoodD d) : PyData.strOk d.1 = true := by
  have := valN_mem h
  unfold NUMB at this
  simp only [List.mem_cons, List.not_mem_nil, or_false, Prod.mk.injEq] at this
  rcases this with ⟨e, _⟩ | ⟨e, _⟩ | ⟨e, _⟩ | ⟨e, _⟩ | ⟨e, _⟩ | ⟨e, _⟩ <;> (rw [e]; decide +kernel)
theorem dD_lay (d : Deed) (ok : PyData.strOk d.1 = true) : PyData.canLay0 (dD d) = true ∧ PyData.depth (dD d) ≤ 1 := by
  obtain ⟨h1, h2⟩ := ints_lay d.2
  refine ⟨?_, ?_⟩
  · show (PyData.strOk d.1 && PyData.canLayAll0 (d.2.map PyData.int)) = true
    rw [h1, ok]
    rfl
  · show max (PyData.depth (.str d.1)) (PyData.depthAll (d.2.map PyData.int)) + 1 ≤ 1
    have : PyData.depth (.str d.1) = 0 := rfl
    omega
theorem ds_lay : ∀ ds : List Deed, (∀ d ∈ ds, GoodD d) → PyData.canLayAll0 (ds.map dD) = true ∧ PyData.depthAll (ds.map dD) ≤ 1
  | [], _ => ⟨rfl, Nat.zero_le _⟩
  | p :: r, ok => by
    obtain ⟨h1, h2⟩ := ds_lay r fun d hd => ok d (List.mem_cons_of_mem _ hd)
    obtain ⟨h3, h4⟩ := dD_lay p (ok p List.mem_cons_self).ok
    refine ⟨?_, ?_⟩
    · show (PyData.canLay0 (dD p) && PyData.canLayAll0 (r.map dD)) = true
      rw [h1, h3]
      rfl
    · show max (PyData.depth (dD p)) (PyData.depthAll (r.map dD)) ≤ 1
      omega
theorem shaped_of {d : PyData} (h1 : d.canLay0 = true) (h2 : d.depth ≤ 64) : SeqAt.shaped d = true := by
  unfold SeqAt.shaped
  rw [h1, decide_eq_true h2]
  rfl
theorem eqv_of {d : PyData} (h1 : d.canLay0 = true) : PyData.eqv d d = true := SeqAt.eqv_refl_plain d (PyData.plain_of_canLay0 d h1)
def dDs (ds : List Deed) : PyData := .tuple (ds.map dD)
def dLs (ds : List Deed) : PyData := .list (ds.map dD)
theorem dDs_lay (ds : List Deed) (ok : ∀ d ∈ ds, GoodD d) : (dDs ds).canLay0 = true ∧ (dDs ds).depth ≤ 2 := by
  obtain ⟨h1, h2⟩ := ds_lay ds ok
  exact ⟨h1, by show PyData.depthAll (ds.map dD) + 1 ≤ 2; omega⟩
theorem dLs_lay (ds : List Deed) (ok : ∀ d ∈ ds, GoodD d) : (dLs ds).canLay0 = true ∧ (dLs ds).depth ≤ 2 := by
  obtain ⟨h1, h2⟩ := ds_lay ds ok
  exact ⟨h1, by show PyData.depthAll (ds.map dD) + 1 ≤ 2; omega⟩
theorem DsT.append {H : Hp} {vs us : List V} {ds es : List Deed} (h : DsT H vs ds) (k : DsT H us es) : DsT H (vs ++ us) (ds ++ es) := by
  refine ⟨by rw [List.length_append, List.length_append, h.1, k.1], fun i d hd => ?_⟩
  by_cases hi : i < ds.length
  · rw [List.getElem?_append_left hi] at hd
    obtain ⟨b, x, y⟩ := h.2 i d hd
    exact ⟨b, by rw [List.getElem?_append_left (by rw [h.1]; exact hi)]; exact x, y⟩
  · rw [List.getElem?_append_right (by omega)] at hd
    obtain ⟨b, x, y⟩ := k.2 _ d hd
    exact ⟨b, by rw [List.getElem?_append_right (by rw [h.1]; omega), h.1]; exact x, y⟩
theorem look_deeds (a : Addr) : ([("deeds", V.ref a)] : List (Str × V)).lookup ("deeds" : Str) = some (.ref a) := by
  rw [List.lookup_cons]
  rw [beq_self_eq_true]
section
variable {P : Program} {w : World} {K : PySem.W.Frag} {mg : Str → Option Value} {base : Heap} {C : Addr}
/-- Course(xs) -/
theorem rd_mkC {a : Addr} {xs : List V} {ds : List Deed} {H : Hp} {R : VK} {E : XK} (hs : SqH H a xs) (hd : DsH H xs ds) (hg : ∀ d ∈ ds, GoodD d) (hl : ds.length ≤ 1000) (q : ∀ H' x, Same H H' → CrsAt C H' x ds → R (.ref x) H') :
    ∀ x dx, H x = none → H dx = none → dx ≠ x → spCInit C (.ref x :: ([.ref a] ++ [])) (upd (upd H dx (.own x)) x (.ins C dx [])) (fun v H2 => v = .non ∧ R (.ref x) H2) E := fun x dx nx nd ne => by
  have s1 : Same H (upd H dx (.own x)) := same_upd nd
  have nx1 : (upd H dx (.own x)) x = none := by
    rw [upd_ne ne.symm]
    exact nx
  exact ⟨x, dx, a, xs, ds, H, rfl, upd_same, nx, s1.trans (same_upd nx1), hs, hd, hg, hl, fun H' s' c => ⟨rfl, q H' x s' c⟩⟩
abbrev GCI (P : Program) (w : World) (K : PySem.W.Frag) (mg : Str → Option Value) (base : Heap) (C f : Addr) (d : FuncData) : Prop := FnOk P w K mg base CX0 3 f d ["self", "deeds"] (spCInit C)
def spCAdd (C : Addr) : Sp := fun vs H Q _ => ∃ (p o : Addr) (ds es : List Deed), vs = [.ref p, .ref o] ∧ CrsAt C H p ds ∧ CrsAt C H o es ∧ (∀ d ∈ ds, GoodD d) ∧ (∀ d ∈ es, GoodD d) ∧ ds.length ≤ 400 ∧ es.length ≤ 400 ∧ ∀ H' x, Same H H' → CrsAt C H' x (ds ++ es) → Q (.ref x) H'
theorem ok_cadd {f : Addr} {fd : FuncData} (F : Fun K "__add__" "Course.__add__" s_Course_add f fd) (L : CrsC K mg C) {f_i : Addr} {d_i : FuncData} (M : Mk K C f_i) (G_i : GCI P w K mg base C f_i d_i) (b_i : Binds K d_i ["self", "deeds"] []) : FnOk P w K mg base CX0 5 f fd ["self", "other"] (spCAdd C) := by
  refine F.ok sc_Course_add (fun vs H Q E h => ?_) (fun cdv A outer s H vs Q E hr h => ?_)
  · obtain ⟨p, o, ds, es, rfl, _⟩ := h
    rfl
  · obtain ⟨p, o, ds, es, rfl, hp, ho, gp, go, lp, lo, q⟩ := h
    refine ⟨_, pss_one (ps_ret (pe_make M G_i hr (by rfl) L.g b_i .nil pass0 (pa_cons (pe_op op_catA (pe_fld (pv 0) rfl) (pe_fld (pv 1) rfl)) pa_nil))), ?_⟩
    obtain ⟨dx, a, us, e, ea, t⟩ := hp
    obtain ⟨dy, b, ws, f1, fb, t2⟩ := ho
    have gd : ∀ d ∈ ds ++ es, GoodD d := fun d hd => (List.mem_append.mp hd).elim (gp d) (go d)
    have ln : (ds ++ es).length ≤ 1000 := by rw [List.length_append]; omega
    refine ⟨_, rfl, p, C, dx, _, _, rfl, e, L.cl, L.nD, look_deeds _, _, rfl, o, C, dy, _, _, rfl, f1, L.cl, L.nD, look_deeds _, a, b, us, ws, rfl, rfl, .inl (.inl ea), .inl (.inl fb), ?_, fun e0 => ?_, fun n0 e0 => ?_, fun n0 n1 m nm => ?_⟩
    · rw [t.1, t2.1]
      exact Nat.le_trans (by omega) (by decide : 800 ≤ sizeLine)
    · have : ds = [] := List.length_eq_zero_iff.mp (by rw [← t.1, e0]; rfl)
      subst this
      exact rd_mkC (.inr fb) t2.h gd ln fun H' x s c => q H' x s c
    · have : es = [] := List.length_eq_zero_iff.mp (by rw [← t2.1, e0]; rfl)
      subst this
      exact rd_mkC (.inr ea) (by rw [List.append_nil]; exact t.h) gd ln fun H' x s c => q H' x s c
    · have s1 : Same H (upd H m (.tup (us ++ ws))) := same_upd nm
      exact rd_mkC (.inr upd_same) ((t.append t2).same s1).h gd ln fun H' x s c => q H' x (s1.trans s) c
def spCEq (C : Addr) : Sp := fun vs H Q _ => ∃ (p o : Addr) (ds : List Deed), vs = [.ref p, .ref o] ∧ CrsAt C H p ds ∧ CrsAt C H o ds ∧ (∀ d ∈ ds, GoodD d) ∧ Q (.bl true) H
theorem ok_ceq {f : Addr} {fd : FuncData} (F : Fun K "__eq__" "Course.__eq__" s_Course_eq f fd) (T : Bi mg) (L : CrsC K mg C) (I : C8.InsC K C) : FnOk P w K mg base CX0 1 f fd ["self", "other"] (spCEq C) := by
  refine F.ok sc_Course_eq (fun vs H Q E h => ?_) (fun cdv A outer s H vs Q E hr h => ?_)
  · obtain ⟨p, o, ds, rfl, _⟩ := h
    rfl
  · obtain ⟨p, o, ds, rfl, hp, ho, gd, q⟩ := h
    have hu64 : (A.deeper (envOfC "Course.__eq__" (defScope s_Course_eq) s.heap.objs.size f cdv)).units + 64 < cLine := hr.units
    refine ⟨_, (pss_one (ps_ret (pe_and (pe_callB call_isi (by rfl) T.b_isinstance (by decide +kernel) (pa_cons (pv 1) (pa_cons (pe_glob (v := .ref C) (by rfl) L.g rfl) pa_nil))) (pe_one (pe_cmpR (op_eqDK (K := K) rfl hu64) (pe_fld (pv 0) rfl) (pe_fld (pv 1) rfl) (nomark _)))))), ?_⟩
    obtain ⟨dx, a, us, e, ea, t⟩ := hp
    obtain ⟨dy, b, ws, f1, fb, t2⟩ := ho
    have d1 : Dp K H (.ref a) (dDs ds) := .tup (.inl (.inl ea)) (t.dp ds us)
    have d2 : Dp K H (.ref b) (dDs ds) := .tup (.inl (.inl fb)) (t2.dp ds ws)
    obtain ⟨h1, h2⟩ := dDs_lay ds gd
    refine ⟨_, rfl, _, _, _, _, true, rfl, .own C, .base (.ins f1 I.cl I.ha I.hn I.htk I.hm), I.me, true, rfl, ?_⟩
    refine ⟨_, rfl, p, C, dx, _, _, rfl, e, L.cl, L.nD, look_deeds _, _, rfl, o, C, dy, _, _, rfl, f1, L.cl, L.nD, look_deeds _, _, _, d1, d2, shaped_of h1 (by omega), shaped_of h1 (by omega), ?_⟩
    rw [eqv_of h1]
    exact q
def spFmt (C : Addr) : Sp := fun vs H Q _ => ∃ (p : Addr) (ds : List Deed), vs = [.ref p] ∧ CrsAt C H p ds ∧ (∀ d ∈ ds, Sml d) ∧ ds.length ≤ 900 ∧ ∀ H', Same H H' → Q (.str (noteT (("course", []) :: ds))) H'
theorem ok_fmt {f : Addr} {fd : FuncData} (F : Fun K "format_course" "format_course" s_format_course f fd) (T : Bi mg) (L : CrsC K mg C) {f_w : Addr} {d_w : FuncData} (D_w : Df K mg "written" s_written ["lines"] f_w d_w) (G_w : FnOk P w K mg base CX0 1 f_w d_w ["lines"] (spWrit K)) : FnOk P w K mg base CX0 2 f fd ["course"] (spFmt C) := by
  refine F.ok sc_format_course (fun vs H Q E h => ?_) (fun cdv A outer s H vs Q E hr h => ?_)
  · obtain ⟨p, ds, rfl, _⟩ := h
    rfl
  · obtain ⟨p, ds, rfl, hp, hm, hl, q⟩ := h
    refine ⟨_, (pss_one (ps_ret (pe_call G_w (hr.mono (by decide)) (by rfl) D_w.g D_w.F.kp D_w.b .nil pass0 (pa_cons (pe_op op_cat (pe_lst (pa_cons (pe_tup (pa_cons pe_str pa_nil)) pa_nil)) (pe_callTy call_list_of (by rfl) T.b_list (by decide +kernel) (pa_cons (pe_fld (pv 0) rfl) pa_nil))) pa_nil)))), ?_⟩
    obtain ⟨dx, a, us, e, ea, t⟩ := hp
    refine ⟨by show 1 ≤ sizeLine; decide, fun l nl => ?_⟩
    refine ⟨by show 1 ≤ sizeLine; decide, fun m nm => ?_⟩
    have s1 : Same H (upd H l (.tup [.str "course"])) := same_upd nl
    have s2 : Same (upd H l (.tup [.str "course"])) (upd (upd H l (.tup [.str "course"])) m (.lst [.ref l])) := same_upd nm
    have s3 := s1.trans s2
    refine ⟨_, rfl, p, C, dx, _, _, rfl, s3 _ _ e, L.cl, L.nD, look_deeds _, a, us, rfl, .inr (.inl (.inl (s3 _ _ ea))), fun n nn => ?_⟩
    have s4 := same_upd (o := .lst us) nn
    have lu : us.length ≤ 900 := by rw [t.1]; exact hl
    refine ⟨m, n, [.ref l], us, rfl, rfl, s4 _ _ upd_same, upd_same, by show 1 + us.length ≤ sizeLine; exact Nat.le_trans (by omega) (by decide : 901 ≤ sizeLine), fun k nk => ?_⟩
    have s5 := same_upd (o := .lst ([.ref l] ++ us)) nk
    have s6 := ((s3.trans s4).trans s5)
    refine ⟨k, [.ref l] ++ us, ("course", []) :: ds, rfl, .inl (.inl upd_same), ⟨by rw [List.length_append, t.1]; show 1 + ds.length = ds.length + 1; omega, fun i d hd => ?_⟩, fun d hd => ?_, by rw [List.length_cons]; omega, fun H' s' => q H' (s6.trans s')⟩
    · cases i with
      | zero =>
        obtain rfl : (("course", []) : Deed) = d := Option.some.inj hd
        exact ⟨l, rfl, .inr (s5 _ _ (s4 _ _ (s2 _ _ upd_same)))⟩
      | succ i =>
        obtain ⟨b, x, y⟩ := t.2 i d hd
        exact ⟨b, x, .inr (s6 _ _ y)⟩
    · rcases List.mem_cons.mp hd with rfl | hd
      · exact ⟨by decide, by decide, fun i hi => nomatch hi⟩
      · exact hm d hd
end
end Own

namespace Own
open PySem PySem.Spec PyProof.Rows L2 TL
def linesOf (x : Str) : List Str := Txt.split x "\n"
theorem lines_facts (x : Str) : linesOf x ≠ [] ∧ (linesOf x).length ≤ x.length + 1 ∧ ∀ p ∈ linesOf x, p.length ≤ x.length := split_facts x "\n" 10 rfl (by decide)
def c0 : Str → Option Nat := fun y => if y = "course" then some 0 else none
def cN : Str → Option Nat := fun y => (valN NUMB y).map Int.toNat
/-- the deed of line p -/
def lineV (ls : List Str) (p : Nat) : Option Deed := (ls[p]?).bind fun l => rdL (if p = 0 then c0 else cN) l
def dsOf (ls : List Str) (n : Nat) : List Deed := (List.range n).map fun i => (lineV ls (i + 1)).getD ("", [])
theorem dsOf_succ (ls : List Str) (n : Nat) : dsOf ls (n + 1) = dsOf ls n ++ [(lineV ls (n + 1)).getD ("", [])] := by
  unfold dsOf
  rw [List.range_succ, List.map_append]
  rfl
/-- all lines have the form -/
def AllL (ls : List Str) : Prop := ∀ p, p < ls.length → (lineV ls p).isSome = true
/-- line p is the first that has not -/
def BadL (ls : List Str) (p : Nat) : Prop := p < ls.length ∧ lineV ls p = none ∧ ∀ q, q < p → (lineV ls q).isSome = true
theorem cN_good {y : Str} {r : List Str} {k : Nat} (h : cN y = some k) (hr : r.length = k) : GoodD (y, r.map numV) := by
  unfold cN at h
  unfold GoodD
  cases e : valN NUMB y with
  | none => rw [e] at h; cases h
  | some i =>
    rw [e] at h
    have hi : i.toNat = k := Option.some.inj h
    have hm := valN_mem e
    have i0 : 0 ≤ i := by
      unfold NUMB at hm
      simp only [List.mem_cons, List.not_mem_nil, or_false, Prod.mk.injEq] at hm
      omega
    show some i = some (((r.map numV).length : Nat) : Int)
    rw [List.length_map, hr]
    congr 1
    omega
theorem rdL_good {x : Str} {d : Deed} (h : rdL cN x = some d) : GoodD d := by
  unfold rdL at h
  split at h
  · cases h
  · rename_i y r e
    split at h
    · cases h
    · rename_i k hk
      split at h
      · rename_i c
        cases h
        exact cN_good hk c.2
      · cases h
theorem line_good {ls : List Str} {p : Nat} {d : Deed} (h : lineV ls (p + 1) = some d) : GoodD d := by
  unfold lineV at h
  rw [if_neg (by omega)] at h
  cases e : ls[p + 1]? with
  | none => rw [e] at h; cases h
  | some l =>
    rw [e] at h
    exact rdL_good h
theorem cnt_c0 {H : Hp} {c : Addr} (h : H c = some (.dK [(Sum.inr "course", V.int 0)])) : CntAt H c c0 := ⟨_, h, fun x => by
  unfold valV c0
  rw [List.find?_cons]
  show Option.map _ (match decide ((Sum.inr "course" : Key) = Sum.inr x) with | true => _ | false => _) = _
  rw [key_rr]
  by_cases e : x = "course"
  · rw [if_pos e, decide_eq_true e.symm]
    rfl
  · rw [if_neg e, decide_eq_false fun z => e z.symm]
    rfl⟩
theorem cnt_cN {H : Hp} {c : Addr} (h : H c = some (.dK (kvsOf NUMB))) : CntAt H c cN := ⟨_, h, fun x => by
  rw [valN_eq]
  unfold cN
  cases e : valN NUMB x with
  | none => rfl
  | some i =>
    have hm := valN_mem e
    have i0 : 0 ≤ i := by
      unfold NUMB at hm
      simp only [List.mem_cons, List.not_mem_nil, or_false, Prod.mk.injEq] at hm
      omega
    show some (V.int i) = some (V.int ((i.toNat : Nat) : Int))
    rw [Int.toNat_of_nonneg i0]⟩
theorem dsOf_good {ls : List Str} {n : Nat} (h : ∀ q, q < n + 1 → (lineV ls q).isSome = true) : ∀ d ∈ dsOf ls n, GoodD d := fun d hd => by
  unfold dsOf at hd
  obtain ⟨i, hi, rfl⟩ := List.mem_map.mp hd
  have hi := List.mem_range.mp hi
  have := h (i + 1) (by omega)
  cases e : lineV ls (i + 1) with
  | none => rw [e] at this; cases this
  | some d => exact line_good e
theorem dsOf_len (ls : List Str) (n : Nat) : (dsOf ls n).length = n := by
  unfold dsOf
  rw [List.length_map, List.length_range]
/-- the heap without M -/
def hole (H : Hp) (M : Addr) : Hp := fun c => if c = M then none else H c
theorem hole_at {H : Hp} {M : Addr} : hole H M M = none := if_pos rfl
theorem hole_ne {H : Hp} {M c : Addr} (h : c ≠ M) : hole H M c = H c := if_neg h
theorem upd_hole {H : Hp} {M : Addr} {o : HO} : upd (hole H M) M o = upd H M o := by
  funext c
  by_cases h : c = M
  · rw [h, upd_same, upd_same]
  · rw [upd_ne h, upd_ne h, hole_ne h]
theorem same_hole {H H' : Hp} {M : Addr} (n : H M = none) (s : Same H H') : Same H (hole H' M) := fun b o e => by
  rw [hole_ne fun z => by rw [z, n] at e; cases e]
  exact s b o e
section
variable {P : Program} {w : World} {K : PySem.W.Frag} {mg : Str → Option Value} {base : Heap} {C D dN : Addr}
structure BiD (mg : Str → Option Value) : Prop where
  b_dict : mg "dict" = none
def spParse (C D : Addr) : Sp := fun vs H Q E => ∃ x : Str, vs = [.str x] ∧ x.length ≤ 100000 ∧ (linesOf x).length ≤ 800 ∧ (∀ l ∈ linesOf x, l.length ≤ 500) ∧
  (AllL (linesOf x) → ∀ H' p, Same H H' → CrsAt C H' p (dsOf (linesOf x) ((linesOf x).length - 1)) → Q (.ref p) H') ∧ (∀ p, BadL (linesOf x) p → NEx D ((p : Int) + 1) H E)
set_option maxHeartbeats 1000000 in
theorem ok_parse {f : Addr} {fd : FuncData} (F : Fun K "parse_course" "parse_course" s_parse_course f fd) (T : Bi mg) (TE : BiD mg) (L : CrsC K mg C) (gN : mg "NUMBERS" = some (.ref dN)) (TN : KTab K w dN NUMB)
    {f_l : Addr} {d_l : FuncData} (D_l : Df K mg "read_line" s_read_line ["lines", "place", "counts"] f_l d_l) (G_l : FnOk P w K mg base (L2N.CX P w) 4 f_l d_l ["lines", "place", "counts"] (spLine K D))
    {f_i : Addr} {d_i : FuncData} (M : Mk K C f_i) (G_i : GCI P w K mg base C f_i d_i) (b_i : Binds K d_i ["self", "deeds"] []) : FnOk P w K mg base (L2N.CX P w) 5 f fd ["text"] (spParse C D) := by
  refine okN F sc_parse_course (fun vs H Q E h => ?_) (fun cdv A outer s H vs Q E hr h => ?_)
  · obtain ⟨x, rfl, _⟩ := h
    rfl
  · obtain ⟨x, rfl, hx, hn, hl, q, e⟩ := h
    refine ⟨_, (pss_cons (ps_set (i := 1) sc_parse_course.nd rfl (.inr rfl) (pe_split (pv 0) pe_str))
        (pss_cons (ps_expr (pe_call G_l (hr.mono (by decide)) (by rfl) D_l.g D_l.F.kp D_l.b .nil (L2N.passes_call (L2N.takes_of rfl rfl rfl rfl) (fun _ _ _ _ h => h)) (pa_cons (pv 1) (pa_cons pe_int (pa_cons (pe_disp (pps_cons pe_str pe_int pps_nil) (by rfl) (by rfl) (fun z => by cases z) (by decide)) pa_nil)))))
        (pss_cons (ps_set (i := 2) sc_parse_course.nd rfl (.inr rfl) (pe_callTy call_dictK (by rfl) TE.b_dict (by decide +kernel) (pa_cons (pe_glob (v := .ref dN) (by rfl) gN rfl) pa_nil)))
        (pss_one (ps_ret (pe_make M G_i (hr.mono (by decide)) (by rfl) L.g b_i .nil pass0 (pa_cons (pe_lcX (E := E) (own := [("place", 3)]) (g := gName 3) (tt := tYes) rfl rfl (L2N.takes_of rfl rfl rfl rfl) rfl sc_parse_course.nd (pi_range2 (by rfl) T.b_range (pa_cons pe_int (pa_cons (pe_callB call_len_seq (by rfl) T.b_len PySem.boot_len (pa_cons (pv 1) pa_nil)) pa_nil))) (blkOk_by (own := [("place", 3)]) (N := ["text", "lines", "counts", "place"]) (sc := defScope s_parse_course) (by decide +kernel)) (fun _ _ _ _ _ _ => pg_name (i := 3) sc_parse_course.nd rfl (Or.inl rfl)) (fun _ _ _ _ _ _ => pts_nil) (fun _ _ _ _ _ _ px => (pe_callS G_l (hr.mono (by decide)) (by rfl) D_l.g D_l.F.kp D_l.b px (pa_cons (pv 1) (pa_cons (pv 3) (pa_cons (pv 2) pa_nil)))))) pa_nil))))))), ?_⟩
    obtain ⟨ne, lx, lp⟩ := lines_facts x
    have hls : (Txt.split x "\n") = linesOf x := rfl
    refine ⟨_, rfl, ⟨_, rfl⟩, x, _, rfl, rfl, rfl, Nat.le_trans (Nat.add_le_add_right hx 2) (by decide), fun a na => ?_⟩
    rw [hls]
    generalize linesOf x = ls at *
    have s1 : Same H (upd H a (.lst (ls.map V.str))) := same_upd na
    have hpos : 0 < ls.length := List.length_pos_iff.mpr ne
    refine ⟨_, rfl, fun c nc => ?_⟩
    refine ⟨upd_same, [(Sum.inr "course", .int 0)], rfl, by show 1 ≤ 15; decide, ?_⟩
    rw [upd_upd]
    have s2 : Same (upd H a (.lst (ls.map V.str))) (upd (upd H a (.lst (ls.map V.str))) c (.dK (mergeK [] [(Sum.inr "course", V.int 0)]))) := same_upd nc
    have hc2 : (upd (upd H a (.lst (ls.map V.str))) c (.dK (mergeK [] [(Sum.inr "course", V.int 0)]))) c = some (.dK [(Sum.inr "course", V.int 0)]) := upd_same
    have ha2 := s2 _ _ (upd_same (H := H) (a := a) (o := .lst (ls.map V.str)))
    have s12 := s1.trans s2
    generalize (upd (upd H a (.lst (ls.map V.str))) c (.dK (mergeK [] [(Sum.inr "course", V.int 0)]))) = H2 at *
    refine ⟨a, c, ls, 0, c0, rfl, .inl (.inl ha2), cnt_c0 hc2, by omega, fun l hl0 => ⟨hl l (List.mem_of_getElem? hl0), ?_⟩, fun z => absurd z (by omega)⟩
    have lv0 : lineV ls 0 = rdL c0 l := by
      unfold lineV
      rw [hl0, if_pos rfl]
      rfl
    cases h0 : rdL c0 l with
    | none => exact NEx.same (e 0 ⟨hpos, lv0.trans h0, fun q hq => absurd hq (Nat.not_lt_zero q)⟩) s12
    | some d0 =>
      intro H3 b0 s3 hb0
      have s03 := s12.trans s3
      have ha3 := s3 _ _ ha2
      refine ⟨dN, NUMB, rfl, TN, fun n nn => ?_⟩
      have s4 : Same H3 (upd H3 n (.dK (kvsOf NUMB))) := same_upd nn
      have hn4 : (upd H3 n (.dK (kvsOf NUMB))) n = some (.dK (kvsOf NUMB)) := upd_same
      have ha4 := s4 _ _ ha3
      have s04 := s03.trans s4
      generalize (upd H3 n (.dK (kvsOf NUMB))) = H4 at *
      have hlen : ((ls.map V.str).length : Int) = (ls.length : Int) := by rw [List.length_map]
      refine ⟨_, rfl, a, _, rfl, .inl (.inl (.inl ha4)), 1, _, rfl, ⟨by omega, by omega, by omega, by rw [hlen]; omega⟩, fun M nM => ?_⟩
      rw [show (((ls.map V.str).length : Int) - 1).toNat = ls.length - 1 by rw [hlen]; omega]
      refine lc_range (lo := 1) (n := ls.length - 1) (fun i Hi => (∃ Hc vs, Same H4 Hc ∧ Hc M = none ∧ Hi = upd Hc M (.lst vs) ∧ DsT Hc vs (dsOf ls i)) ∧ ∀ q, q < i + 1 → (lineV ls q).isSome = true) ⟨⟨H4, [], Same.refl _, nM, rfl, .nil⟩, fun q hq => ?_⟩ (fun i Hi hi pv => ?_) fun Hi pv => ?_
      · obtain rfl : q = 0 := by omega
        rw [lv0, h0]
        rfl
      · obtain ⟨⟨Hc, vs, sc, nMc, rfl, tc⟩, good⟩ := pv
        have sM : Same Hc (upd Hc M (.lst vs)) := same_upd nMc
        have s5 := sc.trans sM
        refine ⟨rfl, ?_⟩
        refine ⟨_, rfl, _, rfl, _, rfl, a, n, ls, i + 1, cN, by rw [show (1 + (i : Int)) = ((i + 1 : Nat) : Int) by omega], .inl (.inl (s5 _ _ ha4)), cnt_cN (s5 _ _ hn4), by omega, fun l' hl' => ⟨hl l' (List.mem_of_getElem? hl'), ?_⟩, fun z => absurd z (by omega)⟩
        have lv : lineV ls (i + 1) = rdL cN l' := by
          unfold lineV
          rw [hl', if_neg (by omega)]
          rfl
        cases h1 : rdL cN l' with
        | none => exact NEx.same (e (i + 1) ⟨by omega, lv.trans h1, fun q hq => good q hq⟩) (s04.trans s5)
        | some d =>
          intro H5 b s6 hb
          have eM : H5 M = some (.lst vs) := s6 _ _ upd_same
          have nbM : b ≠ M := fun z => by rw [z, eM] at hb; cases hb
          have lvs : vs.length < sizeLine := by
            rw [tc.1, dsOf_len]
            exact small1000 (by omega)
          refine ⟨vs, eM, lvs, ⟨hole H5 M, vs ++ [.ref b], (same_hole nM (s5.trans s6)), hole_at, upd_hole.symm, ?_⟩, fun q hq => ?_⟩
          · rw [dsOf_succ, lv, h1]
            exact (tc.same (same_hole nMc (sM.trans s6))).snoc (by rw [hole_ne nbM]; exact hb)
          · by_cases hq2 : q = i + 1
            · rw [hq2, lv, h1]
              rfl
            · exact good q (by omega)
      · obtain ⟨⟨Hc, vs, sc, nMc, rfl, tc⟩, good⟩ := pv
        have s5 := sc.trans (same_upd (o := .lst vs) nMc)
        refine rd_mkC (.inl upd_same) (tc.same (same_upd nMc)).h (dsOf_good good) (by rw [dsOf_len]; omega) fun H' p s c => q (fun p hp => good p (by omega)) H' p ((s04.trans s5).trans s) c
end
end Own

namespace Own
open PySem PySem.Spec PyProof.Rows L2 TL
theorem at_zero {x : Str} {c : Nat} {r : List Nat} (e : tl x = c :: r) : atI x.cps.toList 0 = some c := by
  have e2 : x.cps.toList = c :: r := e
  rw [e2]
  exact atI_nat (j := 0) (xs := c :: r) rfl
section
variable {P : Program} {w : World} {K : PySem.W.Frag} {mg : Str → Option Value} {base : Heap}
theorem ok_lnumber {f : Addr} {fd : FuncData} (F : Fun K "_law_is_number" "_law_is_number" s__law_is_number f fd) (T : Bi mg) : FnOk P w K mg base CX0 1 f fd ["_law_word"] spNum := by
  refine F.ok sc__law_is_number (fun vs H Q E h => ?_) (fun cdv A outer s H vs Q E hr h => ?_)
  · obtain ⟨x, rfl, _⟩ := h
    rfl
  · obtain ⟨x, rfl, hx, q⟩ := h
    refine ⟨_, (pss_cons (ps_if (pt_cmpR op_eq (pv 0) pe_str (nomark _)) (pss_one (ps_ret pe_bl)) pss_nil)
        (pss_cons (ps_if (PW.pt (pw_or (pt_cmpR op_eq (pe_callB call_len_str (by rfl) T.b_len PySem.boot_len (pa_cons (pv 0) pa_nil)) pe_int (nomark _)) (pw_or1 (pt_cmpR op_eq (pv 0) pe_str (nomark _))))) (pss_one (ps_ret pe_bl)) pss_nil)
        (pss_cons (ps_set (i := 1) sc__law_is_number.nd rfl (.inl rfl) (pv 0))
        (pss_cons (ps_if (pt_cmpR op_eq (pe_ix (r := rIxS) ix_str (pv 0) pe_int (fun _ _ => rfl)) pe_str (nomark _)) (pss_one (ps_set (i := 1) sc__law_is_number.nd rfl (.inl rfl) (pe_slice sl_str (pv 0) (po_some pe_int) po_none))) pss_nil)
        (pss_cons (ps_for PassesOwn.never rfl (pi_str (pv 1)) (pg_name (i := 2) sc__law_is_number.nd rfl (.inl rfl))
        (pss_one (ps_if (pt_cmpR op_notIn_sign (pv 2) pe_str rfl) (pss_one (ps_ret pe_bl)) pss_nil)))
        (pss_one (ps_ret (pe_cmpR op_ne (pe_ix (r := rIxS) ix_str (pv 1) pe_int (fun _ _ => rfl)) pe_str (nomark _))))))))), ?_⟩
    have dig : ∀ c : Nat, decide (c ∈ (Str.ofString "0123456789").cps.toList) = decide (48 ≤ c ∧ c ≤ 57) := fun c => by
      have e : (Str.ofString "0123456789").cps.toList = [48, 49, 50, 51, 52, 53, 54, 55, 56, 57] := rfl
      rw [e, Bool.eq_iff_iff, decide_eq_true_eq, decide_eq_true_eq]
      simp only [List.mem_cons, List.not_mem_nil, or_false]
      omega
    refine ⟨_, rfl, rfl, _, rfl, ?_⟩
    rw [str_eq, show tl (Str.ofString "0") = [48] from rfl]
    cases h0 : decide (tl x = [48]) with
    | true =>
      have e := of_decide_eq_true h0
      rw [e] at q
      exact q
    | false =>
      have n0 := of_decide_eq_false h0
      -- the loop over the signs
      have main : ∀ z : Str, tl z = bodyL (tl x) → tl z ≠ [] → z.length ≤ 100000 → (tSeq (tFor (iStr (tVar 1)) (gName 2) (tIfS (tTest (tOp (fun x y H Q => ∃ c z, x = V.str ⟨#[c]⟩ ∧ y = V.str z ∧ Q (V.bl !decide (c ∈ z.cps.toList)) H) (tVar 2) (tC (V.str (Str.ofString "0123456789"))))) (tRet (tC (V.bl false))) tNext))
          (tRet (tOp rNe (tOp rIxS (tVar 1) (tC (V.int 0))) (tC (V.str (Str.ofString "0")))))) { nx := fun x H' => Q V.non H', rt := Q } [some (.str x), some (.str z), none] H := fun z hz hne hzl => by
        have hsz : z.cps.size = (tl z).length := by simp [tl]
        refine ⟨_, rfl, z, rfl, for_it walk_str (fun i σ H' => (∃ y, σ = [some (.str x), some (.str z), y]) ∧ H' = H ∧ ∀ c ∈ (tl z).take i, 48 ≤ c ∧ c ≤ 57) ⟨⟨none, rfl⟩, rfl, fun c hc => nomatch hc⟩ (fun i σ H' _ _ => trivial) (fun i v σ H1 H2 hi pv y => ?_) fun σ H' pv => ?_⟩
        · obtain ⟨⟨y0, rfl⟩, rfl, ok⟩ := pv
          obtain ⟨rfl, c, hc, rfl⟩ := y
          have hc2 : (tl z)[i]? = some c := by
            show z.cps.toList[i]? = some c
            rw [Array.getElem?_toList]
            exact hc
          refine ⟨_, rfl, c, _, rfl, rfl, _, rfl, ?_⟩
          rw [dig c]
          by_cases d : 48 ≤ c ∧ c ≤ 57
          · rw [decide_eq_true d]
            refine ⟨⟨_, rfl⟩, rfl, fun e he => ?_⟩
            rw [List.take_add_one, hc2] at he
            rcases List.mem_append.mp he with he | he
            · exact ok e he
            · rw [List.mem_singleton.mp he]
              exact d
          · rw [decide_eq_false d]
            have : isNum (tl x) = false := by
              unfold isNum
              have e : dgL (bodyL (tl x)) = false := by
                cases e2 : dgL (bodyL (tl x)) with
                | false => rfl
                | true =>
                  have := (dgL_all e2).2 c (by rw [← hz]; exact List.mem_of_getElem? hc2)
                  exact absurd this d
              rw [e]
              rfl
            rw [this] at q
            exact q
        · obtain ⟨⟨y0, rfl⟩, rfl, ok⟩ := pv
          rw [hsz, List.take_length] at ok
          cases e : tl z with
          | nil => exact absurd e hne
          | cons c r =>
            refine ⟨_, rfl, z, 0, c, rfl, rfl, Nat.le_trans hzl (by decide), at_zero e, rfl, ?_⟩
            have eq : isNum (tl x) = !decide (V.str ⟨#[c]⟩ = V.str (Str.ofString "0")) := by
              unfold isNum
              rw [← hz, dgL_of hne ok, decide_eq_false n0, str_eq, e]
              show (true && (false || !decide (some c = some 48))) = !decide ([c] = [48])
              simp
            rw [eq] at q
            exact q
      refine ⟨_, rfl, x, rfl, Nat.le_trans hx (by decide), rfl, _, rfl, ?_⟩
      by_cases he : tl x = []
      · have hl : x.length = 0 := by rw [len_tl, he]; rfl
        rw [hl, show decide (V.int ((0 : Nat) : Int) = V.int 0) = true from decide_eq_true rfl]
        rw [he] at q
        exact q
      · have hl : ¬ V.int (x.length : Int) = V.int 0 := fun z => by
          have h1 := V.int.inj z
          have h2 := List.length_pos_iff.mpr he
          rw [← len_tl] at h2
          omega
        rw [decide_eq_false hl]
        refine ⟨_, rfl, rfl, _, rfl, ?_⟩
        rw [str_eq, show tl (Str.ofString "-") = [45] from rfl]
        cases h1 : decide (tl x = [45]) with
        | true =>
          have e := of_decide_eq_true h1
          rw [e] at q
          exact q
        | false =>
          have n1 := of_decide_eq_false h1
          refine ⟨_, rfl, ?_⟩
          cases e : tl x with
          | nil => exact absurd e he
          | cons c r =>
            refine ⟨_, rfl, x, 0, c, rfl, rfl, Nat.le_trans hx (by decide), at_zero e, rfl, _, rfl, ?_⟩
            rw [str_eq, show tl (Str.ofString "-") = [45] from rfl, show tl (⟨#[c]⟩ : Str) = [c] from rfl]
            by_cases hc : c = 45
            · subst hc
              rw [decide_eq_true rfl]
              refine ⟨_, rfl, _, rfl, x, rfl, Nat.le_trans hx (by decide), ?_⟩
              have ht : tl (cutS x (some 1) none) = r := by rw [tl_cut1, e]; rfl
              refine main _ ?_ ?_ ?_
              · rw [ht, e]
                rfl
              · rw [ht]
                exact fun z => n1 (by rw [e, z])
              · exact Nat.le_trans (cutS_length _ _ _) hx
            · rw [decide_eq_false (fun z => hc (List.cons.inj z).1)]
              refine main x (body_pos ?_).symm he hx
              rw [e]
              exact fun z => hc (Option.some.inj z)
end
end Own

namespace Own
open PySem PySem.Spec PyProof.Rows L2 TL
theorem join_spl (c : Nat) : ∀ (l acc : List Nat), joinL [c] (spl [c] 0 acc l) = acc ++ l
  | [], acc => by
    rw [spl_nil]
    simp [joinL]
  | d :: r, acc => by
    unfold spl
    have hp : pre [c] (d :: r) = true ↔ d = c := by
      unfold pre
      simp
    by_cases h : d = c
    · rw [if_pos (hp.mpr h)]
      have ih := join_spl c r []
      cases e : spl [c] ([c].length - 1) [] r with
      | nil => exact absurd e (spl_ne _ _ _ _)
      | cons p q =>
        have e2 : spl [c] 0 [] r = p :: q := e
        rw [e2] at ih
        show acc ++ ([c] ++ joinL [c] (p :: q)) = acc ++ d :: r
        rw [ih, h]
        rfl
    · rw [if_neg fun z => h (hp.mp z), join_spl c r (acc ++ [d])]
      simp
theorem rd_course (l : Str) : (rdL c0 l).isSome = true ↔ l = "course" := by
  have hsp : (wdsOf l).map tl = spl [32] 0 [] (tl l) := split_tl l " " 32 rfl (by decide)
  constructor
  · intro h
    unfold rdL at h
    cases e : wdsOf l with
    | nil => rw [e] at h; cases h
    | cons y r =>
      rw [e] at h hsp
      dsimp only at h
      unfold c0 at h
      by_cases hy : y = "course"
      · rw [if_pos hy] at h
        dsimp only at h
        split at h
        · rename_i c
          have hr : r = [] := List.length_eq_zero_iff.mp c.2
          rw [hr, hy] at hsp
          have j := join_spl 32 (tl l) []
          rw [← hsp] at j
          refine ext_tl ?_
          rw [List.nil_append] at j
          rw [← j]
          rfl
        · cases h
      · rw [if_neg hy] at h
        cases h
  · intro h
    have hw : wdsOf l = [("course" : Str)] := by
      refine map_tl_inj ?_
      rw [hsp, h]
      decide
    unfold rdL
    rw [hw]
    decide
def SIZ : List (Str × Int) := [("pin", 2), ("track", 3), ("merge", 2), ("drop", 2), ("turn", 2), ("mirror", 1)]
theorem siz_eq (y : Str) : valN SIZ y = (valN NUMB y).map (· + 1) := by
  have key : ∀ ps : List (Str × Int), valN (ps.map fun p => (p.1, p.2 + 1)) y = (valN ps y).map (· + 1) := by
    intro ps
    unfold valN
    induction ps with
    | nil => rfl
    | cons p r ih =>
      rw [List.map_cons, List.find?_cons, List.find?_cons]
      cases decide (p.1 = y) with
      | true => rfl
      | false => exact ih
  exact key NUMB
theorem unhole {H H' : Hp} {L : Addr} (s : Same H (hole H' L)) : Same H H' := fun b o e => by
  have h := s b o e
  by_cases n : b = L
  · rw [n, hole_at] at h; cases h
  · rw [hole_ne n] at h; exact h
theorem hole_mono {H H' : Hp} {L : Addr} (s : Same H H') : Same (hole H L) (hole H' L) := fun b o e => by
  by_cases n : b = L
  · rw [n, hole_at] at e; cases e
  · rw [hole_ne n] at e ⊢; exact s b o e
theorem hole_upd {H : Hp} {L : Addr} {o : HO} : hole (upd H L o) L = hole H L := by
  funext c
  by_cases h : c = L
  · rw [h, hole_at, hole_at]
  · rw [hole_ne h, hole_ne h, upd_ne h]
theorem upd_self {H : Hp} {M : Addr} {o : HO} (h : H M = some o) : upd H M o = H := by
  funext c
  by_cases e : c = M
  · rw [e, upd_same, h]
  · rw [upd_ne e]
section
variable {P : Program} {w : World} {K : PySem.W.Frag} {mg : Str → Option Value} {base : Heap}
def spRead : Sp := fun vs H Q _ => ∃ x : Str, vs = [.str x] ∧ x.length ≤ 100000 ∧ (linesOf x).length ≤ 800 ∧ (∀ l ∈ linesOf x, l.length ≤ 500) ∧
  (AllL (linesOf x) → ∀ H' p b us, Same H H' → H' p = some (.lst [.str "deeds", .ref b]) → H' b = some (.lst us) → DsT H' us (dsOf (linesOf x) ((linesOf x).length - 1)) → Q (.ref p) H') ∧
  (∀ p, BadL (linesOf x) p → ∀ H' r, Same H H' → H' r = some (.lst [.int ((p : Int) + 1)]) → Q (.ref r) H')
set_option maxHeartbeats 2000000 in
theorem ok_lread {f : Addr} {fd : FuncData} (F : Fun K "_law_read" "_law_read" s__law_read f fd) (T : Bi mg) {f_n : Addr} {d_n : FuncData} (D_n : Df K mg "_law_is_number" s__law_is_number ["_law_word"] f_n d_n) (G_n : FnOk P w K mg base CX0 1 f_n d_n ["_law_word"] spNum) : FnOk P w K mg base CX0 2 f fd ["_law_note"] spRead := by
  refine F.ok sc__law_read (fun vs H Q E h => ?_) (fun cdv A outer s H vs Q E hr h => ?_)
  · obtain ⟨x, rfl, _⟩ := h
    rfl
  · obtain ⟨x, rfl, hx, hn, hl, q, e⟩ := h
    refine ⟨_, (pss_cons (ps_set (i := 1) sc__law_read.nd rfl (.inl rfl) (pe_disp (pps_cons pe_str pe_int (pps_cons pe_str pe_int (pps_cons pe_str pe_int (pps_cons pe_str pe_int (pps_cons pe_str pe_int (pps_cons pe_str pe_int pps_nil)))))) (by rfl) (by rfl) (fun z => by cases z) (by decide)))
        (pss_cons (ps_set (i := 2) sc__law_read.nd rfl (.inl rfl) (pe_split (pv 0) pe_str))
        (pss_cons (ps_if (pt_cmpR op_ne (pe_ix (r := rIxL K) ix_list (pv 2) pe_int (fun _ _ => rfl)) pe_str (nomark _)) (pss_one (ps_ret (pe_lst (pa_cons pe_int pa_nil)))) pss_nil)
        (pss_cons (ps_set (i := 3) sc__law_read.nd rfl (.inl rfl) (pe_lst pa_nil))
        (pss_cons (ps_for PassesOwn.never rfl (pi_range2 (by rfl) T.b_range (pa_cons pe_int (pa_cons (pe_callB call_len_seq (by rfl) T.b_len PySem.boot_len (pa_cons (pv 2) pa_nil)) pa_nil))) (pg_name (i := 4) sc__law_read.nd rfl (.inl rfl))
        (pss_cons (ps_set (i := 5) sc__law_read.nd rfl (.inl rfl) (pe_split (pe_ix (r := rIxL K) ix_list (pv 2) (pv 4) (fun _ _ => rfl)) pe_str))
        (pss_cons (ps_if (PW.pt (pw_or (pt_cmp (pc_dnotin (hu_of hr) (pe_ix (r := rIxL K) ix_list (pv 5) pe_int (fun _ _ => rfl)) (pv 1))) (pw_or1 (pt_cmpR op_ne (pe_callB call_len_seq (by rfl) T.b_len PySem.boot_len (pa_cons (pv 5) pa_nil)) (pe_dget (hu_of hr) (pv 1) (pe_ix (r := rIxL K) ix_list (pv 5) pe_int (fun _ _ => rfl)) (fun _ _ => rfl)) (nomark _))))) (pss_one (ps_ret (pe_lst (pa_cons (pe_op op_add (pv 4) pe_int) pa_nil)))) pss_nil)
        (pss_cons (ps_set (i := 6) sc__law_read.nd rfl (.inl rfl) (pe_lst pa_nil))
        (pss_cons (ps_for PassesOwn.never rfl (pi_list (pe_slice sl_list (pv 5) (po_some pe_int) po_none)) (pg_name (i := 7) sc__law_read.nd rfl (.inl rfl))
        (pss_cons (ps_if (pt_not (pt_val (pe_call G_n hr (by rfl) D_n.g D_n.F.kp D_n.b .nil pass0 (pa_cons (pv 7) pa_nil)))) (pss_one (ps_ret (pe_lst (pa_cons (pe_op op_add (pv 4) pe_int) pa_nil)))) pss_nil)
        (pss_one (ps_expr (pe_bm PySem.F.plainAttrs_list PySem.F.slot_list_append PySem.F.type_list_append mt_append (pv 6) (pa_cons (pe_callTy call_int_str (by rfl) T.b_int (by decide +kernel) (pa_cons (pv 7) pa_nil)) pa_nil))))))
        (pss_one (ps_expr (pe_bm PySem.F.plainAttrs_list PySem.F.slot_list_append PySem.F.type_list_append mt_append (pv 3) (pa_cons (pe_op op_catT (pe_tup (pa_cons (pe_ix (r := rIxL K) ix_list (pv 5) pe_int (fun _ _ => rfl)) pa_nil)) (pe_callTy call_tuple_of (by rfl) T.b_tuple (by decide +kernel) (pa_cons (pv 6) pa_nil))) pa_nil)))))))))
        (pss_one (ps_ret (pe_lst (pa_cons pe_str (pa_cons (pv 3) pa_nil)))))))))), ?_⟩
    obtain ⟨ne, lx, lp⟩ := lines_facts x
    have hls : (Txt.split x "\n") = linesOf x := rfl
    refine fun c nc => ?_
    refine ⟨upd_same, kvsOf SIZ, rfl, by show 6 ≤ 15; decide, ?_⟩
    rw [upd_upd, show mergeK [] (kvsOf SIZ) = kvsOf SIZ by decide +kernel]
    have s1 : Same H (upd H c (.dK (kvsOf SIZ))) := same_upd nc
    have hc1 : (upd H c (.dK (kvsOf SIZ))) c = some (.dK (kvsOf SIZ)) := upd_same
    generalize upd H c (.dK (kvsOf SIZ)) = H1 at *
    refine ⟨_, rfl, ⟨_, rfl⟩, x, _, rfl, rfl, rfl, Nat.le_trans (Nat.add_le_add_right hx 2) (by decide), fun a na => ?_⟩
    rw [hls]
    generalize linesOf x = ls at *
    have hpos : 0 < ls.length := List.length_pos_iff.mpr ne
    have s2 : Same H1 (upd H1 a (.lst (ls.map V.str))) := same_upd na
    have ha2 : (upd H1 a (.lst (ls.map V.str))) a = some (.lst (ls.map V.str)) := upd_same
    have hc2 := s2 _ _ hc1
    have s02 := s1.trans s2
    generalize upd H1 a (.lst (ls.map V.str)) = H2 at *
    obtain ⟨l0, hl0⟩ : ∃ l0, ls[0]? = some l0 := ⟨ls[0], List.getElem?_eq_getElem hpos⟩
    have lv0 : lineV ls 0 = rdL c0 l0 := by
      unfold lineV
      rw [hl0, if_pos rfl]
      rfl
    refine ⟨_, rfl, _, _, _, _, rfl, rfl, .inl (.inl ha2), at_of (j := 0) rfl (by rw [List.getElem?_map, hl0]; rfl), rfl, _, rfl, ?_⟩
    by_cases hco : l0 = "course"
    rotate_left
    · rw [decide_eq_false (fun z => hco (V.str.inj z))]
      refine ⟨by show 1 ≤ sizeLine; decide, fun r nr => ?_⟩
      have hb : lineV ls 0 = none := by
        rw [lv0]
        cases h : rdL c0 l0 with
        | none => rfl
        | some d => exact absurd ((rd_course l0).mp (by rw [h]; rfl)) hco
      exact e 0 ⟨hpos, hb, fun q hq => absurd hq (Nat.not_lt_zero q)⟩ _ r (s02.trans (same_upd nr)) upd_same
    · have g0 : (lineV ls 0).isSome = true := by rw [lv0]; exact (rd_course l0).mpr hco
      rw [decide_eq_true (by rw [hco])]
      refine ⟨Nat.zero_le _, fun L nL => ?_⟩
      have hlen : ((ls.map V.str).length : Int) = (ls.length : Int) := by rw [List.length_map]
      refine ⟨_, rfl, a, _, rfl, .inl (.inl (.inl ((same_upd nL) _ _ ha2))), 1, _, rfl, ⟨by omega, by omega, by omega, by rw [hlen]; omega⟩, ?_⟩
      rw [show (((ls.map V.str).length : Int) - 1).toNat = ls.length - 1 by rw [hlen]; omega]
      refine for_range (lo := 1) (n := ls.length - 1) (fun i σ Hi => (∃ y4 y5 y6 y7, σ = [some (.str x), some (.ref c), some (.ref a), some (.ref L), y4, y5, y6, y7]) ∧ (∃ vs, Hi L = some (.lst vs) ∧ Same H2 (hole Hi L) ∧ DsT (hole Hi L) vs (dsOf ls i)) ∧ ∀ q, q < i + 1 → (lineV ls q).isSome = true)
        ⟨⟨none, none, none, none, rfl⟩, ⟨[], upd_same, by rw [hole_upd]; exact same_hole nL (Same.refl _), .nil⟩, fun q hq => (show q = 0 by omega) ▸ g0⟩ (fun i σ Hi hi pv => ?_) fun σ Hi pv => ?_
      · obtain ⟨⟨y4, y5, y6, y7, rfl⟩, ⟨vs, eL, sh, tc⟩, good⟩ := pv
        have s0i := s02.trans (unhole sh)
        have hai := (unhole sh) _ _ ha2
        have hci := (unhole sh) _ _ hc2
        obtain ⟨l, hl1⟩ : ∃ l, ls[i + 1]? = some l := ⟨ls[i + 1], List.getElem?_eq_getElem (by omega)⟩
        have hz : l.length ≤ 500 := hl l (List.mem_of_getElem? hl1)
        have lv : lineV ls (i + 1) = rdL cN l := by
          unfold lineV
          rw [hl1, if_neg (by omega)]
          rfl
        have bad : lineV ls (i + 1) = none → ∀ H' r, Same H H' → H' r = some (.lst [.int (1 + (i : Int) + 1)]) → Q (.ref r) H' := fun hb H' r s h => e (i + 1) ⟨by omega, hb, fun q hq => good q hq⟩ H' r s (by rw [h, show 1 + (i : Int) + 1 = ((i + 1 : Nat) : Int) + 1 by omega])
        refine ⟨_, rfl, _, rfl, _, _, _, _, rfl, rfl, .inl (.inl hai), at_of (j := i + 1) (by omega) (by rw [List.getElem?_map, hl1]; rfl), ⟨_, rfl⟩, l, _, rfl, rfl, rfl, Nat.le_trans (Nat.add_le_add_right hz 2) (by decide), fun b nb => ?_⟩
        obtain ⟨w0, wl, wp⟩ := wds_facts l
        rw [show Txt.split l (Str.ofString " ") = wdsOf l from rfl]
        have nbL : b ≠ L := fun z => by rw [z, eL] at nb; cases nb
        have s3 : Same Hi (upd Hi b (.lst ((wdsOf l).map V.str))) := same_upd nb
        have hb3 : (upd Hi b (.lst ((wdsOf l).map V.str))) b = some (.lst ((wdsOf l).map V.str)) := upd_same
        generalize upd Hi b (.lst ((wdsOf l).map V.str)) = H3 at *
        unfold rdL at lv
        cases hwd : wdsOf l with
        | nil => exact absurd hwd w0
        | cons y r =>
          rw [hwd] at hb3 wl wp lv
          dsimp only at lv
          have hB : SqL K H3 b ((y :: r).map V.str) := .inl (.inl hb3)
          have gd : ∀ H', Same H3 H' → DGet H' c (.str y) ((valN SIZ y).map V.int) := fun H' s => by
            rw [← valN_eq]
            exact DGet.k (k := Sum.inr y) ((s3.trans s) _ _ hci)
          refine ⟨_, rfl, _, _, _, _, rfl, rfl, hB, at_of (j := 0) rfl rfl, _, rfl, c, _, rfl, gd H3 (Same.refl _), _, rfl, ?_⟩
          unfold cN at lv
          cases hv : valN NUMB y with
          | none =>
            rw [hv] at lv
            rw [siz_eq, hv]
            refine ⟨_, rfl, _, _, rfl, rfl, by show 1 ≤ sizeLine; decide, fun u nu => ?_⟩
            exact bad lv _ u ((s0i.trans s3).trans (same_upd nu)) upd_same
          | some m =>
            rw [hv] at lv
            have gd2 := gd H3 (Same.refl _)
            rw [siz_eq, hv] at gd2
            rw [siz_eq, hv]
            have m0 : 0 ≤ m := by
              have hm := valN_mem hv
              unfold NUMB at hm
              simp only [List.mem_cons, List.not_mem_nil, or_false, Prod.mk.injEq] at hm
              omega
            replace lv : lineV ls (i + 1) = if (r.all fun z => isNum (tl z)) = true ∧ r.length = m.toNat then some (y, r.map numV) else none := lv
            refine ⟨_, rfl, b, _, rfl, .inl hB, _, rfl, _, rfl, _, _, _, _, rfl, rfl, hB, at_of (j := 0) rfl rfl, c, _, rfl, gd2, rfl, _, rfl, ?_⟩
            by_cases hk : r.length = m.toNat
            rotate_left
            · rw [if_neg fun z => hk z.2] at lv
              rw [decide_eq_false (fun z => hk (by
                have h7 : ((((y :: r).map V.str).length : Nat) : Int) = m + 1 := V.int.inj z
                rw [List.length_map, List.length_cons] at h7
                omega))]
              refine ⟨_, rfl, _, _, rfl, rfl, by show 1 ≤ sizeLine; decide, fun u nu => ?_⟩
              exact bad lv _ u ((s0i.trans s3).trans (same_upd nu)) upd_same
            · rw [decide_eq_true (show V.int ((((y :: r).map V.str).length : Nat) : Int) = V.int (m + 1) by
                rw [List.length_map, List.length_cons, hk]
                congr 1
                omega)]
              refine ⟨Nat.zero_le _, fun M nM => ?_⟩
              have nML : M ≠ L := fun z => by rw [z, s3 _ _ eL] at nM; cases nM
              have s4 : Same H3 (upd H3 M (.lst [])) := same_upd nM
              have hM4 : (upd H3 M (.lst [])) M = some (.lst []) := upd_same
              generalize upd H3 M (.lst []) = H4 at *
              refine ⟨_, rfl, _, rfl, b, _, rfl, .inl (.inl (s4 _ _ hb3)), fun t ntt => ?_⟩
              rw [cut_tail]
              have s5 : Same H4 (upd H4 t (.lst (((y :: r).tail).map V.str))) := same_upd ntt
              have ht5 : (upd H4 t (.lst (((y :: r).tail).map V.str))) t = some (.lst (r.map V.str)) := upd_same
              have hM5 := s5 _ _ hM4
              generalize upd H4 t (.lst (((y :: r).tail).map V.str)) = H5 at *
              have ntM : t ≠ M := fun z => by rw [z, hM4] at ntt; cases ntt
              have lr : r.length ≤ 500 := by simp only [List.length_cons] at wl; omega
              have s05 := ((s0i.trans s3).trans s4).trans s5
              have keep : ∀ (b : Addr) (o : HO) (zs : List V), H3 b = some o → (upd H5 M (.lst zs)) b = some o := fun b o zs h => by
                rw [upd_ne fun z => by rw [z, nM] at h; cases h]
                exact s5 _ _ (s4 _ _ h)
              have s3k : ∀ zs, Same H3 (upd H5 M (.lst zs)) := fun zs b o h => keep b o zs h
              refine ⟨t, rfl, ⟨_, .inl (.inl ht5)⟩, for_list (xs := r.map V.str) (fun j σ Hj => (∃ y7, σ = [some (.str x), some (.ref c), some (.ref a), some (.ref L), some (.int (1 + (i : Int))), some (.ref b), some (.ref M), y7]) ∧ Hj = upd H5 M (.lst (((r.take j).map numV).map V.int)) ∧ ∀ z ∈ r.take j, isNum (tl z) = true)
                ⟨⟨y7, rfl⟩, (upd_self hM5).symm, fun z hz => nomatch hz⟩ (fun j σ Hj _ pj => by rw [pj.2.1]; exact .inl (.inl (by rw [upd_ne ntM]; exact ht5))) (fun j v σ Hj hj pj => ?_) fun σ Hj pj => ?_⟩
              · obtain ⟨⟨y7, rfl⟩, rfl, ok⟩ := pj
                obtain ⟨z, rfl, hz1⟩ := str_at hj
                have hzm := List.mem_of_getElem? hz1
                have hzl := wp z (List.mem_cons_of_mem _ hzm)
                refine ⟨_, rfl, z, rfl, by omega, _, rfl, ?_⟩
                cases hn2 : isNum (tl z) with
                | false =>
                  rw [if_neg fun w => by have := List.all_eq_true.mp w.1 z hzm; rw [hn2] at this; cases this] at lv
                  refine ⟨_, rfl, _, _, rfl, rfl, by show 1 ≤ sizeLine; decide, fun u nu => ?_⟩
                  exact bad lv _ u (((s0i.trans s3).trans (s3k _)).trans (same_upd nu)) upd_same
                | true =>
                  refine ⟨_, rfl, .inl ⟨rfl, _, .inl (.inl upd_same)⟩, _, rfl, z, numV z, rfl, num_read hn2 (by omega), by omega, M, _, _, rfl, rfl, upd_same, ?_, ⟨_, rfl⟩, ?_, fun w hw => ?_⟩
                  · rw [List.length_map, List.length_map, List.length_take]
                    exact Nat.lt_of_le_of_lt (Nat.min_le_right _ _) (small1000 (by omega))
                  · rw [upd_upd, List.take_add_one, hz1]
                    simp
                  · rw [List.take_add_one, hz1] at hw
                    rcases List.mem_append.mp hw with hw | hw
                    · exact ok w hw
                    · rw [List.mem_singleton.mp hw]
                      exact hn2
              · obtain ⟨⟨y7, rfl⟩, rfl, ok⟩ := pj
                rw [List.length_map, List.take_length] at ok ⊢
                rw [if_pos ⟨List.all_eq_true.mpr ok, hk⟩] at lv
                have eL6 := keep L _ (((r.map numV)).map V.int) (s3 _ _ eL)
                have hb6 := keep b _ (((r.map numV)).map V.int) hb3
                have hM6 : (upd H5 M (.lst (((r.map numV)).map V.int))) M = some (.lst (((r.map numV)).map V.int)) := upd_same
                have s36 := s3k (((r.map numV)).map V.int)
                generalize upd H5 M (.lst (((r.map numV)).map V.int)) = H6 at *
                have lvs : vs.length < sizeLine := by
                  rw [tc.1, dsOf_len]
                  exact small1000 (by omega)
                refine ⟨_, rfl, .inl ⟨rfl, _, .inl (.inl eL6)⟩, _, rfl, _, _, _, _, rfl, rfl, .inl (.inl hb6), at_of (j := 0) rfl rfl, by show 1 ≤ sizeLine; decide, fun u nu => ?_⟩
                have s7 : Same H6 (upd H6 u (.tup [.str y])) := same_upd nu
                refine ⟨_, rfl, M, _, rfl, .inl ⟨.inl (.inl (s7 _ _ hM6)), fun v nv => ?_⟩⟩
                have s8 : Same (upd H6 u (.tup [.str y])) (upd (upd H6 u (.tup [.str y])) v (.tup (((r.map numV)).map V.int))) := same_upd nv
                have hu8 := s8 _ _ (upd_same (H := H6) (a := u) (o := .tup [.str y]))
                have hv8 : (upd (upd H6 u (.tup [.str y])) v (.tup (((r.map numV)).map V.int))) v = some (.tup (((r.map numV)).map V.int)) := upd_same
                have s38 := (s36.trans s7).trans s8
                generalize upd (upd H6 u (.tup [.str y])) v (.tup (((r.map numV)).map V.int)) = H8 at *
                -- the end of the turn
                have fin : ∀ (d : Addr) (H9 : Hp), Same H8 H9 → H9 d = some (.tup (dv (y, r.map numV))) → H9 L = some (.lst vs) ∧ (fun σ H' => (∃ y4 y5 y6 y7, σ = [some (.str x), some (.ref c), some (.ref a), some (.ref L), y4, y5, y6, y7]) ∧ (∃ vs, H' L = some (.lst vs) ∧ Same H2 (hole H' L) ∧ DsT (hole H' L) vs (dsOf ls (i + 1))) ∧ ∀ q, q < i + 1 + 1 → (lineV ls q).isSome = true)
                    [some (.str x), some (.ref c), some (.ref a), some (.ref L), some (.int (1 + (i : Int))), some (.ref b), some (.ref M), y7] (upd H9 L (.lst (vs ++ [.ref d]))) := fun d H9 s9 hd => by
                  have s39 := s38.trans s9
                  have e9 := s39 _ _ (s3 _ _ eL)
                  have ndL : d ≠ L := fun z => by rw [z, e9] at hd; cases hd
                  have sall : Same (hole Hi L) (hole H9 L) := hole_mono (s3.trans s39)
                  refine ⟨e9, ⟨_, _, _, _, rfl⟩, ⟨vs ++ [.ref d], upd_same, by rw [hole_upd]; exact sh.trans sall, ?_⟩, fun q hq => ?_⟩
                  · rw [hole_upd, dsOf_succ, lv]
                    exact (tc.same sall).snoc (by rw [hole_ne ndL]; exact hd)
                  · by_cases hq2 : q = i + 1
                    · rw [hq2, lv]
                      rfl
                    · exact good q (by omega)
                refine ⟨u, v, [.str y], ((r.map numV)).map V.int, rfl, rfl, .inl (.inl hu8), .inl (.inl hv8), by simp, ?_, fun e0 => ?_, fun e0 o no => ?_⟩
                · rw [List.length_map, List.length_map]
                  show 1 + r.length ≤ sizeLine
                  exact Nat.le_trans (by omega) (by decide : 600 ≤ sizeLine)
                · obtain ⟨k1, k2⟩ := fin u H8 (Same.refl _) (by rw [hu8]; show some (HO.tup [V.str y]) = some (HO.tup (V.str y :: ((r.map numV)).map V.int)); rw [e0])
                  exact ⟨L, vs, _, rfl, rfl, k1, lvs, k2⟩
                · obtain ⟨k1, k2⟩ := fin o _ (same_upd no) upd_same
                  exact ⟨L, vs, _, rfl, rfl, k1, lvs, k2⟩
      · obtain ⟨⟨y4, y5, y6, y7, rfl⟩, ⟨vs, eL, sh, tc⟩, good⟩ := pv
        refine ⟨_, rfl, by show 2 ≤ sizeLine; decide, fun p np => ?_⟩
        have sp : Same Hi (upd Hi p (.lst [.str "deeds", .ref L])) := same_upd np
        exact q (fun k hk => good k (by omega)) _ p L vs ((s02.trans (unhole sh)).trans sp) upd_same (sp _ _ eL) (tc.same fun b o h => sp _ _ (by
          by_cases n : b = L
          · rw [n, hole_at] at h; cases h
          · rw [hole_ne n] at h; exact h))
end
end Own

namespace Own
open PySem PySem.Spec PyProof.Rows L2 TL
/-! ### a call by keywords that may raise -/
def tCallKS (sp : Sp) (E : L2.St → XK) (m : Nat) (gV : List V → List V → List V) (tk : TA) : TE := fun σ H Q => tk σ H fun zs H2 => zs.length = m ∧ sp (gV [] zs) H2 Q (E σ)
section
variable {X : Cx} {CX : CXT} {k n : Nat} {f : Addr} {fd : FuncData} {ps ks : List Str} {sp : Sp} {E : L2.St → XK} {x : Str} {p pos : Pos} {kws : List Keyword} {tk : TA} {g : List Value → List Value → List Value} {gV : List V → List V → List V}
theorem run_fnKS {pins : List (Addr × Obj)} {σ : L2.St} {H : Hp} {s : Shared} {Q : VK} {us ws : List Value} {vs zs : List V} (F : FnOk X.prog X.w X.K X.mg X.base CX k f fd ps sp) (room : Room k X.A) (hb : KBn X.K fd ps n ks g gV) (px : PassesAt CX X σ (E σ))
    (I : Inv X pins σ H s) (r : Vals vs us) (rz : Vals zs ws) (l1 : vs.length = n) (l2 : zs.length = ks.length) (h : sp (gV vs zs) H Q (E σ)) : wpAny (model X.prog X.w) X.A (call (.ref f) us (ks.zip ws)) (EP X pins σ Q) X.xe s := by
  refine wpAny_call (codeAny_mono (F.run X.A X.stack s H ⟨us, ks.zip ws⟩ (g us ws) (gV vs zs) Q (E σ) room I.env0 (hb.to s us ws I.kIn (r.length.symm.trans l1) (rz.length.symm.trans l2)) (hb.rel r rz) h) fun res t end_ => ?_)
  cases res with
  | error er => exact px pins H s er t I end_
  | ok fl =>
    cases fl with
    | ret u => exact I.after end_
    | next => exact False.elim end_
    | brk => exact False.elim end_
    | cont => exact False.elim end_
theorem pe_callK0S (F : FnOk X.prog X.w X.K X.mg X.base CX k f fd ps sp) (room : Room k X.A) (hg : Gl X x) (hm : X.mg x = some (.ref f)) (kp : PySem.W.keepIn X.K (.ref f) = true) (hb : KBn X.K fd ps 0 ks g gV) (px : ∀ σ, PassesAt CX X σ (E σ))
    (kw : PK X kws tk) (h1 : (backToKw pos (keywordEach kws X.env)).all (·.1.isSome) = true := by rfl) (h2 : (backToKw pos (keywordEach kws X.env)).filterMap (·.1) = ks := by rfl)
    (h3 : (x == ("__debug__" : Str)) = false := by decide)
    (h4 : ((backTo pos (starEach [] X.env)).any (·.1) || (backToKw pos (keywordEach kws X.env)).any (·.1.isNone)) = false := by rfl) :
    PE X (.Call (.Name x p) [] kws pos) (tCallKS sp E ks.length gV tk) := by
  constructor
  intro pins s σ H Q I h
  refine wpAny_Call_Name_kw (ld_glob I hg hm ?_ h3)
  refine PySem.W.callWith_KW0 (h₀ := X.base) I.ok.mod.kin kp h1 ?_ h4
  refine thn (kw.run pos pins s σ H _ I h) fun ws s2 ⟨zs, H2, I2, rz, l2, q2⟩ => ⟨I2.kIn, ?_⟩
  rw [h2]
  exact run_fnKS (us := []) (vs := []) F room hb (px σ) I2 .nil rz rfl l2 q2
end
/-- isinstance(e, (C1, ..)), e the caught error -/
def rIsXT (K : PySem.W.Frag) (D a : Addr) (cls : Value) (d : Option Addr) : List V → Hp → VK → Prop := fun xs H Q => cls = .ref D ∧ ∃ (dd tp : Addr) (cs : List V) (ws : List Value) (b : Bool) (fs : List (Str × V)), d = some dd ∧ xs = [.ref a, .ref tp] ∧ H dd = some (.xd fs) ∧ H tp = some (.tup cs) ∧ Paired ClsV cs ws ∧ PySem.W.kitAny K (.ref D) ws = some b ∧ Q (.bl b) H
theorem call_isXT {X : Cx} {a D : Addr} {oe : Obj} {cls : Value} {d : Option Addr} {pn : List (Addr × Obj)} (C : ExcC X.K D) (hz : Zc cls d oe) (hf : ∃ vs, oe.data = .fields vs) : CallR (X.suite a ((a, oe) :: pn)) (.builtin "isinstance") (rIsXT X.K D a cls d) := by
  intro pins s σ H xs us Q I r h
  obtain ⟨ec, dd, tp, cs, ws, b, fs, ed, rfl, hd, hT, k, e, q⟩ := h
  subst ec ed
  obtain ⟨u1, u2, rfl, r1, r2⟩ := vals2 r
  cases (show u1 = Value.ref a from r1)
  cases (show u2 = Value.ref tp from r2)
  obtain ⟨hget, _⟩ := I.pin (a, oe) (List.mem_append.mpr (.inl List.mem_cons_self))
  obtain ⟨vs, hv⟩ := hf
  obtain ⟨mA, hns, _⟩ := (show ObjOk X.prog X.w H s.heap dd (.xd fs) from I.hok dd _ hd)
  obtain ⟨od, ho, _⟩ := lookIn_ns hns
  have J : PySem.W.InstAt s.heap a oe D (some od) := ⟨hget, hz.1, by unfold PySem.W.notCls; rw [hv] <;> rfl, by rw [hz.2]; exact ho⟩
  obtain ⟨_, its, rv, o, g1, g2, n, g3⟩ := (show ObjOk X.prog X.w H s.heap tp (.tup cs) from I.hok tp _ hT)
  have e3 := ClsV.all k rv
  subst e3
  obtain ⟨oc, od2, dt, sl⟩ := o
  simp only at g2 g3
  subst g2 g3
  exact PySem.W.kia_tup (PySem.W.kitx_exc (ox := oe) (od := some od) (by obtain ⟨cd, hc, _⟩ := PySem.W.any_some C.hd; rw [hc]; rfl) C.hg C.hk C.hs C.ha C.hn C.ht C.hm) I.kIn J g1 e (fun z => nomatch z) fun tk => ⟨.bl b, H, I.kept (t' := tk) fun _ _ z => z, rfl, q⟩
def errs : List String := ["BadDeed", "BadLetter", "BadNumber", "Refused"]
/-- what the law knows of NoteError's class -/
structure XcN (K : PySem.W.Frag) (D RE : Addr) (c_ : String → Addr) : Prop where
  c : ExcC K D
  x : XfC K D
  n : PySem.W.findIn K (.ref D) "line" = some none
  no : ∀ z ∈ errs, PySem.W.kitOne K (.ref D) (.ref (c_ z)) = some false
  me : PySem.W.kitOne K (.ref D) (.ref D) = some true
  ve : PySem.W.kitOne K (.ref D) (.type "ValueError") = some true
  ex : PySem.W.exmOne K (.ref D) (.ref RE) = some true
theorem sc_to : FnScope ["_law_note", "_law_deed_here", "_law_given", "_law_number_here", "e"] ["_law_note"] (defScope s__law_told) := ⟨rfl, rfl, rfl, by decide +kernel, rfl, by decide +kernel, by decide +kernel⟩
def sc_to_s (K : PySem.W.Frag) (D : Addr) (c_ : String → Addr) (a : Addr) (cls : Value) (d : Option Addr) : TS := (tSeq (tIfS (tOr (tNot (tB (tCB (rIsX K D a cls d) (tCons (tVar 4) (tCons (tC (.ref D)) tNil))))) (tNot (tB (tCB (rIsX K D a cls d) (tCons (tVar 4) (tCons (tC (.ty "ValueError")) tNil)))))) (tRet (tC .non)) tNext) (tSeq (tIfS (tOr (tB (tCB (rIsXT K D a cls d) (tCons (tVar 4) (tCons (tTup (tCons (tC (.ref (c_ "BadDeed"))) (tCons (tC (.ref (c_ "BadLetter"))) (tCons (tC (.ref (c_ "BadNumber"))) (tCons (tC (.ref (c_ "Refused"))) tNil))))) tNil)))) (tNot (tB (tCallS spWhole (fun _ => E0) (tCons (tXf a cls d D "line" (tVar 4)) tNil))))) (tRet (tC .non)) tNext) (tRet (tLst (tCons (tXf a cls d D "line" (tVar 4)) tNil)))))
section
variable {P : Program} {w : World} {K : PySem.W.Frag} {mg : Str → Option Value} {base : Heap} {C D RE : Addr}
theorem okH_whole {f : Addr} {fd : FuncData} (F : Fun K "_law_whole" "_law_whole" s__law_whole f fd) (T : Bi mg) : L2H.FnH P w K mg base CX0 1 f fd ["_law_value"] spWhole := by
  refine okH F sc__law_whole (fun vs H Q E h => ?_) (fun cdv A outer s H vs Q E p hot hr h => ?_)
  · obtain ⟨i, rfl, _⟩ := h
    rfl
  · obtain ⟨i, rfl, q⟩ := h
    refine ⟨_, (pss_one (ps_ret (pe_and (pe_callB call_isi (by rfl) T.b_isinstance (by decide +kernel) (pa_cons (pv 0) (pa_cons (pe_bltn (v := .ty "int") (by rfl) T.b_int (by decide +kernel) rfl) pa_nil))) (pe_one (pe_not (pe_callB call_isi (by rfl) T.b_isinstance (by decide +kernel) (pa_cons (pv 0) (pa_cons (pe_bltn (v := .ty "bool") (by rfl) T.b_bool (by decide +kernel) rfl) pa_nil)))))))), ?_⟩
    refine ⟨_, rfl, _, _, _, _, true, rfl, .ty "int", .base (.int i), kit_ty (by decide +kernel), true, rfl, ?_⟩
    exact ⟨_, rfl, _, _, _, _, false, rfl, .ty "bool", .base (.int i), kit_ty (by decide +kernel), false, rfl, q⟩
def spTold : Sp := fun vs H Q _ => ∃ x : Str, vs = [.str x] ∧ x.length ≤ 100000 ∧ (linesOf x).length ≤ 800 ∧ (∀ l ∈ linesOf x, l.length ≤ 500) ∧
  (AllL (linesOf x) → ∀ H' p b us, Same H H' → H' p = some (.lst [.str "deeds", .ref b]) → H' b = some (.lst us) → DsT H' us (dsOf (linesOf x) ((linesOf x).length - 1)) → Q (.ref p) H') ∧
  (∀ p, BadL (linesOf x) p → ∀ H' r, Same H H' → H' r = some (.lst [.int ((p : Int) + 1)]) → Q (.ref r) H')
set_option maxHeartbeats 2000000 in
theorem ok_told {f : Addr} {fd : FuncData} (F : Fun K "_law_told" "_law_told" s__law_told f fd) (T : Bi mg) (L : CrsC K mg C) (I : C8.InsC K C) (U : mg "NoteError" = some (.ref D)) (UR : mg "RimError" = some (.ref RE)) {c_ : String → Addr} (T_ve : mg "ValueError" = none) (N_ : ∀ n ∈ errs, mg n = some (.ref (c_ n))) (X_c : XcN K D RE c_)
    {f_p : Addr} {d_p : FuncData} (D_p : Df K mg "parse_course" s_parse_course ["text"] f_p d_p) (G_p : FnOk P w K mg base (L2N.CX P w) 5 f_p d_p ["text"] (spParse C D)) (kb_p : KBn K d_p ["text"] 0 ["text"] (fun _ ws => ws) (fun _ zs => zs))
    {f_w : Addr} {d_w : FuncData} (D_w : Df K mg "_law_whole" s__law_whole ["_law_value"] f_w d_w) (G_w : FnOk P w K mg base CX0 1 f_w d_w ["_law_value"] spWhole) (H_w : L2H.FnH P w K mg base CX0 1 f_w d_w ["_law_value"] spWhole) : FnOk P w K mg base CX0 6 f fd ["_law_note"] spTold := by
  refine F.ok sc_to (fun vs H Q E h => ?_) (fun cdv A outer s H vs Q E hr h => ?_)
  · obtain ⟨x, rfl, _⟩ := h
    rfl
  · obtain ⟨x, rfl, hx, hn, hl, q, e⟩ := h
    refine ⟨_, (pss_cons (L2N.ps_try_as (i := 4) (Wout := fun _ _ _ _ => False) rfl rfl sc_to.nd rfl rfl ⟨by rfl, by decide, .inl UR⟩ takesN
        (tb := fun W => tAsg (tCallKS (spParse C D) (WE W) ([("text" : Str)]).length (fun _ zs => zs) (tCons (tVar 0) tNil)) (gName 2))
        (ts := fun a cls d => sc_to_s K D c_ a cls d)
        (fun W pn xe tk _ => (by refine pss_one (ps_set (i := 2) sc_to.nd rfl (.inl rfl) ?_); exact pe_callK0S G_p (hr.mono (by decide)) (by rfl) D_p.g D_p.F.kp kb_p (fun σ => L2N.passAt tk σ) (pk_cons (pv 0) pk_nil)))
        (fun a oe cls d pn hz hf => (pss_cons (ps_if (PW.pt (pw_or (pt_not (pt_val (pe_callB (call_isX X_c.c hz.zc hf) (by rfl) T.b_isinstance (by decide +kernel) (pa_cons (pv 4) (pa_cons (pe_glob (v := .ref D) (by rfl) U rfl) pa_nil))))) (pw_or1 (pt_not (pt_val (pe_callB (call_isX X_c.c hz.zc hf) (by rfl) T.b_isinstance (by decide +kernel) (pa_cons (pv 4) (pa_cons (pe_bltn (v := .ty "ValueError") (by rfl) T_ve (by decide +kernel) rfl) pa_nil)))))))) (pss_one (ps_ret pe_non)) pss_nil) (pss_cons (ps_if (PW.pt (pw_or (pt_val (pe_callB (call_isXT X_c.c hz.zc hf) (by rfl) T.b_isinstance (by decide +kernel) (pa_cons (pv 4) (pa_cons (pe_tup (pa_cons (pe_glob (v := .ref (c_ "BadDeed")) (by rfl) (N_ "BadDeed" (by decide +kernel)) rfl) (pa_cons (pe_glob (v := .ref (c_ "BadLetter")) (by rfl) (N_ "BadLetter" (by decide +kernel)) rfl) (pa_cons (pe_glob (v := .ref (c_ "BadNumber")) (by rfl) (N_ "BadNumber" (by decide +kernel)) rfl) (pa_cons (pe_glob (v := .ref (c_ "Refused")) (by rfl) (N_ "Refused" (by decide +kernel)) rfl) pa_nil))))) pa_nil)))) (pw_or1 (pt_not (pt_val (L2H.pe_callH H_w ⟨(L2H.RoomH.mono (j := 1) (L2H.roomH_of hr) (by decide)).dp, (L2H.RoomH.mono (j := 1) (L2H.roomH_of hr) (by decide)).un⟩ (hotS hz hf) (by rfl) D_w.g D_w.F.kp D_w.b (E := fun _ => E0) (fun _ => pass0A) (pa_cons (pe_xf X_c.x X_c.n hz.zc hf (pv 4)) pa_nil))))))) (pss_one (ps_ret pe_non)) pss_nil) (pss_one (ps_ret (pe_lst (pa_cons (pe_xf X_c.x X_c.n hz.zc hf (pv 4)) pa_nil))))))))
        (pss_cons (ps_if (PW.pt (pw_or (pt_not (pt_val (pe_callB call_isi (by rfl) T.b_isinstance (by decide +kernel) (pa_cons (pv 2) (pa_cons (pe_glob (v := .ref C) (by rfl) L.g rfl) pa_nil))))) (pw_or1 (pt_not (pt_val (pe_callB call_isi (by rfl) T.b_isinstance (by decide +kernel) (pa_cons (pe_fld (pv 2) rfl) (pa_cons (pe_bltn (v := .ty "tuple") (by rfl) T.b_tuple (by decide +kernel) rfl) pa_nil)))))))) (pss_one (ps_ret pe_non)) pss_nil)
        (pss_cons (ps_for PassesOwn.never rfl (pi_tup (pe_fld (pv 2) rfl)) (pg_name (i := 1) sc_to.nd rfl (.inl rfl))
        (pss_cons (ps_if (pt_not (pt_val (pe_callB call_isi (by rfl) T.b_isinstance (by decide +kernel) (pa_cons (pv 1) (pa_cons (pe_bltn (v := .ty "tuple") (by rfl) T.b_tuple (by decide +kernel) rfl) pa_nil))))) (pss_one (ps_ret pe_non)) pss_nil)
        (pss_one (ps_for PassesOwn.never rfl (pi_tup (pe_slice sl_tup (pv 1) (po_some pe_int) po_none)) (pg_name (i := 3) sc_to.nd rfl (.inl rfl))
        (pss_one (ps_if (pt_not (pt_val (pe_call G_w (hr.mono (by decide)) (by rfl) D_w.g D_w.F.kp D_w.b .nil pass0 (pa_cons (pv 3) pa_nil)))) (pss_one (ps_ret pe_non)) pss_nil))))))
        (pss_one (ps_ret (pe_lst (pa_cons pe_str (pa_cons (pe_callTy call_list_of (by rfl) T.b_list (by decide +kernel) (pa_cons (pe_fld (pv 2) rfl) pa_nil)) pa_nil)))))))), ?_⟩
    refine ⟨_, rfl, rfl, x, rfl, hx, hn, hl, fun hall H1 p s1 hp => ?_, fun p hb H1 d s1 nd => ?_⟩
    · obtain ⟨dx, a, vs, e1, ea, t⟩ := hp
      refine ⟨_, rfl, _, _, _, _, true, rfl, .own C, .base (.ins e1 I.cl I.ha I.hn I.htk I.hm), I.me, true, rfl, ?_⟩
      refine ⟨_, rfl, p, C, dx, _, _, rfl, e1, L.cl, L.nD, look_deeds _, _, _, _, _, true, rfl, .ty "tuple", .base (.tup ea), kit_ty (by decide +kernel), true, rfl, ?_⟩
      refine ⟨_, rfl, p, C, dx, _, _, rfl, e1, L.cl, L.nD, look_deeds _, a, rfl, ⟨_, .inl (.inl ea)⟩, for_tup (xs := vs) (fun i σ H' => (∃ y1 y3 y4, σ = [some (.str x), y1, some (.ref p), y3, y4]) ∧ Same H1 H') ⟨⟨_, _, _, rfl⟩, Same.refl _⟩ (fun i σ H' _ pv => .inl (.inl (pv.2 _ _ ea))) (fun i v σ H2 hx2 pv => ?_) fun σ H2 pv => ?_⟩
      · obtain ⟨⟨y1, y3, y4, rfl⟩, s2⟩ := pv
        obtain ⟨b, dd, rfl, hdi, _⟩ := t.h.at_ hx2
        have hb : H1 b = some (.tup (dv dd)) := by
          obtain ⟨b2, e2, e3⟩ := t.2 i dd hdi
          rw [hx2] at e2
          cases Option.some.inj e2
          exact e3
        have hb2 := s2 _ _ hb
        refine ⟨_, rfl, _, _, _, _, true, rfl, .ty "tuple", .base (.tup hb2), kit_ty (by decide +kernel), true, rfl, ?_⟩
        refine ⟨_, rfl, _, rfl, b, _, rfl, .inl (.inl hb2), cut1_part, fun u nu => ?_⟩
        rw [cut1]
        have s3 : Same H2 (upd H2 u (.tup (dd.2.map V.int))) := same_upd nu
        refine ⟨u, rfl, ⟨_, .inl (.inl upd_same)⟩, for_tup (xs := dd.2.map V.int) (fun j σ H' => (∃ y3, σ = [some (.str x), some (.ref b), some (.ref p), y3, y4]) ∧ H' = upd H2 u (.tup (dd.2.map V.int))) ⟨⟨_, rfl⟩, rfl⟩ (fun j σ H' _ pj => by rw [pj.2]; exact .inl (.inl upd_same)) (fun j v σ H' hj pj => ?_) fun σ H' pj => ?_⟩
        · obtain ⟨⟨y3, rfl⟩, rfl⟩ := pj
          obtain ⟨c, rfl, _⟩ := int_at hj
          exact ⟨_, rfl, c, rfl, true, rfl, ⟨_, rfl⟩, rfl⟩
        · obtain ⟨⟨y3, rfl⟩, rfl⟩ := pj
          exact ⟨⟨_, _, _, rfl⟩, s2.trans s3⟩
      · obtain ⟨⟨y1, y3, y4, rfl⟩, s2⟩ := pv
        refine ⟨_, rfl, p, C, dx, _, _, rfl, s2 _ _ e1, L.cl, L.nD, look_deeds _, a, vs, rfl, .inr (.inl (.inl (s2 _ _ ea))), fun l nl => ?_⟩
        have s3 : Same H2 (upd H2 l (.lst vs)) := same_upd nl
        refine ⟨by show 2 ≤ sizeLine; decide, fun r nr => ?_⟩
        have s4 : Same (upd H2 l (.lst vs)) (upd (upd H2 l (.lst vs)) r (.lst [.str "deeds", .ref l])) := same_upd nr
        exact q hall _ r l vs (((s1.trans s2).trans s3).trans s4) upd_same (s4 _ _ upd_same) (t.same ((s2.trans s3).trans s4))
    · refine ⟨true, X_c.ex, fun _ ax na => ?_, fun z => by cases z⟩
      have sd := same_upd (o := .xd (flE ["line"] [.int ((p : Int) + 1)])) nd
      have ed : upd H1 d (.xd (flE ["line"] [.int ((p : Int) + 1)])) d = some (.xd (flE ["line"] [.int ((p : Int) + 1)])) := upd_same
      generalize upd H1 d (.xd (flE ["line"] [.int ((p : Int) + 1)])) = H2 at *
      refine ⟨_, rfl, rfl, d, .ref D, .ref D, true, _, rfl, rfl, ed, fun u h => h, X_c.me, true, rfl, ?_⟩
      refine ⟨_, rfl, rfl, d, .ty "ValueError", .type "ValueError", true, _, rfl, rfl, ed, fun u h => h, X_c.ve, true, rfl, ?_⟩
      refine ⟨_, rfl, by show 4 ≤ sizeLine; decide, fun u nu => ?_⟩
      have su := same_upd (o := .tup [.ref (c_ "BadDeed"), .ref (c_ "BadLetter"), .ref (c_ "BadNumber"), .ref (c_ "Refused")]) nu
      have ed3 := su _ _ ed
      refine ⟨rfl, d, u, _, _, false, _, rfl, rfl, ed3, upd_same, .cons (.own _) (.cons (.own _) (.cons (.own _) (.cons (.own _) .nil))),
        kitAny_cons (b := false) (X_c.no "BadDeed" (by decide)) (fun _ => kitAny_cons (b := false) (X_c.no "BadLetter" (by decide)) (fun _ => kitAny_cons (b := false) (X_c.no "BadNumber" (by decide)) (fun _ => kitAny_cons (b := false) (X_c.no "Refused" (by decide)) (fun _ => rfl) (fun z => by cases z)) (fun z => by cases z)) (fun z => by cases z)) (fun z => by cases z), false, rfl, ?_⟩
      refine ⟨_, rfl, rfl, rfl, d, _, _, rfl, ed3, rfl, _, rfl, true, rfl, ?_⟩
      refine ⟨_, rfl, rfl, rfl, d, _, _, rfl, ed3, rfl, by show 1 ≤ sizeLine; decide, fun r nr => ?_⟩
      exact e p hb _ r (((s1.trans sd).trans su).trans (same_upd nr)) upd_same
end
end Own

namespace Own
open PySem PySem.Spec PyProof.Rows L2 TL
section
variable {P : Program} {w : World} {K : PySem.W.Frag} {mg : Str → Option Value} {base : Heap}
def spNumb : Sp := fun vs H Q _ => ∃ k g m : Int, vs = [.int k, .int g, .int m] ∧ (0 ≤ k ∧ k < 4) ∧ (0 ≤ g ∧ g < 10 ^ 9) ∧ (1 ≤ m ∧ m ≤ 4) ∧ ∀ H' (i : Int), Same H H' → i.natAbs < 10 ^ 18 → Q (.int i) H'
theorem ok_numb {f : Addr} {fd : FuncData} (F : Fun K "_law_number" "_law_number" s__law_number f fd) (T : Bi mg) : FnOk P w K mg base CX0 1 f fd ["_law_kind", "_law_great", "_law_many"] spNumb := by
  refine F.ok sc__law_number (fun vs H Q E h => ?_) (fun cdv A outer s H vs Q E hr h => ?_)
  · obtain ⟨k, g, m, rfl, _⟩ := h
    rfl
  · obtain ⟨k, g, m, rfl, hk, hg, hm, q⟩ := h
    refine ⟨_, (pss_cons (ps_set (i := 3) sc__law_number.nd rfl (.inl rfl) (pe_op op_mod (pe_callTy call_int1 (by rfl) T.b_int (by decide +kernel) (pa_cons (pv 1) pa_nil)) pe_int))
        (pss_cons (ps_set (i := 4) sc__law_number.nd rfl (.inl rfl) (pe_op op_mul (pv 1) (pe_ix (r := rIxL K) ix_list (pe_lst (pa_cons pe_int (pa_cons (pe_op op_pow pe_int pe_int) (pa_cons (pe_op op_pow pe_int pe_int) (pa_cons (pe_op op_pow pe_int pe_int) pa_nil))))) (pe_op op_modN (pe_callTy call_int1 (by rfl) T.b_int (by decide +kernel) (pa_cons (pv 1) pa_nil)) (pv 2)) (fun _ _ => rfl))))
        (pss_one (ps_ret (pe_ix (r := rIxL K) ix_list (pe_lst (pa_cons (pv 3) (pa_cons (pe_op op_sub pe_int (pv 3)) (pa_cons (pv 4) (pa_cons (pe_op op_sub pe_int (pv 4)) pa_nil))))) (pv 0) (fun _ _ => rfl)))))), ?_⟩
    refine ⟨_, rfl, .inl ⟨_, rfl, _, _, rfl, rfl, by show (0 : Int) < 12; decide, ?_⟩⟩
    refine ⟨_, rfl, _, _, rfl, rfl, ⟨by decide, by decide, by decide⟩, _, _, rfl, rfl, ⟨by decide, by decide, by decide⟩, _, _, rfl, rfl, ⟨by decide, by decide, by decide⟩, by show 4 ≤ sizeLine; decide, fun p np => ?_⟩
    have s1 : Same H (upd H p (.lst [.int 1, .int (10 ^ (3 : Int).toNat), .int (10 ^ (6 : Int).toNat), .int (10 ^ (9 : Int).toNat)])) := same_upd np
    have fm := fmod_in g (n := m) (by omega)
    obtain ⟨c, hc, c0, c1⟩ : ∃ c : Int, atI [V.int 1, .int (10 ^ (3 : Int).toNat), .int (10 ^ (6 : Int).toNat), .int (10 ^ (9 : Int).toNat)] (g.fmod m) = some (.int c) ∧ (c = 1 ∨ c = 10 ^ 3 ∨ c = 10 ^ 6 ∨ c = 10 ^ 9) ∧ True := by
      have h4 : g.fmod m = 0 ∨ g.fmod m = 1 ∨ g.fmod m = 2 ∨ g.fmod m = 3 := by omega
      rcases h4 with e | e | e | e <;> rw [e]
      · exact ⟨1, atI_nat (j := 0) rfl, by omega, trivial⟩
      · exact ⟨10 ^ 3, atI_nat (j := 1) rfl, by omega, trivial⟩
      · exact ⟨10 ^ 6, atI_nat (j := 2) rfl, by omega, trivial⟩
      · exact ⟨10 ^ 9, atI_nat (j := 3) rfl, by omega, trivial⟩
    refine ⟨_, rfl, .inl ⟨_, rfl, _, rfl, _, _, rfl, rfl, by omega, p, _, _, _, rfl, rfl, .inl (.inl upd_same), hc, _, _, rfl, rfl, .inl ⟨by omega, by omega⟩, ?_⟩⟩
    refine ⟨_, rfl, _, rfl, _, _, rfl, rfl, _, rfl, _, rfl, _, _, rfl, rfl, by show 4 ≤ sizeLine; decide, fun u nu => ?_⟩
    have b1 : 0 ≤ g % 12 ∧ g % 12 < 12 := ⟨Int.emod_nonneg _ (by decide), Int.emod_lt_of_pos _ (by decide)⟩
    have b2 : 0 ≤ g * c ∧ g * c < 10 ^ 18 := by
      rcases c0 with e | e | e | e <;> rw [e] <;> omega
    have e1 : (g % 12).natAbs < 10 ^ 18 := by omega
    have e2 : (0 - g % 12).natAbs < 10 ^ 18 := by omega
    have e3 : (g * c).natAbs < 10 ^ 18 := by omega
    have e4 : (0 - g * c).natAbs < 10 ^ 18 := by omega
    have h4 : k = 0 ∨ k = 1 ∨ k = 2 ∨ k = 3 := by omega
    rcases h4 with e | e | e | e <;> subst e
    · exact ⟨_, rfl, u, _, _, _, rfl, rfl, .inl (.inl upd_same), atI_nat (j := 0) rfl, q _ _ ((same_upd np).trans (same_upd nu)) e1⟩
    · exact ⟨_, rfl, u, _, _, _, rfl, rfl, .inl (.inl upd_same), atI_nat (j := 1) rfl, q _ _ ((same_upd np).trans (same_upd nu)) e2⟩
    · exact ⟨_, rfl, u, _, _, _, rfl, rfl, .inl (.inl upd_same), atI_nat (j := 2) rfl, q _ _ ((same_upd np).trans (same_upd nu)) e3⟩
    · exact ⟨_, rfl, u, _, _, _, rfl, rfl, .inl (.inl upd_same), atI_nat (j := 3) rfl, q _ _ ((same_upd np).trans (same_upd nu)) e4⟩

def WORDS : List Str := ["pin", "track", "merge", "drop", "turn", "mirror"]
/-- a deed of the law's -/
def LD (d : Deed) : Prop := GoodD d ∧ d.1 ∈ WORDS ∧ ∀ i ∈ d.2, i.natAbs < 10 ^ 18
def DRow (ns : List Int) : Prop := ∃ a b c d e : Int, ∃ r : List Int, ns = a :: b :: c :: d :: e :: r ∧ (0 ≤ a ∧ a < 6) ∧ (0 ≤ b ∧ b < 4) ∧ (0 ≤ c ∧ c < 10 ^ 9) ∧ (0 ≤ d ∧ d < 4) ∧ (0 ≤ e ∧ e < 10 ^ 9)
def spLDeed (K : PySem.W.Frag) : Sp := fun vs H Q _ => ∃ (a : Addr) (ns : List Int), vs = [.ref a] ∧ SqL K H a (ns.map V.int) ∧ DRow ns ∧ ∀ H' b d, Same H H' → H' b = some (.tup (dv d)) → LD d → (∀ x r, ns = x :: r → x < 5 → d.2 ≠ []) → Q (.ref b) H'
set_option maxHeartbeats 1000000 in
theorem ok_ldeed {f : Addr} {fd : FuncData} (F : Fun K "_law_deed" "_law_deed" s__law_deed f fd) (T : Bi mg) {f_n : Addr} {d_n : FuncData} (D_n : Df K mg "_law_number" s__law_number ["_law_kind", "_law_great", "_law_many"] f_n d_n) (G_n : FnOk P w K mg base CX0 1 f_n d_n ["_law_kind", "_law_great", "_law_many"] spNumb) : FnOk P w K mg base CX0 2 f fd ["_law_row"] (spLDeed K) := by
  refine F.ok sc__law_deed (fun vs H Q E h => ?_) (fun cdv A outer s H vs Q E hr h => ?_)
  · obtain ⟨a, ns, rfl, _⟩ := h
    rfl
  · obtain ⟨a, ns, rfl, ha, hd, q⟩ := h
    refine ⟨_, (pss_cons (ps_set (i := 1) sc__law_deed.nd rfl (.inl rfl) (pe_ix (r := rIxL K) ix_list (pe_lst (pa_cons pe_str (pa_cons pe_str (pa_cons pe_str (pa_cons pe_str (pa_cons pe_str (pa_cons pe_str pa_nil))))))) (pe_ix (r := rIxL K) ix_list (pv 0) pe_int (fun _ _ => rfl)) (fun _ _ => rfl)))
        (pss_cons (ps_if (pt_cmpR op_eq (pv 1) pe_str (nomark _)) (pss_one (ps_ret (pe_tup (pa_cons (pv 1) pa_nil)))) pss_nil)
        (pss_cons (ps_if (pt_cmpR op_eq (pv 1) pe_str (nomark _)) (pss_one (ps_ret (pe_tup (pa_cons (pv 1) (pa_cons (pe_call G_n hr (by rfl) D_n.g D_n.F.kp D_n.b .nil pass0 (pa_cons (pe_ix (r := rIxL K) ix_list (pv 0) pe_int (fun _ _ => rfl)) (pa_cons (pe_ix (r := rIxL K) ix_list (pv 0) pe_int (fun _ _ => rfl)) (pa_cons pe_int pa_nil)))) (pa_cons (pe_call G_n hr (by rfl) D_n.g D_n.F.kp D_n.b .nil pass0 (pa_cons (pe_ix (r := rIxL K) ix_list (pv 0) pe_int (fun _ _ => rfl)) (pa_cons (pe_ix (r := rIxL K) ix_list (pv 0) pe_int (fun _ _ => rfl)) (pa_cons pe_int pa_nil)))) pa_nil)))))) pss_nil)
        (pss_one (ps_ret (pe_tup (pa_cons (pv 1) (pa_cons (pe_call G_n hr (by rfl) D_n.g D_n.F.kp D_n.b .nil pass0 (pa_cons (pe_ix (r := rIxL K) ix_list (pv 0) pe_int (fun _ _ => rfl)) (pa_cons (pe_ix (r := rIxL K) ix_list (pv 0) pe_int (fun _ _ => rfl)) (pa_cons (pe_ix (r := rIxL K) ix_list (pe_lst (pa_cons pe_int (pa_cons pe_int pa_nil))) (pe_callTy call_int1 (by rfl) T.b_int (by decide +kernel) (pa_cons (pe_cmpR op_eq (pv 1) pe_str (nomark _)) pa_nil)) (fun _ _ => rfl)) pa_nil)))) pa_nil)))))))), ?_⟩
    obtain ⟨z, b, c, d, e, r, rfl, hz, hb, hc, hd2, he⟩ := hd
    refine ⟨by show 6 ≤ sizeLine; decide, fun p np => ?_⟩
    have s1 : Same H (upd H p (.lst [.str "pin", .str "track", .str "merge", .str "drop", .str "turn", .str "mirror"])) := same_upd np
    have ha1 : SqL K (upd H p (.lst [.str "pin", .str "track", .str "merge", .str "drop", .str "turn", .str "mirror"])) a ((z :: b :: c :: d :: e :: r).map V.int) := s1.seq ha
    have hp1 : (upd H p (.lst [.str "pin", .str "track", .str "merge", .str "drop", .str "turn", .str "mirror"])) p = some (.lst [.str "pin", .str "track", .str "merge", .str "drop", .str "turn", .str "mirror"]) := upd_same
    generalize upd H p (.lst [.str "pin", .str "track", .str "merge", .str "drop", .str "turn", .str "mirror"]) = H1 at *
    have h6 : z = 0 ∨ z = 1 ∨ z = 2 ∨ z = 3 ∨ z = 4 ∨ z = 5 := by omega
    rcases h6 with ez | ez | ez | ez | ez | ez <;> subst ez
    · refine ⟨_, rfl, a, _, _, _, rfl, rfl, ha1, at_of (j := 0) rfl rfl, p, _, _, _, rfl, rfl, .inl (.inl hp1), at_of (j := 0) rfl rfl, ?_⟩
      refine ⟨_, rfl, rfl, _, rfl, ?_⟩
      rw [show decide (V.str (Str.ofString "pin") = V.str (Str.ofString "mirror")) = false by decide +kernel]
      refine ⟨_, rfl, rfl, _, rfl, ?_⟩
      rw [show decide (V.str (Str.ofString "pin") = V.str (Str.ofString "track")) = false by decide +kernel]
      refine ⟨_, rfl, _, rfl, a, _, _, _, rfl, rfl, ha1, at_of (j := 1) rfl rfl, _, rfl, a, _, _, _, rfl, rfl, ha1, at_of (j := 2) rfl rfl, by show 2 ≤ sizeLine; decide, fun t nt => ?_⟩
      have s2 : Same H1 (upd H1 t (.lst [.int 1, .int 4])) := same_upd nt
      refine ⟨_, rfl, rfl, .inr ⟨_, rfl, t, _, _, _, rfl, rfl, .inl (.inl upd_same), (show atI [V.int 1, .int 4] (if decide (V.str (Str.ofString "pin") = V.str (Str.ofString "turn")) = true then 1 else 0) = some (.int 1) by decide +kernel), b, c, 1, rfl, hb, hc, by omega, fun H2 i s3 hi => ⟨by show 2 ≤ sizeLine; decide, fun u nu => ?_⟩⟩⟩
      exact q _ u ("pin", [i]) (((s1.trans s2).trans s3).trans (same_upd nu)) upd_same ⟨by unfold GoodD; show valN NUMB "pin" = some 1; decide +kernel, by show (Str.ofString "pin") ∈ WORDS; decide +kernel, fun j hj => by
        rw [List.mem_singleton.mp hj]
        exact hi⟩ fun _ _ _ _ h => by cases h
    · refine ⟨_, rfl, a, _, _, _, rfl, rfl, ha1, at_of (j := 0) rfl rfl, p, _, _, _, rfl, rfl, .inl (.inl hp1), at_of (j := 1) rfl rfl, ?_⟩
      refine ⟨_, rfl, rfl, _, rfl, ?_⟩
      rw [show decide (V.str (Str.ofString "track") = V.str (Str.ofString "mirror")) = false by decide +kernel]
      refine ⟨_, rfl, rfl, _, rfl, ?_⟩
      rw [show decide (V.str (Str.ofString "track") = V.str (Str.ofString "track")) = true by decide +kernel]
      refine ⟨_, rfl, _, rfl, a, _, _, _, rfl, rfl, ha1, at_of (j := 1) rfl rfl, _, rfl, a, _, _, _, rfl, rfl, ha1, at_of (j := 2) rfl rfl, b, c, 1, rfl, hb, hc, by omega, fun H2 i s2 hi => ?_⟩
      have ha2 := s2.seq ha1
      refine ⟨_, rfl, a, _, _, _, rfl, rfl, ha2, at_of (j := 3) rfl rfl, _, rfl, a, _, _, _, rfl, rfl, ha2, at_of (j := 4) rfl rfl, d, e, 1, rfl, hd2, he, by omega, fun H3 i2 s3 hi2 => ⟨by show 3 ≤ sizeLine; decide, fun u nu => ?_⟩⟩
      exact q _ u ("track", [i, i2]) (((s1.trans s2).trans s3).trans (same_upd nu)) upd_same ⟨by unfold GoodD; show valN NUMB "track" = some 2; decide +kernel, by show (Str.ofString "track") ∈ WORDS; decide +kernel, fun j hj => by
        simp only [List.mem_cons, List.not_mem_nil, or_false] at hj
        rcases hj with rfl | rfl
        · exact hi
        · exact hi2⟩ fun _ _ _ _ h => by cases h
    · refine ⟨_, rfl, a, _, _, _, rfl, rfl, ha1, at_of (j := 0) rfl rfl, p, _, _, _, rfl, rfl, .inl (.inl hp1), at_of (j := 2) rfl rfl, ?_⟩
      refine ⟨_, rfl, rfl, _, rfl, ?_⟩
      rw [show decide (V.str (Str.ofString "merge") = V.str (Str.ofString "mirror")) = false by decide +kernel]
      refine ⟨_, rfl, rfl, _, rfl, ?_⟩
      rw [show decide (V.str (Str.ofString "merge") = V.str (Str.ofString "track")) = false by decide +kernel]
      refine ⟨_, rfl, _, rfl, a, _, _, _, rfl, rfl, ha1, at_of (j := 1) rfl rfl, _, rfl, a, _, _, _, rfl, rfl, ha1, at_of (j := 2) rfl rfl, by show 2 ≤ sizeLine; decide, fun t nt => ?_⟩
      have s2 : Same H1 (upd H1 t (.lst [.int 1, .int 4])) := same_upd nt
      refine ⟨_, rfl, rfl, .inr ⟨_, rfl, t, _, _, _, rfl, rfl, .inl (.inl upd_same), (show atI [V.int 1, .int 4] (if decide (V.str (Str.ofString "merge") = V.str (Str.ofString "turn")) = true then 1 else 0) = some (.int 1) by decide +kernel), b, c, 1, rfl, hb, hc, by omega, fun H2 i s3 hi => ⟨by show 2 ≤ sizeLine; decide, fun u nu => ?_⟩⟩⟩
      exact q _ u ("merge", [i]) (((s1.trans s2).trans s3).trans (same_upd nu)) upd_same ⟨by unfold GoodD; show valN NUMB "merge" = some 1; decide +kernel, by show (Str.ofString "merge") ∈ WORDS; decide +kernel, fun j hj => by
        rw [List.mem_singleton.mp hj]
        exact hi⟩ fun _ _ _ _ h => by cases h
    · refine ⟨_, rfl, a, _, _, _, rfl, rfl, ha1, at_of (j := 0) rfl rfl, p, _, _, _, rfl, rfl, .inl (.inl hp1), at_of (j := 3) rfl rfl, ?_⟩
      refine ⟨_, rfl, rfl, _, rfl, ?_⟩
      rw [show decide (V.str (Str.ofString "drop") = V.str (Str.ofString "mirror")) = false by decide +kernel]
      refine ⟨_, rfl, rfl, _, rfl, ?_⟩
      rw [show decide (V.str (Str.ofString "drop") = V.str (Str.ofString "track")) = false by decide +kernel]
      refine ⟨_, rfl, _, rfl, a, _, _, _, rfl, rfl, ha1, at_of (j := 1) rfl rfl, _, rfl, a, _, _, _, rfl, rfl, ha1, at_of (j := 2) rfl rfl, by show 2 ≤ sizeLine; decide, fun t nt => ?_⟩
      have s2 : Same H1 (upd H1 t (.lst [.int 1, .int 4])) := same_upd nt
      refine ⟨_, rfl, rfl, .inr ⟨_, rfl, t, _, _, _, rfl, rfl, .inl (.inl upd_same), (show atI [V.int 1, .int 4] (if decide (V.str (Str.ofString "drop") = V.str (Str.ofString "turn")) = true then 1 else 0) = some (.int 1) by decide +kernel), b, c, 1, rfl, hb, hc, by omega, fun H2 i s3 hi => ⟨by show 2 ≤ sizeLine; decide, fun u nu => ?_⟩⟩⟩
      exact q _ u ("drop", [i]) (((s1.trans s2).trans s3).trans (same_upd nu)) upd_same ⟨by unfold GoodD; show valN NUMB "drop" = some 1; decide +kernel, by show (Str.ofString "drop") ∈ WORDS; decide +kernel, fun j hj => by
        rw [List.mem_singleton.mp hj]
        exact hi⟩ fun _ _ _ _ h => by cases h
    · refine ⟨_, rfl, a, _, _, _, rfl, rfl, ha1, at_of (j := 0) rfl rfl, p, _, _, _, rfl, rfl, .inl (.inl hp1), at_of (j := 4) rfl rfl, ?_⟩
      refine ⟨_, rfl, rfl, _, rfl, ?_⟩
      rw [show decide (V.str (Str.ofString "turn") = V.str (Str.ofString "mirror")) = false by decide +kernel]
      refine ⟨_, rfl, rfl, _, rfl, ?_⟩
      rw [show decide (V.str (Str.ofString "turn") = V.str (Str.ofString "track")) = false by decide +kernel]
      refine ⟨_, rfl, _, rfl, a, _, _, _, rfl, rfl, ha1, at_of (j := 1) rfl rfl, _, rfl, a, _, _, _, rfl, rfl, ha1, at_of (j := 2) rfl rfl, by show 2 ≤ sizeLine; decide, fun t nt => ?_⟩
      have s2 : Same H1 (upd H1 t (.lst [.int 1, .int 4])) := same_upd nt
      refine ⟨_, rfl, rfl, .inr ⟨_, rfl, t, _, _, _, rfl, rfl, .inl (.inl upd_same), (show atI [V.int 1, .int 4] (if decide (V.str (Str.ofString "turn") = V.str (Str.ofString "turn")) = true then 1 else 0) = some (.int 4) by decide +kernel), b, c, 4, rfl, hb, hc, by omega, fun H2 i s3 hi => ⟨by show 2 ≤ sizeLine; decide, fun u nu => ?_⟩⟩⟩
      exact q _ u ("turn", [i]) (((s1.trans s2).trans s3).trans (same_upd nu)) upd_same ⟨by unfold GoodD; show valN NUMB "turn" = some 1; decide +kernel, by show (Str.ofString "turn") ∈ WORDS; decide +kernel, fun j hj => by
        rw [List.mem_singleton.mp hj]
        exact hi⟩ fun _ _ _ _ h => by cases h
    · refine ⟨_, rfl, a, _, _, _, rfl, rfl, ha1, at_of (j := 0) rfl rfl, p, _, _, _, rfl, rfl, .inl (.inl hp1), at_of (j := 5) rfl rfl, ?_⟩
      refine ⟨_, rfl, rfl, _, rfl, ?_⟩
      rw [show decide (V.str (Str.ofString "mirror") = V.str (Str.ofString "mirror")) = true by decide +kernel]
      exact ⟨_, rfl, by show 1 ≤ sizeLine; decide, fun u nu => q _ u ("mirror", []) (s1.trans (same_upd nu)) upd_same ⟨by unfold GoodD; decide +kernel, by decide +kernel, fun i hi => nomatch hi⟩ fun x r e hx => by
        have := (List.cons.inj e).1
        omega⟩
end
end Own

namespace Own
open PySem PySem.Spec PyProof.Rows L2 TL
theorem joinL_snoc (S : List Nat) : ∀ (r : List (List Nat)) (p z : List Nat), joinL S (p :: r ++ [z]) = joinL S (p :: r) ++ (S ++ z)
  | [], p, z => rfl
  | x :: r, p, z => by
    show p ++ (S ++ joinL S (x :: r ++ [z])) = p ++ (S ++ joinL S (x :: r)) ++ (S ++ z)
    rw [joinL_snoc S r x z]
    simp
theorem join_snoc (y : Str) (p : Str) (r : List Str) (z : Str) : Txt.join y (p :: r ++ [z]) = Txt.join y (p :: r) ++ y ++ z := by
  refine ext_tl ?_
  rw [join_eq, join_eq, tl_join, tl_append, tl_append, tl_join, List.map_append, List.map_cons]
  show joinL (tl y) (tl p :: r.map tl ++ [tl z]) = _
  rw [joinL_snoc]
  simp
theorem join_one (y p : Str) : Txt.join y [p] = p := by
  refine ext_tl ?_
  rw [join_eq, tl_join]
  rfl
section
variable {P : Program} {w : World} {K : PySem.W.Frag} {mg : Str → Option Value} {base : Heap}
theorem LD.sml {d : Deed} (h : LD d) : Sml d := by
  refine ⟨?_, h.1.few, fun i hi => ?_⟩
  · have hw := h.2.1
    unfold WORDS at hw
    simp only [List.mem_cons, List.not_mem_nil, or_false] at hw
    rcases hw with e | e | e | e | e | e <;> (rw [e]; decide)
  · have := h.2.2 i hi
    omega
def linesT (ds : List Deed) : List Str := "course" :: ds.map lineT
def spLLines (K : PySem.W.Frag) : Sp := fun vs H Q _ => ∃ (a : Addr) (xs : List V) (ds : List Deed), vs = [.ref a] ∧ SqL K H a xs ∧ DsT H xs ds ∧ (∀ d ∈ ds, LD d) ∧ ds.length ≤ 100 ∧ ∀ H' r, Same H H' → H' r = some (.lst ((linesT ds).map V.str)) → Q (.ref r) H'
set_option maxHeartbeats 1000000 in
theorem ok_llines {f : Addr} {fd : FuncData} (F : Fun K "_law_lines" "_law_lines" s__law_lines f fd) (T : Bi mg) : FnOk P w K mg base CX0 1 f fd ["_law_deeds"] (spLLines K) := by
  refine F.ok sc__law_lines (fun vs H Q E h => ?_) (fun cdv A outer s H vs Q E hr h => ?_)
  · obtain ⟨a, xs, ds, rfl, _⟩ := h
    rfl
  · obtain ⟨a, xs, ds, rfl, ha, hd, hL, hl, q⟩ := h
    refine ⟨_, (pss_cons (ps_set (i := 1) sc__law_lines.nd rfl (.inl rfl) (pe_lst (pa_cons pe_str pa_nil)))
        (pss_cons (ps_for PassesOwn.never rfl (pi_list (pv 0)) (pg_name (i := 2) sc__law_lines.nd rfl (.inl rfl))
        (pss_cons (ps_set (i := 3) sc__law_lines.nd rfl (.inl rfl) (pe_ix (r := rIxT K) ix_tup (pv 2) pe_int (fun _ _ => rfl)))
        (pss_cons (ps_for PassesOwn.never rfl (pi_tup (pe_slice sl_tup (pv 2) (po_some pe_int) po_none)) (pg_name (i := 4) sc__law_lines.nd rfl (.inl rfl))
        (pss_one (ps_set (i := 3) sc__law_lines.nd rfl (.inl rfl) (pe_op op_add_str (pe_op op_add_str (pv 3) pe_str) (pe_callTy call_str_int (by rfl) T.b_str (by decide +kernel) (pa_cons (pv 4) pa_nil))))))
        (pss_one (ps_expr (pe_bm PySem.F.plainAttrs_list PySem.F.slot_list_append PySem.F.type_list_append mt_append (pv 1) (pa_cons (pv 3) pa_nil)))))))
        (pss_one (ps_ret (pv 1))))), ?_⟩
    have lx : xs.length ≤ 100 := by rw [hd.1]; exact hl
    refine ⟨by show 1 ≤ sizeLine; decide, fun L nL => ?_⟩
    refine ⟨_, rfl, a, rfl, ⟨_, (same_upd nL).seq ha⟩, for_list (xs := xs) (fun i σ H' => (∃ y2 y3 y4, σ = [some (.ref a), some (.ref L), y2, y3, y4]) ∧ H' L = some (.lst ((linesT (ds.take i)).map V.str)) ∧ Same H (hole H' L)) ⟨⟨_, _, _, rfl⟩, upd_same, by rw [hole_upd]; exact same_hole nL (Same.refl _)⟩ (fun i σ H' _ pv => (unhole pv.2.2).seq ha) (fun i v σ H' hx pv => ?_) fun σ H' pv => ?_⟩
    · obtain ⟨⟨y2, y3, y4, rfl⟩, eL, sh⟩ := pv
      obtain ⟨b, d, rfl, hdi, _⟩ := hd.h.at_ hx
      have hb0 : H b = some (.tup (dv d)) := by
        obtain ⟨b2, e2, e3⟩ := hd.2 i d hdi
        rw [hx] at e2
        cases Option.some.inj e2
        exact e3
      have ld := hL d (List.mem_of_getElem? hdi)
      have sm := ld.sml
      have hb := (unhole sh) _ _ hb0
      refine ⟨_, rfl, _, _, _, _, rfl, rfl, .inl (.inl hb), at_of (j := 0) rfl rfl, ?_⟩
      refine ⟨_, rfl, _, rfl, b, _, rfl, .inl (.inl hb), cut1_part, fun t ntt => ?_⟩
      rw [cut1]
      have s2 : Same H' (upd H' t (.tup (d.2.map V.int))) := same_upd ntt
      have et : (upd H' t (.tup (d.2.map V.int))) t = some (.tup (d.2.map V.int)) := upd_same
      have eL2 := s2 _ _ eL
      have sh2 := sh.trans (hole_mono (L := L) s2)
      generalize upd H' t (.tup (d.2.map V.int)) = H2 at *
      have part : ∀ j, Sml (d.1, d.2.take j) := fun j => ⟨sm.1, by show (d.2.take j).length ≤ 2; rw [List.length_take]; have := sm.2.1; omega, fun i hi => sm.2.2 i (List.mem_of_mem_take hi)⟩
      refine ⟨t, rfl, ⟨_, .inl (.inl et)⟩, for_tup (xs := d.2.map V.int) (fun j σ H'' => (∃ y4, σ = [some (.ref a), some (.ref L), some (.ref b), some (.str (lineT (d.1, d.2.take j))), y4]) ∧ H'' = H2) ⟨⟨y4, by rw [show lineT (d.1, d.2.take 0) = d.1 from join_one " " d.1]; rfl⟩, rfl⟩ (fun j σ H'' _ pj => by rw [pj.2]; exact .inl (.inl et)) (fun j v σ H'' hj pj => ?_) fun σ H'' pj => ?_⟩
      · obtain ⟨⟨y5, rfl⟩, rfl⟩ := pj
        obtain ⟨c, rfl, hc⟩ := int_at hj
        have hcm := sm.2.2 c (List.mem_of_getElem? hc)
        have l1 := line_len (part j)
        have l2 := nt_len hcm
        have l3 : (Str.ofString " ").length = 1 := rfl
        refine ⟨_, rfl, _, _, rfl, rfl, ?_, _, rfl, c, rfl, Nat.lt_of_lt_of_le (log_lt (k := 64) (by decide) hcm) (by decide), _, _, rfl, rfl, ?_, ⟨some (.int c), ?_⟩, rfl⟩
        · rw [l3]
          exact Nat.le_trans (by omega) (by decide : 300 ≤ sizeLine)
        · rw [strLen_append, l3]
          show _ + (nt c).length ≤ _
          exact Nat.le_trans (by omega) (by decide : 300 ≤ sizeLine)
        · have e : lineT (d.1, d.2.take (j + 1)) = lineT (d.1, d.2.take j) ++ Str.ofString " " ++ nt c := by
            show Txt.join " " (d.1 :: (d.2.take (j + 1)).map nt) = _
            rw [List.take_add_one, hc, List.map_append]
            exact join_snoc " " d.1 ((d.2.take j).map nt) (nt c)
          rw [e]
          rfl
      · obtain ⟨⟨y5, rfl⟩, rfl⟩ := pj
        rw [List.length_map, List.take_length]
        refine ⟨_, rfl, .inl ⟨rfl, _, .inl (.inl eL2)⟩, _, rfl, L, _, _, rfl, rfl, eL2, ?_, ⟨_, _, _, rfl⟩, ?_, ?_⟩
        · rw [List.length_map]
          unfold linesT
          rw [List.length_cons, List.length_map, List.length_take]
          exact small1000 (by omega)
        · rw [upd_same]
          unfold linesT
          rw [List.take_add_one, hdi]
          simp
        · rw [hole_upd]
          exact sh2
    · obtain ⟨⟨y2, y3, y4, rfl⟩, eL, sh⟩ := pv
      rw [hd.1, List.take_length] at eL
      exact ⟨_, rfl, q _ L (unhole sh) eL⟩
end
end Own

namespace Own
open PySem PySem.Spec PyProof.Rows L2 TL
/-- a text of at most n signs, none of them beyond ASCII, none a line feed -/
def Pl (n : Nat) (x : Str) : Prop := x.length ≤ n ∧ ∀ c ∈ tl x, c < 128 ∧ c ≠ 10
theorem Pl.le {n m : Nat} {x : Str} (h : Pl n x) (l : n ≤ m) : Pl m x := ⟨Nat.le_trans h.1 l, h.2⟩
theorem Pl.app {n m : Nat} {x y : Str} (h : Pl n x) (k : Pl m y) : Pl (n + m) (x ++ y) := by
  refine ⟨by rw [strLen_append]; have := h.1; have := k.1; omega, fun c hc => ?_⟩
  rw [tl_append] at hc
  exact (List.mem_append.mp hc).elim (h.2 c) (k.2 c)
theorem Pl.cut {n : Nat} {x : Str} (h : Pl n x) (lo hi : Option Int) : Pl n (cutS x lo hi) := by
  refine ⟨Nat.le_trans (cutS_length _ _ _) h.1, fun c hc => h.2 c ?_⟩
  have : c ∈ ((tl x).drop (HT.sIx x.length 0 lo)).take (HT.sIx x.length x.length hi - HT.sIx x.length 0 lo) := hc
  exact List.mem_of_mem_drop (List.mem_of_mem_take this)
def plB (n : Nat) (x : Str) : Bool := decide (x.length ≤ n) && (tl x).all fun c => decide (c < 128) && !decide (c = 10)
theorem pl_of {n : Nat} {x : Str} (h : plB n x = true) : Pl n x := by
  unfold plB at h
  rw [Bool.and_eq_true, decide_eq_true_eq] at h
  refine ⟨h.1, fun c hc => ?_⟩
  have := List.all_eq_true.mp h.2 c hc
  rw [Bool.and_eq_true, decide_eq_true_eq] at this
  exact ⟨this.1, by simpa using this.2⟩
theorem spl_mem (S : List Nat) : ∀ (l : List Nat) (k : Nat) (acc : List Nat), ∀ p ∈ spl S k acc l, ∀ c ∈ p, c ∈ acc ∨ c ∈ l
  | [], k, acc => by
    rw [spl_nil]
    intro p hp c hc
    rw [List.mem_singleton.mp hp] at hc
    exact .inl hc
  | d :: r, 0, acc => by
    unfold spl
    intro p hp c hc
    split at hp
    · rcases List.mem_cons.mp hp with e | e
      · rw [e] at hc
        exact .inl hc
      · rcases spl_mem S r _ [] p e c hc with h | h
        · cases h
        · exact .inr (List.mem_cons_of_mem _ h)
    · rcases spl_mem S r 0 _ p hp c hc with h | h
      · rcases List.mem_append.mp h with h | h
        · exact .inl h
        · rw [List.mem_singleton.mp h]
          exact .inr List.mem_cons_self
      · exact .inr (List.mem_cons_of_mem _ h)
  | d :: r, k + 1, acc => by
    unfold spl
    intro p hp c hc
    rcases spl_mem S r k acc p hp c hc with h | h
    · exact .inl h
    · exact .inr (List.mem_cons_of_mem _ h)
theorem wds_tl (x : Str) : (wdsOf x).map tl = spl [32] 0 [] (tl x) := split_tl x " " 32 rfl (by decide)
theorem wds_pl {n : Nat} {x : Str} (h : Pl n x) : ∀ y ∈ wdsOf x, Pl n y := fun y hy => by
  refine ⟨Nat.le_trans ((wds_facts x).2.2 y hy) h.1, fun c hc => h.2 c ?_⟩
  rcases spl_mem [32] (tl x) 0 [] (tl y) (by rw [← wds_tl]; exact List.mem_map.mpr ⟨y, hy, rfl⟩) c hc with e | e
  · cases e
  · exact e
/-- the words of a line, the last one by itself -/
theorem wds_last (x : Str) : ∃ (is : List Str) (z : Str), wdsOf x = is ++ [z] := by
  obtain ⟨ne, _⟩ := wds_facts x
  exact ⟨(wdsOf x).dropLast, (wdsOf x).getLast ne, (List.dropLast_concat_getLast ne).symm⟩
theorem tl_joins (is : List Str) (z : Str) : tl (Txt.join " " (is ++ [z])) = (match is with | [] => tl z | p :: r => joinL [32] ((p :: r).map tl) ++ ([32] ++ tl z)) := by
  rw [join_eq, tl_join]
  cases is with
  | nil => rfl
  | cons p r =>
    rw [List.map_append]
    exact joinL_snoc [32] (r.map tl) (tl p) (tl z)
theorem join_wds (x : Str) : Txt.join " " (wdsOf x) = x := by
  refine ext_tl ?_
  rw [join_eq, tl_join, wds_tl]
  exact join_spl 32 (tl x) []
theorem relast {n m : Nat} {x z y : Str} {is : List Str} (hx : Pl n x) (hw : wdsOf x = is ++ [z]) (hy : Pl m y) (hm : m ≤ z.length + 20) : Pl (n + 20) (Txt.join " " (is ++ [y])) := by
  have e1 := tl_joins is z
  rw [← hw, join_wds] at e1
  have e2 := tl_joins is y
  have lz := len_tl z
  have ly := hy.1
  rw [len_tl] at ly
  have lx := hx.1
  rw [len_tl] at lx
  cases is with
  | nil =>
    dsimp only at e1 e2
    refine ⟨?_, fun c hc => ?_⟩
    · rw [len_tl, e2]
      rw [e1] at lx
      omega
    · rw [e2] at hc
      exact hy.2 c hc
  | cons p r =>
    dsimp only at e1 e2
    refine ⟨?_, fun c hc => ?_⟩
    · rw [len_tl, e2]
      rw [e1] at lx
      simp only [List.length_append] at lx ⊢
      omega
    · rw [e2] at hc
      rcases List.mem_append.mp hc with h | h
      · exact hx.2 c (by rw [e1]; exact List.mem_append_left _ h)
      · rcases List.mem_append.mp h with h | h
        · rw [List.mem_singleton.mp h]
          decide
        · exact hy.2 c h
section
variable {P : Program} {w : World} {K : PySem.W.Frag} {mg : Str → Option Value} {base : Heap}
def spLong : Sp := fun vs H Q _ => ∃ (x : Str) (n : Nat), vs = [.str x] ∧ Pl n x ∧ n ≤ 10000 ∧ ∀ y, Pl (n + 1) y → Q (.str y) H
theorem ok_longer {f : Addr} {fd : FuncData} (F : Fun K "_law_longer" "_law_longer" s__law_longer f fd) (T : Bi mg) : FnOk P w K mg base CX0 1 f fd ["_law_word"] spLong := by
  refine F.ok sc__law_longer (fun vs H Q E h => ?_) (fun cdv A outer s H vs Q E hr h => ?_)
  · obtain ⟨x, n, rfl, _⟩ := h
    rfl
  · obtain ⟨x, n, rfl, hx, hn, q⟩ := h
    have hz : x.length ≤ sizeLine := Nat.le_trans (Nat.le_trans hx.1 hn) (by decide)
    refine ⟨_, (pss_cons (ps_if (pt_cmpR op_gt (pe_callB call_len_str (by rfl) T.b_len PySem.boot_len (pa_cons (pv 0) pa_nil)) pe_int (nomark _)) (pss_one (ps_ret (pe_slice sl_str (pv 0) po_none (po_some (pe_un un_neg pe_int))))) pss_nil)
        (pss_one (ps_ret (pe_op op_add_str (pv 0) pe_str)))), ?_⟩
    refine ⟨_, rfl, x, rfl, hz, _, _, rfl, rfl, _, rfl, ite2 (fun _ => ?_) (fun _ => ?_)⟩
    · exact ⟨_, rfl, _, rfl, _, rfl, x, rfl, hz, q _ ((hx.cut none (some (-1))).le (Nat.le_succ n))⟩
    · refine ⟨_, rfl, _, _, rfl, rfl, ?_, q _ (hx.app (pl_of (n := 1) (by decide)))⟩
      have l3 : (Str.ofString "0").length = 1 := rfl
      rw [l3]
      have := hx.1
      exact Nat.le_trans (by omega) (by decide : 20000 ≤ sizeLine)
def spWri : Sp := fun vs H Q _ => ∃ (x : Str) (n : Nat), vs = [.str x] ∧ Pl n x ∧ n ≤ 10000 ∧ ∀ H' r (ys : List Str), Same H H' → H' r = some (.lst (ys.map V.str)) → ys.length = 24 → (∀ y ∈ ys, Pl (n + 20) y) → Q (.ref r) H'
set_option maxHeartbeats 1000000 in
theorem ok_writings {f : Addr} {fd : FuncData} (F : Fun K "_law_writings" "_law_writings" s__law_writings f fd) (T : Bi mg) {f_l : Addr} {d_l : FuncData} (D_l : Df K mg "_law_longer" s__law_longer ["_law_word"] f_l d_l) (G_l : FnOk P w K mg base CX0 1 f_l d_l ["_law_word"] spLong) : FnOk P w K mg base CX0 2 f fd ["_law_word"] spWri := by
  refine F.ok sc__law_writings (fun vs H Q E h => ?_) (fun cdv A outer s H vs Q E hr h => ?_)
  · obtain ⟨x, n, rfl, _⟩ := h
    rfl
  · obtain ⟨x, n, rfl, hx, hn, q⟩ := h
    refine ⟨_, (pss_cons (ps_set (i := 1) sc__law_writings.nd rfl (.inl rfl) (pe_callTy call_str_int (by rfl) T.b_str (by decide +kernel) (pa_cons (pe_op op_pow pe_int pe_int) pa_nil)))
        (pss_cons (ps_set (i := 2) sc__law_writings.nd rfl (.inl rfl) (pe_lst (pa_cons (pe_call G_l hr (by rfl) D_l.g D_l.F.kp D_l.b .nil pass0 (pa_cons (pv 0) pa_nil)) (pa_cons pe_str (pa_cons (pe_op op_add_str pe_str (pv 0)) (pa_cons (pv 1) (pa_cons (pe_op op_add_str pe_str (pv 1)) pa_nil)))))))
        (pss_one (ps_ret (pe_op op_cat (pv 2) (pe_lst (pa_cons (pe_op op_add_str pe_str (pv 0)) (pa_cons (pe_op op_add_str pe_str (pv 0)) (pa_cons (pe_op op_add_str pe_str (pv 0)) (pa_cons pe_str (pa_cons pe_str (pa_cons pe_str (pa_cons pe_str (pa_cons pe_str (pa_cons pe_str (pa_cons (pe_op op_add_str (pv 0) pe_str) (pa_cons (pe_op op_add_str (pv 0) pe_str) (pa_cons pe_str (pa_cons pe_str (pa_cons pe_str (pa_cons pe_str (pa_cons (pe_op op_add_str (pv 0) pe_str) (pa_cons pe_str (pa_cons pe_str (pa_cons pe_str pa_nil))))))))))))))))))))))))), ?_⟩
    have hz := hx.1
    have le1 : ∀ k, k ≤ 100 → k + x.length ≤ sizeLine := fun k hk => Nat.le_trans (by omega) (by decide : 20000 ≤ sizeLine)
    have le2 : ∀ k, k ≤ 100 → x.length + k ≤ sizeLine := fun k hk => Nat.le_trans (by omega) (by decide : 20000 ≤ sizeLine)
    have hg : Pl 19 (Str.ofString (toString ((10 : Int) ^ (18 : Int).toNat))) := pl_of (by decide +kernel)
    refine ⟨_, _, rfl, rfl, ⟨by decide, by decide, by decide⟩, _, rfl, by decide +kernel, ?_⟩
    show (_ : Prop)
    generalize hgg : Str.ofString (toString ((10 : Int) ^ (18 : Int).toNat)) = g at *
    have lg := hg.1
    refine ⟨_, rfl, x, n, rfl, hx, hn, fun y1 h1 => ⟨_, rfl, _, _, rfl, rfl, le1 1 (by decide), _, rfl, _, rfl, _, _, rfl, rfl, Nat.le_trans (Nat.add_le_add (show (Str.ofString "-").length ≤ 1 by decide) lg) (by decide), by show 5 ≤ sizeLine; decide, fun L nL => ?_⟩⟩
    have s1 := same_upd (o := .lst [.str y1, .str (Str.ofString "0"), .str (Str.ofString "-" ++ x), .str g, .str (Str.ofString "-" ++ g)]) nL
    refine ⟨_, rfl, _, rfl, _, _, rfl, rfl, le1 1 (by decide), _, rfl, _, _, rfl, rfl, le1 2 (by decide), _, rfl, _, _, rfl, rfl, le1 1 (by decide), _, rfl, _, _, rfl, rfl, le2 1 (by decide), _, rfl, _, _, rfl, rfl, le2 2 (by decide), _, rfl, _, _, rfl, rfl, le2 1 (by decide), by show 19 ≤ sizeLine; decide, fun M nM => ?_⟩
    refine ⟨L, M, _, _, rfl, rfl, (same_upd nM) _ _ upd_same, upd_same, by show 5 + 19 ≤ sizeLine; decide, fun r nr => ?_⟩
    refine q _ r [y1, (Str.ofString "0"), (Str.ofString "-" ++ x), g, (Str.ofString "-" ++ g), (Str.ofString "0" ++ x), (Str.ofString "-0" ++ x), (Str.ofString "+" ++ x), (Str.ofString "-0"), (Str.ofString "00"), (Str.ofString "--1"), (Str.ofString "-"), (Str.ofString ""), (Str.ofString "- 1"), (x ++ Str.ofString "x"), (x ++ Str.ofString "_0"), (Str.ofString "1_0"), (Str.ofString "0x1"), (Str.ofString "1 1"), (Str.ofString "1.0"), (x ++ Str.ofString "-"), (Str.ofString "1,0"), (Str.ofString "\t1"), (Str.ofString "1e3")] ((s1.trans (same_upd nM)).trans (same_upd nr)) upd_same rfl fun y hy => ?_
    simp only [List.mem_cons, List.not_mem_nil, or_false] at hy
    rcases hy with e | e | e | e | e | e | e | e | e | e | e | e | e | e | e | e | e | e | e | e | e | e | e | e <;> rw [e]
    · exact h1.le (by omega)
    · exact (pl_of (n := 20) (by decide +kernel)).le (by omega)
    · exact ((pl_of (n := 2) (by decide +kernel)).app hx).le (by omega)
    · exact hg.le (by omega)
    · exact ((pl_of (n := 1) (by decide +kernel)).app hg).le (by omega)
    · exact ((pl_of (n := 2) (by decide +kernel)).app hx).le (by omega)
    · exact ((pl_of (n := 2) (by decide +kernel)).app hx).le (by omega)
    · exact ((pl_of (n := 2) (by decide +kernel)).app hx).le (by omega)
    · exact (pl_of (n := 20) (by decide +kernel)).le (by omega)
    · exact (pl_of (n := 20) (by decide +kernel)).le (by omega)
    · exact (pl_of (n := 20) (by decide +kernel)).le (by omega)
    · exact (pl_of (n := 20) (by decide +kernel)).le (by omega)
    · exact (pl_of (n := 20) (by decide +kernel)).le (by omega)
    · exact (pl_of (n := 20) (by decide +kernel)).le (by omega)
    · exact (hx.app (pl_of (n := 2) (by decide +kernel))).le (by omega)
    · exact (hx.app (pl_of (n := 2) (by decide +kernel))).le (by omega)
    · exact (pl_of (n := 20) (by decide +kernel)).le (by omega)
    · exact (pl_of (n := 20) (by decide +kernel)).le (by omega)
    · exact (pl_of (n := 20) (by decide +kernel)).le (by omega)
    · exact (pl_of (n := 20) (by decide +kernel)).le (by omega)
    · exact (hx.app (pl_of (n := 2) (by decide +kernel))).le (by omega)
    · exact (pl_of (n := 20) (by decide +kernel)).le (by omega)
    · exact (pl_of (n := 20) (by decide +kernel)).le (by omega)
    · exact (pl_of (n := 20) (by decide +kernel)).le (by omega)

def spRew : Sp := fun vs H Q _ => ∃ (x : Str) (i : Int) (n : Nat), vs = [.str x, .int i] ∧ Pl n x ∧ n ≤ 300 ∧ ∀ H' y, Same H H' → Pl (n + 20) y → Q (.str y) H'
set_option maxHeartbeats 1000000 in
theorem ok_rewritten {f : Addr} {fd : FuncData} (F : Fun K "_law_rewritten" "_law_rewritten" s__law_rewritten f fd) (T : Bi mg) {f_w : Addr} {d_w : FuncData} (D_w : Df K mg "_law_writings" s__law_writings ["_law_word"] f_w d_w) (G_w : FnOk P w K mg base CX0 2 f_w d_w ["_law_word"] spWri) : FnOk P w K mg base CX0 3 f fd ["_law_line", "_law_part"] spRew := by
  refine F.ok sc__law_rewritten (fun vs H Q E h => ?_) (fun cdv A outer s H vs Q E hr h => ?_)
  · obtain ⟨x, i, n, rfl, _⟩ := h
    rfl
  · obtain ⟨x, i, n, rfl, hx, hn, q⟩ := h
    refine ⟨_, (pss_cons (ps_set (i := 2) sc__law_rewritten.nd rfl (.inl rfl) (pe_split (pv 0) pe_str))
        (pss_cons (ps_set (i := 3) sc__law_rewritten.nd rfl (.inl rfl) (pe_call G_w hr (by rfl) D_w.g D_w.F.kp D_w.b .nil pass0 (pa_cons (pe_ix (r := rIxL K) ix_list (pv 2) (pe_un un_neg pe_int) (fun _ _ => rfl)) pa_nil)))
        (pss_cons (ps_asg (pe_ix (r := rIxL K) ix_list (pv 3) (pe_op op_modN (pe_callTy call_int1 (by rfl) T.b_int (by decide +kernel) (pa_cons (pv 1) pa_nil)) (pe_callB call_len_seq (by rfl) T.b_len PySem.boot_len (pa_cons (pv 3) pa_nil))) (fun _ _ => rfl)) (pg_sub (pv 2) (pe_un un_neg pe_int) set_list))
        (pss_one (ps_ret (pe_join pe_str (pv 2))))))), ?_⟩
    have hz := hx.1
    refine ⟨_, rfl, ⟨_, rfl⟩, x, _, rfl, rfl, rfl, Nat.le_trans (Nat.add_le_add_right (Nat.le_trans hz hn) 2) (by decide), fun a na => ?_⟩
    obtain ⟨is, z, hw⟩ := wds_last x
    have hpl := wds_pl hx
    have lw := (wds_facts x).2.1
    rw [show Txt.split x (Str.ofString " ") = wdsOf x from rfl, hw]
    rw [hw] at hpl lw
    have hzp := hpl z (by simp)
    have s1 : Same H (upd H a (.lst ((is ++ [z]).map V.str))) := same_upd na
    have ea : (upd H a (.lst ((is ++ [z]).map V.str))) a = some (.lst ((is ++ [z]).map V.str)) := upd_same
    generalize upd H a (.lst ((is ++ [z]).map V.str)) = H1 at *
    have li : ((is ++ [z]).map V.str).length = is.length + 1 := by simp
    have ix : ixN ((is ++ [z]).map V.str).length (-1) = some is.length := by
      rw [li]
      unfold ixN
      rw [if_neg (by decide), if_pos (by omega)]
      congr 1
      omega
    have at1 : atI ((is ++ [z]).map V.str) (-1) = some (.str z) := by
      unfold atI
      rw [ix]
      simp
    refine ⟨_, rfl, _, rfl, a, _, _, _, rfl, rfl, .inl (.inl ea), at1, z, z.length, rfl, ⟨Nat.le_refl _, hzp.2⟩, by have := hzp.1; omega, fun H2 r ys s2 er hlen hys => ?_⟩
    have f := fmod_in i (n := 24) (by decide)
    have hys2 : ((ys.map V.str).length : Int) = 24 := by rw [List.length_map, hlen]; rfl
    obtain ⟨j, hj, hj2⟩ : ∃ j : Nat, i.fmod ((ys.map V.str).length : Int) = (j : Int) ∧ j < 24 := ⟨(i.fmod 24).toNat, by rw [hys2]; omega, by omega⟩
    obtain ⟨y, hy⟩ : ∃ y, ys[j]? = some y := ⟨ys[j], List.getElem?_eq_getElem (by omega)⟩
    have hyp := hys y (List.mem_of_getElem? hy)
    refine ⟨_, rfl, _, rfl, .inl ⟨_, rfl, _, rfl, r, _, rfl, .inl (.inl (.inl er)), _, _, rfl, rfl, by rw [hys2]; show (24 : Int) ≠ 0; decide, r, _, _, _, rfl, rfl, .inl (.inl er), by rw [hj]; exact atI_nat (by rw [List.getElem?_map, hy]; rfl), ?_⟩⟩
    refine ⟨_, rfl, _, rfl, a, _, _, _, rfl, rfl, s2 _ _ ea, ix, ?_⟩
    rw [show ((is ++ [z]).map V.str).set is.length (V.str y) = (is ++ [y]).map V.str by
      rw [List.map_append, List.map_append]
      rw [List.set_append_right _ _ (by simp)]
      simp]
    refine ⟨⟨_, rfl⟩, _, rfl, _, a, is ++ [y], rfl, rfl, .inl (.inl (.inl upd_same)), ?_, ?_⟩
    · have hs : ((is ++ [y]).map (·.length)).sum ≤ ((is ++ [y]).map (·.length)).length * 320 := sum_le fun k hk => by
        obtain ⟨v, hv, rfl⟩ := List.mem_map.mp hk
        rcases List.mem_append.mp hv with h | h
        · have := (hpl v (List.mem_append_left _ h)).1
          omega
        · rw [List.mem_singleton.mp h]
          have := hyp.1
          have := hzp.1
          omega
      have l3 : (Str.ofString " ").length = 1 := rfl
      rw [l3]
      simp only [List.length_map, List.length_append, List.length_cons, List.length_nil] at hs lw ⊢
      omega
    · refine q _ _ (fun b o e => ?_) (relast hx hw hyp (Nat.le_refl _))
      have nb : b ≠ a := fun h => by rw [h, na] at e; cases e
      rw [upd_ne nb]
      exact s2 _ _ (s1 _ _ e)
end
end Own

namespace Own
open PySem PySem.Spec PyProof.Rows L2
/-! ### texts are given out: what replace wants -/
def rAddS : R2 := fun x y H Q => ∃ i j, x = .str i ∧ y = .str j ∧ i.length + j.length ≤ sizeLine ∧ Q (.str (i ++ j)) H
section
variable {X : Cx} {rest : List Stmt} {t u : TS}
theorem pss_addK {i k : Nat} {y c : Str} {a : Expr} {ta : TE} {cp bp py pos : Pos} (hN : X.N.Nodup) (hi : X.N[i]? = some y) (hx : Loc X.env.scope y) (ha : PE X a ta) (h2 : PSsT X rest u)
    (hs : swapsWith (.BinOp a .Add (.Constant (.str c) k cp) bp) (some (.Name y py)) pos.line X.env = pure false := by rfl) (hf : X.fn y = true ∨ X.env.scope.names.lookup y = some .local := by first | exact .inl rfl | exact .inr rfl | assumption) :
    PSs X (.Assign [.Name y py] (.BinOp a .Add (.Constant (.str c) k cp) bp) pos :: rest) (tSeq (tAsg (tOp rAddS ta (tC (.str c))) (gName i)) u) := by
  constructor
  intro pins s σ H D I h
  refine wpAny_execs_cons (wpAny_Assign_Name (wpAny_BinOp (thn (ha.run pins s σ H _ I h) fun v s1 ⟨x, H1, I1, r1, q1⟩ => ?_)) hs)
  refine Calls.Constant_str ?_
  refine wpAny_mono (PySem.wpAny_toks (op_add_str pins _ σ H1 x (.str c) v (.str c s1.toks) (fun z H2 => u D (σ.set i (some z)) H2) (I1.tok (s1.toks + 1)) r1 ⟨_, rfl⟩ q1)) (fun w s3 q => ?_) fun _ _ z => z.2
  obtain ⟨hk, z, H2, I2, rz, q2⟩ := q
  refine wpAny_mono (PySem.wpAny_toks (store_ok (Q := fun _ s4 => Inv X pins (σ.set i (some z)) H2 s4) I2 hN hi hx rz (fun _ I4 => I4) hf)) (fun _ s4 q => ?_) fun _ _ z => z.2
  have hk1 : s1.toks + 1 ≤ s3.toks := hk
  have hk2 := q.1
  exact h2 pins s4 _ H2 D (by omega) q.2 q2
theorem pst_set {i : Nat} {x : Str} {e : Expr} {te : TE} {pos pos' : Pos} (hN : X.N.Nodup) (hi : X.N[i]? = some x) (hx : Loc X.env.scope x) (he : PET X e te) (hs : swapsWith e (some (.Name x pos')) pos.line X.env = pure false := by rfl) (hf : X.fn x = true ∨ X.env.scope.names.lookup x = some .local := by first | exact .inl rfl | exact .inr rfl | assumption) :
    PST X (.Assign [.Name x pos'] e pos) (tAsg te (gName i)) := fun pins s σ H D h0 I h =>
  wpAny_Assign_Name (thn (he pins s σ H _ h0 I h) fun v s1 ⟨y, H1, I1, r1, q1⟩ => store_ok I1 hN hi hx r1 (fun s2 I2 => ⟨_, H1, I2, q1⟩) hf) hs
theorem psst_cut {st : Stmt} (h1 : PST X st t) (h2 : PSsT X rest u) : PSsT X (st :: rest) (C8.tCut t u) := by
  intro pins s σ H D h0 I h
  obtain ⟨Mid, hm, hu⟩ := h
  refine wpAny_execs_cons (wpAny_mono (PySem.wpAny_toks (h1 pins s σ H { D with nx := Mid } h0 I hm)) (fun f s1 q => ?_) fun _ _ z => z.2)
  obtain ⟨hk, q⟩ := q
  cases f with
  | next =>
    obtain ⟨σ', H', I', q⟩ := q
    exact h2 pins s1 σ' H' D (Nat.le_trans h0 hk) I' (hu σ' H' q)
  | ret v => exact q
  | brk => exact q
  | cont => exact q
theorem pet_ix {r : R2} {a b : Expr} {ta tb : TE} {pos : Pos} (hr : IxR X r) (ha : PET X a ta) (hb : PE X b tb) (hs : PlainIx b) : PET X (.Subscript a b pos) (tOp r ta tb) := by
  intro pins s σ H Q h0 I h
  refine Subscript_ ?_
  refine thn (ha pins s σ H _ h0 I h) fun v s1 ⟨x, H1, I1, rx, q1⟩ => ?_
  refine thn (hb.run pins s1 σ H1 _ I1 q1) fun u s2 ⟨y, H2, I2, ry, q2⟩ => ?_
  exact hr a b pins s2 σ H2 x y v u Q I2 rx ry q2 (hs _ _)
end
end Own

namespace Own
open PySem PySem.Spec PyProof.Rows L2 TL
theorem repl_mem (y z : List Nat) : ∀ (l : List Nat) (k : Nat), ∀ c ∈ StrLaws.replS y z k l, c ∈ l ∨ c ∈ z
  | [], k => by
    intro c hc
    rw [StrLaws.replS] at hc
    cases hc
  | d :: r, 0 => by
    intro c hc
    rw [StrLaws.replS] at hc
    split at hc
    · rcases List.mem_append.mp hc with h | h
      · exact .inr h
      · exact (repl_mem y z r _ c h).elim (fun h => .inl (List.mem_cons_of_mem _ h)) .inr
    · rcases List.mem_cons.mp hc with h | h
      · rw [h]
        exact .inl List.mem_cons_self
      · exact (repl_mem y z r 0 c h).elim (fun h => .inl (List.mem_cons_of_mem _ h)) .inr
  | d :: r, k + 1 => by
    intro c hc
    rw [StrLaws.replS] at hc
    exact (repl_mem y z r k c hc).elim (fun h => .inl (List.mem_cons_of_mem _ h)) .inr
theorem Pl.repl {n m : Nat} {x y z : Str} (h : Pl n x) (k : Pl m z) (hy : 1 ≤ y.length) (hm : m ≤ 2) : Pl (3 * n + 2) (Txt.replace x y z) := by
  refine ⟨?_, fun c hc => ?_⟩
  · have h1 := TK.replace_len x y z
    have h2 : (x.length + 1) * z.length ≤ (n + 1) * 2 := Nat.mul_le_mul (by have := h.1; omega) (Nat.le_trans k.1 hm)
    have := h.1
    omega
  · have e : tl (Txt.replace x y z) = StrLaws.replL (tl y) (tl z) (tl x) := StrLaws.replace_list hy
    rw [e] at hc
    exact (repl_mem _ _ _ 0 c hc).elim (h.2 c) (k.2 c)
theorem Pl.up {n : Nat} {x : Str} (h : Pl n x) : Pl n (Txt.upper x) := by
  have e : Txt.upper x = ⟨x.cps.map up1⟩ := upper_ascii fun c hc => (h.2 c hc).1
  have e2 : tl (Txt.upper x) = (tl x).map up1 := by
    rw [e]
    show (x.cps.map up1).toList = _
    rw [Array.toList_map]
  refine ⟨?_, fun c hc => ?_⟩
  · rw [len_tl, e2, List.length_map, ← len_tl]
    exact h.1
  · rw [e2] at hc
    obtain ⟨d, hd, rfl⟩ := List.mem_map.mp hc
    have := h.2 d hd
    unfold up1
    split <;> omega
def cutG (ls : List Str) (lo hi : Option Int) : List Str := (ls.drop (HT.sIx ls.length 0 lo)).take (HT.sIx ls.length ls.length hi - HT.sIx ls.length 0 lo)
theorem cut_map (ls : List Str) (lo hi : Option Int) : cutV (ls.map V.str) lo hi = (cutG ls lo hi).map V.str := by
  unfold cutV cutG
  rw [List.length_map, List.map_take, List.map_drop]
theorem cutG_mem {ls : List Str} {lo hi : Option Int} : ∀ z ∈ cutG ls lo hi, z ∈ ls := fun z hz => List.mem_of_mem_drop (List.mem_of_mem_take hz)
theorem cutG_len (ls : List Str) (lo hi : Option Int) : (cutG ls lo hi).length ≤ ls.length := by
  unfold cutG
  rw [List.length_take, List.length_drop]
  omega
theorem pick {ys : List Str} {m : Int} (h0 : 0 ≤ m) (h1 : m < ys.length) : ∃ y ∈ ys, atI (ys.map V.str) m = some (.str y) := by
  obtain ⟨j, rfl⟩ : ∃ j : Nat, m = (j : Int) := ⟨m.toNat, by omega⟩
  have hj : j < ys.length := by omega
  exact ⟨ys[j], List.getElem_mem hj, atI_nat (by rw [List.getElem?_map, List.getElem?_eq_getElem hj]; rfl)⟩
section
variable {P : Program} {w : World} {K : PySem.W.Frag} {mg : Str → Option Value} {base : Heap}
def spSpo (K : PySem.W.Frag) : Sp := fun vs H Q _ => ∃ (a r : Addr) (ls : List Str) (ns : List Int) (n : Nat) (x0 x1 x2 : Int) (more : List Int), vs = [.ref a, .ref r] ∧ H a = some (.lst (ls.map V.str)) ∧ SqL K H r (ns.map V.int) ∧ ls ≠ [] ∧ ls.length ≤ 100 ∧ (∀ z ∈ ls, Pl n z) ∧ (20 ≤ n ∧ n ≤ 200) ∧ ns = x0 :: x1 :: x2 :: more ∧
  ∀ H' p (zs : List Str), Same H H' → H' p = some (.lst (zs.map V.str)) → zs.length ≤ 2 * ls.length + 4 → (∀ z ∈ zs, Pl (3 * n + 2) z) → Q (.ref p) H'
set_option maxHeartbeats 1000000 in
theorem ok_spoilt {f : Addr} {fd : FuncData} (F : Fun K "_law_spoilt" "_law_spoilt" s__law_spoilt f fd) (T : Bi mg) {f_r : Addr} {d_r : FuncData} (D_r : Df K mg "_law_rewritten" s__law_rewritten ["_law_line", "_law_part"] f_r d_r) (G_r : FnOk P w K mg base CX0 3 f_r d_r ["_law_line", "_law_part"] spRew) : FnOk P w K mg base CX0 4 f fd ["_law_lines_here", "_law_row"] (spSpo K) := by
  refine F.ok sc__law_spoilt (fun vs H Q E h => ?_) (fun cdv A outer s H vs Q E hr h => ?_)
  · obtain ⟨a, r, ls, ns, n, x0, x1, x2, more, rfl, _⟩ := h
    rfl
  · obtain ⟨a, r, ls, ns, n, x0, x1, x2, more, rfl, ha, hr2, ne, hl, hp, hn, rfl, q⟩ := h
    refine ⟨_, (pss_cons (ps_set (i := 2) sc__law_spoilt.nd rfl (.inl rfl) (pe_op op_modN (pe_callTy call_int1 (by rfl) T.b_int (by decide +kernel) (pa_cons (pe_ix (r := rIxL K) ix_list (pv 1) pe_int (fun _ _ => rfl)) pa_nil)) (pe_callB call_len_seq (by rfl) T.b_len PySem.boot_len (pa_cons (pv 0) pa_nil))))
        (pss_cons (ps_set (i := 3) sc__law_spoilt.nd rfl (.inl rfl) (pe_ix (r := rIxL K) ix_list (pv 0) (pv 2) (fun _ _ => rfl)))
        (pss_addK (i := 4) sc__law_spoilt.nd rfl (.inl rfl) (pv 3)
        (psst_cut (PST.of (ps_if (pt_cmpR op_gt (pe_callB call_len_str (by rfl) T.b_len PySem.boot_len (pa_cons (pv 3) pa_nil)) pe_int (nomark _)) (pss_one (ps_set (i := 4) sc__law_spoilt.nd rfl (.inl rfl) (pe_slice sl_str (pv 3) po_none (po_some (pe_un un_neg pe_int))))) pss_nil))
        (psst_cons (pst_set (i := 5) sc__law_spoilt.nd rfl (.inl rfl) (pet_ix (r := rIxL K) ix_list (pet_lst (pat_cons (CwR.PET.of (pe_op op_add_str (pv 3) pe_str)) (pat_cons (CwR.PET.of (pe_op op_add_str pe_str (pv 3))) (pat_cons (CwR.pet_replC (pv 3)) (pat_cons (CwR.pet_replC (pv 3)) (pat_cons (CwR.PET.of (pe_op op_add_str (pv 3) pe_str)) pat_nil)))))) (pe_op op_mod (pe_callTy call_int1 (by rfl) T.b_int (by decide +kernel) (pa_cons (pe_ix (r := rIxL K) ix_list (pv 1) pe_int (fun _ _ => rfl)) pa_nil)) pe_int) (fun _ _ => rfl)))
        (psst_cut (PST.of (ps_if (pt_cmpR op_eq (pe_ix (r := rIxL K) ix_list (pv 1) pe_int (fun _ _ => rfl)) pe_int (nomark _)) (pss_one (ps_set (i := 5) sc__law_spoilt.nd rfl (.inl rfl) (pe_ix (r := rIxL K) ix_list (pe_lst (pa_cons (pe_op op_add_str (pv 3) pe_str) (pa_cons (pe_op op_add_str (pv 3) pe_str) (pa_cons (pe_slice sl_str (pv 3) po_none (po_some (pe_un un_neg pe_int))) (pa_cons (pv 4) (pa_cons (pe_op op_add_str pe_str (pv 3)) pa_nil)))))) (pe_op op_mod (pe_callTy call_int1 (by rfl) T.b_int (by decide +kernel) (pa_cons (pe_ix (r := rIxL K) ix_list (pv 1) pe_int (fun _ _ => rfl)) pa_nil)) pe_int) (fun _ _ => rfl)))) pss_nil))
        (psst_cut (CwR.pst_if (pt_cmpR op_eq (pe_ix (r := rIxL K) ix_list (pv 1) pe_int (fun _ _ => rfl)) pe_int (nomark _)) (CwR.psst_one (pst_set (i := 5) sc__law_spoilt.nd rfl (.inl rfl) (pet_ix (r := rIxL K) ix_list (pet_lst (pat_cons (CwR.PET.of (pe_upper (pv 3))) (pat_cons (CwR.pet_replC (pv 3)) (pat_cons (CwR.PET.of (pe_op op_add_str (pv 3) pe_str)) (pat_cons (CwR.PET.of (pe_slice sl_str (pv 3) (po_some pe_int) po_none)) (pat_cons (CwR.PET.of pe_str) (pat_cons (CwR.PET.of pe_str) pat_nil))))))) (pe_op op_mod (pe_callTy call_int1 (by rfl) T.b_int (by decide +kernel) (pa_cons (pe_ix (r := rIxL K) ix_list (pv 1) pe_int (fun _ _ => rfl)) pa_nil)) pe_int) (fun _ _ => rfl)))) CwR.psst_nil)
        (psst_cut (PST.of (ps_if (pt_cmpR op_in_seq (pe_ix (r := rIxL K) ix_list (pv 1) pe_int (fun _ _ => rfl)) (pe_lst (pa_cons pe_int (pa_cons pe_int pa_nil))) (by rfl)) (pss_one (ps_set (i := 5) sc__law_spoilt.nd rfl (.inl rfl) (pe_call G_r hr (by rfl) D_r.g D_r.F.kp D_r.b .nil pass0 (pa_cons (pv 3) (pa_cons (pe_ix (r := rIxL K) ix_list (pv 1) pe_int (fun _ _ => rfl)) pa_nil))))) pss_nil))
        (psst_cut (PST.of (ps_if (pt_cmpR op_in_seq (pe_ix (r := rIxL K) ix_list (pv 1) pe_int (fun _ _ => rfl)) (pe_lst (pa_cons pe_int (pa_cons pe_int pa_nil))) (by rfl)) (pss_one (ps_set (i := 5) sc__law_spoilt.nd rfl (.inl rfl) (pe_ix (r := rIxL K) ix_list (pe_lst (pa_cons pe_str (pa_cons pe_str (pa_cons pe_str (pa_cons pe_str (pa_cons pe_str (pa_cons pe_str (pa_cons pe_str (pa_cons pe_str (pa_cons pe_str (pa_cons pe_str (pa_cons pe_str (pa_cons pe_str pa_nil))))))))))))) (pe_op op_mod (pe_callTy call_int1 (by rfl) T.b_int (by decide +kernel) (pa_cons (pe_ix (r := rIxL K) ix_list (pv 1) pe_int (fun _ _ => rfl)) pa_nil)) pe_int) (fun _ _ => rfl)))) pss_nil))
        (psst_cut (PST.of (ps_if (PW.pt (pw_and (pt_cmpR op_eq (pe_ix (r := rIxL K) ix_list (pv 1) pe_int (fun _ _ => rfl)) pe_int (nomark _)) (pw_and1 (pt_cmpR op_in_sign pe_str (pv 3) rfl)))) (pss_one (ps_set (i := 5) sc__law_spoilt.nd rfl (.inl rfl) (pe_ix (r := rIxL K) ix_list (pe_split (pv 3) pe_str) pe_int (fun _ _ => rfl)))) pss_nil))
        (psst_cut (PST.of (ps_if (pt_cmpR op_eq (pe_ix (r := rIxL K) ix_list (pv 1) pe_int (fun _ _ => rfl)) pe_int (nomark _)) (pss_one (ps_ret (pe_op op_cat (pe_slice sl_list (pv 0) po_none (po_some (pv 2))) (pe_slice sl_list (pv 0) (po_some (pe_op op_add (pv 2) pe_int)) po_none)))) pss_nil))
        (psst_cut (PST.of (ps_if (pt_cmpR op_eq (pe_ix (r := rIxL K) ix_list (pv 1) pe_int (fun _ _ => rfl)) pe_int (nomark _)) (pss_one (ps_ret (pe_op op_cat (pe_op op_cat (pe_slice sl_list (pv 0) po_none (po_some (pv 2))) (pe_lst (pa_cons (pv 3) pa_nil))) (pe_slice sl_list (pv 0) (po_some (pv 2)) po_none)))) pss_nil))
        (psst_cut (PST.of (ps_if (pt_cmpR op_eq (pe_ix (r := rIxL K) ix_list (pv 1) pe_int (fun _ _ => rfl)) pe_int (nomark _)) (pss_one (ps_ret (pe_op op_cat (pe_op op_cat (pe_slice sl_list (pv 0) po_none (po_some (pe_op op_add (pv 2) pe_int))) (pe_lst (pa_cons (pe_ix (r := rIxL K) ix_list (pe_lst (pa_cons pe_str (pa_cons pe_str (pa_cons pe_str (pa_cons pe_str pa_nil))))) (pe_op op_mod (pe_callTy call_int1 (by rfl) T.b_int (by decide +kernel) (pa_cons (pe_ix (r := rIxL K) ix_list (pv 1) pe_int (fun _ _ => rfl)) pa_nil)) pe_int) (fun _ _ => rfl)) pa_nil))) (pe_slice sl_list (pv 0) (po_some (pe_op op_add (pv 2) pe_int)) po_none)))) pss_nil))
        (psst_cut (PST.of (ps_if (pt_cmpR op_eq (pe_ix (r := rIxL K) ix_list (pv 1) pe_int (fun _ _ => rfl)) pe_int (nomark _)) (pss_one (ps_ret (pe_op op_cat (pe_op op_cat (pe_op op_cat (pe_lst (pa_cons (pe_ix (r := rIxL K) ix_list (pv 0) (pv 2) (fun _ _ => rfl)) pa_nil)) (pe_slice sl_list (pv 0) (po_some pe_int) (po_some (pv 2)))) (pe_lst (pa_cons (pe_ix (r := rIxL K) ix_list (pv 0) pe_int (fun _ _ => rfl)) pa_nil))) (pe_slice sl_list (pv 0) (po_some (pe_op op_add (pv 2) pe_int)) po_none)))) pss_nil))
        (psst_cut (PST.of (ps_if (pt_cmpR op_eq (pe_ix (r := rIxL K) ix_list (pv 1) pe_int (fun _ _ => rfl)) pe_int (nomark _)) (pss_one (ps_ret (pe_ix (r := rIxL K) ix_list (pe_lst (pa_cons (pe_op op_cat (pe_lst (pa_cons pe_str pa_nil)) (pv 0)) (pa_cons (pe_op op_cat (pv 0) (pe_lst (pa_cons pe_str pa_nil))) (pa_cons (pe_op op_cat (pv 0) (pe_lst (pa_cons pe_str (pa_cons pe_str pa_nil)))) (pa_cons (pe_slice sl_list (pv 0) (po_some pe_int) po_none) pa_nil))))) (pe_op op_mod (pe_callTy call_int1 (by rfl) T.b_int (by decide +kernel) (pa_cons (pe_ix (r := rIxL K) ix_list (pv 1) pe_int (fun _ _ => rfl)) pa_nil)) pe_int) (fun _ _ => rfl)))) pss_nil))
        (CwR.psst_one (PST.of (ps_ret (pe_op op_cat (pe_op op_cat (pe_slice sl_list (pv 0) po_none (po_some (pv 2))) (pe_lst (pa_cons (pv 5) pa_nil))) (pe_slice sl_list (pv 0) (po_some (pe_op op_add (pv 2) pe_int)) po_none)))))))))))))))))))), ?_⟩
    obtain ⟨n0, n1⟩ := hn
    have hlen : ((ls.map V.str).length : Int) = (ls.length : Int) := by rw [List.length_map]
    have hpos : 0 < ls.length := List.length_pos_iff.mpr ne
    have f := fmod_in x1 (n := (ls.length : Int)) (by omega)
    obtain ⟨k, hk, hk2⟩ : ∃ k : Nat, x1.fmod ((ls.map V.str).length : Int) = (k : Int) ∧ k < ls.length := ⟨(x1.fmod (ls.length : Int)).toNat, by rw [hlen]; omega, by omega⟩
    obtain ⟨l, hl1⟩ : ∃ l, ls[k]? = some l := ⟨ls[k], List.getElem?_eq_getElem hk2⟩
    have pl := hp l (List.mem_of_getElem? hl1)
    have lz := pl.1
    have hz : l.length ≤ sizeLine := Nat.le_trans (Nat.le_trans lz n1) (by decide)
    have le1 : ∀ k, k ≤ 100 → k + l.length ≤ sizeLine := fun k hk => Nat.le_trans (by omega) (by decide : 20000 ≤ sizeLine)
    have le2 : ∀ k, k ≤ 100 → l.length + k ≤ sizeLine := fun k hk => Nat.le_trans (by omega) (by decide : 20000 ≤ sizeLine)
    refine ⟨_, rfl, r, _, _, _, rfl, rfl, hr2, at_of (j := 1) rfl rfl, .inl ⟨_, rfl, _, rfl, a, _, rfl, .inl (.inl (.inl ha)), _, _, rfl, rfl, by rw [hlen]; show (ls.length : Int) ≠ 0; omega, ?_⟩⟩
    rw [show (fun i j : Int => V.int (i.fmod j)) x1 ((ls.map V.str).length : Int) = V.int (k : Int) from congrArg V.int hk]
    refine ⟨_, rfl, _, rfl, a, _, _, _, rfl, rfl, .inl (.inl ha), atI_nat (by rw [List.getElem?_map, hl1]; rfl), ?_⟩
    refine ⟨_, rfl, _, _, rfl, rfl, le2 1 (by decide), ?_⟩
    refine ⟨fun σ' H' => ∃ lg, σ' = [some (.ref a), some (.ref r), some (.int (k : Int)), some (.str l), some (.str lg), none] ∧ Pl (n + 1) lg ∧ H = H', ?_, fun σ' H' m => ?_⟩
    · refine ⟨_, rfl, l, rfl, hz, _, _, rfl, rfl, _, rfl, ite2 (fun _ => ?_) (fun _ => ?_)⟩
      · exact ⟨_, rfl, _, rfl, _, rfl, l, rfl, hz, _, rfl, (pl.cut none (some (-1))).le (Nat.le_succ n), rfl⟩
      · exact ⟨_, rfl, pl.app (pl_of (n := 1) (by decide)), rfl⟩
    obtain ⟨lg, rfl, plg, rfl⟩ := m
    have llg := plg.1
    obtain ⟨l0, hl0⟩ : ∃ l0, ls[0]? = some l0 := ⟨ls[0]'(by cases ls; exact absurd rfl ne; exact Nat.succ_pos _), List.getElem?_eq_getElem _⟩
    have done : ∀ (H2 : Hp) (u : Addr) (zs : List Str), Same H H2 → H2 u = some (.lst (zs.map V.str)) → zs.length ≤ 2 * ls.length + 4 → (∀ z ∈ zs, z ∈ ls ∨ Pl (3 * n + 2) z) → Q (.ref u) H2 := fun H2 u zs s e le pz => q H2 u zs s e le fun z hz => (pz z hz).elim (fun h => (hp z h).le (by omega)) id
    have lim : ∀ k, k ≤ 1000 → k ≤ sizeLine := fun k h => Nat.le_trans h (by decide)
    have cl := cutG_len ls
    have ix : ∀ (N : Int), 0 < N → 0 ≤ x2 % N ∧ x2 % N < N := fun N h => ⟨Int.emod_nonneg _ (by omega), Int.emod_lt_of_pos _ h⟩
    -- the first choice
    refine ⟨_, rfl, _, _, rfl, rfl, le2 1 (by decide), _, rfl, _, _, rfl, rfl, le1 1 (by decide), _, rfl, l, rfl, ?_, _, rfl, l, rfl, ?_, _, rfl, _, _, rfl, rfl, le2 1 (by decide), by show 5 ≤ sizeLine; decide, fun p np => ?_⟩
    · have : (Str.ofString "  ").length = 2 := rfl
      rw [this]
      omega
    · have : (Str.ofString "\t").length = 1 := rfl
      rw [this]
      omega
    obtain ⟨y, hy, ey⟩ := pick (ys := [l ++ Str.ofString " ", Str.ofString " " ++ l, Txt.replace l (Str.ofString " ") (Str.ofString "  "), Txt.replace l (Str.ofString " ") (Str.ofString "\t"), l ++ Str.ofString "\t"]) (ix 5 (by decide)).1 (ix 5 (by decide)).2
    have py : Pl (3 * n + 2) y := by
      simp only [List.mem_cons, List.not_mem_nil, or_false] at hy
      rcases hy with e | e | e | e | e <;> rw [e]
      · exact (pl.app (pl_of (n := 1) (by decide +kernel))).le (by omega)
      · exact ((pl_of (n := 1) (by decide +kernel)).app pl).le (by omega)
      · exact pl.repl (pl_of (n := 2) (by decide +kernel)) (by decide) (by decide)
      · exact pl.repl (pl_of (n := 1) (by decide +kernel)) (by decide) (by decide)
      · exact (pl.app (pl_of (n := 1) (by decide +kernel))).le (by omega)
    have s1 := same_upd (o := .lst [.str (l ++ Str.ofString " "), .str (Str.ofString " " ++ l), .str (Txt.replace l (Str.ofString " ") (Str.ofString "  ")), .str (Txt.replace l (Str.ofString " ") (Str.ofString "\t")), .str (l ++ Str.ofString "\t")]) np
    refine ⟨_, rfl, r, _, _, _, rfl, rfl, s1.seq hr2, at_of (j := 2) rfl rfl, .inl ⟨_, rfl, _, _, rfl, rfl, by show (0 : Int) < 5; decide, p, _, _, _, rfl, rfl, .inl (.inl upd_same), ey, ?_⟩⟩
    refine ⟨fun σ' H' => ∃ y, σ' = [some (.ref a), some (.ref r), some (.int (k : Int)), some (.str l), some (.str lg), some (.str y)] ∧ Pl (3 * n + 2) y ∧ Same H H', ?_, fun σ' H' m => ?_⟩
    · refine ⟨_, rfl, r, _, _, _, rfl, rfl, s1.seq hr2, at_of (j := 0) rfl rfl, rfl, _, rfl, ite2 (fun _ => ?_) (fun _ => ⟨y, rfl, py, s1⟩)⟩
      refine ⟨_, rfl, _, _, rfl, rfl, le2 2 (by decide), _, rfl, _, _, rfl, rfl, le2 3 (by decide), _, rfl, _, rfl, _, rfl, l, rfl, hz, _, rfl, _, rfl, _, _, rfl, rfl, le1 1 (by decide), by show 5 ≤ sizeLine; decide, fun p np => ?_⟩
      obtain ⟨y2, hy, ey⟩ := pick (ys := [l ++ Str.ofString " 0", l ++ Str.ofString " 12", cutS l none (some (-1)), lg, Str.ofString "-" ++ l]) (ix 5 (by decide)).1 (ix 5 (by decide)).2
      have py2 : Pl (3 * n + 2) y2 := by
        simp only [List.mem_cons, List.not_mem_nil, or_false] at hy
        rcases hy with e | e | e | e | e <;> rw [e]
        · exact (pl.app (pl_of (n := 5) (by decide +kernel))).le (by omega)
        · exact (pl.app (pl_of (n := 5) (by decide +kernel))).le (by omega)
        · exact (pl.cut _ _).le (by omega)
        · exact plg.le (by omega)
        · exact ((pl_of (n := 5) (by decide +kernel)).app pl).le (by omega)
      exact ⟨_, rfl, r, _, _, _, rfl, rfl, (s1.trans (same_upd np)).seq hr2, at_of (j := 2) rfl rfl, .inl ⟨_, rfl, _, _, rfl, rfl, by show (0 : Int) < 5; decide, p, _, _, _, rfl, rfl, .inl (.inl upd_same), ey, y2, rfl, py2, s1.trans (same_upd np)⟩⟩
    obtain ⟨y, rfl, py, s1⟩ := m
    refine ⟨fun σ' H' => ∃ y, σ' = [some (.ref a), some (.ref r), some (.int (k : Int)), some (.str l), some (.str lg), some (.str y)] ∧ Pl (3 * n + 2) y ∧ Same H H', ?_, fun σ' H' m => ?_⟩
    · refine ⟨_, rfl, r, _, _, _, rfl, rfl, s1.seq hr2, at_of (j := 0) rfl rfl, rfl, _, rfl, ite2 (fun _ => ?_) (fun _ => ⟨y, rfl, py, s1⟩)⟩
      refine ⟨_, rfl, ⟨_, rfl⟩, l, rfl, rfl, by omega, _, rfl, l, rfl, by show l.length + (l.length + 1) * 1 ≤ 16777216; omega, _, rfl, _, _, rfl, rfl, le2 1 (by decide), _, rfl, _, rfl, l, rfl, hz, by show 6 ≤ sizeLine; decide, fun p np => ?_⟩
      obtain ⟨y2, hy, ey⟩ := pick (ys := [Txt.upper l, Txt.replace l (Str.ofString "r") (Str.ofString "R"), l ++ Str.ofString "s", cutS l (some 1) none, Str.ofString "", Str.ofString " "]) (ix 6 (by decide)).1 (ix 6 (by decide)).2
      have py2 : Pl (3 * n + 2) y2 := by
        simp only [List.mem_cons, List.not_mem_nil, or_false] at hy
        rcases hy with e | e | e | e | e | e <;> rw [e]
        · exact pl.up.le (by omega)
        · exact pl.repl (pl_of (n := 1) (by decide +kernel)) (by decide) (by decide)
        · exact (pl.app (pl_of (n := 5) (by decide +kernel))).le (by omega)
        · exact (pl.cut _ _).le (by omega)
        · exact (pl_of (n := 20) (by decide +kernel)).le (by omega)
        · exact (pl_of (n := 20) (by decide +kernel)).le (by omega)
      exact ⟨_, rfl, r, _, _, _, rfl, rfl, (s1.trans (same_upd np)).seq hr2, at_of (j := 2) rfl rfl, .inl ⟨_, rfl, _, _, rfl, rfl, by show (0 : Int) < 6; decide, p, _, _, _, rfl, rfl, .inl (.inl upd_same), ey, y2, rfl, py2, s1.trans (same_upd np)⟩⟩
    obtain ⟨y, rfl, py, s1⟩ := m
    -- 3, 4
    refine ⟨fun σ' H' => ∃ y, σ' = [some (.ref a), some (.ref r), some (.int (k : Int)), some (.str l), some (.str lg), some (.str y)] ∧ Pl (3 * n + 2) y ∧ Same H H', ?_, fun σ' H' m => ?_⟩
    · refine ⟨_, rfl, r, _, _, _, rfl, rfl, s1.seq hr2, at_of (j := 0) rfl rfl, by show 2 ≤ sizeLine; decide, fun p0 np0 => ?_⟩
      have s2 := s1.trans (same_upd (o := .lst [.int 3, .int 4]) np0)
      refine ⟨p0, _, rfl, .inl (.inl (.inl upd_same)), rfl, rfl, _, rfl, ite2 (fun _ => ?_) (fun _ => ⟨y, rfl, py, s2⟩)⟩
      exact ⟨_, rfl, _, rfl, r, _, _, _, rfl, rfl, s2.seq hr2, at_of (j := 2) rfl rfl, l, x2, n, rfl, pl, by omega, fun H3 y3 s3 p3 => ⟨y3, rfl, p3.le (by omega), s2.trans s3⟩⟩
    obtain ⟨y, rfl, py, s1⟩ := m
    -- 5, 6
    refine ⟨fun σ' H' => ∃ y, σ' = [some (.ref a), some (.ref r), some (.int (k : Int)), some (.str l), some (.str lg), some (.str y)] ∧ Pl (3 * n + 2) y ∧ Same H H', ?_, fun σ' H' m => ?_⟩
    · refine ⟨_, rfl, r, _, _, _, rfl, rfl, s1.seq hr2, at_of (j := 0) rfl rfl, by show 2 ≤ sizeLine; decide, fun p0 np0 => ?_⟩
      have s2 := s1.trans (same_upd (o := .lst [.int 5, .int 6]) np0)
      refine ⟨p0, _, rfl, .inl (.inl (.inl upd_same)), rfl, rfl, _, rfl, ite2 (fun _ => ?_) (fun _ => ⟨y, rfl, py, s2⟩)⟩
      refine ⟨by show 12 ≤ sizeLine; decide, fun p np => ?_⟩
      obtain ⟨y2, hy, ey⟩ := pick (ys := [Str.ofString "lot 3", Str.ofString "cross 0", Str.ofString "pin", Str.ofString "pin 1 2", Str.ofString "track 1", Str.ofString "mirror 0", Str.ofString "turn 1 2", Str.ofString "course", Str.ofString "drop -3", Str.ofString "merge 7", Str.ofString "widths", Str.ofString "track 1 2 3"]) (ix 12 (by decide)).1 (ix 12 (by decide)).2
      have py2 : Pl (3 * n + 2) y2 := by
        simp only [List.mem_cons, List.not_mem_nil, or_false] at hy
        rcases hy with e | e | e | e | e | e | e | e | e | e | e | e <;> (rw [e]; exact (pl_of (n := 20) (by decide +kernel)).le (by omega))
      exact ⟨_, rfl, r, _, _, _, rfl, rfl, (s2.trans (same_upd np)).seq hr2, at_of (j := 2) rfl rfl, .inl ⟨_, rfl, _, _, rfl, rfl, by show (0 : Int) < 12; decide, p, _, _, _, rfl, rfl, .inl (.inl upd_same), ey, y2, rfl, py2, s2.trans (same_upd np)⟩⟩
    obtain ⟨y, rfl, py, s1⟩ := m
    -- 7
    refine ⟨fun σ' H' => ∃ y, σ' = [some (.ref a), some (.ref r), some (.int (k : Int)), some (.str l), some (.str lg), some (.str y)] ∧ Pl (3 * n + 2) y ∧ Same H H', ?_, fun σ' H' m => ?_⟩
    · refine ⟨_, rfl, r, _, _, _, rfl, rfl, s1.seq hr2, at_of (j := 0) rfl rfl, rfl, _, rfl, ite2 (fun _ => ⟨_, rfl, 32, l, rfl, rfl, _, rfl, ite2 (fun _ => ?_) (fun _ => ⟨y, rfl, py, s1⟩)⟩) (fun _ => ite2 (fun z => by cases z) fun _ => ⟨y, rfl, py, s1⟩)⟩
      refine ⟨_, rfl, ⟨_, rfl⟩, l, _, rfl, rfl, rfl, Nat.le_trans (Nat.add_le_add_right (Nat.le_trans lz n1) 2) (by decide), fun p np => ?_⟩
      obtain ⟨w0, _, _⟩ := wds_facts l
      have wp := wds_pl pl
      have s2 := fun o => s1.trans (same_upd (o := o) np)
      rw [show Txt.split l (Str.ofString " ") = wdsOf l from rfl]
      cases hw : wdsOf l with
      | nil => exact absurd hw w0
      | cons z rr => exact ⟨p, _, _, _, rfl, rfl, .inl (.inl upd_same), at_of (j := 0) rfl rfl, z, rfl, (wp z (by rw [hw]; exact List.mem_cons_self)).le (by omega), s2 _⟩
    obtain ⟨y, rfl, py, s1⟩ := m
    -- 8
    refine ⟨fun σ' H' => ∃ y, σ' = [some (.ref a), some (.ref r), some (.int (k : Int)), some (.str l), some (.str lg), some (.str y)] ∧ Pl (3 * n + 2) y ∧ Same H H', ?_, fun σ' H' m => ?_⟩
    · refine ⟨_, rfl, r, _, _, _, rfl, rfl, s1.seq hr2, at_of (j := 0) rfl rfl, rfl, _, rfl, ite2 (fun _ => ?_) (fun _ => ⟨y, rfl, py, s1⟩)⟩
      have ga := s1 _ _ ha
      refine ⟨_, rfl, _, rfl, _, rfl, a, _, rfl, .inl (.inl (ga)), fun p0 np0 => ?_⟩
      refine ⟨_, rfl, _, rfl, _, _, rfl, rfl, _, rfl, a, _, rfl, .inl (.inl (((Same.refl _).trans (same_upd np0)) _ _ ga)), fun p1 np1 => ?_⟩
      refine ⟨p0, p1, _, _, rfl, rfl, ((same_upd np1) _ _ upd_same), upd_same, lim _ (by have := cl none (some (k : Int)); have := cl (some ((k : Int) + 1)) none; simp only [List.length_append, List.length_cons, List.length_nil, cut_map, List.length_map] <;> omega), fun p2 np2 => ?_⟩
      refine done _ p2 (cutG ls none (some (k : Int)) ++ cutG ls (some ((k : Int) + 1)) none) (s1.trans ((((Same.refl _).trans (same_upd np0)).trans (same_upd np1)).trans (same_upd np2))) (by rw [upd_same]; simp only [cut_map, List.map_append, List.map_cons, List.map_nil]) ?_ fun z hz => ?_
      · have := cl none (some (k : Int)); have := cl (some ((k : Int) + 1)) none
        simp only [List.length_append, List.length_cons, List.length_nil] <;> omega
      · simp only [List.mem_append, List.mem_cons, List.not_mem_nil, or_false] at hz
        rcases hz with h | h
        · exact .inl (cutG_mem z h)
        · exact .inl (cutG_mem z h)
    obtain ⟨y, rfl, py, s1⟩ := m
    -- 9
    refine ⟨fun σ' H' => ∃ y, σ' = [some (.ref a), some (.ref r), some (.int (k : Int)), some (.str l), some (.str lg), some (.str y)] ∧ Pl (3 * n + 2) y ∧ Same H H', ?_, fun σ' H' m => ?_⟩
    · refine ⟨_, rfl, r, _, _, _, rfl, rfl, s1.seq hr2, at_of (j := 0) rfl rfl, rfl, _, rfl, ite2 (fun _ => ?_) (fun _ => ⟨y, rfl, py, s1⟩)⟩
      have ga := s1 _ _ ha
      refine ⟨_, rfl, _, rfl, _, rfl, a, _, rfl, .inl (.inl (ga)), fun p0 np0 => ?_⟩
      refine ⟨_, rfl, by show 1 ≤ sizeLine; decide, fun p1 np1 => ?_⟩
      refine ⟨p0, p1, _, _, rfl, rfl, ((same_upd np1) _ _ upd_same), upd_same, lim _ (by have := cl none (some (k : Int)); have := cl (some (k : Int)) none; simp only [List.length_append, List.length_cons, List.length_nil, cut_map, List.length_map] <;> omega), fun p2 np2 => ?_⟩
      refine ⟨_, rfl, _, rfl, _, rfl, a, _, rfl, .inl (.inl (((((Same.refl _).trans (same_upd np0)).trans (same_upd np1)).trans (same_upd np2)) _ _ ga)), fun p3 np3 => ?_⟩
      refine ⟨p2, p3, _, _, rfl, rfl, ((same_upd np3) _ _ upd_same), upd_same, lim _ (by have := cl none (some (k : Int)); have := cl (some (k : Int)) none; simp only [List.length_append, List.length_cons, List.length_nil, cut_map, List.length_map] <;> omega), fun p4 np4 => ?_⟩
      refine done _ p4 (cutG ls none (some (k : Int)) ++ [l] ++ cutG ls (some (k : Int)) none) (s1.trans ((((((Same.refl _).trans (same_upd np0)).trans (same_upd np1)).trans (same_upd np2)).trans (same_upd np3)).trans (same_upd np4))) (by rw [upd_same]; simp only [cut_map, List.map_append, List.map_cons, List.map_nil]) ?_ fun z hz => ?_
      · have := cl none (some (k : Int)); have := cl (some (k : Int)) none
        simp only [List.length_append, List.length_cons, List.length_nil] <;> omega
      · simp only [List.mem_append, List.mem_cons, List.not_mem_nil, or_false] at hz
        rcases hz with (h | h) | h
        · exact .inl (cutG_mem z h)
        · exact .inr (by rw [h]; exact pl.le (by omega))
        · exact .inl (cutG_mem z h)
    obtain ⟨y, rfl, py, s1⟩ := m
    -- 10
    refine ⟨fun σ' H' => ∃ y, σ' = [some (.ref a), some (.ref r), some (.int (k : Int)), some (.str l), some (.str lg), some (.str y)] ∧ Pl (3 * n + 2) y ∧ Same H H', ?_, fun σ' H' m => ?_⟩
    · refine ⟨_, rfl, r, _, _, _, rfl, rfl, s1.seq hr2, at_of (j := 0) rfl rfl, rfl, _, rfl, ite2 (fun _ => ?_) (fun _ => ⟨y, rfl, py, s1⟩)⟩
      have ga := s1 _ _ ha
      refine ⟨_, rfl, _, rfl, _, _, rfl, rfl, _, rfl, a, _, rfl, .inl (.inl (ga)), fun p0 np0 => ?_⟩
      refine ⟨by show 4 ≤ sizeLine; decide, fun p1 np1 => ?_⟩
      obtain ⟨y2, hy, ey⟩ := pick (ys := [Str.ofString "", Str.ofString " ", Str.ofString "mirror", Str.ofString "0"]) (ix 4 (by decide)).1 (ix 4 (by decide)).2
      have py2 : Pl (3 * n + 2) y2 := by
        simp only [List.mem_cons, List.not_mem_nil, or_false] at hy
        rcases hy with e | e | e | e <;> (rw [e]; exact (pl_of (n := 20) (by decide +kernel)).le (by omega))
      refine ⟨_, rfl, r, _, _, _, rfl, rfl, (s1.trans (((Same.refl _).trans (same_upd np0)).trans (same_upd np1))).seq hr2, at_of (j := 2) rfl rfl, .inl ⟨_, rfl, _, _, rfl, rfl, by show (0 : Int) < 4; decide, p1, _, _, _, rfl, rfl, .inl (.inl (upd_same)), ey, ?_⟩⟩
      refine ⟨by show 1 ≤ sizeLine; decide, fun p2 np2 => ?_⟩
      refine ⟨p0, p2, _, _, rfl, rfl, ((same_upd np2) _ _ ((same_upd np1) _ _ upd_same)), upd_same, lim _ (by have := cl none (some ((k : Int) + 1)); have := cl (some ((k : Int) + 1)) none; simp only [List.length_append, List.length_cons, List.length_nil, cut_map, List.length_map] <;> omega), fun p3 np3 => ?_⟩
      refine ⟨_, rfl, _, rfl, _, _, rfl, rfl, _, rfl, a, _, rfl, .inl (.inl ((((((Same.refl _).trans (same_upd np0)).trans (same_upd np1)).trans (same_upd np2)).trans (same_upd np3)) _ _ ga)), fun p4 np4 => ?_⟩
      refine ⟨p3, p4, _, _, rfl, rfl, ((same_upd np4) _ _ upd_same), upd_same, lim _ (by have := cl none (some ((k : Int) + 1)); have := cl (some ((k : Int) + 1)) none; simp only [List.length_append, List.length_cons, List.length_nil, cut_map, List.length_map] <;> omega), fun p5 np5 => ?_⟩
      refine done _ p5 (cutG ls none (some ((k : Int) + 1)) ++ [y2] ++ cutG ls (some ((k : Int) + 1)) none) (s1.trans (((((((Same.refl _).trans (same_upd np0)).trans (same_upd np1)).trans (same_upd np2)).trans (same_upd np3)).trans (same_upd np4)).trans (same_upd np5))) (by rw [upd_same]; simp only [cut_map, List.map_append, List.map_cons, List.map_nil]) ?_ fun z hz => ?_
      · have := cl none (some ((k : Int) + 1)); have := cl (some ((k : Int) + 1)) none
        simp only [List.length_append, List.length_cons, List.length_nil] <;> omega
      · simp only [List.mem_append, List.mem_cons, List.not_mem_nil, or_false] at hz
        rcases hz with (h | h) | h
        · exact .inl (cutG_mem z h)
        · exact .inr (by rw [h]; exact py2)
        · exact .inl (cutG_mem z h)
    obtain ⟨y, rfl, py, s1⟩ := m
    -- 11
    refine ⟨fun σ' H' => ∃ y, σ' = [some (.ref a), some (.ref r), some (.int (k : Int)), some (.str l), some (.str lg), some (.str y)] ∧ Pl (3 * n + 2) y ∧ Same H H', ?_, fun σ' H' m => ?_⟩
    · refine ⟨_, rfl, r, _, _, _, rfl, rfl, s1.seq hr2, at_of (j := 0) rfl rfl, rfl, _, rfl, ite2 (fun _ => ?_) (fun _ => ⟨y, rfl, py, s1⟩)⟩
      have ga := s1 _ _ ha
      refine ⟨_, rfl, _, rfl, a, _, _, _, rfl, rfl, .inl (.inl ga), atI_nat (by rw [List.getElem?_map, hl1]; rfl), by show 1 ≤ sizeLine; decide, fun p0 np0 => ?_⟩
      refine ⟨_, rfl, _, rfl, _, rfl, _, rfl, a, _, rfl, .inl (.inl (((Same.refl _).trans (same_upd np0)) _ _ ga)), fun p1 np1 => ?_⟩
      refine ⟨p0, p1, _, _, rfl, rfl, ((same_upd np1) _ _ upd_same), upd_same, lim _ (by have := cl (some 1) (some (k : Int)); have := cl (some ((k : Int) + 1)) none; simp only [List.length_append, List.length_cons, List.length_nil, cut_map, List.length_map] <;> omega), fun p2 np2 => ?_⟩
      refine ⟨_, rfl, a, _, _, _, rfl, rfl, .inl (.inl (((((Same.refl _).trans (same_upd np0)).trans (same_upd np1)).trans (same_upd np2)) _ _ ga)), atI_nat (j := 0) (by rw [List.getElem?_map, hl0]; rfl), by show 1 ≤ sizeLine; decide, fun p3 np3 => ?_⟩
      refine ⟨p2, p3, _, _, rfl, rfl, ((same_upd np3) _ _ upd_same), upd_same, lim _ (by have := cl (some 1) (some (k : Int)); have := cl (some ((k : Int) + 1)) none; simp only [List.length_append, List.length_cons, List.length_nil, cut_map, List.length_map] <;> omega), fun p4 np4 => ?_⟩
      refine ⟨_, rfl, _, rfl, _, _, rfl, rfl, _, rfl, a, _, rfl, .inl (.inl (((((((Same.refl _).trans (same_upd np0)).trans (same_upd np1)).trans (same_upd np2)).trans (same_upd np3)).trans (same_upd np4)) _ _ ga)), fun p5 np5 => ?_⟩
      refine ⟨p4, p5, _, _, rfl, rfl, ((same_upd np5) _ _ upd_same), upd_same, lim _ (by have := cl (some 1) (some (k : Int)); have := cl (some ((k : Int) + 1)) none; simp only [List.length_append, List.length_cons, List.length_nil, cut_map, List.length_map] <;> omega), fun p6 np6 => ?_⟩
      refine done _ p6 ([l] ++ cutG ls (some 1) (some (k : Int)) ++ [l0] ++ cutG ls (some ((k : Int) + 1)) none) (s1.trans ((((((((Same.refl _).trans (same_upd np0)).trans (same_upd np1)).trans (same_upd np2)).trans (same_upd np3)).trans (same_upd np4)).trans (same_upd np5)).trans (same_upd np6))) (by rw [upd_same]; simp only [cut_map, List.map_append, List.map_cons, List.map_nil]) ?_ fun z hz => ?_
      · have := cl (some 1) (some (k : Int)); have := cl (some ((k : Int) + 1)) none
        simp only [List.length_append, List.length_cons, List.length_nil] <;> omega
      · simp only [List.mem_append, List.mem_cons, List.not_mem_nil, or_false] at hz
        rcases hz with ((h | h) | h) | h
        · exact .inr (by rw [h]; exact pl.le (by omega))
        · exact .inl (cutG_mem z h)
        · exact .inl (by rw [h]; exact List.mem_of_getElem? hl0)
        · exact .inl (cutG_mem z h)
    obtain ⟨y, rfl, py, s1⟩ := m
    -- 12
    refine ⟨fun σ' H' => ∃ y, σ' = [some (.ref a), some (.ref r), some (.int (k : Int)), some (.str l), some (.str lg), some (.str y)] ∧ Pl (3 * n + 2) y ∧ Same H H', ?_, fun σ' H' m => ?_⟩
    · refine ⟨_, rfl, r, _, _, _, rfl, rfl, s1.seq hr2, at_of (j := 0) rfl rfl, rfl, _, rfl, ite2 (fun _ => ?_) (fun _ => ⟨y, rfl, py, s1⟩)⟩
      have ga := s1 _ _ ha
      refine ⟨by show 1 ≤ sizeLine; decide, fun p0 np0 => ?_⟩
      refine ⟨_, rfl, p0, a, _, _, rfl, rfl, upd_same, ((Same.refl _).trans (same_upd np0)) _ _ ga, lim _ (by have := cl (some 1) none; simp only [List.length_append, List.length_cons, List.length_nil, cut_map, List.length_map] <;> omega), fun p1 np1 => ?_⟩
      refine ⟨_, rfl, ?_⟩
      refine ⟨by show 1 ≤ sizeLine; decide, fun p2 np2 => ?_⟩
      refine ⟨a, p2, _, _, rfl, rfl, ((((Same.refl _).trans (same_upd np0)).trans (same_upd np1)).trans (same_upd np2)) _ _ ga, upd_same, lim _ (by have := cl (some 1) none; simp only [List.length_append, List.length_cons, List.length_nil, cut_map, List.length_map] <;> omega), fun p3 np3 => ?_⟩
      refine ⟨_, rfl, ?_⟩
      refine ⟨by show 2 ≤ sizeLine; decide, fun p4 np4 => ?_⟩
      refine ⟨a, p4, _, _, rfl, rfl, ((((((Same.refl _).trans (same_upd np0)).trans (same_upd np1)).trans (same_upd np2)).trans (same_upd np3)).trans (same_upd np4)) _ _ ga, upd_same, lim _ (by have := cl (some 1) none; simp only [List.length_append, List.length_cons, List.length_nil, cut_map, List.length_map] <;> omega), fun p5 np5 => ?_⟩
      refine ⟨_, rfl, _, rfl, a, _, rfl, .inl (.inl ((((((((Same.refl _).trans (same_upd np0)).trans (same_upd np1)).trans (same_upd np2)).trans (same_upd np3)).trans (same_upd np4)).trans (same_upd np5)) _ _ ga)), fun p6 np6 => ?_⟩
      refine ⟨by show 4 ≤ sizeLine; decide, fun p7 np7 => ?_⟩
      obtain ⟨j, hj, ej⟩ : ∃ j : Nat, j < 4 ∧ x2 % 4 = (j : Int) := ⟨(x2 % 4).toNat, by have := ix 4 (by decide); omega, by have := ix 4 (by decide); omega⟩
      have lens := cl (some 1) none
      refine ⟨_, rfl, r, _, _, _, rfl, rfl, (s1.trans (((((((((Same.refl _).trans (same_upd np0)).trans (same_upd np1)).trans (same_upd np2)).trans (same_upd np3)).trans (same_upd np4)).trans (same_upd np5)).trans (same_upd np6)).trans (same_upd np7))).seq hr2, at_of (j := 2) rfl rfl, .inl ⟨_, rfl, _, _, rfl, rfl, by show (0 : Int) < 4; decide, ?_⟩⟩
      rw [show (fun i j : Int => V.int (i % j)) x2 4 = V.int (j : Int) from congrArg V.int ej]
      match j, hj with
      | 0, _ =>
        refine ⟨p7, _, _, _, rfl, rfl, .inl (.inl upd_same), atI_nat (j := 0) rfl, ?_⟩
        refine done _ p1 ([Str.ofString ""] ++ ls) (s1.trans (((((((((Same.refl _).trans (same_upd np0)).trans (same_upd np1)).trans (same_upd np2)).trans (same_upd np3)).trans (same_upd np4)).trans (same_upd np5)).trans (same_upd np6)).trans (same_upd np7))) ((((same_upd np7) _ _ ((same_upd np6) _ _ ((same_upd np5) _ _ ((same_upd np4) _ _ ((same_upd np3) _ _ ((same_upd np2) _ _ upd_same))))))).trans (by simp only [cut_map, List.map_append, List.map_cons, List.map_nil])) ?_ fun z hz => ?_
        · simp only [List.length_append, List.length_cons, List.length_nil] <;> omega
        · simp only [List.mem_append, List.mem_cons, List.not_mem_nil, or_false] at hz
          rcases hz with h | h
          · exact .inr (by rw [h]; exact pl_of (n := 0) (by decide +kernel) |>.le (by omega))
          · exact .inl h
      | 1, _ =>
        refine ⟨p7, _, _, _, rfl, rfl, .inl (.inl upd_same), atI_nat (j := 1) rfl, ?_⟩
        refine done _ p3 (ls ++ [Str.ofString ""]) (s1.trans (((((((((Same.refl _).trans (same_upd np0)).trans (same_upd np1)).trans (same_upd np2)).trans (same_upd np3)).trans (same_upd np4)).trans (same_upd np5)).trans (same_upd np6)).trans (same_upd np7))) ((((same_upd np7) _ _ ((same_upd np6) _ _ ((same_upd np5) _ _ ((same_upd np4) _ _ upd_same))))).trans (by simp only [cut_map, List.map_append, List.map_cons, List.map_nil])) ?_ fun z hz => ?_
        · simp only [List.length_append, List.length_cons, List.length_nil] <;> omega
        · simp only [List.mem_append, List.mem_cons, List.not_mem_nil, or_false] at hz
          rcases hz with h | h
          · exact .inl h
          · exact .inr (by rw [h]; exact pl_of (n := 0) (by decide +kernel) |>.le (by omega))
      | 2, _ =>
        refine ⟨p7, _, _, _, rfl, rfl, .inl (.inl upd_same), atI_nat (j := 2) rfl, ?_⟩
        refine done _ p5 (ls ++ [Str.ofString "", Str.ofString ""]) (s1.trans (((((((((Same.refl _).trans (same_upd np0)).trans (same_upd np1)).trans (same_upd np2)).trans (same_upd np3)).trans (same_upd np4)).trans (same_upd np5)).trans (same_upd np6)).trans (same_upd np7))) ((((same_upd np7) _ _ ((same_upd np6) _ _ upd_same))).trans (by simp only [cut_map, List.map_append, List.map_cons, List.map_nil])) ?_ fun z hz => ?_
        · simp only [List.length_append, List.length_cons, List.length_nil] <;> omega
        · simp only [List.mem_append, List.mem_cons, List.not_mem_nil, or_false] at hz
          rcases hz with h | h | h
          · exact .inl h
          · exact .inr (by rw [h]; exact pl_of (n := 0) (by decide +kernel) |>.le (by omega))
          · exact .inr (by rw [h]; exact pl_of (n := 0) (by decide +kernel) |>.le (by omega))
      | 3, _ =>
        refine ⟨p7, _, _, _, rfl, rfl, .inl (.inl upd_same), atI_nat (j := 3) rfl, ?_⟩
        refine done _ p6 (cutG ls (some 1) none) (s1.trans (((((((((Same.refl _).trans (same_upd np0)).trans (same_upd np1)).trans (same_upd np2)).trans (same_upd np3)).trans (same_upd np4)).trans (same_upd np5)).trans (same_upd np6)).trans (same_upd np7))) ((((same_upd np7) _ _ upd_same)).trans (by simp only [cut_map, List.map_append, List.map_cons, List.map_nil])) ?_ fun z hz => ?_
        · omega
        · skip
          exact .inl (cutG_mem z hz)
    obtain ⟨y, rfl, py, s1⟩ := m
    · have ga := s1 _ _ ha
      refine ⟨_, rfl, _, rfl, _, rfl, a, _, rfl, .inl (.inl (ga)), fun p0 np0 => ?_⟩
      refine ⟨_, rfl, by show 1 ≤ sizeLine; decide, fun p1 np1 => ?_⟩
      refine ⟨p0, p1, _, _, rfl, rfl, ((same_upd np1) _ _ upd_same), upd_same, lim _ (by have := cl none (some (k : Int)); have := cl (some ((k : Int) + 1)) none; simp only [List.length_append, List.length_cons, List.length_nil, cut_map, List.length_map] <;> omega), fun p2 np2 => ?_⟩
      refine ⟨_, rfl, _, rfl, _, _, rfl, rfl, _, rfl, a, _, rfl, .inl (.inl (((((Same.refl _).trans (same_upd np0)).trans (same_upd np1)).trans (same_upd np2)) _ _ ga)), fun p3 np3 => ?_⟩
      refine ⟨p2, p3, _, _, rfl, rfl, ((same_upd np3) _ _ upd_same), upd_same, lim _ (by have := cl none (some (k : Int)); have := cl (some ((k : Int) + 1)) none; simp only [List.length_append, List.length_cons, List.length_nil, cut_map, List.length_map] <;> omega), fun p4 np4 => ?_⟩
      refine done _ p4 (cutG ls none (some (k : Int)) ++ [y] ++ cutG ls (some ((k : Int) + 1)) none) (s1.trans ((((((Same.refl _).trans (same_upd np0)).trans (same_upd np1)).trans (same_upd np2)).trans (same_upd np3)).trans (same_upd np4))) (by rw [upd_same]; simp only [cut_map, List.map_append, List.map_cons, List.map_nil]) ?_ fun z hz => ?_
      · have := cl none (some (k : Int)); have := cl (some ((k : Int) + 1)) none
        simp only [List.length_append, List.length_cons, List.length_nil] <;> omega
      · simp only [List.mem_append, List.mem_cons, List.not_mem_nil, or_false] at hz
        rcases hz with (h | h) | h
        · exact .inl (cutG_mem z h)
        · exact .inr (by rw [h]; exact py)
        · exact .inl (cutG_mem z h)
end
end Own

namespace Own
open PySem PySem.Spec PyProof.Rows L2 TL
/-- the signs of a number's text -/
theorem pl_nt {i : Int} (h : i.natAbs < 10 ^ 18) : Pl 19 (nt i) := by
  have hn : ∀ n : Nat, ∀ c ∈ numL n, c < 128 ∧ c ≠ 10 := fun n c hc => by
    have := numL_digits n c hc
    omega
  unfold nt
  refine ⟨?_, ?_⟩
  · rw [len_tl, tl_int]
    cases i with
    | ofNat n => exact Nat.le_trans (numL_len (k := 18) (by decide) h) (by decide)
    | negSucc m => exact Nat.succ_le_succ (numL_len (k := 18) (by decide) h)
  · rw [tl_int]
    cases i with
    | ofNat n => exact hn n
    | negSucc m =>
      intro c hc
      rcases List.mem_cons.mp hc with e | e
      · omega
      · exact hn _ c e
theorem pl_word {x : Str} (h : x ∈ WORDS) : Pl 6 x := by
  unfold WORDS at h
  simp only [List.mem_cons, List.not_mem_nil, or_false] at h
  rcases h with e | e | e | e | e | e <;> (rw [e]; exact pl_of (by decide +kernel))
theorem word_free {x : Str} (h : x ∈ WORDS) : 32 ∉ tl x := by
  unfold WORDS at h
  simp only [List.mem_cons, List.not_mem_nil, or_false] at h
  rcases h with e | e | e | e | e | e <;> (rw [e]; decide +kernel)
/-- a deed's line -/
theorem wds_line {d : Deed} (h : LD d) : wdsOf (lineT d) = wdsD d := by
  refine split_join (y := " ") (s := 32) (S := []) rfl (by decide +kernel) (fun e => nomatch e) fun p hp => ?_
  rcases List.mem_cons.mp hp with e | e
  · rw [e]
    exact word_free h.2.1
  · obtain ⟨i, _, rfl⟩ := List.mem_map.mp e
    unfold nt
    rw [tl_int]
    exact intL_free (.inl (by decide))
theorem pl_line {d : Deed} (h : LD d) : Pl 46 (lineT d) := by
  have few := h.1.few
  have hi := h.2.2
  have hw := pl_word h.2.1
  obtain ⟨y, r⟩ := d
  have s1 : Pl 1 (Str.ofString " ") := pl_of (by decide +kernel)
  match r, few, hi with
  | [], _, _ =>
    rw [show lineT (y, []) = y from join_one _ _]
    exact hw.le (by decide)
  | [i], _, hi =>
    have e : lineT (y, [i]) = y ++ " " ++ nt i := by
      show Txt.join " " ([y] ++ [nt i]) = _
      rw [join_snoc, join_one]
    rw [e]
    exact ((hw.app s1).app (pl_nt (hi i (by simp)))).le (by decide)
  | [i, j], _, hi =>
    have e : lineT (y, [i, j]) = y ++ " " ++ nt i ++ " " ++ nt j := by
      show Txt.join " " ([y, nt i] ++ [nt j]) = _
      rw [join_snoc]
      show Txt.join " " ([y] ++ [nt i]) ++ " " ++ nt j = _
      rw [join_snoc, join_one]
    rw [e]
    exact ((((hw.app s1).app (pl_nt (hi i (by simp)))).app s1).app (pl_nt (hi j (by simp)))).le (by decide)
  | _ :: _ :: _ :: _, few, _ =>
    simp only [List.length_cons] at few
    omega
theorem rd_line {d : Deed} (h : LD d) : rdL cN (lineT d) = some d := by
  unfold rdL
  rw [wds_line h]
  have hg := h.1
  unfold GoodD at hg
  have hc : cN d.1 = some d.2.length := by
    unfold cN
    rw [hg]
    rfl
  show (match cN d.1 with
    | none => none
    | some k => if ((d.2.map nt).all fun z => isNum (tl z)) = true ∧ (d.2.map nt).length = k then some (d.1, (d.2.map nt).map numV) else none) = some d
  rw [hc]
  have h1 : ((d.2.map nt).all fun z => isNum (tl z)) = true := by
    rw [List.all_eq_true]
    intro z hz
    obtain ⟨i, _, rfl⟩ := List.mem_map.mp hz
    unfold nt
    rw [tl_int]
    exact isNum_int i
  have h2 : (d.2.map nt).map numV = d.2 := by
    rw [List.map_map]
    conv => rhs; rw [← List.map_id d.2]
    refine List.map_congr_left fun i hi => ?_
    have hl := (pl_nt (h.2.2 i hi)).1
    unfold nt at hl
    rw [len_tl, tl_int] at hl
    exact numV_int (by omega)
  show (if _ then _ else _) = _
  rw [if_pos ⟨h1, List.length_map ..⟩, h2]
theorem rd_first : rdL c0 (Str.ofString "course") = some (Str.ofString "course", []) := by
  have e : wdsOf (Str.ofString "course") = [Str.ofString "course"] := by
    rw [show wdsOf (Str.ofString "course") = Txt.split (Txt.join " " [Str.ofString "course"]) " " by rw [join_one]; rfl]
    refine split_join (y := " ") (s := 32) (S := []) rfl (by decide +kernel) (fun e => nomatch e) fun p hp => ?_
    rw [List.mem_singleton.mp hp]
    decide +kernel
  unfold rdL
  rw [e]
  rfl
end Own

namespace Own
open PySem PySem.Spec PyProof.Rows L2 TL
theorem joinL_len (s : List Nat) (n : Nat) : ∀ {ls : List (List Nat)}, (∀ z ∈ ls, z.length ≤ n) → (joinL s ls).length ≤ ls.length * (n + s.length)
  | [], _ => by simp [joinL]
  | [a], h => by
    have := h a List.mem_cons_self
    simp only [joinL, List.length_cons, List.length_nil, Nat.zero_add, Nat.one_mul]
    omega
  | a :: b :: r, h => by
    have h1 := h a List.mem_cons_self
    have h2 := joinL_len s n (ls := b :: r) fun z hz => h z (List.mem_cons_of_mem _ hz)
    rw [show joinL s (a :: b :: r) = a ++ (s ++ joinL s (b :: r)) by simp [joinL]]
    rw [List.length_append, List.length_append, List.length_cons (a := a), Nat.succ_mul]
    omega
theorem joinT_len {n : Nat} {ls : List Str} (h : ∀ z ∈ ls, Pl n z) : (Txt.join "\n" ls).length ≤ ls.length * (n + 1) := by
  rw [len_tl, join_eq, tl_join]
  have := joinL_len (tl (Str.ofString "\n")) n (ls := ls.map tl) fun z hz => by
    obtain ⟨y, hy, rfl⟩ := List.mem_map.mp hz
    rw [← len_tl]
    exact (h y hy).1
  rw [List.length_map] at this
  exact this
theorem lines_join {n : Nat} {ls : List Str} (ne : ls ≠ []) (h : ∀ z ∈ ls, Pl n z) : linesOf (Txt.join "\n" ls) = ls :=
  split_join (y := "\n") (s := 10) (S := []) rfl (by decide +kernel) ne fun p hp hc => ((h p hp).2 10 hc).2 rfl
theorem lines_empty : linesOf (Str.ofString "") = [Str.ofString ""] := by
  have h := lines_join (n := 0) (ls := [Str.ofString ""]) (fun e => nomatch e) fun z hz => by
    rw [List.mem_singleton.mp hz]
    exact pl_of (by decide +kernel)
  rw [join_one] at h
  exact h
/-- a text that parse_course may be asked of -/
def Fit (x : Str) : Prop := x.length ≤ 100000 ∧ (linesOf x).length ≤ 800 ∧ ∀ l ∈ linesOf x, l.length ≤ 500
theorem fit {n : Nat} {ls : List Str} (h : ∀ z ∈ ls, Pl n z) (hn : n ≤ 500) (hl : ls.length ≤ 190) : Fit (Txt.join "\n" ls) := by
  refine ⟨Nat.le_trans (joinT_len h) (Nat.le_trans (Nat.mul_le_mul hl (Nat.add_le_add_right hn 1)) (by decide)), ?_⟩
  cases ls with
  | nil =>
    rw [show Txt.join "\n" [] = Str.ofString "" from ext_tl (by rw [join_eq, tl_join]; rfl), lines_empty]
    refine ⟨by decide, fun l hm => ?_⟩
    rw [List.mem_singleton.mp hm]
    decide
  | cons z r =>
    rw [lines_join (ls := z :: r) (fun e => nomatch e) h]
    exact ⟨by omega, fun l hm => Nat.le_trans (h l hm).1 hn⟩
/-- a note has the form throughout, or a first line that has not -/
theorem all_or (ls : List Str) : AllL ls ∨ ∃ p, BadL ls p := by
  have h : ∀ n, n ≤ ls.length → (∀ q, q < n → (lineV ls q).isSome = true) ∨ ∃ p, BadL ls p := by
    intro n
    induction n with
    | zero => exact fun _ => .inl fun q h => absurd h (Nat.not_lt_zero q)
    | succ n ih =>
      intro hn
      rcases ih (by omega) with h | h
      · cases e : lineV ls n with
        | none => exact .inr ⟨n, by omega, e, h⟩
        | some d =>
          refine .inl fun q hq => ?_
          rcases Nat.lt_succ_iff_lt_or_eq.mp hq with l | l
          · exact h q l
          · rw [l, e]
            rfl
      · exact .inr h
  exact h ls.length (Nat.le_refl _)
/-- the note of deeds -/
theorem note_eq (ds : List Deed) : noteT (("course", []) :: ds) = Txt.join "\n" (linesT ds) := by
  unfold noteT linesT
  rw [List.map_cons, show lineT ("course", []) = Str.ofString "course" from join_one _ _]
theorem linesT_pl {ds : List Deed} (h : ∀ d ∈ ds, LD d) : ∀ z ∈ linesT ds, Pl 46 z := fun z hz => by
  rcases List.mem_cons.mp hz with e | e
  · rw [e]
    exact pl_of (by decide +kernel)
  · obtain ⟨d, hd, rfl⟩ := List.mem_map.mp e
    exact pl_line (h d hd)
theorem linesT_len (ds : List Deed) : (linesT ds).length = ds.length + 1 := by
  unfold linesT
  rw [List.length_cons, List.length_map]
theorem lines_note {ds : List Deed} (h : ∀ d ∈ ds, LD d) : linesOf (Txt.join "\n" (linesT ds)) = linesT ds := lines_join (fun e => nomatch e) (linesT_pl h)
theorem line_at {ds : List Deed} (h : ∀ d ∈ ds, LD d) {i : Nat} {d : Deed} (e : ds[i]? = some d) : lineV (linesT ds) (i + 1) = some d := by
  unfold lineV linesT
  rw [List.getElem?_cons_succ, List.getElem?_map, e]
  show rdL (if i + 1 = 0 then c0 else cN) (lineT d) = some d
  rw [if_neg (Nat.succ_ne_zero i)]
  exact rd_line (h d (List.mem_of_getElem? e))
theorem all_note {ds : List Deed} (h : ∀ d ∈ ds, LD d) : AllL (linesT ds) := fun p hp => by
  cases p with
  | zero =>
    show (rdL c0 (Str.ofString "course")).isSome = true
    rw [rd_first]
    rfl
  | succ i =>
    rw [linesT_len] at hp
    rw [line_at h (List.getElem?_eq_getElem (by omega : i < ds.length))]
    rfl
theorem ds_note {ds : List Deed} (h : ∀ d ∈ ds, LD d) : dsOf (linesT ds) ((linesT ds).length - 1) = ds := by
  rw [linesT_len, Nat.add_sub_cancel]
  refine List.ext_getElem? fun i => ?_
  unfold dsOf
  rw [List.getElem?_map]
  by_cases hi : i < ds.length
  · rw [List.getElem?_range hi, List.getElem?_eq_getElem hi]
    show some ((lineV (linesT ds) (i + 1)).getD ("", [])) = _
    rw [line_at h (List.getElem?_eq_getElem hi)]
    rfl
  · rw [List.getElem?_eq_none (by rw [List.length_range]; omega), List.getElem?_eq_none (by omega)]
    rfl
end Own

namespace Own
open PySem PySem.Spec PyProof.Rows L2 TL
/-- what told and read answer of x, as data -/
def ResD (x : Str) (d : PyData) : Prop := d.canLay0 = true ∧ d.depth ≤ 3 ∧ ((AllL (linesOf x) ∧ d = .list [.str "deeds", dLs (dsOf (linesOf x) ((linesOf x).length - 1))]) ∨ ∃ p, BadL (linesOf x) p ∧ d = .list [.int ((p : Int) + 1)])
theorem deeds_lay (ds : List Deed) (ok : ∀ d ∈ ds, GoodD d) : (PyData.list [.str "deeds", dLs ds]).canLay0 = true ∧ (PyData.list [.str "deeds", dLs ds]).depth ≤ 3 := by
  obtain ⟨h1, h2⟩ := dLs_lay ds ok
  have h0 : PyData.strOk (Str.ofString "deeds") = true := by decide +kernel
  refine ⟨?_, ?_⟩
  · show (PyData.strOk (Str.ofString "deeds") && ((dLs ds).canLay0 && true)) = true
    rw [h0, h1]
    rfl
  · show max (PyData.depth (.str "deeds")) (max (PyData.depth (dLs ds)) 0) + 1 ≤ 3
    have : PyData.depth (.str "deeds") = 0 := rfl
    omega
theorem all_good {ls : List Str} (ne : ls ≠ []) (h : AllL ls) : ∀ d ∈ dsOf ls (ls.length - 1), GoodD d :=
  dsOf_good fun q hq => h q (by have := List.length_pos_iff.mpr ne; omega)
theorem res_ex (x : Str) : ∃ d, ResD x d := by
  obtain ⟨ne, _⟩ := lines_facts x
  rcases all_or (linesOf x) with h | ⟨p, h⟩
  · obtain ⟨l1, l2⟩ := deeds_lay _ (all_good ne h)
    exact ⟨_, l1, l2, .inl ⟨h, rfl⟩⟩
  · exact ⟨.list [.int ((p : Int) + 1)], rfl, by show 1 ≤ 3; exact (by decide : 1 ≤ 3), .inr ⟨p, h, rfl⟩⟩
theorem bad_only {ls : List Str} {p q : Nat} (h : BadL ls p) (k : BadL ls q) : p = q := by
  rcases Nat.lt_trichotomy p q with l | l | l
  · have := k.2.2 p l
    rw [h.2.1] at this
    cases this
  · exact l
  · have := h.2.2 q l
    rw [k.2.1] at this
    cases this
theorem bad_all {ls : List Str} {p : Nat} (h : BadL ls p) (k : AllL ls) : False := by
  have := k p h.1
  rw [h.2.1] at this
  cases this
section
variable {P : Program} {w : World} {K : PySem.W.Frag} {mg : Str → Option Value} {base : Heap}
/-- the answer's list holds the data -/
theorem sp_res {x : Str} {d : PyData} {H : Hp} {Q : VK} {E : XK} (hx : Fit x) (hd : ResD x d) (q : ∀ H' p, Same H H' → Dp K H' (.ref p) d → Q (.ref p) H') : spTold [.str x] H Q E ∧ spRead [.str x] H Q E := by
  have hA : AllL (linesOf x) → ∀ H' p b us, Same H H' → H' p = some (.lst [.str "deeds", .ref b]) → H' b = some (.lst us) → DsT H' us (dsOf (linesOf x) ((linesOf x).length - 1)) → Q (.ref p) H' := by
    intro ha H' p b us s hp hb hu
    refine q H' p s ?_
    rcases hd.2.2 with ⟨_, rfl⟩ | ⟨k, hk, _⟩
    · exact .lst (.inl (.inl hp)) (.cons (.str _) (.cons (.lst (.inl (.inl hb)) hu.dp) .nil))
    · exact (bad_all hk ha).elim
  have hB : ∀ p, BadL (linesOf x) p → ∀ H' r, Same H H' → H' r = some (.lst [.int ((p : Int) + 1)]) → Q (.ref r) H' := by
    intro p hp H' r s hr
    refine q H' r s ?_
    rcases hd.2.2 with ⟨ha, _⟩ | ⟨k, hk, rfl⟩
    · exact (bad_all hp ha).elim
    · rw [bad_only hk hp]
      exact .lst (.inl (.inl hr)) (.cons (.int _) .nil)
  exact ⟨⟨x, rfl, hx.1, hx.2.1, hx.2.2, hA, hB⟩, ⟨x, rfl, hx.1, hx.2.1, hx.2.2, hA, hB⟩⟩
/-- two answers of the same text are not unequal -/
theorem ne_res {x : Str} {d : PyData} {H : Hp} {a b : V} {Q : VK} (hd : ResD x d) (ha : Dp K H a d) (hb : Dp K H b d) (q : Q (.bl false) H) : rNeD K a b H Q := by
  have sh : SeqAt.shaped d = true := shaped_of hd.1 (Nat.le_trans hd.2.1 (by decide))
  refine ⟨d, d, ha, hb, sh, sh, ?_⟩
  rw [eqv_of hd.1]
  exact q
end
end Own

namespace Own
open PySem PySem.Spec PyProof.Rows L2
/-! ### own operators, a call by keywords alone, a token that is out -/
section
variable {X : Cx} {CX : CXT} {k : Nat} {C g : Addr} {fd : FuncData} {ps : List Str} {sp : Sp} {E : XK}
def rOwnB (C : Addr) (sp : Sp) (E : XK) : R2 := fun x y H Q => ∃ a dx fs b dy gs, x = .ref a ∧ y = .ref b ∧ H a = some (.ins C dx fs) ∧ H b = some (.ins C dy gs) ∧ sp [.ref a, .ref b] H Q E
theorem op_ownB {op : Operator} (hc : PySem.W.selfFirst X.K C = true) (hs : PySem.W.findIn X.K (.ref C) (PySem.dunder op.info.2) = some (some (.ref g))) (hf : PySem.W.isFn X.K (.ref g) = true)
    (F : FnOk X.prog X.w X.K X.mg X.base CX k g fd ps sp) (hr : Room k X.A) (hb : Binds X.K fd ps []) (hx : Passes CX X E) : OpR X (binaryOp op) (rOwnB C sp E) := by
  intro pins s σ H x y v u Q I rx ry h
  obtain ⟨a, dx, fs, b, dy, gs, rfl, rfl, ha, hb', q⟩ := h
  cases (show v = Value.ref a from rx)
  cases (show u = Value.ref b from ry)
  obtain ⟨mA, O, _, _, _, _⟩ := ins_get I.hok ha
  obtain ⟨od, J, _⟩ := O.look
  obtain ⟨mB, O', _, _, _, _⟩ := ins_get I.hok hb'
  obtain ⟨od', J', _⟩ := O'.look
  obtain ⟨m, hF⟩ := I.fr
  refine PySem.W.binop_K hF I.ok.mod.kin J J'.type hc hs hf ?_
  refine wpAny_mono (run_fn (us := [.ref a, .ref b]) (vs := [.ref a, .ref b]) F hr hb .nil hx I (.cons rfl (.cons rfl .nil)) q) (fun w s' z => ?_) fun _ _ x => x
  obtain ⟨z', H', I', rz, qz⟩ := z
  exact SlX.cmpback rz ⟨z', H', I', rz, qz⟩
def rOwnEq (K : PySem.W.Frag) (C : Addr) (sp : Sp) : R2 := fun x y H Q => ∃ (a dx : Addr) (fs : List (Str × V)) (tb : Value), x = .ref a ∧ H a = some (.ins C dx fs) ∧ (TyX K H y tb ∨ ∃ (b dy : Addr) (gs : List (Str × V)), y = .ref b ∧ H b = some (.ins C dy gs) ∧ tb = .ref C) ∧ PySem.W.notFirst K C tb = true ∧
  sp [.ref a, y] H (fun v H' => ∃ c : Bool, v = .bl c ∧ Q (.bl c) H') E0
theorem op_ownEq (hs : PySem.W.findIn X.K (.ref C) "__eq__" = some (some (.ref g))) (hf : PySem.W.isFn X.K (.ref g) = true) (F : FnOk X.prog X.w X.K X.mg X.base CX0 k g fd ps sp) (room : Room k X.A) (hb : Binds X.K fd ps []) :
    OpR X (compareOp .Eq) (rOwnEq X.K C sp) := by
  intro pins s σ H x y v u Q inv rx ry ask
  obtain ⟨a, dx, fs, tb, rfl, ha, ty, nf, q⟩ := ask
  cases (show v = Value.ref a from rx)
  obtain ⟨_, O, _, _, _, _⟩ := ins_get inv.hok ha
  obtain ⟨od, J, _⟩ := O.look
  obtain ⟨m, hF⟩ := inv.fr
  have look : PySem.W.Looks (model X.prog X.w) s.heap (typeOf u) tb := by
    rcases ty with ty | ⟨b, dy, gs, rfl, hb, rfl⟩
    · obtain ⟨Pp, kx, hp, _⟩ := kit_of inv ry ty
      exact kx.ty _ _ inv.kIn hp
    · cases (show u = Value.ref b from ry)
      obtain ⟨_, O2, _, _, _, _⟩ := ins_get inv.hok hb
      obtain ⟨od2, J2, _⟩ := O2.look
      exact J2.type
  show wpAny (model X.prog X.w) X.A (richCompare .Eq (.ref a) u) (EP X pins σ Q) X.xe s
  refine PySem.W.cmp_K (op := .Eq) (tb := tb) room.units0 hF inv.ok.mod.kin J look nf hs hf ?_
  refine wpAny_mono (run_fnS (E := fun _ => E0) (us := [.ref a, u]) (vs := [.ref a, y]) F room hb pass0A inv (.cons rfl (.cons ry .nil)) q) (fun w s' z => ?_) fun _ _ x => x
  obtain ⟨z', H', I', rz, c, rfl, qz⟩ := z
  cases (show w = Value.bool c from rz)
  exact ⟨.bl c, H', I', rfl, qz⟩
end
section
variable {X : Cx} {CX : CXT} {k : Nat} {f : Addr} {fd : FuncData} {ps ks : List Str} {sp : Sp} {E : XK} {x : Str} {p pos : Pos} {kws : List Keyword} {tk : TA} {g : List Value → List Value → List Value} {gV : List V → List V → List V}
theorem pe_callK0 (F : FnOk X.prog X.w X.K X.mg X.base CX k f fd ps sp) (hr : Room k X.A) (hg : Gl X x) (hm : X.mg x = some (.ref f)) (hk : PySem.W.keepIn X.K (.ref f) = true) (hb : KBn X.K fd ps 0 ks g gV) (hx : Passes CX X E)
    (hkw : PK X kws tk) (hall : (backToKw pos (keywordEach kws X.env)).all (·.1.isSome) = true := by rfl) (hks : (backToKw pos (keywordEach kws X.env)).filterMap (·.1) = ks := by rfl)
    (hdb : (x == ("__debug__" : Str)) = false := by decide)
    (hpl : ((backTo pos (starEach [] X.env)).any (·.1) || (backToKw pos (keywordEach kws X.env)).any (·.1.isNone)) = false := by rfl) :
    PE X (.Call (.Name x p) [] kws pos) (tCallN 0 ks.length sp gV E tNil tk) := by
  refine ⟨fun pins s σ H Q I h => ?_⟩
  refine wpAny_Call_Name_kw (ld_glob I hg hm ?_ hdb)
  refine PySem.W.callWith_KW0 (h₀ := X.base) I.ok.mod.kin hk hall ?_ hpl
  refine thn (hkw.run pos pins s σ H _ I h) fun ws s2 ⟨zs, H2, I2, rz, l1, l2, q2⟩ => ⟨I2.kIn, ?_⟩
  rw [hks]
  exact run_fnN (us := []) (vs := []) F hr hb hx I2 .nil rz rfl l2 q2
end
section
variable {X : Cx} {K : PySem.W.Frag} {rest : List Stmt} {u : TS}
/-- x = "c".join(a): behind it a token is out -/
theorem pss_joinK {i k : Nat} {y c : Str} {a : Expr} {ta : TE} {cp apos bp py pos : Pos} (hK : X.K = K) (hN : X.N.Nodup) (hi : X.N[i]? = some y) (hx : Loc X.env.scope y) (ha : PE X a ta) (h2 : PSsT X rest u)
    (hs1 : starEach [a] X.env = [(false, eval a X.env)] := by rfl) (hbase : attributeBase (.Constant (.str c) k cp) "join" X.env (eval (.Constant (.str c) k cp) X.env) = eval (.Constant (.str c) k cp) X.env := by rfl) (hline : (apos.endLine == bp.line) = true := by rfl)
    (hs : swapsWith (.Call (.Attribute (.Constant (.str c) k cp) "join" apos) [a] [] bp) (some (.Name y py)) pos.line X.env = pure false := by rfl) (hf : X.fn y = true ∨ X.env.scope.names.lookup y = some .local := by first | exact .inl rfl | exact .inr rfl | assumption) :
    PSs X (.Assign [.Name y py] (.Call (.Attribute (.Constant (.str c) k cp) "join" apos) [a] [] bp) pos :: rest) (tSeq (tAsg (tM1 (rJoin K) (tC (.str c)) ta) (gName i)) u) := by
  subst hK
  constructor
  intro pins s σ H D I h
  refine wpAny_execs_cons (wpAny_Assign_Name (PySem.Call_method1 hbase hs1 hline (Calls.Constant_str ?_)) hs)
  obtain ⟨_, h⟩ := h
  refine ⟨"str", _, PySem.F.plainAttrs_str, PySem.F.slot_str_join, PySem.F.type_str_join, typeIs_str _ _ _, (fun _ e => nomatch e), Calls.callWith_builtin rfl (Calls.evalArgs_plain (Calls.spliced_cons ?_))⟩
  refine wpAny_mono (PySem.wpAny_toks (ha.run pins _ σ H _ (I.tok (s.toks + 1)) h)) (fun v s2 q => ?_) fun _ _ z => z.2
  obtain ⟨hk, x, H2, I2, r2, q2⟩ := q
  refine Calls.spliced_nil ?_
  have hk1 : s.toks + 1 ≤ s2.toks := hk
  refine wpAny_mono (PySem.wpAny_toks (mt_join pins s2 σ H2 (.str c) [x] (.str c s.toks) [v] (fun z H3 => u D (σ.set i (some z)) H3) I2 ⟨_, rfl⟩ (.cons r2 .nil) q2)) (fun w s3 q => ?_) fun _ _ z => z.2
  obtain ⟨hk3, z, H3, I3, rz, q3⟩ := q
  refine wpAny_mono (PySem.wpAny_toks (store_ok (Q := fun _ s4 => Inv X pins (σ.set i (some z)) H3 s4) I3 hN hi hx rz (fun _ I4 => I4) hf)) (fun _ s4 q => ?_) fun _ _ z => z.2
  have hk4 := q.1
  exact h2 pins s4 _ H3 D (by omega) q.2 q3
theorem psst_of {st : Stmt} {t : TS} (h1 : PS X st t) (h2 : PSsT X rest u) : PSsT X (st :: rest) (tSeq t u) := psst_cons (PST.of h1) h2
end
end Own

namespace Own
open PySem PySem.Spec PyProof.Rows L2 TL
theorem sqt_same {K : PySem.W.Frag} {H H' : Hp} {a : Addr} {xs : List V} (s : Same H H') (h : SqT K H a xs) : SqT K H' a xs := by
  rcases h with (h | ⟨o, h⟩) | h
  · exact .inl (.inl (s _ _ h))
  · exact .inl (.inr ⟨o, s _ _ h⟩)
  · exact .inr h
mutual
theorem Dp.same {K : PySem.W.Frag} {H H' : Hp} (s : Same H H') : ∀ {v : V} {d : PyData}, Dp K H v d → Dp K H' v d
  | _, _, .non => .non
  | _, _, .bl b => .bl b
  | _, _, .int i => .int i
  | _, _, .str x => .str x
  | _, _, .lst h k => .lst (s.seq h) (DpAll.same s k)
  | _, _, .tup h k => .tup (sqt_same s h) (DpAll.same s k)
theorem DpAll.same {K : PySem.W.Frag} {H H' : Hp} (s : Same H H') : ∀ {vs : List V} {ds : List PyData}, DpAll K H vs ds → DpAll K H' vs ds
  | _, _, .nil => .nil
  | _, _, .cons h k => .cons (Dp.same s h) (DpAll.same s k)
end
/-! ### the rows of digits -/
theorem digs_at {ds szs : List Int} (h : Digs ds szs) {i : Nat} {d z : Int} (e : ds[i]? = some d) (f : szs[i]? = some z) : 0 ≤ d ∧ d < z := h.2 i d z e f
def szD (a : Int) : List Int := [a, 4, 10 ^ 9 - 1, 4, 10 ^ 9 - 1]
theorem digs_plan {ds : List Int} (h : Digs ds [21, 3, 4]) : ∃ a b c : Int, ds = [a, b, c] ∧ (0 ≤ a ∧ a < 21) ∧ (0 ≤ b ∧ b < 3) := by
  match ds, h with
  | [a, b, c], h => exact ⟨a, b, c, rfl, h.2 0 a 21 rfl rfl, h.2 1 b 3 rfl rfl⟩
  | [], h => exact absurd h.1 (by simp)
  | [_], h => exact absurd h.1 (by simp)
  | [_, _], h => exact absurd h.1 (by simp)
  | _ :: _ :: _ :: _ :: _, h => exact absurd h.1 (by simp)
theorem digs_row {ds : List Int} (h : Digs ds [6, 4, 10 ^ 9 - 1, 4, 10 ^ 9 - 1]) : DRow ds := by
  match ds, h with
  | [a, b, c, d, e], h =>
    have h0 := h.2 0 a 6 rfl rfl
    have h1 := h.2 1 b 4 rfl rfl
    have h2 := h.2 2 c (10 ^ 9 - 1) rfl rfl
    have h3 := h.2 3 d 4 rfl rfl
    have h4 := h.2 4 e (10 ^ 9 - 1) rfl rfl
    exact ⟨a, b, c, d, e, [], rfl, by omega, by omega, by omega, by omega, by omega⟩
  | [], h => exact absurd h.1 (by simp)
  | [_], h => exact absurd h.1 (by simp)
  | [_, _], h => exact absurd h.1 (by simp)
  | [_, _, _], h => exact absurd h.1 (by simp)
  | [_, _, _, _], h => exact absurd h.1 (by simp)
  | _ :: _ :: _ :: _ :: _ :: _ :: _, h => exact absurd h.1 (by simp)
theorem digs_put {ds : List Int} (h : Digs ds [5, 4, 10 ^ 9 - 1, 4, 10 ^ 9 - 1, 2]) : DRow ds ∧ ∃ a b c d e f : Int, ds = [a, b, c, d, e, f] ∧ a < 5 ∧ 0 ≤ f := by
  match ds, h with
  | [a, b, c, d, e, f], h =>
    have h0 := h.2 0 a 5 rfl rfl
    have h1 := h.2 1 b 4 rfl rfl
    have h2 := h.2 2 c (10 ^ 9 - 1) rfl rfl
    have h3 := h.2 3 d 4 rfl rfl
    have h4 := h.2 4 e (10 ^ 9 - 1) rfl rfl
    have h5 := h.2 5 f 2 rfl rfl
    exact ⟨⟨a, b, c, d, e, [f], rfl, by omega, by omega, by omega, by omega, by omega⟩, a, b, c, d, e, f, rfl, h0.2, h5.1⟩
  | [], h => exact absurd h.1 (by simp)
  | [_], h => exact absurd h.1 (by simp)
  | [_, _], h => exact absurd h.1 (by simp)
  | [_, _, _], h => exact absurd h.1 (by simp)
  | [_, _, _, _], h => exact absurd h.1 (by simp)
  | [_, _, _, _, _], h => exact absurd h.1 (by simp)
  | _ :: _ :: _ :: _ :: _ :: _ :: _ :: _, h => exact absurd h.1 (by simp)
theorem digs_long {ds szs : List Int} (h : Digs ds szs) (l : szs.length = 12) : ∃ a b c d e f g i j : Int, ∃ r : List Int, ds = a :: b :: c :: d :: e :: f :: g :: i :: j :: r := by
  have h1 := h.1
  rw [l] at h1
  match ds, h1 with
  | a :: b :: c :: d :: e :: f :: g :: i :: j :: r, _ => exact ⟨a, b, c, d, e, f, g, i, j, r, rfl⟩
  | [], h => exact absurd h (by simp)
  | [_], h => exact absurd h (by simp)
  | [_, _], h => exact absurd h (by simp)
  | [_, _, _], h => exact absurd h (by simp)
  | [_, _, _, _], h => exact absurd h (by simp)
  | [_, _, _, _, _], h => exact absurd h (by simp)
  | [_, _, _, _, _, _], h => exact absurd h (by simp)
  | [_, _, _, _, _, _, _], h => exact absurd h (by simp)
  | [_, _, _, _, _, _, _, _], h => exact absurd h (by simp)
/-! ### a word of a line put anew -/
theorem joinL_mem (s : List Nat) : ∀ {ls : List (List Nat)} {c : Nat}, c ∈ joinL s ls → (∃ l ∈ ls, c ∈ l) ∨ c ∈ s
  | [], c, h => by
    unfold joinL at h
    cases h
  | [a], c, h => .inl ⟨a, List.mem_cons_self, by simpa [joinL] using h⟩
  | a :: b :: r, c, h => by
    rw [show joinL s (a :: b :: r) = a ++ (s ++ joinL s (b :: r)) by simp [joinL]] at h
    rcases List.mem_append.mp h with h | h
    · exact .inl ⟨a, List.mem_cons_self, h⟩
    · rcases List.mem_append.mp h with h | h
      · exact .inr h
      · rcases joinL_mem s h with ⟨l, hl, hc⟩ | hc
        · exact .inl ⟨l, List.mem_cons_of_mem _ hl, hc⟩
        · exact .inr hc
theorem join_pl {n : Nat} {ws : List Str} (h : ∀ z ∈ ws, Pl n z) (hl : ws.length ≤ 8) : Pl (8 * (n + 1)) (Txt.join " " ws) := by
  refine ⟨?_, fun c hc => ?_⟩
  · rw [len_tl, join_eq, tl_join]
    have h1 := joinL_len (tl (Str.ofString " ")) n (ls := ws.map tl) fun z hz => by
      obtain ⟨y, hy, rfl⟩ := List.mem_map.mp hz
      rw [← len_tl]
      exact (h y hy).1
    rw [List.length_map] at h1
    exact Nat.le_trans h1 (Nat.mul_le_mul hl (Nat.le_refl _))
  · rw [join_eq, tl_join] at hc
    rcases joinL_mem _ hc with ⟨l, hl, hc⟩ | hc
    · obtain ⟨y, hy, rfl⟩ := List.mem_map.mp hl
      exact (h y hy).2 c hc
    · have : c = 32 := by
        have e : tl (Str.ofString " ") = [32] := rfl
        rw [e] at hc
        exact List.mem_singleton.mp hc
      omega
theorem wdsD_pl {d : Deed} (h : LD d) : ∀ z ∈ wdsD d, Pl 19 z := fun z hz => by
  rcases List.mem_cons.mp hz with e | e
  · rw [e]
    exact (pl_word h.2.1).le (by decide)
  · obtain ⟨i, hm, rfl⟩ := List.mem_map.mp e
    exact pl_nt (h.2.2 i hm)
theorem wdsD_len {d : Deed} (h : LD d) : (wdsD d).length ≤ 3 := by
  have := h.1.few
  unfold wdsD
  rw [List.length_cons, List.length_map]
  omega
/-- the words of a deed's line, one of them another text -/
theorem put_pl {d : Deed} (h : LD d) {y : Str} (hy : Pl 39 y) {a b : List Str} (ha : ∀ z ∈ a, z ∈ wdsD d) (hb : ∀ z ∈ b, z ∈ wdsD d) (hl : (a ++ [y] ++ b).length ≤ 8) : Pl 320 (Txt.join " " (a ++ [y] ++ b)) := by
  refine (join_pl (n := 39) (fun z hz => ?_) hl).le (by decide)
  rcases List.mem_append.mp hz with h1 | h1
  · rcases List.mem_append.mp h1 with h2 | h2
    · exact (wdsD_pl h z (ha z h2)).le (by decide)
    · rw [List.mem_singleton.mp h2]
      exact hy
  · exact (wdsD_pl h z (hb z h1)).le (by decide)
end Own

namespace Own
open PySem PySem.Spec PyProof.Rows L2 TL
/-! ### what stands through the law -/
structure LW (K : PySem.W.Frag) (C z : Addr) (ns : List Int) (a4 : Addr) (us : List V) (ds : List Deed) (a5 p7 : Addr) (H : Hp) : Prop where
  hs : SqL K H z (ns.map V.int)
  hd : H a4 = some (.lst us)
  dt : DsT H us ds
  hl : H a5 = some (.lst ((linesT ds).map V.str))
  hg : CrsAt C H p7 ds
  ok : ∀ d ∈ ds, LD d
  len : ds.length ≤ 20
theorem LW.same {K : PySem.W.Frag} {C z : Addr} {ns : List Int} {a4 : Addr} {us : List V} {ds : List Deed} {a5 p7 : Addr} {H H' : Hp} (h : LW K C z ns a4 us ds a5 p7 H) (s : Same H H') : LW K C z ns a4 us ds a5 p7 H' :=
  ⟨s.seq h.hs, s _ _ h.hd, h.dt.same s, s _ _ h.hl, h.hg.same s, h.ok, h.len⟩
abbrev nT (ds : List Deed) : Str := Txt.join "\n" (linesT ds)
theorem note_fit {ds : List Deed} (h : ∀ d ∈ ds, LD d) (l : ds.length ≤ 180) : Fit (nT ds) := fit (linesT_pl h) (by decide) (by rw [linesT_len]; omega)
theorem good_of {ds : List Deed} (h : ∀ d ∈ ds, LD d) : ∀ d ∈ ds, GoodD d := fun d hd => (h d hd).1
theorem sml_of {ds : List Deed} (h : ∀ d ∈ ds, LD d) : ∀ d ∈ ds, Sml d := fun d hd => (h d hd).sml
theorem res_note {ds : List Deed} (h : ∀ d ∈ ds, LD d) : ResD (nT ds) (.list [.str "deeds", dLs ds]) := by
  obtain ⟨l1, l2⟩ := deeds_lay ds (good_of h)
  refine ⟨l1, l2, .inl ?_⟩
  rw [lines_note h]
  exact ⟨all_note h, by rw [ds_note h]⟩
theorem res_one {x l : Str} {r : List Str} (h : linesOf x = l :: r) (hl : ¬ l = "course") : ResD x (.list [.int 1]) := by
  refine ⟨rfl, by show 1 ≤ 3; decide, .inr ⟨0, ?_, rfl⟩⟩
  rw [h]
  refine ⟨Nat.succ_pos _, ?_, fun q hq => absurd hq (Nat.not_lt_zero q)⟩
  show rdL c0 l = none
  cases e : rdL c0 l with
  | none => rfl
  | some d => exact absurd ((rd_course l).mp (by rw [e]; rfl)) hl
theorem res_empty : ResD (Str.ofString "") (.list [.int 1]) := res_one lines_empty (by decide +kernel)
theorem fit_empty : Fit (Str.ofString "") := by
  have h := fit (n := 1) (ls := [Str.ofString ""]) (fun z hz => by rw [List.mem_singleton.mp hz]; exact pl_of (by decide +kernel)) (by decide) (by decide)
  rw [join_one] at h
  exact h
theorem two_join : Txt.join "\n" [Str.ofString "", Str.ofString ""] = Str.ofString "\n" := ext_tl (by rw [join_eq, tl_join]; rfl)
theorem two_pl : ∀ z ∈ [Str.ofString "", Str.ofString ""], Pl 1 z := fun z hz => by
  simp only [List.mem_cons, List.not_mem_nil, or_false] at hz
  rcases hz with e | e <;> (rw [e]; exact pl_of (by decide +kernel))
theorem res_feed : ResD (Str.ofString "\n") (.list [.int 1]) := by
  rw [← two_join]
  exact res_one (lines_join (fun e => nomatch e) two_pl) (by decide +kernel)
theorem fit_feed : Fit (Str.ofString "\n") := by
  rw [← two_join]
  exact fit two_pl (by decide) (by decide)
theorem nT_nil : nT [] = Str.ofString "course" := join_one _ _
theorem res_course : ResD (Str.ofString "course") (.list [.str "deeds", dLs []]) := by
  rw [← nT_nil]
  exact res_note fun d h => nomatch h
theorem fit_course : Fit (Str.ofString "course") := by
  rw [← nT_nil]
  exact note_fit (fun d h => nomatch h) (by decide)
/-- the joined lines may be made -/
theorem join_few {n : Nat} {ls : List Str} (h : ∀ z ∈ ls, Pl n z) (hn : n ≤ 500) (hl : ls.length ≤ 190) : (ls.map (·.length)).sum + ls.length * (Str.ofString "\n").length ≤ 16777216 := by
  have hs : (ls.map (·.length)).sum ≤ (ls.map (·.length)).length * 500 := sum_le fun k hk => by
    obtain ⟨z, hz, rfl⟩ := List.mem_map.mp hk
    have := (h z hz).1
    omega
  have l1 : (Str.ofString "\n").length = 1 := rfl
  rw [List.length_map] at hs
  rw [l1]
  omega
theorem words_few {n : Nat} {ls : List Str} (h : ∀ z ∈ ls, Pl n z) (hn : n ≤ 500) (hl : ls.length ≤ 190) : (ls.map (·.length)).sum + ls.length * (Str.ofString " ").length ≤ 16777216 := join_few h hn hl
theorem DsH.nil {H : Hp} : DsH H [] [] := ⟨rfl, fun i d e => by simp at e⟩
theorem DsH.snoc {H : Hp} {vs : List V} {ds : List Deed} {b : Addr} {d : Deed} (h : DsH H vs ds) (e : SqH H b (dv d)) : DsH H (vs ++ [.ref b]) (ds ++ [d]) := by
  refine ⟨by rw [List.length_append, List.length_append, h.1]; rfl, fun i u hu => ?_⟩
  by_cases hi : i < ds.length
  · rw [List.getElem?_append_left hi] at hu
    obtain ⟨c, e1, e2⟩ := h.2 i u hu
    exact ⟨c, by rw [List.getElem?_append_left (by rw [h.1]; exact hi)]; exact e1, e2⟩
  · rw [List.getElem?_append_right (by omega)] at hu
    have hi2 : i - ds.length = 0 := by
      cases hk : i - ds.length with
      | zero => rfl
      | succ k => rw [hk] at hu; simp at hu
    rw [hi2] at hu
    obtain rfl : d = u := Option.some.inj hu
    exact ⟨b, by rw [List.getElem?_append_right (by rw [h.1]; omega), h.1, hi2]; rfl, e⟩
theorem DsT.at_ {H : Hp} {vs : List V} {ds : List Deed} (h : DsT H vs ds) {i : Nat} {x : V} (e : vs[i]? = some x) : ∃ b d, x = .ref b ∧ ds[i]? = some d ∧ H b = some (.tup (dv d)) := by
  have hi : i < ds.length := by
    rw [← h.1]
    exact (List.getElem?_eq_some_iff.mp e).1
  obtain ⟨b, e1, e2⟩ := h.2 i ds[i] (List.getElem?_eq_getElem hi)
  rw [e] at e1
  exact ⟨b, ds[i], Option.some.inj e1, List.getElem?_eq_getElem hi, e2⟩
def rListOf (K : PySem.W.Frag) : List V → Hp → VK → Prop := fun vs H Q => ∃ p xs, vs = [.ref p] ∧ (SqL K H p xs ∨ SqT K H p xs) ∧ ∀ l, H l = none → Q (.ref l) (upd H l (.lst xs))
theorem call_listK {X : Cx} {K : PySem.W.Frag} (h : X.K = K) : CallR X (.type "list") (rListOf K) := by
  subst h
  exact call_list_of
/-- parse_course of a note that has the form -/
theorem parse_note {C D : Addr} {ds : List Deed} {H : Hp} {Q : VK} {E : XK} (h : ∀ d ∈ ds, LD d) (l : ds.length ≤ 180) (q : ∀ H' p, Same H H' → CrsAt C H' p ds → Q (.ref p) H') : spParse C D [.str (nT ds)] H Q E := by
  have f := note_fit h l
  refine ⟨nT ds, rfl, f.1, f.2.1, f.2.2, fun _ H' p s c => q H' p s ?_, fun p hb => ?_⟩
  · rw [lines_note h, ds_note h] at c
    exact c
  · rw [lines_note h] at hb
    exact (bad_all hb (all_note h)).elim
theorem sl_listK {X : Cx} {K : PySem.W.Frag} (h : X.K = K) : SlR X (rSlL K) := by
  subst h
  exact sl_list
theorem op_neDK {X : Cx} {K : PySem.W.Frag} (hK : X.K = K) (hu : X.A.units + 64 < cLine) : OpR X (compareOp .NotEq) (rNeD K) := by
  subst hK
  exact op_neD hu
theorem cut_from {xs : List V} {k : Nat} (hk : k ≤ xs.length) : cutV xs (some (k : Int)) none = xs.drop k := by
  unfold cutV
  rw [show HT.sIx xs.length 0 (some ((k : Nat) : Int)) = min k xs.length from HT.sIx_nat _ _ k, HT.sIx_none, Nat.min_eq_left hk, List.take_of_length_le (by rw [List.length_drop]; exact Nat.le_refl _)]
/-- told and read of one text are not unequal -/
theorem tt_told {K : PySem.W.Frag} {σ : L2.St} {H : Hp} {i : Nat} {x : Str} {Q : Bool → Hp → Prop} (hσ : σ[i]? = some (some (.str x))) (hx : Fit x) (q : ∀ H', Same H H' → Q false H') :
    tTest (tOp (rNeD K) (tCall spTold [] E0 (tCons (tVar i) tNil)) (tCall spRead [] E0 (tCons (tVar i) tNil))) σ H Q := by
  obtain ⟨d, hd⟩ := res_ex x
  refine ⟨.str x, hσ, ?_⟩
  dsimp only [tTest, tOp, tCall, tCons, tVar, tNil, List.cons_append, List.nil_append]
  refine (sp_res (K := K) hx hd fun H1 l1 s1 d1 => ?_).1
  refine ⟨.str x, hσ, ?_⟩
  try dsimp only [tTest, tOp, tCall, tCons, tVar, tNil, List.cons_append, List.nil_append]
  refine (sp_res (K := K) hx hd fun H2 l2 s2 d2 => ?_).2
  exact ne_res hd (Dp.same s2 d1) d2 ⟨false, rfl, q H2 (s1.trans s2)⟩
section
variable {K : PySem.W.Frag} {C : Addr}
/-- two courses with the same deeds are equal -/
theorem eqCrs (nfC : PySem.W.notFirst K C (.ref C) = true) {H : Hp} {Q : VK} {p o : Addr} {ds : List Deed} (hp : CrsAt C H p ds) (ho : CrsAt C H o ds) (g : ∀ d ∈ ds, GoodD d) (q : Q (.bl true) H) : rOwnEq K C (spCEq C) (.ref p) (.ref o) H Q := by
  obtain ⟨dx, a, vs, e, ea, t⟩ := id hp
  obtain ⟨dy, b, ws, e2, eb, t2⟩ := id ho
  exact ⟨p, dx, _, .ref C, rfl, e, .inr ⟨o, dy, _, rfl, e2, rfl⟩, nfC, p, o, ds, rfl, hp, ho, g, true, rfl, q⟩
end
section
variable {X : Cx} {K : PySem.W.Frag} {C g : Addr} {k : Nat} {fd : FuncData} {ps : List Str} {sp : Sp}
theorem op_ownEqK (hK : X.K = K) (hs : PySem.W.findIn K (.ref C) "__eq__" = some (some (.ref g))) (hf : PySem.W.isFn K (.ref g) = true) (F : FnOk X.prog X.w K X.mg X.base CX0 k g fd ps sp) (room : Room k X.A) (hb : Binds K fd ps []) : OpR X (compareOp .Eq) (rOwnEq K C sp) := by
  subst hK
  exact op_ownEq hs hf F room hb
end
end Own

namespace Own
open PySem PySem.Spec PyProof.Rows L2 TL
section
variable {P : Program} {w : World} {K : PySem.W.Frag} {mg : Str → Option Value} {base : Heap} {C D0 : Addr}
def spLaw (K : PySem.W.Frag) : Sp := fun vs H Q _ => ∃ (s : Addr) (ns : List Int), vs = [.ref s] ∧ SqL K H s (ns.map V.int) ∧ ns.length ≤ 1000 ∧ ∀ H', Q (.bl true) H'
set_option maxHeartbeats 0 in
theorem ok_law {f : Addr} {fd : FuncData} (F : Fun K "law" "law" s_law f fd) (T : Bi mg) (L : CrsC K mg C) 
    {f_c : Addr} {d_c : FuncData} (D_c : Df K mg "_law_cell" s__law_cell ["_law_script", "_law_k"] f_c d_c) (G_c : FnOk P w K mg base CX0 1 f_c d_c ["_law_script", "_law_k"] (spCell K))
    {f_d : Addr} {d_d : FuncData} (D_d : Df K mg "_law_digits" s__law_digits ["_law_cell_here", "_law_sizes"] f_d d_d) (G_d : FnOk P w K mg base CX0 1 f_d d_d ["_law_cell_here", "_law_sizes"] (spDigs K))
    {f_dd : Addr} {d_dd : FuncData} (D_dd : Df K mg "_law_deed" s__law_deed ["_law_row"] f_dd d_dd) (G_dd : FnOk P w K mg base CX0 2 f_dd d_dd ["_law_row"] (spLDeed K))
    {f_ll : Addr} {d_ll : FuncData} (D_ll : Df K mg "_law_lines" s__law_lines ["_law_deeds"] f_ll d_ll) (G_ll : FnOk P w K mg base CX0 1 f_ll d_ll ["_law_deeds"] (spLLines K))
    {f_t : Addr} {d_t : FuncData} (D_t : Df K mg "_law_told" s__law_told ["_law_note"] f_t d_t) (G_t : FnOk P w K mg base CX0 6 f_t d_t ["_law_note"] spTold)
    {f_r : Addr} {d_r : FuncData} (D_r : Df K mg "_law_read" s__law_read ["_law_note"] f_r d_r) (G_r : FnOk P w K mg base CX0 2 f_r d_r ["_law_note"] spRead)
    {f_w : Addr} {d_w : FuncData} (D_w : Df K mg "_law_writings" s__law_writings ["_law_word"] f_w d_w) (G_w : FnOk P w K mg base CX0 2 f_w d_w ["_law_word"] spWri)
    {f_s : Addr} {d_s : FuncData} (D_s : Df K mg "_law_spoilt" s__law_spoilt ["_law_lines_here", "_law_row"] f_s d_s) (G_s : FnOk P w K mg base CX0 4 f_s d_s ["_law_lines_here", "_law_row"] (spSpo K))
    {f_p : Addr} {d_p : FuncData} (D_p : Df K mg "parse_course" s_parse_course ["text"] f_p d_p) (G_p : FnOk P w K mg base (L2N.CX P w) 5 f_p d_p ["text"] (spParse C D0))
    {f_f : Addr} {d_f : FuncData} (D_f : Df K mg "format_course" s_format_course ["course"] f_f d_f) (G_f : FnOk P w K mg base CX0 2 f_f d_f ["course"] (spFmt C))
    (kb_f : KBn K d_f ["course"] 0 ["course"] (fun _ ws => ws) (fun _ zs => zs))
    {f_i : Addr} {d_i : FuncData} (M : Mk K C f_i) (G_i : GCI P w K mg base C f_i d_i) (b_i : Binds K d_i ["self", "deeds"] [])
    {f_a : Addr} {d_a : FuncData} (sf : PySem.W.selfFirst K C = true) (i_a : PySem.W.findIn K (.ref C) "__add__" = some (some (.ref f_a))) (n_a : PySem.W.isFn K (.ref f_a) = true) (G_a : FnOk P w K mg base CX0 5 f_a d_a ["self", "other"] (spCAdd C)) (b_a : Binds K d_a ["self", "other"] [])
    {f_eq : Addr} {d_eq : FuncData} (i_eq : PySem.W.findIn K (.ref C) "__eq__" = some (some (.ref f_eq))) (n_eq : PySem.W.isFn K (.ref f_eq) = true) (G_eq : FnOk P w K mg base CX0 1 f_eq d_eq ["self", "other"] (spCEq C)) (b_eq : Binds K d_eq ["self", "other"] []) (nfC : PySem.W.notFirst K C (.ref C) = true) : FnOk P w K mg base CX0 7 f fd ["_law_script"] (spLaw K) := by
  refine F.ok sc_law (fun vs H Q E h => ?_) (fun cdv A outer s H vs Q E hr h => ?_)
  · obtain ⟨z, ns, rfl, _⟩ := h
    rfl
  · obtain ⟨z, ns, rfl, hs, hn, q⟩ := h
    have hu64 : (A.deeper (envOfC "law" (defScope s_law) s.heap.objs.size f cdv)).units + 64 < cLine := hr.units
    obtain ⟨tG, hG, qG⟩ : ∃ tR, PSs (cxOf CX0 P w K mg base ["_law_script", "_law_plan", "_law_sizes", "_law_many", "_law_deeds", "_law_lines_here", "_law_note", "_law_given", "_law_told_here", "_law_both", "_law_row", "_law_words", "_law_at", "_law_line", "_law_puts", "_law_put", "_law_first", "_law_wrong", "_law_spoilt_here", "_law_k", "_law_other", "_law_deed_here"] "law" (defScope s_law) f cdv A outer s H E).nox ((defBody s_law).drop 18) tR ∧ ∀ (a4 : Addr) (us : List V) (ds : List Deed) (a5 p7 : Addr) (y1 y2 y3 y8 y9 y10 y11 y12 y13 y14 y15 y16 y17 y18 y19 y20 y21 : Option V) (H0 : Hp), LW K C z ns a4 us ds a5 p7 H0 → tR { nx := fun _ H' => Q .non H', rt := Q } [some (.ref z), y1, y2, y3, some (.ref a4), some (.ref a5), some (.str (nT ds)), some (.ref p7), y8, y9, y10, y11, y12, y13, y14, y15, y16, y17, y18, y19, y20, y21] H0 := by
      refine ⟨_, (pss_cons (ps_if (PW.pt (pw_or (pt_cmpR (by exact op_neDK (K := K) rfl hu64) (pe_call G_t (hr.mono (by decide)) (by rfl) D_t.g D_t.F.kp D_t.b .nil pass0 (pa_cons pe_str pa_nil)) (pe_lst (pa_cons pe_int pa_nil)) (nomark _)) (pw_or (pt_cmpR (by exact op_neDK (K := K) rfl hu64) (pe_call G_t (hr.mono (by decide)) (by rfl) D_t.g D_t.F.kp D_t.b .nil pass0 (pa_cons pe_str pa_nil)) (pe_lst (pa_cons pe_str (pa_cons (pe_lst pa_nil) pa_nil))) (nomark _)) (pw_or1 (pt_cmpR (by exact op_neDK (K := K) rfl hu64) (pe_call G_t (hr.mono (by decide)) (by rfl) D_t.g D_t.F.kp D_t.b .nil pass0 (pa_cons pe_str pa_nil)) (pe_lst (pa_cons pe_int pa_nil)) (nomark _)))))) (pss_one (ps_ret pe_bl)) pss_nil)
        (pss_one (ps_ret (pe_cmpR op_isBl (pe_cmpR (by exact op_ownEqK (K := K) rfl i_eq n_eq G_eq (hr.mono (by decide)) b_eq) (pe_call G_p (hr.mono (by decide)) (by rfl) D_p.g D_p.F.kp D_p.b .nil passN (pa_cons (pe_call G_f (hr.mono (by decide)) (by rfl) D_f.g D_f.F.kp D_f.b .nil pass0 (pa_cons (pv 7) pa_nil)) pa_nil)) (pv 7) (nomark _)) pe_bl (nomark _))))), ?_⟩
      intro a4 us ds a5 p7 y1 y2 y3 y8 y9 y10 y11 y12 y13 y14 y15 y16 y17 y18 y19 y20 y21 H0 W
      dsimp only [tSeq, tIfS, tOr, tTest, tOp, tCall, tCons, tC, tNil, tVar, tRet, List.cons_append, List.nil_append]
      refine (sp_res (K := K) fit_empty res_empty fun H1 l1 s1 d1 => ?_).1
      refine ⟨by show 1 ≤ sizeLine; decide, fun l nl => ne_res res_empty (Dp.same (same_upd nl) d1) (.lst (.inl (.inl upd_same)) (.cons (.int _) .nil)) ⟨_, rfl, ?_⟩⟩
      have s2 := s1.trans (same_upd (o := .lst [.int 1]) nl)
      rw [if_neg Bool.false_ne_true]
      try dsimp only [tSeq, tIfS, tOr, tTest, tOp, tCall, tCons, tC, tNil, tVar, tRet, List.cons_append, List.nil_append]
      refine (sp_res (K := K) fit_course res_course fun H3 l3 s3 d3 => ?_).1
      refine ⟨by show 0 ≤ sizeLine; decide, fun l4 n4 => ⟨by show 2 ≤ sizeLine; decide, fun l5 n5 => ?_⟩⟩
      have s5 := (same_upd (o := .lst []) n4).trans (same_upd (o := .lst [.str (Str.ofString "deeds"), .ref l4]) n5)
      refine ne_res res_course (Dp.same s5 d3) (.lst (.inl (.inl upd_same)) (.cons (.str _) (.cons (.lst (.inl (.inl ((same_upd n5) _ _ upd_same))) .nil) .nil))) ⟨_, rfl, ?_⟩
      rw [if_neg Bool.false_ne_true]
      try dsimp only [tSeq, tIfS, tOr, tTest, tOp, tCall, tCons, tC, tNil, tVar, tRet, List.cons_append, List.nil_append]
      refine (sp_res (K := K) fit_feed res_feed fun H6 l6 s6 d6 => ?_).1
      refine ⟨by show 1 ≤ sizeLine; decide, fun l nl7 => ne_res res_feed (Dp.same (same_upd nl7) d6) (.lst (.inl (.inl upd_same)) (.cons (.int _) .nil)) ⟨_, rfl, ?_⟩⟩
      have s7 := (s2.trans (s3.trans s5)).trans (s6.trans (same_upd (o := .lst [.int 1]) nl7))
      have W := W.same s7
      refine ⟨_, rfl, p7, ds, rfl, W.hg, sml_of W.ok, by have := W.len; omega, fun H8 s8 => ?_⟩
      rw [note_eq]
      dsimp only [tSeq, tIfS, tOr, tTest, tOp, tCall, tCons, tC, tNil, tVar, tRet, List.cons_append, List.nil_append]
      refine parse_note W.ok (by have := W.len; omega) fun H9 p9 s9 c9 => ?_
      refine ⟨_, rfl, eqCrs nfC c9 (W.hg.same (s8.trans s9)) (good_of W.ok) ⟨_, _, rfl, rfl, ?_⟩⟩
      exact q _
    obtain ⟨tF, hF, qF⟩ : ∃ tR, PSs (cxOf CX0 P w K mg base ["_law_script", "_law_plan", "_law_sizes", "_law_many", "_law_deeds", "_law_lines_here", "_law_note", "_law_given", "_law_told_here", "_law_both", "_law_row", "_law_words", "_law_at", "_law_line", "_law_puts", "_law_put", "_law_first", "_law_wrong", "_law_spoilt_here", "_law_k", "_law_other", "_law_deed_here"] "law" (defScope s_law) f cdv A outer s H E).nox ((defBody s_law).drop 17) tR ∧ ∀ (a4 : Addr) (us : List V) (ds : List Deed) (a5 p7 : Addr) (y1 y2 y3 y8 y9 y10 y11 y12 y13 y14 y15 y16 y17 y18 y19 y20 y21 : Option V) (H0 : Hp), LW K C z ns a4 us ds a5 p7 H0 → tR { nx := fun _ H' => Q .non H', rt := Q } [some (.ref z), y1, y2, y3, some (.ref a4), some (.ref a5), some (.str (nT ds)), some (.ref p7), y8, y9, y10, y11, y12, y13, y14, y15, y16, y17, y18, y19, y20, y21] H0 := by
      refine ⟨_, (pss_cons (ps_for PassesOwn.never rfl (pi_list (pe_lst (pa_cons pe_int (pa_cons pe_int pa_nil)))) (pg_name (i := 16) sc_law.nd rfl (.inl rfl))
        (pss_cons (ps_set (i := 10) sc_law.nd rfl (.inl rfl) (pe_call G_d (hr.mono (by decide)) (by rfl) D_d.g D_d.F.kp D_d.b .nil pass0 (pa_cons (pe_call G_c (hr.mono (by decide)) (by rfl) D_c.g D_c.F.kp D_c.b .nil pass0 (pa_cons (pv 0) (pa_cons (pv 16) pa_nil))) (pa_cons (pe_op op_rep (pe_lst (pa_cons pe_int (pa_cons pe_int (pa_cons pe_int pa_nil)))) pe_int) pa_nil))))
        (pss_cons (ps_set (i := 18) sc_law.nd rfl (.inl rfl) (pe_call G_s (hr.mono (by decide)) (by rfl) D_s.g D_s.F.kp D_s.b .nil pass0 (pa_cons (pv 5) (pa_cons (pv 10) pa_nil))))
        (pss_cons (ps_set (i := 17) sc_law.nd rfl (.inl rfl) (pe_asJ (K := K) rfl (pe_join pe_str (pv 18))))
        (pss_cons (ps_if (pt_cmpR (by exact op_neDK (K := K) rfl hu64) (pe_call G_t (hr.mono (by decide)) (by rfl) D_t.g D_t.F.kp D_t.b .nil pass0 (pa_cons (pv 17) pa_nil)) (pe_call G_r (hr.mono (by decide)) (by rfl) D_r.g D_r.F.kp D_r.b .nil pass0 (pa_cons (pv 17) pa_nil)) (nomark _)) (pss_one (ps_ret pe_bl)) pss_nil)
        (C8.pss_cut (ps_if (pt_cmpR op_gt (pe_callB call_len_seq (by rfl) T.b_len PySem.boot_len (pa_cons (pv 18) pa_nil)) pe_int (nomark _)) (pss_cons (ps_set (i := 17) sc_law.nd rfl (.inl rfl) (pe_asJ (K := K) rfl (pe_join pe_str (pe_call G_s (hr.mono (by decide)) (by rfl) D_s.g D_s.F.kp D_s.b .nil pass0 (pa_cons (pv 18) (pa_cons (pe_slice (sl_listK (K := K) rfl) (pv 10) (po_some pe_int) po_none) pa_nil))))))
        (pss_one (ps_if (PW.pt (pw_or (pt_cmpR (by exact op_neDK (K := K) rfl hu64) (pe_call G_t (hr.mono (by decide)) (by rfl) D_t.g D_t.F.kp D_t.b .nil pass0 (pa_cons (pv 17) pa_nil)) (pe_call G_r (hr.mono (by decide)) (by rfl) D_r.g D_r.F.kp D_r.b .nil pass0 (pa_cons (pv 17) pa_nil)) (nomark _)) (pw_or1 (pt_cmpR (by exact op_neDK (K := K) rfl hu64) (pe_call G_t (hr.mono (by decide)) (by rfl) D_t.g D_t.F.kp D_t.b .nil pass0 (pa_cons (pv 17) pa_nil)) (pe_call G_r (hr.mono (by decide)) (by rfl) D_r.g D_r.F.kp D_r.b .nil pass0 (pa_cons (pv 17) pa_nil)) (nomark _))))) (pss_one (ps_ret pe_bl)) pss_nil))) pss_nil)
        (pss_cons (ps_set (i := 17) sc_law.nd rfl (.inl rfl) (pe_asJ (K := K) rfl (pe_join pe_str (pe_call G_s (hr.mono (by decide)) (by rfl) D_s.g D_s.F.kp D_s.b .nil pass0 (pa_cons (pv 5) (pa_cons (pe_slice (sl_listK (K := K) rfl) (pv 10) (po_some pe_int) po_none) pa_nil))))))
        (pss_one (ps_if (PW.pt (pw_or (pt_cmpR (by exact op_neDK (K := K) rfl hu64) (pe_call G_t (hr.mono (by decide)) (by rfl) D_t.g D_t.F.kp D_t.b .nil pass0 (pa_cons (pv 17) pa_nil)) (pe_call G_r (hr.mono (by decide)) (by rfl) D_r.g D_r.F.kp D_r.b .nil pass0 (pa_cons (pv 17) pa_nil)) (nomark _)) (pw_or1 (pt_cmpR op_notBl (pe_cmpR (by exact op_ownEqK (K := K) rfl i_eq n_eq G_eq (hr.mono (by decide)) b_eq) (pe_call G_p (hr.mono (by decide)) (by rfl) D_p.g D_p.F.kp D_p.b .nil passN (pa_cons (pv 6) pa_nil)) (pv 7) (nomark _)) pe_bl (nomark _))))) (pss_one (ps_ret pe_bl)) pss_nil)))))))))
        hG), ?_⟩
      intro a4 us ds a5 p7 y1 y2 y3 y8 y9 y10 y11 y12 y13 y14 y15 y16 y17 y18 y19 y20 y21 H0 W
      have pl := linesT_pl W.ok
      have ll : (linesT ds).length ≤ 21 := by rw [linesT_len]; have := W.len; omega
      have lne : linesT ds ≠ [] := fun e => nomatch e
      refine ⟨by show 2 ≤ sizeLine; decide, fun p np => ?_⟩
      have s0 := same_upd (o := .lst [.int 1, .int 2]) np
      refine ⟨p, rfl, ⟨_, .inl (.inl upd_same)⟩, for_list (xs := [.int 1, .int 2]) (fun i σ H' => (∃ b10 b16 b17 b18, σ = [some (.ref z), y1, y2, y3, some (.ref a4), some (.ref a5), some (.str (nT ds)), some (.ref p7), y8, y9, b10, y11, y12, y13, y14, y15, b16, b17, b18, y19, y20, y21]) ∧ Same (upd H0 p (.lst [.int 1, .int 2])) H') ⟨⟨_, _, _, _, rfl⟩, Same.refl _⟩ (fun i σ H' _ pv => .inl (.inl (pv.2 _ _ upd_same))) (fun i v σ H2 hx pv => ?_) fun σ H2 pv => ?_⟩
      · obtain ⟨⟨b10, b16, b17, b18, rfl⟩, s2⟩ := pv
        obtain ⟨j, rfl, hj⟩ : ∃ j : Nat, v = .int (j : Int) ∧ j ≤ 2 := by
          match i, hx with
          | 0, hx => exact ⟨1, (Option.some.inj hx).symm, by decide⟩
          | 1, hx => exact ⟨2, (Option.some.inj hx).symm, by decide⟩
          | i + 2, hx => exact absurd hx (by simp)
        have s02 := s0.trans s2
        have W2 := W.same s02
        refine ⟨_, rfl, _, rfl, z, ns, j, rfl, W2.hs, by omega, hn, fun c => ?_⟩
        refine ⟨by show 3 ≤ sizeLine; decide, fun l nl => ⟨l, 4, _, rfl, rfl, upd_same, by decide, by decide, by show 3 * 4 ≤ sizeLine; decide, fun l2 nl2 => ?_⟩⟩
        have s3 := (same_upd (o := .lst [.int 13, .int 30, .int 60]) nl).trans (same_upd (o := .lst (List.replicate (4 : Int).toNat [V.int 13, .int 30, .int 60]).flatten) nl2)
        refine ⟨c, l2, [13, 30, 60, 13, 30, 60, 13, 30, 60, 13, 30, 60], rfl, .inl (.inl upd_same), by decide, by decide, fun H3 r dg s4 nr er hdg => ?_⟩
        obtain ⟨x0, x1, x2, x3, x4, x5, x6, x7, x8, more, rfl⟩ := digs_long hdg rfl
        have s04 := s3.trans s4
        have W3 := W2.same s04
        refine ⟨_, rfl, _, rfl, a5, r, linesT ds, _, 46, x0, x1, x2, _, rfl, W3.hl, .inl (.inl er), lne, by omega, pl, ⟨by decide, by decide⟩, rfl, fun H4 sp zs s5 esp lz pz => ?_⟩
        have lz1 : zs.length ≤ 46 := by omega
        have pz1 : ∀ z ∈ zs, Pl 140 z := pz
        refine ⟨⟨_, rfl⟩, _, rfl, _, sp, zs, rfl, rfl, .inl (.inl (.inl esp)), join_few pz1 (by decide) (by omega), ?_⟩
        refine tt_told rfl (fit pz1 (by decide) (by omega)) fun H5 s6 => ?_
        rw [if_neg Bool.false_ne_true]
        have S5 := s02.trans ((s04.trans s5).trans s6)
        have W5 := W.same S5
        have esp5 := s6 _ _ esp
        have er5 := (s5.trans s6) _ _ er
        refine ⟨fun σ' H' => (∃ b17, σ' = [some (.ref z), y1, y2, y3, some (.ref a4), some (.ref a5), some (.str (nT ds)), some (.ref p7), y8, y9, some (.ref r), y11, y12, y13, y14, y15, some (.int (j : Int)), b17, some (.ref sp), y19, y20, y21]) ∧ Same H5 H', ?_, fun σ' H' m => ?_⟩
        · refine ⟨_, rfl, sp, _, rfl, .inl (.inl (.inl esp5)), _, _, rfl, rfl, _, rfl, ite2 (fun cc => ?_) (fun cc => ⟨⟨_, rfl⟩, Same.refl _⟩)⟩
          have zne : zs ≠ [] := fun e => by
            rw [e] at cc
            exact absurd (of_decide_eq_true cc) (by decide)
          refine ⟨⟨_, rfl⟩, _, rfl, _, rfl, _, rfl, r, _, rfl, .inl (.inl er5), fun r3 n3 => ?_⟩
          have cut3 : cutV ((x0 :: x1 :: x2 :: x3 :: x4 :: x5 :: x6 :: x7 :: x8 :: more).map V.int) (some 3) none = (x3 :: x4 :: x5 :: x6 :: x7 :: x8 :: more).map V.int := cut_from (k := 3) (by simp)
          rw [cut3]
          have sr := same_upd (o := .lst ((x3 :: x4 :: x5 :: x6 :: x7 :: x8 :: more).map V.int)) n3
          refine ⟨sp, r3, zs, _, 140, x3, x4, x5, _, rfl, sr _ _ esp5, .inl (.inl upd_same), zne, by omega, pz1, ⟨by decide, by decide⟩, rfl, fun H7 sp2 zs2 s7 esp2 lz2 pz2 => ?_⟩
          have pz22 : ∀ z ∈ zs2, Pl 422 z := pz2
          refine ⟨_, sp2, zs2, rfl, rfl, .inl (.inl (.inl esp2)), join_few pz22 (by decide) (by omega), ?_⟩
          refine tt_told rfl (fit pz22 (by decide) (by omega)) fun H8 s8 => ?_
          rw [if_neg Bool.false_ne_true]
          refine tt_told rfl (fit pz22 (by decide) (by omega)) fun H9 s9 => ?_
          exact ⟨⟨_, rfl⟩, (sr.trans s7).trans (s8.trans s9)⟩
        · obtain ⟨⟨b17, rfl⟩, s10⟩ := m
          have W10 := W5.same s10
          refine ⟨⟨_, rfl⟩, _, rfl, _, rfl, _, rfl, r, _, rfl, .inl (.inl (s10 _ _ er5)), fun r3 n3 => ?_⟩
          have cut6 : cutV ((x0 :: x1 :: x2 :: x3 :: x4 :: x5 :: x6 :: x7 :: x8 :: more).map V.int) (some 6) none = (x6 :: x7 :: x8 :: more).map V.int := cut_from (k := 6) (by simp)
          rw [cut6]
          have sr := same_upd (o := .lst ((x6 :: x7 :: x8 :: more).map V.int)) n3
          refine ⟨a5, r3, linesT ds, _, 46, x6, x7, x8, _, rfl, sr _ _ W10.hl, .inl (.inl upd_same), lne, by omega, pl, ⟨by decide, by decide⟩, rfl, fun H11 sp2 zs2 s11 esp2 lz2 pz2 => ?_⟩
          have pz22 : ∀ z ∈ zs2, Pl 140 z := pz2
          refine ⟨_, sp2, zs2, rfl, rfl, .inl (.inl (.inl esp2)), join_few pz22 (by decide) (by omega), ?_⟩
          refine tt_told rfl (fit pz22 (by decide) (by omega)) fun H12 s12 => ?_
          rw [if_neg Bool.false_ne_true]
          refine ⟨_, rfl, ?_⟩
          dsimp only [tSeq, tIfS, tOr, tTest, tOp, tCall, tCons, tC, tNil, tVar, tRet, List.cons_append, List.nil_append]
          have S12 := (sr.trans s11).trans s12
          refine parse_note W.ok (by have := W.len; omega) fun H13 p13 s13 c13 => ?_
          refine ⟨_, rfl, eqCrs nfC c13 (W10.hg.same (S12.trans s13)) (good_of W.ok) ⟨_, _, rfl, rfl, _, rfl, ?_⟩⟩
          exact ⟨⟨_, _, _, _, rfl⟩, s2.trans ((s04.trans s5).trans (s6.trans (s10.trans (S12.trans s13))))⟩
      · obtain ⟨⟨b10, b16, b17, b18, rfl⟩, s2⟩ := pv
        exact qG a4 us ds a5 p7 _ _ _ _ _ _ _ _ _ _ _ _ _ _ _ _ _ H2 (W.same (s0.trans s2))
    obtain ⟨tE, hE, qE⟩ : ∃ tR, PSsT (cxOf CX0 P w K mg base ["_law_script", "_law_plan", "_law_sizes", "_law_many", "_law_deeds", "_law_lines_here", "_law_note", "_law_given", "_law_told_here", "_law_both", "_law_row", "_law_words", "_law_at", "_law_line", "_law_puts", "_law_put", "_law_first", "_law_wrong", "_law_spoilt_here", "_law_k", "_law_other", "_law_deed_here"] "law" (defScope s_law) f cdv A outer s H E).nox ((defBody s_law).drop 15) tR ∧ ∀ (a4 : Addr) (us : List V) (ds : List Deed) (a5 p7 : Addr) (y1 y2 y3 y8 y9 y10 y14 y15 y16 y17 y18 y19 y20 y21 : Option V) (a11 : Addr) (dd : Deed) (k : Nat) (H0 : Hp), LW K C z ns a4 us ds a5 p7 H0 → LD dd → H0 a11 = some (.lst ((wdsD dd).map V.str)) → 1 ≤ k → k < (wdsD dd).length → tR { nx := fun _ H' => Q .non H', rt := Q } [some (.ref z), y1, y2, y3, some (.ref a4), some (.ref a5), some (.str (nT ds)), some (.ref p7), y8, y9, y10, some (.ref a11), some (.int (k : Int)), some (.str (lineT dd)), y14, y15, y16, y17, y18, y19, y20, y21] H0 := by
      refine ⟨_, (psst_of (ps_setLc (i := 14) (own := [("_law_other", 20)]) (g := gName 20) (tt := tYes) rfl sc_law.nd rfl rfl (sw_true rfl rfl rfl (by decide +kernel)) (pi_list (pe_call G_w (hr.mono (by decide)) (by rfl) D_w.g D_w.F.kp D_w.b .nil pass0 (pa_cons (pe_ix (r := rIxL K) ix_list (pv 11) (pv 12) (fun _ _ => rfl)) pa_nil))) (blkOk_by (own := [("_law_other", 20)]) (N := ["_law_script", "_law_plan", "_law_sizes", "_law_many", "_law_deeds", "_law_lines_here", "_law_note", "_law_given", "_law_told_here", "_law_both", "_law_row", "_law_words", "_law_at", "_law_line", "_law_puts", "_law_put", "_law_first", "_law_wrong", "_law_spoilt_here", "_law_k", "_law_other", "_law_deed_here"]) (sc := defScope s_law) (by decide +kernel)) (fun _ _ _ _ _ => (pg_name (i := 20) sc_law.nd rfl (.inl rfl))) (fun _ _ _ _ _ => pts_nil) (fun _ _ _ _ _ => (pe_asJ (K := K) rfl (pe_join pe_str (pe_op op_cat (pe_op op_cat (pe_slice (sl_listK (K := K) rfl) (pv 11) po_none (po_some (pv 12))) (pe_lst (pa_cons (pv 20) pa_nil))) (pe_slice (sl_listK (K := K) rfl) (pv 11) (po_some (pe_op op_add (pv 12) pe_int)) po_none))))))
        (psst_cons (pst_for PassesOwn.never rfl (pit_list (CwR.pet_op op_cat (CwR.PET.of (pv 14)) (pet_lst (pat_cons (CwR.PET.of (pe_op op_add_str (pv 13) pe_str)) (pat_cons (CwR.PET.of (pe_op op_add_str pe_str (pv 13))) (pat_cons (CwR.pet_replC (pv 13)) (pat_cons (CwR.pet_replC (pv 13)) (pat_cons (CwR.PET.of (pe_op op_add_str (pv 13) pe_str)) (pat_cons (CwR.PET.of (pe_upper (pv 13))) pat_nil))))))))) (pg_name (i := 15) sc_law.nd rfl (.inl rfl))
        (pss_cons (ps_set (i := 17) sc_law.nd rfl (.inl rfl) (pe_asJ (K := K) rfl (pe_join pe_str (pe_op op_cat (pe_op op_cat (pe_slice (sl_listK (K := K) rfl) (pv 5) po_none (po_some pe_int)) (pe_lst (pa_cons (pv 15) pa_nil))) (pe_slice (sl_listK (K := K) rfl) (pv 5) (po_some pe_int) (po_some pe_int))))))
        (pss_one (ps_if (pt_cmpR (by exact op_neDK (K := K) rfl hu64) (pe_call G_t (hr.mono (by decide)) (by rfl) D_t.g D_t.F.kp D_t.b .nil pass0 (pa_cons (pv 17) pa_nil)) (pe_call G_r (hr.mono (by decide)) (by rfl) D_r.g D_r.F.kp D_r.b .nil pass0 (pa_cons (pv 17) pa_nil)) (nomark _)) (pss_one (ps_ret pe_bl)) pss_nil))))
        (PSsT.of hF))), ?_⟩
      intro a4 us ds a5 p7 y1 y2 y3 y8 y9 y10 y14 y15 y16 y17 y18 y19 y20 y21 a11 dd k H0 W ld e11 k1 k2
      have ldp := wdsD_pl ld
      have ldl := wdsD_len ld
      have pll := pl_line ld
      have hz := pll.1
      have hzl : (lineT dd).length ≤ sizeLine := Nat.le_trans (Nat.le_trans hz (by decide : 46 ≤ 100000)) (by decide)
      have le1 : ∀ k, k ≤ 100 → k + (lineT dd).length ≤ sizeLine := fun k hk => Nat.le_trans (by omega) (by decide : 20000 ≤ sizeLine)
      have le2 : ∀ k, k ≤ 100 → (lineT dd).length + k ≤ sizeLine := fun k hk => Nat.le_trans (by omega) (by decide : 20000 ≤ sizeLine)
      have lim : ∀ k, k ≤ 1000 → k ≤ sizeLine := fun k h => Nat.le_trans h (by decide)
      obtain ⟨x, hx⟩ : ∃ x, (wdsD dd)[k]? = some x := ⟨(wdsD dd)[k], List.getElem?_eq_getElem k2⟩
      have px := ldp x (List.mem_of_getElem? hx)
      refine ⟨_, rfl, _, rfl, a11, _, _, _, rfl, rfl, .inl (.inl e11), atI_nat (by rw [List.getElem?_map, hx]; rfl), x, 19, rfl, px, by decide, fun H1 r ys s1 er ly py => ?_⟩
      have e11b := s1 _ _ e11
      refine ⟨r, rfl, ⟨_, .inl (.inl er)⟩, fun M nM => lc_list (K := K) (a := r) (xs := ys.map V.str) (fun i Hi => ∃ (ps : List Str) (Hc : Hp), (ps.length = i ∧ ∀ p ∈ ps, Pl 320 p) ∧ Same H1 Hc ∧ Hc M = none ∧ Hi = upd Hc M (.lst (ps.map V.str))) ⟨[], H1, ⟨rfl, fun p h => nomatch h⟩, Same.refl _, nM, rfl⟩ (fun i Hi _ pv => ?_) (fun i v Hi hv pv => ?_) fun Hi pv => ?_⟩
      · obtain ⟨ps, Hc, _, sc, nc, rfl⟩ := pv
        exact .inl (.inl ((sc.trans (same_upd nc)) _ _ er))
      · obtain ⟨ps, Hc, ⟨lp, pp⟩, sc, nc, rfl⟩ := pv
        obtain ⟨y, rfl, hy⟩ := str_at hv
        have hyp := (py y (List.mem_of_getElem? hy)).le (show 19 + 20 ≤ 39 by decide)
        have sM := same_upd (o := .lst (ps.map V.str)) nc
        have sH := sc.trans sM
        have eMM : upd Hc M (.lst (ps.map V.str)) M = some (.lst (ps.map V.str)) := upd_same
        generalize upd Hc M (.lst (ps.map V.str)) = Hi at *
        have e11c := sH _ _ e11b
        refine ⟨rfl, ?_⟩
        refine ⟨⟨_, rfl⟩, _, rfl, _, rfl, _, rfl, a11, _, rfl, .inl (.inl e11c), fun p np => ?_⟩
        have t1 := same_upd (o := .lst (cutV ((wdsD dd).map V.str) none (some (k : Int)))) np
        refine ⟨_, rfl, by show 1 ≤ sizeLine; decide, fun l nl => ?_⟩
        have t2 := same_upd (o := .lst [.str y]) nl
        have cl1 := cutG_len (wdsD dd) none (some (k : Int))
        have cl2 := cutG_len (wdsD dd) (some ((k : Int) + 1)) none
        refine ⟨p, l, _, _, rfl, rfl, t2 _ _ upd_same, upd_same, by rw [cut_map, List.length_map]; exact lim _ (by show _ + 1 ≤ 1000; omega), fun c nc2 => ?_⟩
        have t3 := same_upd (o := .lst (cutV ((wdsD dd).map V.str) none (some (k : Int)) ++ [.str y])) nc2
        have t03 := (t1.trans t2).trans t3
        refine ⟨_, rfl, _, rfl, _, _, rfl, rfl, _, rfl, a11, _, rfl, .inl (.inl (t03 _ _ e11c)), fun p2 np2 => ?_⟩
        have t4 := same_upd (o := .lst (cutV ((wdsD dd).map V.str) (some ((k : Int) + 1)) none)) np2
        refine ⟨c, p2, _, _, rfl, rfl, t4 _ _ upd_same, upd_same, by rw [cut_map, cut_map, List.length_append, List.length_map, List.length_map]; exact lim _ (by show _ + 1 + _ ≤ 1000; omega), fun c2 nc3 => ?_⟩
        have t5 := same_upd (o := .lst ((cutV ((wdsD dd).map V.str) none (some (k : Int)) ++ [.str y]) ++ cutV ((wdsD dd).map V.str) (some ((k : Int) + 1)) none)) nc3
        have t05 := t03.trans (t4.trans t5)
        have ec2 : (upd (upd (upd (upd (upd Hi p (.lst (cutV ((wdsD dd).map V.str) none (some (k : Int))))) l (.lst [.str y])) c (.lst (cutV ((wdsD dd).map V.str) none (some (k : Int)) ++ [.str y]))) p2 (.lst (cutV ((wdsD dd).map V.str) (some ((k : Int) + 1)) none))) c2 (.lst ((cutV ((wdsD dd).map V.str) none (some (k : Int)) ++ [.str y]) ++ cutV ((wdsD dd).map V.str) (some ((k : Int) + 1)) none))) c2 = some (.lst ((cutG (wdsD dd) none (some (k : Int)) ++ [y] ++ cutG (wdsD dd) (some ((k : Int) + 1)) none).map V.str)) := by
          rw [upd_same, cut_map, cut_map, List.map_append, List.map_append]
          rfl
        have pw := put_pl ld hyp (a := cutG (wdsD dd) none (some (k : Int))) (b := cutG (wdsD dd) (some ((k : Int) + 1)) none) (fun z hz => cutG_mem z hz) (fun z hz => cutG_mem z hz) (by simp only [List.length_append, List.length_cons, List.length_nil]; omega)
        have pws : ∀ z ∈ cutG (wdsD dd) none (some (k : Int)) ++ [y] ++ cutG (wdsD dd) (some ((k : Int) + 1)) none, Pl 39 z := fun z hz => by
          rcases List.mem_append.mp hz with h1 | h1
          · rcases List.mem_append.mp h1 with h2 | h2
            · exact (ldp z (cutG_mem z h2)).le (by decide)
            · rw [List.mem_singleton.mp h2]
              exact hyp
          · exact (ldp z (cutG_mem z h1)).le (by decide)
        refine ⟨_, c2, _, rfl, rfl, .inl (.inl (.inl ec2)), words_few pws (by decide) (by simp only [List.length_append, List.length_cons, List.length_nil]; omega), ?_⟩
        generalize (upd (upd (upd (upd (upd Hi p (.lst (cutV ((wdsD dd).map V.str) none (some (k : Int))))) l (.lst [.str y])) c (.lst (cutV ((wdsD dd).map V.str) none (some (k : Int)) ++ [.str y]))) p2 (.lst (cutV ((wdsD dd).map V.str) (some ((k : Int) + 1)) none))) c2 (.lst ((cutV ((wdsD dd).map V.str) none (some (k : Int)) ++ [.str y]) ++ cutV ((wdsD dd).map V.str) (some ((k : Int) + 1)) none))) = H5 at *
        have li : i < 24 := by
          have := (List.getElem?_eq_some_iff.mp hy).1
          omega
        refine ⟨_, t05 _ _ eMM, by rw [List.length_map]; exact small1000 (by omega), ps ++ [Txt.join (Str.ofString " ") (cutG (wdsD dd) none (some (k : Int)) ++ [y] ++ cutG (wdsD dd) (some ((k : Int) + 1)) none)], hole H5 M, ⟨by rw [List.length_append, lp]; rfl, fun v hv => ?_⟩, same_hole nM (sH.trans t05), hole_at, ?_⟩
        · rcases List.mem_append.mp hv with h | h
          · exact pp v h
          · rw [List.mem_singleton.mp h]
            exact pw
        · rw [upd_hole, List.map_append]
          rfl
      · obtain ⟨ps, Hc, ⟨lp, pp⟩, sc, nc, rfl⟩ := pv
        rw [List.length_map, ly] at lp
        have S2 := (s1.trans sc).trans (same_upd (o := .lst (ps.map V.str)) nc)
        have eM : upd Hc M (.lst (ps.map V.str)) M = some (.lst (ps.map V.str)) := upd_same
        generalize upd Hc M (.lst (ps.map V.str)) = H2 at *
        have W2 := W.same S2
        refine ⟨_, rfl, _, rfl, _, _, rfl, rfl, le2 1 (by decide), _, rfl, _, _, rfl, rfl, le1 1 (by decide), _, rfl, lineT dd, rfl, ?_, _, rfl, lineT dd, rfl, ?_, _, rfl, _, _, rfl, rfl, le2 1 (by decide), _, rfl, ⟨_, rfl⟩, lineT dd, rfl, rfl, by omega, by show 6 ≤ sizeLine; decide, fun l6 n6 => ?_⟩
        · have : (Str.ofString "  ").length = 2 := rfl
          rw [this]
          omega
        · have : (Str.ofString "	").length = 1 := rfl
          rw [this]
          omega
        obtain ⟨six, hsix⟩ : ∃ six : List Str, six = [lineT dd ++ Str.ofString " ", Str.ofString " " ++ lineT dd, Txt.replace (lineT dd) (Str.ofString " ") (Str.ofString "  "), Txt.replace (lineT dd) (Str.ofString " ") (Str.ofString "	"), lineT dd ++ Str.ofString "	", Txt.upper (lineT dd)] := ⟨_, rfl⟩
        have p6 : ∀ z ∈ six, Pl 320 z := fun z hz => by
          rw [hsix] at hz
          simp only [List.mem_cons, List.not_mem_nil, or_false] at hz
          rcases hz with e | e | e | e | e | e <;> rw [e]
          · exact (pll.app (pl_of (n := 1) (by decide +kernel))).le (by decide)
          · exact ((pl_of (n := 1) (by decide +kernel)).app pll).le (by decide)
          · exact (pll.repl (pl_of (n := 2) (by decide +kernel)) (by decide) (by decide)).le (by decide)
          · exact (pll.repl (pl_of (n := 1) (by decide +kernel)) (by decide) (by decide)).le (by decide)
          · exact (pll.app (pl_of (n := 1) (by decide +kernel))).le (by decide)
          · exact pll.up.le (by decide)
        have l6e : six.length = 6 := by rw [hsix]; rfl
        have s6 := same_upd (o := .lst (six.map V.str)) n6
        have e6 : upd H2 l6 (.lst (six.map V.str)) l6 = some (.lst (six.map V.str)) := upd_same
        have hm : [V.str (lineT dd ++ Str.ofString " "), .str (Str.ofString " " ++ lineT dd), .str (Txt.replace (lineT dd) (Str.ofString " ") (Str.ofString "  ")), .str (Txt.replace (lineT dd) (Str.ofString " ") (Str.ofString "	")), .str (lineT dd ++ Str.ofString "	"), .str (Txt.upper (lineT dd))] = six.map V.str := by rw [hsix]; rfl
        rw [hm]
        clear hm hsix
        refine ⟨M, l6, _, _, rfl, rfl, s6 _ _ eM, e6, by rw [List.length_map, List.length_map, lp, l6e]; show 24 + 6 ≤ sizeLine; decide, fun c nc6 => ?_⟩
        have s7 := s6.trans (same_upd (o := .lst (ps.map V.str ++ six.map V.str)) nc6)
        have ec : upd (upd H2 l6 (.lst (six.map V.str))) c (.lst (ps.map V.str ++ six.map V.str)) c = some (.lst ((ps ++ six).map V.str)) := by rw [upd_same, List.map_append]
        have pall : ∀ z ∈ ps ++ six, Pl 320 z := fun z hz => (List.mem_append.mp hz).elim (pp z) (p6 z)
        have S7 := S2.trans s7
        have len30 : (ps ++ six).length = 30 := by rw [List.length_append, lp, l6e]
        refine ⟨c, rfl, ⟨_, .inl (.inl ec)⟩, for_list (xs := (ps ++ six).map V.str) (fun i σ H' => (∃ b15 b17, σ = [some (.ref z), y1, y2, y3, some (.ref a4), some (.ref a5), some (.str (nT ds)), some (.ref p7), y8, y9, y10, some (.ref a11), some (.int (k : Int)), some (.str (lineT dd)), some (.ref M), b15, y16, b17, y18, y19, y20, y21]) ∧ Same (upd (upd H2 l6 (.lst (six.map V.str))) c (.lst (ps.map V.str ++ six.map V.str))) H') ⟨⟨_, _, rfl⟩, Same.refl _⟩ (fun i σ H' _ pv => .inl (.inl (pv.2 _ _ ec))) (fun i v σ H3 hv pv => ?_) fun σ H3 pv => ?_⟩
        · obtain ⟨⟨b15, b17, rfl⟩, s8⟩ := pv
          obtain ⟨y, rfl, hy⟩ := str_at hv
          have py := pall y (List.mem_of_getElem? hy)
          have W8 := W.same (S7.trans s8)
          have pl5 := linesT_pl W.ok
          have ll : (linesT ds).length ≤ 21 := by rw [linesT_len]; have := W.len; omega
          have cl1 := cutG_len (linesT ds) none (some 2)
          have cl2 := cutG_len (linesT ds) (some 2) (some 4)
          refine ⟨⟨_, rfl⟩, _, rfl, _, rfl, a5, _, rfl, .inl (.inl W8.hl), fun p np => ?_⟩
          have t1 := same_upd (o := .lst (cutV ((linesT ds).map V.str) none (some 2))) np
          refine ⟨_, rfl, by show 1 ≤ sizeLine; decide, fun l nl => ?_⟩
          have t2 := same_upd (o := .lst [.str y]) nl
          refine ⟨p, l, _, _, rfl, rfl, t2 _ _ upd_same, upd_same, by rw [cut_map, List.length_map]; exact lim _ (by show _ + 1 ≤ 1000; omega), fun c3 nc3 => ?_⟩
          have t3 := same_upd (o := .lst (cutV ((linesT ds).map V.str) none (some 2) ++ [.str y])) nc3
          have t03 := (t1.trans t2).trans t3
          refine ⟨_, rfl, _, rfl, _, rfl, a5, _, rfl, .inl (.inl (t03 _ _ W8.hl)), fun p2 np2 => ?_⟩
          have t4 := same_upd (o := .lst (cutV ((linesT ds).map V.str) (some 2) (some 4))) np2
          refine ⟨c3, p2, _, _, rfl, rfl, t4 _ _ upd_same, upd_same, by rw [cut_map, cut_map, List.length_append, List.length_map, List.length_map]; exact lim _ (by show _ + 1 + _ ≤ 1000; omega), fun c4 nc4 => ?_⟩
          have t5 := same_upd (o := .lst ((cutV ((linesT ds).map V.str) none (some 2) ++ [.str y]) ++ cutV ((linesT ds).map V.str) (some 2) (some 4))) nc4
          have t05 := t03.trans (t4.trans t5)
          have e4 : (upd (upd (upd (upd (upd H3 p (.lst (cutV ((linesT ds).map V.str) none (some 2)))) l (.lst [.str y])) c3 (.lst (cutV ((linesT ds).map V.str) none (some 2) ++ [.str y]))) p2 (.lst (cutV ((linesT ds).map V.str) (some 2) (some 4)))) c4 (.lst ((cutV ((linesT ds).map V.str) none (some 2) ++ [.str y]) ++ cutV ((linesT ds).map V.str) (some 2) (some 4)))) c4 = some (.lst ((cutG (linesT ds) none (some 2) ++ [y] ++ cutG (linesT ds) (some 2) (some 4)).map V.str)) := by
            rw [upd_same, cut_map, cut_map, List.map_append, List.map_append]
            rfl
          have pws : ∀ z ∈ cutG (linesT ds) none (some 2) ++ [y] ++ cutG (linesT ds) (some 2) (some 4), Pl 320 z := fun z hz => by
            rcases List.mem_append.mp hz with h1 | h1
            · rcases List.mem_append.mp h1 with h2 | h2
              · exact (pl5 z (cutG_mem z h2)).le (by decide)
              · rw [List.mem_singleton.mp h2]
                exact py
            · exact (pl5 z (cutG_mem z h1)).le (by decide)
          have lws : (cutG (linesT ds) none (some 2) ++ [y] ++ cutG (linesT ds) (some 2) (some 4)).length ≤ 190 := by
            simp only [List.length_append, List.length_cons, List.length_nil]
            omega
          refine ⟨_, c4, _, rfl, rfl, .inl (.inl (.inl e4)), join_few pws (by decide) lws, ?_⟩
          refine tt_told rfl (fit pws (by decide) lws) fun H5 s9 => ?_
          rw [if_neg Bool.false_ne_true]
          exact ⟨⟨_, _, rfl⟩, s8.trans (t05.trans s9)⟩
        · obtain ⟨⟨b15, b17, rfl⟩, s8⟩ := pv
          exact qF a4 us ds a5 p7 _ _ _ _ _ _ _ _ _ _ _ _ _ _ _ _ _ H3 (W.same (S7.trans s8))
    obtain ⟨tD, hD, qD⟩ : ∃ tR, PSs (cxOf CX0 P w K mg base ["_law_script", "_law_plan", "_law_sizes", "_law_many", "_law_deeds", "_law_lines_here", "_law_note", "_law_given", "_law_told_here", "_law_both", "_law_row", "_law_words", "_law_at", "_law_line", "_law_puts", "_law_put", "_law_first", "_law_wrong", "_law_spoilt_here", "_law_k", "_law_other", "_law_deed_here"] "law" (defScope s_law) f cdv A outer s H E).nox ((defBody s_law).drop 11) tR ∧ ∀ (a4 : Addr) (us : List V) (ds : List Deed) (a5 p7 : Addr) (y1 y2 y3 y8 y9 y10 y11 y12 y13 y14 y15 y16 y17 y18 y19 y20 y21 : Option V) (H0 : Hp), LW K C z ns a4 us ds a5 p7 H0 → tR { nx := fun _ H' => Q .non H', rt := Q } [some (.ref z), y1, y2, y3, some (.ref a4), some (.ref a5), some (.str (nT ds)), some (.ref p7), y8, y9, y10, y11, y12, y13, y14, y15, y16, y17, y18, y19, y20, y21] H0 := by
      refine ⟨_, (pss_cons (ps_set (i := 10) sc_law.nd rfl (.inl rfl) (pe_call G_d (hr.mono (by decide)) (by rfl) D_d.g D_d.F.kp D_d.b .nil pass0 (pa_cons (pe_call G_c (hr.mono (by decide)) (by rfl) D_c.g D_c.F.kp D_c.b .nil pass0 (pa_cons (pv 0) (pa_cons pe_int pa_nil))) (pa_cons (pe_lst (pa_cons pe_int (pa_cons pe_int (pa_cons (pe_op op_sub (pe_op op_pow pe_int pe_int) pe_int) (pa_cons pe_int (pa_cons (pe_op op_sub (pe_op op_pow pe_int pe_int) pe_int) (pa_cons pe_int pa_nil))))))) pa_nil))))
        (pss_cons (ps_set (i := 11) sc_law.nd rfl (.inr rfl) (pe_split (pe_ix (r := rIxL K) ix_list (pe_call G_ll (hr.mono (by decide)) (by rfl) D_ll.g D_ll.F.kp D_ll.b .nil pass0 (pa_cons (pe_lst (pa_cons (pe_call G_dd (hr.mono (by decide)) (by rfl) D_dd.g D_dd.F.kp D_dd.b .nil pass0 (pa_cons (pv 10) pa_nil)) pa_nil)) pa_nil)) pe_int (fun _ _ => rfl)) pe_str))
        (pss_cons (ps_set (i := 12) sc_law.nd rfl (.inr rfl) (pe_op op_add pe_int (pe_op op_modN (pe_callTy call_int1 (by rfl) T.b_int (by decide +kernel) (pa_cons (pe_ix (r := rIxL K) ix_list (pv 10) pe_int (fun _ _ => rfl)) pa_nil)) (pe_op op_sub (pe_callB call_len_seq (by rfl) T.b_len PySem.boot_len (pa_cons (pv 11) pa_nil)) pe_int))))
        (pss_joinK (i := 13) (K := K) rfl sc_law.nd rfl (.inl rfl) (pv 11)
        hE)))), ?_⟩
      intro a4 us ds a5 p7 y1 y2 y3 y8 y9 y10 y11 y12 y13 y14 y15 y16 y17 y18 y19 y20 y21 H0 W
      refine ⟨_, rfl, z, ns, 23, rfl, W.hs, by decide, hn, fun c => ?_⟩
      refine ⟨_, _, rfl, rfl, ⟨by decide, by decide, by decide⟩, _, _, rfl, rfl, _, _, rfl, rfl, ⟨by decide, by decide, by decide⟩, _, _, rfl, rfl, by show 6 ≤ sizeLine; decide, fun l nl => ?_⟩
      refine ⟨c, l, [5, 4, 10 ^ 9 - 1, 4, 10 ^ 9 - 1, 2], rfl, .inl (.inl upd_same), by decide, by decide, fun H1 r dg s1 nr er hdg => ?_⟩
      obtain ⟨drow, x0, x1, x2, x3, x4, x5, rfl, h0, h5⟩ := digs_put hdg
      refine ⟨_, rfl, r, _, rfl, .inl (.inl er), drow, fun H2 b dd s2 eb ld hne => ?_⟩
      have dne := hne x0 _ rfl h0
      refine ⟨by show 1 ≤ sizeLine; decide, fun m nm => ?_⟩
      have t1 := same_upd (o := .lst [.ref b]) nm
      refine ⟨m, [.ref b], [dd], rfl, .inl (.inl upd_same), DsT.nil.snoc (t1 _ _ eb), fun d hd => by rw [List.mem_singleton.mp hd]; exact ld, by show 1 ≤ 100; decide, fun H3 r2 s3 er2 => ?_⟩
      have pll := pl_line ld
      have hz := pll.1
      refine ⟨r2, _, _, _, rfl, rfl, .inl (.inl er2), at_of (j := 1) rfl rfl, ⟨_, rfl⟩, lineT dd, _, rfl, rfl, rfl, Nat.le_trans (Nat.add_le_add_right hz 2) (by decide), fun p np => ?_⟩
      rw [show Txt.split (lineT dd) (Str.ofString " ") = wdsD dd from wds_line ld]
      have s4 := same_upd (o := .lst ((wdsD dd).map V.str)) np
      have ep : upd H3 p (.lst ((wdsD dd).map V.str)) p = some (.lst ((wdsD dd).map V.str)) := upd_same
      generalize upd H3 p (.lst ((wdsD dd).map V.str)) = H4 at *
      have S4 := ((((same_upd nl).trans s1).trans s2).trans (t1.trans s3)).trans s4
      have er4 := (s2.trans ((t1.trans s3).trans s4)) _ _ er
      have l2 : 2 ≤ (wdsD dd).length := by
        unfold wdsD
        rw [List.length_cons, List.length_map]
        have := List.length_pos_iff.mpr dne
        omega
      have lm : (((wdsD dd).map V.str).length : Int) = ((wdsD dd).length : Int) := by rw [List.length_map]
      have fm := fmod_in x5 (n := ((wdsD dd).length : Int) - 1) (by omega)
      obtain ⟨k, hk, k1, k2⟩ : ∃ k : Nat, 1 + x5.fmod ((((wdsD dd).map V.str).length : Int) - 1) = (k : Int) ∧ 1 ≤ k ∧ k < (wdsD dd).length := ⟨(1 + x5.fmod (((wdsD dd).length : Int) - 1)).toNat, by rw [lm]; omega, by omega, by omega⟩
      refine ⟨_, rfl, r, _, _, _, rfl, rfl, .inl (.inl er4), at_of (j := 5) rfl rfl, .inl ⟨_, rfl, _, rfl, p, _, rfl, .inl (.inl (.inl ep)), _, _, rfl, rfl, _, _, rfl, rfl, by rw [lm]; show ((wdsD dd).length : Int) - 1 ≠ 0; omega, _, _, rfl, rfl, ?_⟩⟩
      rw [show (fun i j : Int => V.int (i + j)) 1 (x5.fmod ((((wdsD dd).map V.str).length : Int) - 1)) = V.int (k : Int) from congrArg V.int hk]
      refine ⟨⟨_, rfl⟩, _, rfl, _, p, wdsD dd, rfl, rfl, .inl (.inl (.inl ep)), words_few (wdsD_pl ld) (by decide) (by have := wdsD_len ld; omega), ?_⟩
      exact qE a4 us ds a5 p7 _ _ _ _ _ _ _ _ _ _ _ _ _ _ p dd k H4 (W.same S4) ld ep k1 k2
    obtain ⟨tB, hB, qB⟩ : ∃ tR, PSs (cxOf CX0 P w K mg base ["_law_script", "_law_plan", "_law_sizes", "_law_many", "_law_deeds", "_law_lines_here", "_law_note", "_law_given", "_law_told_here", "_law_both", "_law_row", "_law_words", "_law_at", "_law_line", "_law_puts", "_law_put", "_law_first", "_law_wrong", "_law_spoilt_here", "_law_k", "_law_other", "_law_deed_here"] "law" (defScope s_law) f cdv A outer s H E).nox ((defBody s_law).drop 7) tR ∧ ∀ (a4 : Addr) (us : List V) (ds : List Deed) (a5 p7 : Addr) (y1 y2 y3 y8 y9 y10 y11 y12 y13 y14 y15 y16 y17 y18 y19 y20 y21 : Option V) (H0 : Hp), LW K C z ns a4 us ds a5 p7 H0 → tR { nx := fun _ H' => Q .non H', rt := Q } [some (.ref z), y1, y2, y3, some (.ref a4), some (.ref a5), some (.str (nT ds)), some (.ref p7), y8, y9, y10, y11, y12, y13, y14, y15, y16, y17, y18, y19, y20, y21] H0 := by
      refine ⟨_, (pss_cons (ps_set (i := 8) sc_law.nd rfl (.inl rfl) (pe_callK0 G_f (hr.mono (by decide)) (by rfl) D_f.g D_f.F.kp kb_f pass0 (pk_cons (pv 7) pk_nil)))
        (pss_cons (ps_if (PW.pt (pw_or (pt_not (pt_val (pe_callB call_isi (by rfl) T.b_isinstance (by decide +kernel) (pa_cons (pv 8) (pa_cons (pe_bltn (v := .ty "str") (by rfl) T.b_str (by decide +kernel) rfl) pa_nil))))) (pw_or (pt_cmpR op_ne (pv 8) (pv 6) (nomark _)) (pw_or1 (pt_cmpR (by exact op_neDK (K := K) rfl hu64) (pe_call G_t (hr.mono (by decide)) (by rfl) D_t.g D_t.F.kp D_t.b .nil pass0 (pa_cons (pv 6) pa_nil)) (pe_lst (pa_cons pe_str (pa_cons (pv 4) pa_nil))) (nomark _)))))) (pss_one (ps_ret pe_bl)) pss_nil)
        (pss_cons (ps_set (i := 9) sc_law.nd rfl (.inl rfl) (pe_op (op_ownB sf i_a n_a G_a (hr.mono (by decide)) b_a pass0) (pv 7) (pe_call G_p (hr.mono (by decide)) (by rfl) D_p.g D_p.F.kp D_p.b .nil passN (pa_cons (pv 6) pa_nil))))
        (pss_cons (ps_if (PW.pt (pw_or (pt_cmpR op_ne (pe_call G_f (hr.mono (by decide)) (by rfl) D_f.g D_f.F.kp D_f.b .nil pass0 (pa_cons (pv 9) pa_nil)) (pe_asJ (K := K) rfl (pe_join pe_str (pe_op op_cat (pv 5) (pe_slice (sl_listK (K := K) rfl) (pv 5) (po_some pe_int) po_none)))) (nomark _)) (pw_or1 (pt_cmpR op_notBl (pe_cmpR (by exact op_ownEqK (K := K) rfl i_eq n_eq G_eq (hr.mono (by decide)) b_eq) (pe_call G_p (hr.mono (by decide)) (by rfl) D_p.g D_p.F.kp D_p.b .nil passN (pa_cons (pe_call G_f (hr.mono (by decide)) (by rfl) D_f.g D_f.F.kp D_f.b .nil pass0 (pa_cons (pv 9) pa_nil)) pa_nil)) (pv 9) (nomark _)) pe_bl (nomark _))))) (pss_one (ps_ret pe_bl)) pss_nil)
        hD)))), ?_⟩
      intro a4 us ds a5 p7 y1 y2 y3 y8 y9 y10 y11 y12 y13 y14 y15 y16 y17 y18 y19 y20 y21 H0 W
      have len := W.len
      have fitn := note_fit W.ok (by omega)
      have resn := res_note W.ok
      refine ⟨_, rfl, rfl, rfl, p7, ds, rfl, W.hg, sml_of W.ok, by omega, fun H1 s1 => ?_⟩
      rw [note_eq]
      refine ⟨_, rfl, _, _, _, _, true, rfl, .ty "str", .base (.str _), kit_ty (by decide +kernel), true, rfl, ?_⟩
      refine ⟨_, rfl, _, rfl, rfl, _, rfl, ?_⟩
      rw [show (!decide (V.str (Txt.join "
" (linesT ds)) = V.str (nT ds))) = false by rw [decide_eq_true rfl]; rfl]
      refine ⟨_, rfl, ?_⟩
      dsimp only [tSeq, tIfS, tOr, tTest, tOp, tCall, tCons, tC, tNil, tVar, tRet, List.cons_append, List.nil_append]
      refine (sp_res (K := K) fitn resn fun H2 l2 s2 d2 => ?_).1
      have W2 := W.same (s1.trans s2)
      refine ⟨_, rfl, by show 2 ≤ sizeLine; decide, fun l nl => ?_⟩
      have s3 := same_upd (o := .lst [.str (Str.ofString "deeds"), .ref a4]) nl
      refine ne_res resn (Dp.same s3 d2) (.lst (.inl (.inl upd_same)) (.cons (.str _) (.cons (.lst (.inl (.inl (s3 _ _ W2.hd))) (DsT.dp _ _ (W2.dt.same s3))) .nil))) ⟨_, rfl, ?_⟩
      refine ⟨_, rfl, _, rfl, ?_⟩
      dsimp only [tSeq, tIfS, tOr, tTest, tOp, tCall, tCons, tC, tNil, tVar, tRet, List.cons_append, List.nil_append]
      refine parse_note W.ok (by omega) fun H4 p4 s4 c4 => ?_
      have W4 := W2.same (s3.trans s4)
      obtain ⟨dx, a, vs, e1, ea, t1⟩ := id W4.hg
      obtain ⟨dy, b, ws, e2, eb, t2⟩ := id c4
      refine ⟨p7, dx, _, p4, dy, _, rfl, rfl, e1, e2, p7, p4, ds, ds, rfl, W4.hg, c4, good_of W.ok, good_of W.ok, by omega, by omega, fun H5 x s5 c5 => ?_⟩
      have W5 := W4.same s5
      have ok2 : ∀ d ∈ ds ++ ds, LD d := fun d hd => (List.mem_append.mp hd).elim (W.ok d) (W.ok d)
      have len2 : (ds ++ ds).length ≤ 40 := by rw [List.length_append]; omega
      have lt2 : linesT (ds ++ ds) = linesT ds ++ ds.map lineT := by unfold linesT; rw [List.map_append]; rfl
      refine ⟨_, rfl, x, ds ++ ds, rfl, c5, sml_of ok2, by omega, fun H6 s6 => ?_⟩
      have W6 := W5.same s6
      refine ⟨⟨_, rfl⟩, _, rfl, _, rfl, _, rfl, a5, _, rfl, .inl (.inl W6.hl), fun p np => ?_⟩
      have cc : cutV ((linesT ds).map V.str) (some 1) none = (ds.map lineT).map V.str := cut1
      rw [cc]
      have t3 := same_upd (o := .lst ((ds.map lineT).map V.str)) np
      refine ⟨a5, p, _, _, rfl, rfl, t3 _ _ W6.hl, upd_same, by rw [List.length_map, List.length_map, List.length_map, linesT_len]; exact Nat.le_trans (by omega) (by decide : 100 ≤ sizeLine), fun c nc => ?_⟩
      have t4 := same_upd (o := .lst ((linesT ds).map V.str ++ (ds.map lineT).map V.str)) nc
      have ec : upd (upd H6 p (.lst ((ds.map lineT).map V.str))) c (.lst ((linesT ds).map V.str ++ (ds.map lineT).map V.str)) c = some (.lst ((linesT (ds ++ ds)).map V.str)) := by
        rw [upd_same, lt2, List.map_append]
      refine ⟨_, c, linesT (ds ++ ds), rfl, rfl, .inl (.inl (.inl ec)), join_few (linesT_pl ok2) (by decide) (by rw [linesT_len]; omega), rfl, _, rfl, ?_⟩
      rw [show (!decide (V.str (noteT (("course", []) :: (ds ++ ds))) = V.str (Txt.join (Str.ofString "
") (linesT (ds ++ ds))))) = false by rw [note_eq, decide_eq_true rfl]; rfl]
      have S6 := s6.trans (t3.trans t4)
      have c6 := c5.same S6
      refine ⟨_, rfl, x, ds ++ ds, rfl, c6, sml_of ok2, by omega, fun H8 s8 => ?_⟩
      rw [note_eq]
      dsimp only [tSeq, tIfS, tOr, tTest, tOp, tCall, tCons, tC, tNil, tVar, tRet, List.cons_append, List.nil_append]
      refine parse_note ok2 (by omega) fun H9 p9 s9 c9 => ?_
      refine ⟨_, rfl, eqCrs nfC c9 (c6.same (s8.trans s9)) (good_of ok2) ⟨_, _, rfl, rfl, _, rfl, ?_⟩⟩
      exact qD a4 us ds a5 p7 _ _ _ _ _ _ _ _ _ _ _ _ _ _ _ _ _ H9 (W5.same (S6.trans (s8.trans s9)))
    refine ⟨_, (pss_cons (ps_set (i := 1) sc_law.nd rfl (.inl rfl) (pe_call G_d (hr.mono (by decide)) (by rfl) D_d.g D_d.F.kp D_d.b .nil pass0 (pa_cons (pe_call G_c (hr.mono (by decide)) (by rfl) D_c.g D_c.F.kp D_c.b .nil pass0 (pa_cons (pv 0) (pa_cons pe_int pa_nil))) (pa_cons (pe_lst (pa_cons pe_int (pa_cons pe_int (pa_cons pe_int pa_nil)))) pa_nil))))
        (pss_cons (ps_set (i := 2) sc_law.nd rfl (.inr rfl) (pe_lst (pa_cons pe_int (pa_cons pe_int (pa_cons (pe_op op_sub (pe_op op_pow pe_int pe_int) pe_int) (pa_cons pe_int (pa_cons (pe_op op_sub (pe_op op_pow pe_int pe_int) pe_int) pa_nil)))))))
        (pss_cons (ps_set (i := 3) sc_law.nd rfl (.inl rfl) (pe_ix (r := rIxL K) ix_list (pe_lst (pa_cons (pe_ix (r := rIxL K) ix_list (pv 1) pe_int (fun _ _ => rfl)) (pa_cons (pe_op op_mod (pe_callTy call_int1 (by rfl) T.b_int (by decide +kernel) (pa_cons (pe_ix (r := rIxL K) ix_list (pv 1) pe_int (fun _ _ => rfl)) pa_nil)) pe_int) (pa_cons (pe_ix (r := rIxL K) ix_list (pv 1) pe_int (fun _ _ => rfl)) pa_nil)))) (pe_ix (r := rIxL K) ix_list (pv 1) pe_int (fun _ _ => rfl)) (fun _ _ => rfl)))
        (pss_cons (ps_setLc (i := 4) (own := [("_law_k", 19)]) (g := gName 19) (tt := tYes) rfl sc_law.nd rfl rfl (sw_true rfl rfl rfl (by decide +kernel)) (pi_range1 (by rfl) T.b_range (pa_cons (pv 3) pa_nil)) (blkOk_by (own := [("_law_k", 19)]) (N := ["_law_script", "_law_plan", "_law_sizes", "_law_many", "_law_deeds", "_law_lines_here", "_law_note", "_law_given", "_law_told_here", "_law_both", "_law_row", "_law_words", "_law_at", "_law_line", "_law_puts", "_law_put", "_law_first", "_law_wrong", "_law_spoilt_here", "_law_k", "_law_other", "_law_deed_here"]) (sc := defScope s_law) (by decide +kernel)) (fun _ _ _ _ _ => (pg_name (i := 19) sc_law.nd rfl (.inl rfl))) (fun _ _ _ _ _ => pts_nil) (fun _ _ _ _ _ => (pe_call G_dd (hr.mono (by decide)) (by rfl) D_dd.g D_dd.F.kp D_dd.b .nil pass0 (pa_cons (pe_call G_d (hr.mono (by decide)) (by rfl) D_d.g D_d.F.kp D_d.b .nil pass0 (pa_cons (pe_call G_c (hr.mono (by decide)) (by rfl) D_c.g D_c.F.kp D_c.b .nil pass0 (pa_cons (pv 0) (pa_cons (pe_op op_add pe_int (pv 19)) pa_nil))) (pa_cons (pv 2) pa_nil))) pa_nil))))
        (pss_cons (ps_set (i := 5) sc_law.nd rfl (.inl rfl) (pe_call G_ll (hr.mono (by decide)) (by rfl) D_ll.g D_ll.F.kp D_ll.b .nil pass0 (pa_cons (pv 4) pa_nil)))
        (pss_cons (ps_set (i := 6) sc_law.nd rfl (.inl rfl) (pe_asJ (K := K) rfl (pe_join pe_str (pv 5))))
        (pss_cons (ps_set (i := 7) sc_law.nd rfl (.inl rfl) (pe_make M G_i (hr.mono (by decide)) (by rfl) L.g b_i .nil pass0 (pa_cons (pe_lc (own := [("_law_deed_here", 21)]) (g := gName 21) (tt := tYes) rfl sc_law.nd (pi_list (pv 4)) (blkOk_by (own := [("_law_deed_here", 21)]) (N := ["_law_script", "_law_plan", "_law_sizes", "_law_many", "_law_deeds", "_law_lines_here", "_law_note", "_law_given", "_law_told_here", "_law_both", "_law_row", "_law_words", "_law_at", "_law_line", "_law_puts", "_law_put", "_law_first", "_law_wrong", "_law_spoilt_here", "_law_k", "_law_other", "_law_deed_here"]) (sc := defScope s_law) (by decide +kernel)) (fun _ _ _ _ _ => (pg_name (i := 21) sc_law.nd rfl (.inl rfl))) (fun _ _ _ _ _ => pts_nil) (fun _ _ _ _ _ => (pe_callTy (call_listK (K := K) rfl) (by rfl) T.b_list (by decide +kernel) (pa_cons (pv 21) pa_nil)))) pa_nil)))
        hB))))))), ?_⟩
    refine ⟨_, rfl, z, ns, 0, rfl, hs, by decide, hn, fun c0_ => ⟨by show 3 ≤ sizeLine; decide, fun l0 nl0 => ?_⟩⟩
    have s1 := same_upd (o := .lst [.int 21, .int 3, .int 4]) nl0
    refine ⟨c0_, l0, [21, 3, 4], rfl, .inl (.inl upd_same), by decide, by decide, fun H1 r dg s2 nr er hdg => ?_⟩
    obtain ⟨x0, x1, x2, rfl, ⟨h00, h01⟩, h10, h11⟩ := digs_plan hdg
    refine ⟨_, _, rfl, rfl, ⟨by decide, by decide, by decide⟩, _, _, rfl, rfl, _, _, rfl, rfl, ⟨by decide, by decide, by decide⟩, _, _, rfl, rfl, by show 5 ≤ sizeLine; decide, fun a2 na2 => ?_⟩
    have s3 : Same H1 (upd H1 a2 (.lst ([6, 4, 10 ^ 9 - 1, 4, 10 ^ 9 - 1].map V.int))) := same_upd na2
    have e2 : (upd H1 a2 (.lst ([6, 4, 10 ^ 9 - 1, 4, 10 ^ 9 - 1].map V.int))) a2 = some (.lst ([6, 4, 10 ^ 9 - 1, 4, 10 ^ 9 - 1].map V.int)) := upd_same
    have er3 := s3 _ _ er
    obtain ⟨m, hm, m1⟩ : ∃ m : Nat, atI [V.int x0, .int (x0 % 5), .int x0] x1 = some (.int (m : Int)) ∧ m ≤ 20 := by
      have h5 : 0 ≤ x0 % 5 ∧ x0 % 5 < 5 := ⟨Int.emod_nonneg _ (by decide), Int.emod_lt_of_pos _ (by decide)⟩
      have hd : x1 = ((0 : Nat) : Int) ∨ x1 = ((1 : Nat) : Int) ∨ x1 = ((2 : Nat) : Int) := by omega
      rcases hd with e | e | e <;> rw [e]
      · exact ⟨x0.toNat, by rw [show ((x0.toNat : Nat) : Int) = x0 by omega]; exact atI_nat rfl, by omega⟩
      · exact ⟨(x0 % 5).toNat, by rw [show (((x0 % 5).toNat : Nat) : Int) = x0 % 5 by omega]; exact atI_nat rfl, by omega⟩
      · exact ⟨x0.toNat, by rw [show ((x0.toNat : Nat) : Int) = x0 by omega]; exact atI_nat rfl, by omega⟩
    refine ⟨_, rfl, r, _, _, _, rfl, rfl, .inl (.inl er3), at_of (j := 0) rfl rfl, _, rfl, r, _, _, _, rfl, rfl, .inl (.inl er3), at_of (j := 0) rfl rfl, .inl ⟨_, rfl, _, _, rfl, rfl, by show (0 : Int) < 5; decide, _, rfl, r, _, _, _, rfl, rfl, .inl (.inl er3), at_of (j := 0) rfl rfl, by show 3 ≤ sizeLine; decide, fun l3 nl3 => ?_⟩⟩
    have s4 := s3.trans (same_upd (o := .lst [.int x0, .int (x0 % 5), .int x0]) nl3)
    have e24 := (same_upd (o := .lst [.int x0, .int (x0 % 5), .int x0]) nl3) _ _ e2
    have S4 := (s1.trans s2).trans s4
    refine ⟨_, rfl, r, _, _, _, rfl, rfl, .inl (.inl (s4 _ _ er)), at_of (j := 1) rfl rfl, l3, _, _, _, rfl, rfl, .inl (.inl upd_same), hm, ?_⟩
    generalize hg : upd (upd H1 a2 _) l3 _ = H4
    have s4 : Same H1 H4 := by rw [← hg]; exact s4
    have e24 : H4 a2 = some (.lst ([6, 4, 10 ^ 9 - 1, 4, 10 ^ 9 - 1].map V.int)) := by rw [← hg]; exact e24
    clear hg S4
    have S4 := (s1.trans s2).trans s4
    have hs4 := S4.seq hs
    refine ⟨_, rfl, (m : Int), rfl, by omega, by omega, fun M nM => ?_⟩
    rw [show ((m : Int)).toNat = m from Int.toNat_natCast m]
    refine lc_range (lo := 0) (n := m) (fun i Hi => ∃ (Hc : Hp) (vs : List V) (ds : List Deed), Same H4 Hc ∧ Hc M = none ∧ Hi = upd Hc M (.lst vs) ∧ DsT Hc vs ds ∧ ds.length = i ∧ ∀ d ∈ ds, LD d) ⟨H4, [], [], Same.refl _, nM, rfl, .nil, rfl, fun d h => nomatch h⟩ (fun i Hi hi pv => ?_) fun Hi pv => ?_
    · obtain ⟨Hc, vs, ds, sc, nc, rfl, dt, ld, lok⟩ := pv
      have sM := same_upd (o := .lst vs) nc
      have s5 := sc.trans sM
      refine ⟨rfl, ?_⟩
      refine ⟨_, rfl, _, rfl, _, _, rfl, rfl, z, ns, 3 + i, by show [V.ref z, V.int (3 + (0 + (i : Int)))] = _; rw [show (3 + (0 + (i : Int))) = ((3 + i : Nat) : Int) by omega], s5.seq hs4, by omega, hn, fun c => ?_⟩
      refine ⟨_, rfl, c, a2, [6, 4, 10 ^ 9 - 1, 4, 10 ^ 9 - 1], rfl, .inl (.inl (s5 _ _ e24)), by decide, by decide, fun H6 p dg s6 np ep hdg => ?_⟩
      refine ⟨p, dg, rfl, .inl (.inl ep), digs_row hdg, fun H7 b d s7 eb ld1 _ => ?_⟩
      have s67 := s6.trans s7
      have eM := s67 _ _ (upd_same (H := Hc) (a := M) (o := .lst vs))
      have nbM : b ≠ M := fun z => by rw [z, eM] at eb; cases eb
      refine ⟨vs, eM, small1000 (by rw [dt.1]; omega), hole H7 M, vs ++ [.ref b], ds ++ [d], same_hole nM (s5.trans s67), hole_at, upd_hole.symm, (dt.same (same_hole nc (sM.trans s67))).snoc (by rw [hole_ne nbM]; exact eb), by rw [List.length_append, ld]; rfl, fun d2 hd2 => ?_⟩
      rcases List.mem_append.mp hd2 with h | h
      · exact lok d2 h
      · rw [List.mem_singleton.mp h]
        exact ld1
    · obtain ⟨Hc, us, ds, sc, nc, rfl, dt, ld, lok⟩ := pv
      have sM := same_upd (o := .lst us) nc
      have S5 := S4.trans (sc.trans sM)
      have eM : upd Hc M (.lst us) M = some (.lst us) := upd_same
      have dt5 := dt.same sM
      generalize upd Hc M (.lst us) = H5 at *
      refine ⟨_, rfl, M, us, ds, rfl, .inl (.inl eM), dt5, lok, by omega, fun H6 a5 s6 ea5 => ?_⟩
      refine ⟨⟨_, rfl⟩, _, rfl, _, a5, linesT ds, rfl, rfl, .inl (.inl (.inl ea5)), join_few (linesT_pl lok) (by decide) (by rw [linesT_len]; omega), ?_⟩
      have eM6 := s6 _ _ eM
      have dt6 := dt5.same s6
      have S6 := S5.trans s6
      refine ⟨_, rfl, M, rfl, ⟨_, .inl (.inl eM6)⟩, fun G nG => lc_list (K := K) (a := M) (xs := us) (fun i Hi => ∃ (Hc : Hp) (ws : List V), Same H6 Hc ∧ Hc G = none ∧ Hi = upd Hc G (.lst ws) ∧ DsH Hc ws (ds.take i)) ⟨H6, [], Same.refl _, nG, rfl, .nil⟩ (fun i Hi _ pv => ?_) (fun i v Hi hv pv => ?_) fun Hi pv => ?_⟩
      · obtain ⟨Hc, ws, sc, nc, rfl, _⟩ := pv
        exact .inl (.inl ((sc.trans (same_upd nc)) _ _ eM6))
      · obtain ⟨Hc, ws, sc, nc, rfl, dh⟩ := pv
        obtain ⟨b, d, rfl, hdi, eb⟩ := dt6.at_ hv
        have sG := same_upd (o := .lst ws) nc
        refine ⟨rfl, ?_⟩
        refine ⟨_, rfl, b, dv d, rfl, .inr (.inl (.inl ((sc.trans sG) _ _ eb))), fun l nl => ?_⟩
        have sl := same_upd (o := .lst (dv d)) nl
        have eG := sl _ _ (upd_same (H := Hc) (a := G) (o := .lst ws))
        have nlG : l ≠ G := fun z => by rw [z, upd_same] at nl; cases nl
        have lws : ws.length ≤ 20 := by rw [dh.1, List.length_take]; omega
        refine ⟨ws, eG, small1000 (by omega), hole (upd (upd Hc G (.lst ws)) l (.lst (dv d))) G, ws ++ [.ref l], same_hole nG ((sc.trans sG).trans sl), hole_at, upd_hole.symm, ?_⟩
        rw [List.take_add_one, hdi]
        exact (dh.same (same_hole nc (sG.trans sl))).snoc (.inl (by rw [hole_ne nlG]; exact upd_same))
      · obtain ⟨Hc, ws, sc, nc, rfl, dh⟩ := pv
        rw [dt6.1, List.take_length] at dh
        have sG := sc.trans (same_upd (o := .lst ws) nc)
        dsimp only [tNil]
        refine rd_mkC (C := C) (R := fun v H2 => gName 7 v _ H2 _) (.inl upd_same) (dh.same (same_upd nc)) (good_of lok) (by omega) fun H7 p7 s7 c7 => ?_
        have S7 := sG.trans s7
        exact qB M us ds a5 p7 _ _ _ _ _ _ _ _ _ _ _ _ _ _ _ _ _ H7 ⟨(S6.trans S7).seq hs, S7 _ _ eM6, dt6.same S7, S7 _ _ ea5, c7, lok, by omega⟩

end
end Own

namespace Own
open PySem PySem.Spec PyProof.Rows L2
/-! ### an own error's class and its base -/
theorem sup_of {K : PySem.W.Frag} {D R N M : Addr} {n1 n2 n3 n4 : Str} {b1 b2 s1 s2 bm : List Value} {h1 h2 a1 a2 : Bool} {l1 l2 : List Str} {c1 c2 : Option Bool} {d1 d2 : Option Addr} {k0 k1 k2 k3 k5 j0 j1 j2 j3 j5 : Option Value} {i1 i2 : String} {v : Option Value}
    (lD : K.lookup D = some (excClassObj n1 n2 D N b1 (.ref R :: bm) h1 l1 s1 a1 c1 d1 k0 k1 k2 k3 k5 i1)) (lR : K.lookup R = some (excClassObj n3 n4 R M b2 bm h2 l2 s2 a2 c2 d2 j0 j1 j2 j3 j5 i2)) (iR : PySem.W.findIn K (.ref R) "__init__" = some v) : PySem.W.ks_superIn K D D "__init__" = some v := by
  have iR : (match K.lookup R with
      | some ⟨_, _, .cls cd, _⟩ => PySem.W.alongIn K "__init__" cd.mro
      | _ => none) = some v := iR
  rw [lR] at iR
  unfold PySem.W.ks_superIn PySem.W.clsIn
  rw [lD]
  have e : ((Value.ref D :: .ref R :: bm).dropWhile (· != .ref D)).drop 1 = .ref R :: bm := by simp [List.dropWhile]
  show PySem.W.alongIn K "__init__" (((Value.ref D :: .ref R :: bm).dropWhile (· != .ref D)).drop 1) = some v
  rw [e]
  exact iR
theorem kit_ref {K : PySem.W.Frag} {D c : Addr} {b : Bool} (hd : PySem.W.subIn K (.ref D) (.ref D) = some true) (h1 : PySem.W.isClsIn K c = true) (h2 : PySem.W.typeIn K (.ref c) = some (.type "type")) (h3 : PySem.W.subIn K (.ref D) (.ref c) = some b) : PySem.W.kitOne K (.ref D) (.ref c) = some b := by
  unfold PySem.W.kitOne
  by_cases h : (Value.ref D == Value.ref c) = true
  · rw [if_pos h]
    have e : D = c := Value.ref.inj (beq_iff_eq.mp h)
    subst e
    exact hd.symm.trans h3
  · rw [if_neg h]
    show (if ((PySem.W.clsIn K c).isSome && PySem.W.typeIn K (.ref c) == some (.type "type")) = true then PySem.W.subIn K (.ref D) (.ref c) else none) = some b
    have e : ((PySem.W.clsIn K c).isSome && PySem.W.typeIn K (.ref c) == some (.type "type")) = true := by
      have h1 : (PySem.W.clsIn K c).isSome = true := h1
      rw [h1, h2]
      rfl
    rw [if_pos e]
    exact h3
theorem kit_ve {K : PySem.W.Frag} {D : Addr} {b : Bool} (h : PySem.W.subIn K (.ref D) (.type "ValueError") = some b) : PySem.W.kitOne K (.ref D) (.type "ValueError") = some b := by
  unfold PySem.W.kitOne
  rw [if_neg fun z : (Value.ref D == Value.type "ValueError") = true => by cases beq_iff_eq.mp z]
  show (if PySem.W.kitMeta "ValueError" = true then PySem.W.subIn K (.ref D) (.type "ValueError") else none) = some b
  rw [if_pos (by decide +kernel)]
  exact h
def cOf (a b c d e : Addr) : String → Addr := fun n => if n = "BadDeed" then a else if n = "BadLetter" then b else if n = "BadNumber" then c else if n = "Refused" then d else e
theorem cOf0 {a b c d e : Addr} : cOf a b c d e "BadDeed" = a := by simp [cOf]
theorem cOf1 {a b c d e : Addr} : cOf a b c d e "BadLetter" = b := by simp [cOf]
theorem cOf2 {a b c d e : Addr} : cOf a b c d e "BadNumber" = c := by simp [cOf]
theorem cOf3 {a b c d e : Addr} : cOf a b c d e "Refused" = d := by simp [cOf]
theorem cOf4 {a b c d e : Addr} : cOf a b c d e "RimError" = e := by simp [cOf]
/-- a def of one parameter, called by its keyword -/
theorem kb_one {K : PySem.W.Frag} {x qual : Str} {st : Stmt} {f : Addr} {fd : FuncData} {a : Str} (F : Fun K x qual st f fd)
    (h : ∀ (kV doc pm : Value) (an : Option Addr) (cdv ct u : Value), bindArgs (PySem.W.fnOf x qual (defArgs st) (defBody st) (defScope st) .none kV doc pm an cdv ct) ⟨[], [(a, u)]⟩ = pure [(a, u)]) :
    KBn K fd [a] 0 [a] (fun _ ws => ws) (fun _ zs => zs) := by
  obtain ⟨oc, od, kV, doc, pm, an, cdv, ct, osl, rfl, lk, hcd⟩ := F.ex
  refine ⟨fun s us ws _ hu hw => ?_, fun _ r2 => r2⟩
  match us, hu, ws, hw with
  | [], _, [u], _ => exact .of_eq (h kV doc pm an cdv ct u)
/-! ### what the top has left -/
theorem df_mk {K : PySem.W.Frag} {mg : Str → Option Value} {x : Str} {st : Stmt} {ps : List Str} {h : Heap} {f : Addr} {oc : Value} {od an : Option Addr} {osl : Array (Option Value)} {kV doc pm cdv ct : Value} (X : K.In h) (G : h.Ns mainGlobals mg)
    (a : PySem.W.nsIn K mainGlobals x = some (some (.ref f))) (l : K.lookup f = some ⟨oc, od, .func (PySem.W.fnOf x x (defArgs st) (defBody st) (defScope st) .none kV doc pm an cdv ct), osl⟩) (c : PySem.W.codeIn K cdv x = true) (k : PySem.W.keepIn K (.ref f) = true)
    (b : ∀ (kV doc pm : Value) (an : Option Addr) (cdv ct : Value) (us : List Value), us.length = ps.length → bindArgs (PySem.W.fnOf x x (defArgs st) (defBody st) (defScope st) .none kV doc pm an cdv ct) ⟨us, []⟩ = pure (ps.zip us)) :
    Df K mg x st ps f (PySem.W.fnOf x x (defArgs st) (defBody st) (defScope st) .none kV doc pm an cdv ct) :=
  ⟨fun_mk l c k, PySem.W.mg_of X G a, (fun_mk l c k).binds b⟩
set_option maxHeartbeats 0 in
theorem all_mk {lw : PySem.W.OpenLaw} {w : World} {K : PySem.W.Frag} {h : Heap} {mg : Str → Option Value} {fa f1 f2 f3 f4 f5 f6 f7 f8 f9 f10 f11 f12 f13 f14 f15 f16 f17 f18 f19 f20 f21 f22 f23 f24 C f25 f26 zdC TdC f27 DN ccN cdaN fuN NN x0 x1 x2 x3 x4 NR dN : Addr} (X : K.In h) (G : h.Ns mainGlobals mg) (hfa : mg "law" = some (.ref fa))
    {od1 an1 : Option Addr} {sl1 : Array (Option Value)} {oc1 kV1 dc1 pm1 cd1 ct1 : Value} {od2 an2 : Option Addr} {sl2 : Array (Option Value)} {oc2 kV2 dc2 pm2 cd2 ct2 : Value} {od3 an3 : Option Addr} {sl3 : Array (Option Value)} {oc3 kV3 dc3 pm3 cd3 ct3 : Value} {od4 an4 : Option Addr} {sl4 : Array (Option Value)} {oc4 kV4 dc4 pm4 cd4 ct4 : Value} {od5 an5 : Option Addr} {sl5 : Array (Option Value)} {oc5 kV5 dc5 pm5 cd5 ct5 : Value} {od6 an6 : Option Addr} {sl6 : Array (Option Value)} {oc6 kV6 dc6 pm6 cd6 ct6 : Value} {od7 an7 : Option Addr} {sl7 : Array (Option Value)} {oc7 kV7 dc7 pm7 cd7 ct7 : Value} {od8 an8 : Option Addr} {sl8 : Array (Option Value)} {oc8 kV8 dc8 pm8 cd8 ct8 : Value} {od9 an9 : Option Addr} {sl9 : Array (Option Value)} {oc9 kV9 dc9 pm9 cd9 ct9 : Value} {od10 an10 : Option Addr} {sl10 : Array (Option Value)} {oc10 kV10 dc10 pm10 cd10 ct10 : Value} {od11 an11 : Option Addr} {sl11 : Array (Option Value)} {oc11 kV11 dc11 pm11 cd11 ct11 : Value} {od12 an12 : Option Addr} {sl12 : Array (Option Value)} {oc12 kV12 dc12 pm12 cd12 ct12 : Value} {od13 an13 : Option Addr} {sl13 : Array (Option Value)} {oc13 kV13 dc13 pm13 cd13 ct13 : Value} {od14 an14 : Option Addr} {sl14 : Array (Option Value)} {oc14 kV14 dc14 pm14 cd14 ct14 : Value} {od15 an15 : Option Addr} {sl15 : Array (Option Value)} {oc15 kV15 dc15 pm15 cd15 ct15 : Value} {od16 an16 : Option Addr} {sl16 : Array (Option Value)} {oc16 kV16 dc16 pm16 cd16 ct16 : Value} {od17 an17 : Option Addr} {sl17 : Array (Option Value)} {oc17 kV17 dc17 pm17 cd17 ct17 : Value} {od18 an18 : Option Addr} {sl18 : Array (Option Value)} {oc18 kV18 dc18 pm18 cd18 ct18 : Value} {od19 an19 : Option Addr} {sl19 : Array (Option Value)} {oc19 kV19 dc19 pm19 cd19 ct19 : Value} {od20 an20 : Option Addr} {sl20 : Array (Option Value)} {oc20 kV20 dc20 pm20 cd20 ct20 : Value} {od21 an21 : Option Addr} {sl21 : Array (Option Value)} {oc21 kV21 dc21 pm21 cd21 ct21 : Value} {od22 an22 : Option Addr} {sl22 : Array (Option Value)} {oc22 kV22 dc22 pm22 cd22 ct22 : Value} {od23 an23 : Option Addr} {sl23 : Array (Option Value)} {oc23 kV23 dc23 pm23 cd23 ct23 : Value} {od24 an24 : Option Addr} {sl24 : Array (Option Value)} {oc24 kV24 dc24 pm24 cd24 ct24 : Value} {od25 an25 : Option Addr} {sl25 : Array (Option Value)} {oc25 kV25 dc25 pm25 cd25 ct25 : Value} {od26 an26 : Option Addr} {sl26 : Array (Option Value)} {oc26 kV26 dc26 pm26 cd26 ct26 : Value} {odTC : Option Addr} {slTC : Array (Option Value)} {ocTC : Value} {nTC : Nat} {od27 an27 : Option Addr} {sl27 : Array (Option Value)} {oc27 kV27 dc27 pm27 cd27 ct27 : Value} {nmR qR : Str} {niR : String} {bsR subR : List Value} {snR : List Str} {abR hdR : Bool} {colR : Option Bool} {ddR : Option Addr} {m0r m1r m2r m3r m5r : Option Value} {nmN qN fileN : Str} {bsN subN : List Value} {snN : List Str} {abN : Bool} {colN : Option Bool} {ddN odN anN cldN cddN : Option Addr} {m0N m1N m2N m3N m5N : Option Value} {ocN kVN dcN pmN ctN clN cclN : Value} {slN cslN ccsN : Array (Option Value)} {vsN : Array Value} {tfN : Tok} {esdN : Array DictEntry} {nndN : Nat}
    (iN : PySem.W.specialIn K (.builtin "object.__class__") "__get__" = some (some (.builtin "getset_descriptor.__get__")))
    (iT : PySem.W.takesIn K (.builtin "object.__class__") = some true)
    (a1 : PySem.W.nsIn K mainGlobals "is_whole" = some (some (.ref f1)))
    (l1 : K.lookup f1 = some ⟨oc1, od1, .func (PySem.W.fnOf "is_whole" "is_whole" (defArgs s_is_whole) (defBody s_is_whole) (defScope s_is_whole) .none kV1 dc1 pm1 an1 cd1 ct1), sl1⟩)
    (c1 : PySem.W.codeIn K cd1 "is_whole" = true)
    (k1 : PySem.W.keepIn K (.ref f1) = true)
    (a2 : PySem.W.nsIn K mainGlobals "is_sequence" = some (some (.ref f2)))
    (l2 : K.lookup f2 = some ⟨oc2, od2, .func (PySem.W.fnOf "is_sequence" "is_sequence" (defArgs s_is_sequence) (defBody s_is_sequence) (defScope s_is_sequence) .none kV2 dc2 pm2 an2 cd2 ct2), sl2⟩)
    (c2 : PySem.W.codeIn K cd2 "is_sequence" = true)
    (k2 : PySem.W.keepIn K (.ref f2) = true)
    (a3 : PySem.W.nsIn K mainGlobals "is_deed" = some (some (.ref f3)))
    (l3 : K.lookup f3 = some ⟨oc3, od3, .func (PySem.W.fnOf "is_deed" "is_deed" (defArgs s_is_deed) (defBody s_is_deed) (defScope s_is_deed) .none kV3 dc3 pm3 an3 cd3 ct3), sl3⟩)
    (c3 : PySem.W.codeIn K cd3 "is_deed" = true)
    (k3 : PySem.W.keepIn K (.ref f3) = true)
    (a4 : PySem.W.nsIn K mainGlobals "written" = some (some (.ref f4)))
    (l4 : K.lookup f4 = some ⟨oc4, od4, .func (PySem.W.fnOf "written" "written" (defArgs s_written) (defBody s_written) (defScope s_written) .none kV4 dc4 pm4 an4 cd4 ct4), sl4⟩)
    (c4 : PySem.W.codeIn K cd4 "written" = true)
    (k4 : PySem.W.keepIn K (.ref f4) = true)
    (a5 : PySem.W.nsIn K mainGlobals "is_number" = some (some (.ref f5)))
    (l5 : K.lookup f5 = some ⟨oc5, od5, .func (PySem.W.fnOf "is_number" "is_number" (defArgs s_is_number) (defBody s_is_number) (defScope s_is_number) .none kV5 dc5 pm5 an5 cd5 ct5), sl5⟩)
    (c5 : PySem.W.codeIn K cd5 "is_number" = true)
    (k5 : PySem.W.keepIn K (.ref f5) = true)
    (a6 : PySem.W.nsIn K mainGlobals "numbers_of" = some (some (.ref f6)))
    (l6 : K.lookup f6 = some ⟨oc6, od6, .func (PySem.W.fnOf "numbers_of" "numbers_of" (defArgs s_numbers_of) (defBody s_numbers_of) (defScope s_numbers_of) .none kV6 dc6 pm6 an6 cd6 ct6), sl6⟩)
    (c6 : PySem.W.codeIn K cd6 "numbers_of" = true)
    (k6 : PySem.W.keepIn K (.ref f6) = true)
    (a7 : PySem.W.nsIn K mainGlobals "words_at" = some (some (.ref f7)))
    (l7 : K.lookup f7 = some ⟨oc7, od7, .func (PySem.W.fnOf "words_at" "words_at" (defArgs s_words_at) (defBody s_words_at) (defScope s_words_at) .none kV7 dc7 pm7 an7 cd7 ct7), sl7⟩)
    (c7 : PySem.W.codeIn K cd7 "words_at" = true)
    (k7 : PySem.W.keepIn K (.ref f7) = true)
    (a8 : PySem.W.nsIn K mainGlobals "read_line" = some (some (.ref f8)))
    (l8 : K.lookup f8 = some ⟨oc8, od8, .func (PySem.W.fnOf "read_line" "read_line" (defArgs s_read_line) (defBody s_read_line) (defScope s_read_line) .none kV8 dc8 pm8 an8 cd8 ct8), sl8⟩)
    (c8 : PySem.W.codeIn K cd8 "read_line" = true)
    (k8 : PySem.W.keepIn K (.ref f8) = true)
    (a9 : PySem.W.nsIn K mainGlobals "format_course" = some (some (.ref f9)))
    (l9 : K.lookup f9 = some ⟨oc9, od9, .func (PySem.W.fnOf "format_course" "format_course" (defArgs s_format_course) (defBody s_format_course) (defScope s_format_course) .none kV9 dc9 pm9 an9 cd9 ct9), sl9⟩)
    (c9 : PySem.W.codeIn K cd9 "format_course" = true)
    (k9 : PySem.W.keepIn K (.ref f9) = true)
    (a10 : PySem.W.nsIn K mainGlobals "parse_course" = some (some (.ref f10)))
    (l10 : K.lookup f10 = some ⟨oc10, od10, .func (PySem.W.fnOf "parse_course" "parse_course" (defArgs s_parse_course) (defBody s_parse_course) (defScope s_parse_course) .none kV10 dc10 pm10 an10 cd10 ct10), sl10⟩)
    (c10 : PySem.W.codeIn K cd10 "parse_course" = true)
    (k10 : PySem.W.keepIn K (.ref f10) = true)
    (a11 : PySem.W.nsIn K mainGlobals "_law_whole" = some (some (.ref f11)))
    (l11 : K.lookup f11 = some ⟨oc11, od11, .func (PySem.W.fnOf "_law_whole" "_law_whole" (defArgs s__law_whole) (defBody s__law_whole) (defScope s__law_whole) .none kV11 dc11 pm11 an11 cd11 ct11), sl11⟩)
    (c11 : PySem.W.codeIn K cd11 "_law_whole" = true)
    (k11 : PySem.W.keepIn K (.ref f11) = true)
    (a12 : PySem.W.nsIn K mainGlobals "_law_cell" = some (some (.ref f12)))
    (l12 : K.lookup f12 = some ⟨oc12, od12, .func (PySem.W.fnOf "_law_cell" "_law_cell" (defArgs s__law_cell) (defBody s__law_cell) (defScope s__law_cell) .none kV12 dc12 pm12 an12 cd12 ct12), sl12⟩)
    (c12 : PySem.W.codeIn K cd12 "_law_cell" = true)
    (k12 : PySem.W.keepIn K (.ref f12) = true)
    (a13 : PySem.W.nsIn K mainGlobals "_law_digits" = some (some (.ref f13)))
    (l13 : K.lookup f13 = some ⟨oc13, od13, .func (PySem.W.fnOf "_law_digits" "_law_digits" (defArgs s__law_digits) (defBody s__law_digits) (defScope s__law_digits) .none kV13 dc13 pm13 an13 cd13 ct13), sl13⟩)
    (c13 : PySem.W.codeIn K cd13 "_law_digits" = true)
    (k13 : PySem.W.keepIn K (.ref f13) = true)
    (a14 : PySem.W.nsIn K mainGlobals "_law_number" = some (some (.ref f14)))
    (l14 : K.lookup f14 = some ⟨oc14, od14, .func (PySem.W.fnOf "_law_number" "_law_number" (defArgs s__law_number) (defBody s__law_number) (defScope s__law_number) .none kV14 dc14 pm14 an14 cd14 ct14), sl14⟩)
    (c14 : PySem.W.codeIn K cd14 "_law_number" = true)
    (k14 : PySem.W.keepIn K (.ref f14) = true)
    (a15 : PySem.W.nsIn K mainGlobals "_law_deed" = some (some (.ref f15)))
    (l15 : K.lookup f15 = some ⟨oc15, od15, .func (PySem.W.fnOf "_law_deed" "_law_deed" (defArgs s__law_deed) (defBody s__law_deed) (defScope s__law_deed) .none kV15 dc15 pm15 an15 cd15 ct15), sl15⟩)
    (c15 : PySem.W.codeIn K cd15 "_law_deed" = true)
    (k15 : PySem.W.keepIn K (.ref f15) = true)
    (a16 : PySem.W.nsIn K mainGlobals "_law_lines" = some (some (.ref f16)))
    (l16 : K.lookup f16 = some ⟨oc16, od16, .func (PySem.W.fnOf "_law_lines" "_law_lines" (defArgs s__law_lines) (defBody s__law_lines) (defScope s__law_lines) .none kV16 dc16 pm16 an16 cd16 ct16), sl16⟩)
    (c16 : PySem.W.codeIn K cd16 "_law_lines" = true)
    (k16 : PySem.W.keepIn K (.ref f16) = true)
    (a17 : PySem.W.nsIn K mainGlobals "_law_is_number" = some (some (.ref f17)))
    (l17 : K.lookup f17 = some ⟨oc17, od17, .func (PySem.W.fnOf "_law_is_number" "_law_is_number" (defArgs s__law_is_number) (defBody s__law_is_number) (defScope s__law_is_number) .none kV17 dc17 pm17 an17 cd17 ct17), sl17⟩)
    (c17 : PySem.W.codeIn K cd17 "_law_is_number" = true)
    (k17 : PySem.W.keepIn K (.ref f17) = true)
    (a18 : PySem.W.nsIn K mainGlobals "_law_read" = some (some (.ref f18)))
    (l18 : K.lookup f18 = some ⟨oc18, od18, .func (PySem.W.fnOf "_law_read" "_law_read" (defArgs s__law_read) (defBody s__law_read) (defScope s__law_read) .none kV18 dc18 pm18 an18 cd18 ct18), sl18⟩)
    (c18 : PySem.W.codeIn K cd18 "_law_read" = true)
    (k18 : PySem.W.keepIn K (.ref f18) = true)
    (a19 : PySem.W.nsIn K mainGlobals "_law_longer" = some (some (.ref f19)))
    (l19 : K.lookup f19 = some ⟨oc19, od19, .func (PySem.W.fnOf "_law_longer" "_law_longer" (defArgs s__law_longer) (defBody s__law_longer) (defScope s__law_longer) .none kV19 dc19 pm19 an19 cd19 ct19), sl19⟩)
    (c19 : PySem.W.codeIn K cd19 "_law_longer" = true)
    (k19 : PySem.W.keepIn K (.ref f19) = true)
    (a20 : PySem.W.nsIn K mainGlobals "_law_writings" = some (some (.ref f20)))
    (l20 : K.lookup f20 = some ⟨oc20, od20, .func (PySem.W.fnOf "_law_writings" "_law_writings" (defArgs s__law_writings) (defBody s__law_writings) (defScope s__law_writings) .none kV20 dc20 pm20 an20 cd20 ct20), sl20⟩)
    (c20 : PySem.W.codeIn K cd20 "_law_writings" = true)
    (k20 : PySem.W.keepIn K (.ref f20) = true)
    (a21 : PySem.W.nsIn K mainGlobals "_law_rewritten" = some (some (.ref f21)))
    (l21 : K.lookup f21 = some ⟨oc21, od21, .func (PySem.W.fnOf "_law_rewritten" "_law_rewritten" (defArgs s__law_rewritten) (defBody s__law_rewritten) (defScope s__law_rewritten) .none kV21 dc21 pm21 an21 cd21 ct21), sl21⟩)
    (c21 : PySem.W.codeIn K cd21 "_law_rewritten" = true)
    (k21 : PySem.W.keepIn K (.ref f21) = true)
    (a22 : PySem.W.nsIn K mainGlobals "_law_spoilt" = some (some (.ref f22)))
    (l22 : K.lookup f22 = some ⟨oc22, od22, .func (PySem.W.fnOf "_law_spoilt" "_law_spoilt" (defArgs s__law_spoilt) (defBody s__law_spoilt) (defScope s__law_spoilt) .none kV22 dc22 pm22 an22 cd22 ct22), sl22⟩)
    (c22 : PySem.W.codeIn K cd22 "_law_spoilt" = true)
    (k22 : PySem.W.keepIn K (.ref f22) = true)
    (a23 : PySem.W.nsIn K mainGlobals "_law_told" = some (some (.ref f23)))
    (l23 : K.lookup f23 = some ⟨oc23, od23, .func (PySem.W.fnOf "_law_told" "_law_told" (defArgs s__law_told) (defBody s__law_told) (defScope s__law_told) .none kV23 dc23 pm23 an23 cd23 ct23), sl23⟩)
    (c23 : PySem.W.codeIn K cd23 "_law_told" = true)
    (k23 : PySem.W.keepIn K (.ref f23) = true)
    (a24 : PySem.W.nsIn K mainGlobals "law" = some (some (.ref f24)))
    (l24 : K.lookup f24 = some ⟨oc24, od24, .func (PySem.W.fnOf "law" "law" (defArgs s_law) (defBody s_law) (defScope s_law) .none kV24 dc24 pm24 an24 cd24 ct24), sl24⟩)
    (c24 : PySem.W.codeIn K cd24 "law" = true)
    (k24 : PySem.W.keepIn K (.ref f24) = true)
    (z0 : PySem.W.nsIn K mainGlobals "max" = some none)
    (z1 : PySem.W.nsIn K mainGlobals "min" = some none)
    (z2 : PySem.W.nsIn K mainGlobals "tuple" = some none)
    (z3 : PySem.W.nsIn K mainGlobals "range" = some none)
    (z4 : PySem.W.nsIn K mainGlobals "isinstance" = some none)
    (z5 : PySem.W.nsIn K mainGlobals "int" = some none)
    (z6 : PySem.W.nsIn K mainGlobals "bool" = some none)
    (z7 : PySem.W.nsIn K mainGlobals "len" = some none)
    (z8 : PySem.W.nsIn K mainGlobals "list" = some none)
    (z9 : PySem.W.nsIn K mainGlobals "str" = some none)
    (z10 : PySem.W.nsIn K mainGlobals "sorted" = some none)
    (z11 : PySem.W.nsIn K mainGlobals "sum" = some none)
    (aC : PySem.W.nsIn K mainGlobals "Course" = some (some (.ref C)))
    (pgC : PySem.W.plainGet K C Str.empty = true)
    (hdC : PySem.W.hasDictIn K C = true)
    (poC : PySem.W.plainOver K C = true)
    (saC : PySem.W.findIn K (.ref C) "__setattr__" = some (some (.builtin "object.__setattr__")))
    (mkC : PySem.W.makesIn K C = true)
    (kcC : PySem.W.keepIn K (.ref C) = true)
    (nfC_deeds : PySem.W.findIn K (.ref C) "deeds" = some none)
    (iAC : PySem.W.findIn K (.ref C) "__class__" = some (some (.builtin "object.__class__")))
    (iMC : PySem.W.mroIn K C (.type "object") = some true)
    (sfC : PySem.W.selfFirst K C = true)
    (i25 : PySem.W.findIn K (.ref C) "__add__" = some (some (.ref f25)))
    (n25 : PySem.W.isFn K (.ref f25) = true)
    (l25 : K.lookup f25 = some ⟨oc25, od25, .func (PySem.W.fnOf "__add__" "Course.__add__" (defArgs s_Course_add) (defBody s_Course_add) (defScope s_Course_add) .none kV25 dc25 pm25 an25 cd25 ct25), sl25⟩)
    (c25 : PySem.W.codeIn K cd25 "Course.__add__" = true)
    (k25 : PySem.W.keepIn K (.ref f25) = true)
    (i26 : PySem.W.findIn K (.ref C) "__eq__" = some (some (.ref f26)))
    (n26 : PySem.W.isFn K (.ref f26) = true)
    (l26 : K.lookup f26 = some ⟨oc26, od26, .func (PySem.W.fnOf "__eq__" "Course.__eq__" (defArgs s_Course_eq) (defBody s_Course_eq) (defScope s_Course_eq) .none kV26 dc26 pm26 an26 cd26 ct26), sl26⟩)
    (c26 : PySem.W.codeIn K cd26 "Course.__eq__" = true)
    (k26 : PySem.W.keepIn K (.ref f26) = true)
    (i27 : PySem.W.findIn K (.ref C) "__init__" = some (some (.ref f27)))
    (n27 : PySem.W.isFn K (.ref f27) = true)
    (l27 : K.lookup f27 = some ⟨oc27, od27, .func (PySem.W.fnOf "__init__" "Course.__init__" (defArgs s_Course_init) (defBody s_Course_init) (defScope s_Course_init) (.ref TdC) kV27 dc27 pm27 an27 cd27 ct27), sl27⟩)
    (c27 : PySem.W.codeIn K cd27 "Course.__init__" = true)
    (k27 : PySem.W.keepIn K (.ref f27) = true)
    (lTC : K.lookup TdC = some ⟨ocTC, odTC, .seq #[.ref zdC] nTC, slTC⟩)
    (aN : PySem.W.nsIn K mainGlobals "NoteError" = some (some (.ref DN)))
    (a_x0 : PySem.W.nsIn K mainGlobals "BadDeed" = some (some (.ref x0)))
    (a_x1 : PySem.W.nsIn K mainGlobals "BadLetter" = some (some (.ref x1)))
    (a_x2 : PySem.W.nsIn K mainGlobals "BadNumber" = some (some (.ref x2)))
    (a_x3 : PySem.W.nsIn K mainGlobals "Refused" = some (some (.ref x3)))
    (a_x4 : PySem.W.nsIn K mainGlobals "RimError" = some (some (.ref x4)))
    (lRe : K.lookup x4 = some (excClassObj nmR qR x4 NR bsR [.type "ValueError", .type "Exception", .type "BaseException", .type "object"] hdR snR subR abR colR ddR m0r m1r m2r m3r m5r niR))
    (iRe : PySem.W.findIn K (.ref x4) "__init__" = some (some (.builtin "ValueError.__init__")))
    (opD : PySem.W.nsIn K cStatics "thirdparty.any" = some none)
    (tpD : (lw.prog.main.scope.names.lookup ("super" : Str)).isSome = false)
    (zS : PySem.W.nsIn K mainGlobals "super" = some none)
    (zV : PySem.W.nsIn K mainGlobals "ValueError" = some none)
    (lN : K.lookup DN = some (excClassObj nmN qN DN NN bsN [.ref x4, .type "ValueError", .type "Exception", .type "BaseException", .type "object"] true snN subN abN colN ddN m0N m1N m2N m3N m5N "ValueError.__new__"))
    (saN : PySem.W.findIn K (.ref DN) "__setattr__" = some (some (.builtin "object.__setattr__")))
    (eN : PySem.W.subIn K (.ref DN) (.type "BaseException") = some true)
    (tN : PySem.W.typeIn K (.ref DN) = some (.type "type"))
    (kN : PySem.W.keepIn K (.ref DN) = true)
    (iuN : PySem.W.findIn K (.ref DN) "__init__" = some (some (.ref fuN)))
    (tuN : PySem.W.typeIn K (.ref fuN) = some (.type "function"))
    (luN : K.lookup fuN = some ⟨ocN, odN, .func (PySem.W.fnX "__init__" "NoteError.__init__" (defArgs s_NoteError_init) (defBody s_NoteError_init) (defScope s_NoteError_init) [("__class__", ccN)] .none kVN dcN pmN anN (.ref cdaN) ctN), slN⟩)
    (cuN : PySem.W.codeIn K (.ref cdaN) "NoteError.__init__" = true)
    (lcN : K.lookup ccN = some ⟨clN, cldN, .cell (some (.ref DN)), cslN⟩)
    (ldN : K.lookup cdaN = some ⟨cclN, cddN, .fields vsN, ccsN⟩)
    (cvN : vsN[2]? = some (.str fileN tfN))
    (cfN : ((lw.prog.main.file : Str) == fileN) = true)
    (veN : PySem.W.subIn K (.ref DN) (.type "ValueError") = some true)
    (meN : PySem.W.mroIn K DN (.ref DN) = some true)
    (gaN : PySem.W.findIn K (.ref DN) "__getattribute__" = some (some (.builtin "BaseException.__getattribute__")))
    (ggN : PySem.W.findIn K (.ref DN) "__getattr__" = some none)
    (hN : PySem.W.hasDictIn K DN = true)
    (caN : PySem.W.findIn K (.ref DN) "__class__" = some (some (.builtin "object.__class__")))
    (moN : PySem.W.mroIn K DN (.type "object") = some true)
    (sdN : PySem.W.subIn K (.ref DN) (.ref DN) = some true)
    (n0N : PySem.W.findIn K (.ref DN) "line" = some none)
    (qNx0 : PySem.W.subIn K (.ref DN) (.ref x0) = some false)
    (qNx1 : PySem.W.subIn K (.ref DN) (.ref x1) = some false)
    (qNx2 : PySem.W.subIn K (.ref DN) (.ref x2) = some false)
    (qNx3 : PySem.W.subIn K (.ref DN) (.ref x3) = some false)
    (qNx4 : PySem.W.subIn K (.ref DN) (.ref x4) = some true)
    (ic_DN : PySem.W.isClsIn K DN = true)
    (tc_DN : PySem.W.typeIn K (.ref DN) = some (.type "type"))
    (ic_x0 : PySem.W.isClsIn K x0 = true)
    (tc_x0 : PySem.W.typeIn K (.ref x0) = some (.type "type"))
    (ic_x1 : PySem.W.isClsIn K x1 = true)
    (tc_x1 : PySem.W.typeIn K (.ref x1) = some (.type "type"))
    (ic_x2 : PySem.W.isClsIn K x2 = true)
    (tc_x2 : PySem.W.typeIn K (.ref x2) = some (.type "type"))
    (ic_x3 : PySem.W.isClsIn K x3 = true)
    (tc_x3 : PySem.W.typeIn K (.ref x3) = some (.type "type"))
    (ic_x4 : PySem.W.isClsIn K x4 = true)
    (tc_x4 : PySem.W.typeIn K (.ref x4) = some (.type "type"))
    (a_dN : PySem.W.nsIn K mainGlobals "NUMBERS" = some (some (.ref dN)))
    (l_dN : K.lookup dN = some ⟨.type "dict", none, .dict esdN nndN, #[]⟩)
    (kl_dN : KLit w.params esdN.toList NUMB)
    (lo_dN : (dN == sysModules) = false)
    (exRe : PySem.W.subIn K (.ref x4) (.type "BaseException") = some true)
    (hdRe : PySem.W.hasDictIn K x4 = true)
    (zEn : PySem.W.nsIn K mainGlobals "enumerate" = some none)
    (zDi : PySem.W.nsIn K mainGlobals "dict" = some none) :
    ∃ fd : FuncData, (∀ (s : Shared) (v : Value), BindsTo s fd ⟨[v], []⟩ [("_law_script", v)]) ∧ ∀ base : Heap, K.In base → base.Ns mainGlobals mg → FnOk lw.prog w K mg base CX0 7 fa fd ["_law_script"] (spLaw K) := by
  have e := hfa.symm.trans (PySem.W.mg_of X G a24)
  cases e
  have D_is_whole := df_mk (ps := ["value"]) (st := s_is_whole) X G a1 l1 c1 k1 fun _ _ _ _ _ _ us hl => match us, hl with | [_], _ => rfl
  have D_is_sequence := df_mk (ps := ["value"]) (st := s_is_sequence) X G a2 l2 c2 k2 fun _ _ _ _ _ _ us hl => match us, hl with | [_], _ => rfl
  have D_is_deed := df_mk (ps := ["deed"]) (st := s_is_deed) X G a3 l3 c3 k3 fun _ _ _ _ _ _ us hl => match us, hl with | [_], _ => rfl
  have D_written := df_mk (ps := ["lines"]) (st := s_written) X G a4 l4 c4 k4 fun _ _ _ _ _ _ us hl => match us, hl with | [_], _ => rfl
  have D_is_number := df_mk (ps := ["word"]) (st := s_is_number) X G a5 l5 c5 k5 fun _ _ _ _ _ _ us hl => match us, hl with | [_], _ => rfl
  have D_numbers_of := df_mk (ps := ["words", "place"]) (st := s_numbers_of) X G a6 l6 c6 k6 fun _ _ _ _ _ _ us hl => match us, hl with | [_, _], _ => rfl
  have D_words_at := df_mk (ps := ["lines", "place"]) (st := s_words_at) X G a7 l7 c7 k7 fun _ _ _ _ _ _ us hl => match us, hl with | [_, _], _ => rfl
  have D_read_line := df_mk (ps := ["lines", "place", "counts"]) (st := s_read_line) X G a8 l8 c8 k8 fun _ _ _ _ _ _ us hl => match us, hl with | [_, _, _], _ => rfl
  have D_format_course := df_mk (ps := ["course"]) (st := s_format_course) X G a9 l9 c9 k9 fun _ _ _ _ _ _ us hl => match us, hl with | [_], _ => rfl
  have D_parse_course := df_mk (ps := ["text"]) (st := s_parse_course) X G a10 l10 c10 k10 fun _ _ _ _ _ _ us hl => match us, hl with | [_], _ => rfl
  have D__law_whole := df_mk (ps := ["_law_value"]) (st := s__law_whole) X G a11 l11 c11 k11 fun _ _ _ _ _ _ us hl => match us, hl with | [_], _ => rfl
  have D__law_cell := df_mk (ps := ["_law_script", "_law_k"]) (st := s__law_cell) X G a12 l12 c12 k12 fun _ _ _ _ _ _ us hl => match us, hl with | [_, _], _ => rfl
  have D__law_digits := df_mk (ps := ["_law_cell_here", "_law_sizes"]) (st := s__law_digits) X G a13 l13 c13 k13 fun _ _ _ _ _ _ us hl => match us, hl with | [_, _], _ => rfl
  have D__law_number := df_mk (ps := ["_law_kind", "_law_great", "_law_many"]) (st := s__law_number) X G a14 l14 c14 k14 fun _ _ _ _ _ _ us hl => match us, hl with | [_, _, _], _ => rfl
  have D__law_deed := df_mk (ps := ["_law_row"]) (st := s__law_deed) X G a15 l15 c15 k15 fun _ _ _ _ _ _ us hl => match us, hl with | [_], _ => rfl
  have D__law_lines := df_mk (ps := ["_law_deeds"]) (st := s__law_lines) X G a16 l16 c16 k16 fun _ _ _ _ _ _ us hl => match us, hl with | [_], _ => rfl
  have D__law_is_number := df_mk (ps := ["_law_word"]) (st := s__law_is_number) X G a17 l17 c17 k17 fun _ _ _ _ _ _ us hl => match us, hl with | [_], _ => rfl
  have D__law_read := df_mk (ps := ["_law_note"]) (st := s__law_read) X G a18 l18 c18 k18 fun _ _ _ _ _ _ us hl => match us, hl with | [_], _ => rfl
  have D__law_longer := df_mk (ps := ["_law_word"]) (st := s__law_longer) X G a19 l19 c19 k19 fun _ _ _ _ _ _ us hl => match us, hl with | [_], _ => rfl
  have D__law_writings := df_mk (ps := ["_law_word"]) (st := s__law_writings) X G a20 l20 c20 k20 fun _ _ _ _ _ _ us hl => match us, hl with | [_], _ => rfl
  have D__law_rewritten := df_mk (ps := ["_law_line", "_law_part"]) (st := s__law_rewritten) X G a21 l21 c21 k21 fun _ _ _ _ _ _ us hl => match us, hl with | [_, _], _ => rfl
  have D__law_spoilt := df_mk (ps := ["_law_lines_here", "_law_row"]) (st := s__law_spoilt) X G a22 l22 c22 k22 fun _ _ _ _ _ _ us hl => match us, hl with | [_, _], _ => rfl
  have D__law_told := df_mk (ps := ["_law_note"]) (st := s__law_told) X G a23 l23 c23 k23 fun _ _ _ _ _ _ us hl => match us, hl with | [_], _ => rfl
  have T : Bi mg := ⟨PySem.W.mg_none_of X G z0, PySem.W.mg_none_of X G z1, PySem.W.mg_none_of X G z2, PySem.W.mg_none_of X G z3, PySem.W.mg_none_of X G z4, PySem.W.mg_none_of X G z5, PySem.W.mg_none_of X G z6, PySem.W.mg_none_of X G z7, PySem.W.mg_none_of X G z8, PySem.W.mg_none_of X G z9, PySem.W.mg_none_of X G z10, PySem.W.mg_none_of X G z11⟩
  have clC : Cls K C := ⟨pgC, hdC, poC, saC⟩
  have IC : C8.InsC K C := ⟨clC, iAC, iN, iT, iMC, kitTrue⟩
  have F_Course_add : Fun K "__add__" "Course.__add__" s_Course_add f25 _ := fun_mk l25 c25 k25
  have B_Course_add := F_Course_add.binds (ps := ["self", "other"]) fun _ _ _ _ _ _ us hl => match us, hl with | [_, _], _ => rfl
  have MT_Course_add : Meth K C "__add__" f25 := ⟨i25, n25, k25⟩
  have F_Course_eq : Fun K "__eq__" "Course.__eq__" s_Course_eq f26 _ := fun_mk l26 c26 k26
  have B_Course_eq := F_Course_eq.binds (ps := ["self", "other"]) fun _ _ _ _ _ _ us hl => match us, hl with | [_, _], _ => rfl
  have MT_Course_eq : Meth K C "__eq__" f26 := ⟨i26, n26, k26⟩
  have FIC : FunD K "__init__" "Course.__init__" (defArgs s_Course_init) (defBody s_Course_init) (defScope s_Course_init) [.ref zdC] [] f27 _ := ⟨⟨_, _, _, _, _, _, _, _, _, _, rfl, l27, c27, .inr ⟨by simp, TdC, _, [.ref zdC], nTC, rfl, lTC, rfl, .cons rfl .nil⟩, .inl rfl⟩, k27⟩
  obtain ⟨dsC, vdsC, BIC⟩ := FIC.binds1 (ps := ["self", "deeds"]) 2 1 (by simp) rfl fun T kV doc pm an cdv ct us its h1 h2 => match us, h1, its, h2 with | [_, _], _, [_], _ => ⟨_, rfl, rfl⟩
  have edsC : dsC = [] := by cases vdsC; rfl
  subst edsC
  have MIC : Mk K C f27 := ⟨mkC, i27, n27, kcC⟩
  have OXN : OexC K DN := ⟨⟨_, _, _, _, _, _, _, _, _, _, _, _, _, _, _, lN, rfl⟩, saN, eN, tN, kN⟩
  have EKN : ErrK lw.prog K mg DN ccN cdaN := ⟨OXN, ⟨_, _, _, lcN⟩, ⟨_, _, _, _, _, _, ldN, cvN, cfN⟩, sup_of lN lRe iRe, veN, meN, opD, PySem.W.mg_none_of X G zS, tpD⟩
  have BUN : Binds K (PySem.W.fnX "__init__" "NoteError.__init__" (defArgs s_NoteError_init) (defBody s_NoteError_init) (defScope s_NoteError_init) [("__class__", ccN)] .none kVN dcN pmN anN (.ref cdaN) ctN) ["self", "line"] [] := Binds.all fun us hl => match us, hl with | [_, _], _ => rfl
  have ETN : ErrT K mg "NoteError" DN fuN := ⟨PySem.W.mg_of X G aN, iuN, tuN⟩
  have KT_dN : KTab K w dN NUMB := ⟨⟨_, _, l_dN, kl_dN⟩, lo_dN, by decide +kernel, by decide⟩
  have L : CrsC K mg C := ⟨clC, nfC_deeds, (PySem.W.mg_of X G aC)⟩
  have TE : BiE mg := ⟨(PySem.W.mg_none_of X G zEn)⟩
  have TD : BiD mg := ⟨(PySem.W.mg_none_of X G zDi)⟩
  have UN : NErC K mg DN fuN _ := ⟨OXN, ETN, BUN⟩
  have N_ : ∀ n ∈ errs, mg n = some (.ref ((cOf x0 x1 x2 x3 x4) n)) := List.forall_mem_cons.mpr ⟨by rw [cOf0]; exact PySem.W.mg_of X G a_x0, List.forall_mem_cons.mpr ⟨by rw [cOf1]; exact PySem.W.mg_of X G a_x1, List.forall_mem_cons.mpr ⟨by rw [cOf2]; exact PySem.W.mg_of X G a_x2, List.forall_mem_cons.mpr ⟨by rw [cOf3]; exact PySem.W.mg_of X G a_x3, fun _ h => nomatch h⟩⟩⟩⟩
  have XC : XcN K DN x4 (cOf x0 x1 x2 x3 x4) := ⟨⟨gaN, ggN, eN, hN, caN, iN, iT, moN⟩, ⟨gaN, ggN, eN, hN⟩, n0N, List.forall_mem_cons.mpr ⟨by rw [cOf0]; exact kit_ref sdN ic_x0 tc_x0 qNx0, List.forall_mem_cons.mpr ⟨by rw [cOf1]; exact kit_ref sdN ic_x1 tc_x1 qNx1, List.forall_mem_cons.mpr ⟨by rw [cOf2]; exact kit_ref sdN ic_x2 tc_x2 qNx2, List.forall_mem_cons.mpr ⟨by rw [cOf3]; exact kit_ref sdN ic_x3 tc_x3 qNx3, fun _ h => nomatch h⟩⟩⟩⟩, kit_ref sdN ic_DN tc_DN sdN, kit_ve veN, PySem.W.exm_ref exRe hdRe tc_x4 qNx4⟩
  have kb_p := kb_one D_parse_course.F (a := "text") fun kV doc pm an cdv ct u => by kernel_rfl
  have kb_f := kb_one D_format_course.F (a := "course") fun kV doc pm an cdv ct u => by kernel_rfl
  have nfC : PySem.W.notFirst K C (.ref C) = true := by
    unfold PySem.W.notFirst
    rw [beq_self_eq_true]
    rfl
  refine ⟨PySem.W.fnOf "law" "law" (defArgs s_law) (defBody s_law) (defScope s_law) .none kV24 dc24 pm24 an24 cd24 ct24, fun s v => .of_eq rfl, fun base _ _ => ?_⟩
  have GeN := ok_NoteError (P := lw.prog) (w := w) (mg := mg) (base := base) EKN luN cuN n0N
  have Gwh := ok_whole (P := lw.prog) (w := w) (mg := mg) (base := base) D_is_whole.F T
  have Gsq := ok_seqB (P := lw.prog) (w := w) (mg := mg) (base := base) D_is_sequence.F T
  have Gdeed := ok_deed (P := lw.prog) (w := w) (mg := mg) (base := base) D_is_deed.F T (PySem.W.mg_of X G a_dN) KT_dN D_is_sequence Gsq D_is_whole Gwh
  have Gci := ok_cinit (P := lw.prog) (w := w) (mg := mg) (base := base) FIC T TE L D_is_deed Gdeed
  have Gwr := ok_written (P := lw.prog) (w := w) (mg := mg) (base := base) D_written.F T
  have Gnum := ok_number (P := lw.prog) (w := w) (mg := mg) (base := base) D_is_number.F T
  have Gns := ok_nums (P := lw.prog) (w := w) (mg := mg) (base := base) D_numbers_of.F T UN GeN D_is_number Gnum
  have Gwd := ok_words (P := lw.prog) (w := w) (mg := mg) (base := base) D_words_at.F T UN GeN
  have Gln := ok_line (P := lw.prog) (w := w) (mg := mg) (base := base) D_read_line.F T UN GeN D_words_at Gwd D_numbers_of Gns
  have Gadd := ok_cadd (P := lw.prog) (w := w) (mg := mg) (base := base) F_Course_add L MIC Gci BIC
  have Geq := ok_ceq (P := lw.prog) (w := w) (mg := mg) (base := base) F_Course_eq T L IC
  have Gfmt := ok_fmt (P := lw.prog) (w := w) (mg := mg) (base := base) D_format_course.F T L D_written Gwr
  have Gpa := ok_parse (P := lw.prog) (w := w) (mg := mg) (base := base) D_parse_course.F T TD L (PySem.W.mg_of X G a_dN) KT_dN D_read_line Gln MIC Gci BIC
  have Glw := ok_lwhole (P := lw.prog) (w := w) (mg := mg) (base := base) D__law_whole.F T
  have Hlw := okH_whole (P := lw.prog) (w := w) (mg := mg) (base := base) D__law_whole.F T
  have Gcell := ok_cell (P := lw.prog) (w := w) (mg := mg) (base := base) D__law_cell.F T
  have Gdig := ok_digits (P := lw.prog) (w := w) (mg := mg) (base := base) D__law_digits.F T
  have Gnb := ok_numb (P := lw.prog) (w := w) (mg := mg) (base := base) D__law_number.F T
  have Gld := ok_ldeed (P := lw.prog) (w := w) (mg := mg) (base := base) D__law_deed.F T D__law_number Gnb
  have Gll := ok_llines (P := lw.prog) (w := w) (mg := mg) (base := base) D__law_lines.F T
  have Glnu := ok_lnumber (P := lw.prog) (w := w) (mg := mg) (base := base) D__law_is_number.F T
  have Grd := ok_lread (P := lw.prog) (w := w) (mg := mg) (base := base) D__law_read.F T D__law_is_number Glnu
  have Glo := ok_longer (P := lw.prog) (w := w) (mg := mg) (base := base) D__law_longer.F T
  have Gwri := ok_writings (P := lw.prog) (w := w) (mg := mg) (base := base) D__law_writings.F T D__law_longer Glo
  have Grw := ok_rewritten (P := lw.prog) (w := w) (mg := mg) (base := base) D__law_rewritten.F T D__law_writings Gwri
  have Gsp := ok_spoilt (P := lw.prog) (w := w) (mg := mg) (base := base) D__law_spoilt.F T D__law_rewritten Grw
  have Gtold := ok_told (P := lw.prog) (w := w) (mg := mg) (base := base) D__law_told.F T L IC (PySem.W.mg_of X G aN) (PySem.W.mg_of X G a_x4) (PySem.W.mg_none_of X G zV) N_ XC D_parse_course Gpa kb_p D__law_whole Glw Hlw
  exact ok_law (fun_mk l24 c24 k24) T L D__law_cell Gcell D__law_digits Gdig D__law_deed Gld D__law_lines Gll D__law_told Gtold D__law_read Grd D__law_writings Gwri D__law_spoilt Gsp D_parse_course Gpa D_format_course Gfmt kb_f MIC Gci BIC sfC i25 n25 Gadd B_Course_add i26 n26 Geq B_Course_eq nfC
end Own

open PySem PySem.W PyProof.Rows
set_option maxRecDepth 100000 in
set_option maxHeartbeats 0 in
theorem PySem.Challenge.cw_rimcords_k45_course_notes_holds : PySem.Challenge.rw_rimcords_k45_course_notes.Holds := by
  w_on; o_law; k_head; (case hw => w_witness2)
  k_fill
  refine L2.walk_of (l := PySem.Challenge.rw_rimcords_k45_course_notes) (n := 63) (k := 7) (x := "_law_script") (CX := fun _ => L2.CX0) (sp := fun w => Own.spLaw _) rfl (by decide) rfl ⟨rfl, by decide, by decide⟩ (fun w h Y => PySem.W.kIn_of Y) ?F (fun _ _ a ns hl _ hS => ⟨a, ns, rfl, hS, Nat.le_trans hl (by decide), fun _ => rfl⟩) (fun _ _ _ _ _ h => h)
  case F =>
    intro w mg fa h KX G hmg
    refine' Own.all_mk KX G hmg ?iN ?iT ?a1 ?l1 ?c1 ?k1 ?a2 ?l2 ?c2 ?k2 ?a3 ?l3 ?c3 ?k3 ?a4 ?l4 ?c4 ?k4 ?a5 ?l5 ?c5 ?k5 ?a6 ?l6 ?c6 ?k6 ?a7 ?l7 ?c7 ?k7 ?a8 ?l8 ?c8 ?k8 ?a9 ?l9 ?c9 ?k9 ?a10 ?l10 ?c10 ?k10 ?a11 ?l11 ?c11 ?k11 ?a12 ?l12 ?c12 ?k12 ?a13 ?l13 ?c13 ?k13 ?a14 ?l14 ?c14 ?k14 ?a15 ?l15 ?c15 ?k15 ?a16 ?l16 ?c16 ?k16 ?a17 ?l17 ?c17 ?k17 ?a18 ?l18 ?c18 ?k18 ?a19 ?l19 ?c19 ?k19 ?a20 ?l20 ?c20 ?k20 ?a21 ?l21 ?c21 ?k21 ?a22 ?l22 ?c22 ?k22 ?a23 ?l23 ?c23 ?k23 ?a24 ?l24 ?c24 ?k24 ?z0 ?z1 ?z2 ?z3 ?z4 ?z5 ?z6 ?z7 ?z8 ?z9 ?z10 ?z11 ?aC ?pgC ?hdC ?poC ?saC ?mkC ?kcC ?nfC_deeds ?iAC ?iMC ?sfC ?i25 ?n25 ?l25 ?c25 ?k25 ?i26 ?n26 ?l26 ?c26 ?k26 ?i27 ?n27 ?l27 ?c27 ?k27 ?lTC ?aN ?a_x0 ?a_x1 ?a_x2 ?a_x3 ?a_x4 ?lRe ?iRe ?opD ?tpD ?zS ?zV ?lN ?saN ?eN ?tN ?kN ?iuN ?tuN ?luN ?cuN ?lcN ?ldN ?cvN ?cfN ?veN ?meN ?gaN ?ggN ?hN ?caN ?moN ?sdN ?n0N ?qNx0 ?qNx1 ?qNx2 ?qNx3 ?qNx4 ?ic_DN ?tc_DN ?ic_x0 ?tc_x0 ?ic_x1 ?tc_x1 ?ic_x2 ?tc_x2 ?ic_x3 ?tc_x3 ?ic_x4 ?tc_x4 ?a_dN ?l_dN ?kl_dN ?lo_dN ?exRe ?hdRe ?zEn ?zDi
    (case iN => k_is)
    (case iT => k_is)
    (case a1 => k_is)
    (case l1 => k_is)
    (case c1 => k_is)
    (case k1 => k_is)
    (case a2 => k_is)
    (case l2 => k_is)
    (case c2 => k_is)
    (case k2 => k_is)
    (case a3 => k_is)
    (case l3 => k_is)
    (case c3 => k_is)
    (case k3 => k_is)
    (case a4 => k_is)
    (case l4 => k_is)
    (case c4 => k_is)
    (case k4 => k_is)
    (case a5 => k_is)
    (case l5 => k_is)
    (case c5 => k_is)
    (case k5 => k_is)
    (case a6 => k_is)
    (case l6 => k_is)
    (case c6 => k_is)
    (case k6 => k_is)
    (case a7 => k_is)
    (case l7 => k_is)
    (case c7 => k_is)
    (case k7 => k_is)
    (case a8 => k_is)
    (case l8 => k_is)
    (case c8 => k_is)
    (case k8 => k_is)
    (case a9 => k_is)
    (case l9 => k_is)
    (case c9 => k_is)
    (case k9 => k_is)
    (case a10 => k_is)
    (case l10 => k_is)
    (case c10 => k_is)
    (case k10 => k_is)
    (case a11 => k_is)
    (case l11 => k_is)
    (case c11 => k_is)
    (case k11 => k_is)
    (case a12 => k_is)
    (case l12 => k_is)
    (case c12 => k_is)
    (case k12 => k_is)
    (case a13 => k_is)
    (case l13 => k_is)
    (case c13 => k_is)
    (case k13 => k_is)
    (case a14 => k_is)
    (case l14 => k_is)
    (case c14 => k_is)
    (case k14 => k_is)
    (case a15 => k_is)
    (case l15 => k_is)
    (case c15 => k_is)
    (case k15 => k_is)
    (case a16 => k_is)
    (case l16 => k_is)
    (case c16 => k_is)
    (case k16 => k_is)
    (case a17 => k_is)
    (case l17 => k_is)
    (case c17 => k_is)
    (case k17 => k_is)
    (case a18 => k_is)
    (case l18 => k_is)
    (case c18 => k_is)
    (case k18 => k_is)
    (case a19 => k_is)
    (case l19 => k_is)
    (case c19 => k_is)
    (case k19 => k_is)
    (case a20 => k_is)
    (case l20 => k_is)
    (case c20 => k_is)
    (case k20 => k_is)
    (case a21 => k_is)
    (case l21 => k_is)
    (case c21 => k_is)
    (case k21 => k_is)
    (case a22 => k_is)
    (case l22 => k_is)
    (case c22 => k_is)
    (case k22 => k_is)
    (case a23 => k_is)
    (case l23 => k_is)
    (case c23 => k_is)
    (case k23 => k_is)
    (case a24 => k_is)
    (case l24 => k_is)
    (case c24 => k_is)
    (case k24 => k_is)
    (case z0 => k_is)
    (case z1 => k_is)
    (case z2 => k_is)
    (case z3 => k_is)
    (case z4 => k_is)
    (case z5 => k_is)
    (case z6 => k_is)
    (case z7 => k_is)
    (case z8 => k_is)
    (case z9 => k_is)
    (case z10 => k_is)
    (case z11 => k_is)
    (case aC => k_is)
    (case pgC => k_is)
    (case hdC => k_is)
    (case poC => k_is)
    (case saC => k_is)
    (case mkC => k_is)
    (case kcC => k_is)
    (case nfC_deeds => k_is)
    (case iAC => k_is)
    (case iMC => k_is)
    (case sfC => k_is)
    (case i25 => k_is)
    (case n25 => k_is)
    (case l25 => k_is)
    (case c25 => k_is)
    (case k25 => k_is)
    (case i26 => k_is)
    (case n26 => k_is)
    (case l26 => k_is)
    (case c26 => k_is)
    (case k26 => k_is)
    (case i27 => k_is)
    (case n27 => k_is)
    (case l27 => k_is)
    (case c27 => k_is)
    (case k27 => k_is)
    (case lTC => k_is)
    (case aN => k_is)
    (case a_x0 => k_is)
    (case a_x1 => k_is)
    (case a_x2 => k_is)
    (case a_x3 => k_is)
    (case a_x4 => k_is)
    (case lRe => k_is)
    (case iRe => k_is)
    (case opD => k_is)
    (case tpD => first | rfl | decide +kernel)
    (case zS => k_is)
    (case zV => k_is)
    (case lN => k_is)
    (case saN => k_is)
    (case eN => k_is)
    (case tN => k_is)
    (case kN => k_is)
    (case iuN => k_is)
    (case tuN => k_is)
    (case luN => k_is)
    (case cuN => k_is)
    (case lcN => k_is)
    (case ldN => k_is)
    (case cvN => first | rfl | decide +kernel)
    (case cfN => first | rfl | decide +kernel)
    (case veN => k_is)
    (case meN => k_is)
    (case gaN => k_is)
    (case ggN => k_is)
    (case hN => k_is)
    (case caN => k_is)
    (case moN => k_is)
    (case sdN => k_is)
    (case n0N => k_is)
    (case qNx0 => k_is)
    (case qNx1 => k_is)
    (case qNx2 => k_is)
    (case qNx3 => k_is)
    (case qNx4 => k_is)
    (case ic_DN => k_is)
    (case tc_DN => k_is)
    (case ic_x0 => k_is)
    (case tc_x0 => k_is)
    (case ic_x1 => k_is)
    (case tc_x1 => k_is)
    (case ic_x2 => k_is)
    (case tc_x2 => k_is)
    (case ic_x3 => k_is)
    (case tc_x3 => k_is)
    (case ic_x4 => k_is)
    (case tc_x4 => k_is)
    (case a_dN => k_is)
    (case l_dN => k_is)
    (case kl_dN => first | exact ⟨⟨_, _, rfl, rfl, rfl⟩, ⟨_, _, rfl, rfl, rfl⟩, ⟨_, _, rfl, rfl, rfl⟩, ⟨_, _, rfl, rfl, rfl⟩, ⟨_, _, rfl, rfl, rfl⟩, ⟨_, _, rfl, rfl, rfl⟩, trivial⟩)
    (case lo_dN => first | rfl | decide +kernel)
    (case exRe => k_is)
    (case hdRe => k_is)
    (case zEn => k_is)
    (case zDi => k_is)
